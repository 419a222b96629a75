import Derived.Test.YtadmamfekodkaaaDoorHH
import Derived.Test.YtadmamfekodkaaaDoorNC

namespace Go.Proofs.YtadmamfekodkaaaDoor
open Go.RowKit Go.Shelf
attribute [local go_sem ↓] Go.wp_at_zero Go.wp_at_succ

theorem clone0_any (W : World) (s : ByteArray) (h : s.size ≤ 281474976710656) : Calls Tryd.prog 40 #[.string s] W fun e w => e = .returned (.string s) ∧ Below W.heap.size W w := AnyPu.stringslite_Clone Tryd.laysNC25 s W h
theorem clone_any (W : World) (s : ByteArray) (h : s.size ≤ 281474976710656) : Calls Tryd.prog 36 #[.string s] W fun e w => e = .returned (.string s) ∧ Below W.heap.size W w := by
  go_enter Tryd.func36, Tryd.ntmps36
  go_wp2_with fail
  refine (clone0_any W s h).mono ?_
  rintro e w1 ⟨rfl, hb⟩
  have HB := hide hb
  clear hb
  go_wp2
  go_ret
  exact ⟨rfl, unhide HB⟩
/-- A byte of a quoted word that stands for itself. -/
def pln (c : Nat) : Prop := ctl c = false ∧ c ≠ 34 ∧ c ≠ 92
theorem rune_step {s : ByteArray} {pos c : Nat} {r : List Nat} (h : (strN s).drop pos = c :: r) : ∃ u n, Utf8.decode s pos = (u, n) ∧ blk u = blk c ∧ ctl u = ctl c ∧ (u = 34 ↔ c = 34) ∧ (u = 92 ↔ c = 92) ∧ 1 ≤ n ∧ pos + n ≤ s.size ∧ (c < 128 → n = 1) ∧ ∃ A, (strN s).drop pos = A ++ (strN s).drop (pos + n) ∧ A.length = n ∧ (pln c → ∀ x ∈ A, pln x) ∧ (blk c = false → ∀ x ∈ A, blk x = false) := by
  obtain ⟨hp, _, _, h4⟩ := drop_at h
  by_cases hc : c < 128
  · refine ⟨c, 1, dec_low h hc, rfl, rfl, Iff.rfl, Iff.rfl, Nat.le_refl _, by omega, fun _ => rfl, [c], by rw [h, h4]; rfl, rfl, fun hq x hx => by rw [List.mem_singleton.1 hx]; exact hq, fun hq x hx => by rw [List.mem_singleton.1 hx]; exact hq⟩
  · obtain ⟨A, h1, h2, h3, h5, h6, h7⟩ := dec_hi h (by omega)
    have k1 := hi_blk h7
    have k2 := hi_blk (show 128 ≤ c by omega)
    refine ⟨(Utf8.decode s pos).1, (Utf8.decode s pos).2, rfl, by rw [k1.1, k2.1], by rw [k1.2, k2.2], by omega, by omega, h5, h6, fun q => absurd q hc, A, h1, h2, fun _ x hx => ?_, fun _ x hx => (hi_blk (h3 x hx)).1⟩
    have := h3 x hx
    exact ⟨(hi_blk this).2, by omega, by omega⟩
theorem bare_pln : ∀ (A r : List Nat), (∀ x ∈ A, pln x ∧ blk x = false) → bareP (A ++ r) = (bareP r).map fun p => (A ++ p.1, p.2)
  | [], r, _ => by rw [List.nil_append]; cases bareP r <;> rfl
  | c :: A, r, h => by
    obtain ⟨⟨h1, h2, h3⟩, h4⟩ := h c List.mem_cons_self
    rw [List.cons_append, bareP, if_neg (by rw [h4]; decide), if_neg (by rw [h1]; simp [h2, h3]), bare_pln A r (fun x hx => h x (List.mem_cons_of_mem _ hx))]
    cases bareP r <;> rfl
/-- A word and what stands behind it, if it is one. -/
def TkR (o : Option (List Nat × List Nat)) (W : World) (e : Ending) (w : World) : Prop := (∃ x y ok, e = .returned (.tuple #[.string x, .string y, .bool ok]) ∧ match o with
  | none => ok = false
  | some p => ok = true ∧ strN x = p.1 ∧ strN y = p.2) ∧ Below W.heap.size W w
theorem drop_cons {s : ByteArray} {pos : Nat} (hp : pos < s.size) : ∃ c r, (strN s).drop pos = c :: r := by
  cases hd : (strN s).drop pos with
  | nil =>
    have := congrArg List.length hd
    rw [List.length_drop, strN_len] at this
    simp at this
    omega
  | cons c r => exact ⟨c, r, rfl⟩
set_option maxRecDepth 100000 in
set_option maxHeartbeats 2000000 in
theorem bareW_any (W : World) (s : ByteArray) (hs : s.size ≤ 65536) : Calls Tryd.prog 26 #[.string s] W (TkR (bareP (strN s)) W) := by
  obtain ⟨R, hR⟩ : ∃ R, bareP (strN s) = R := ⟨_, rfl⟩
  rw [hR]
  have HR := hide hR
  clear hR
  have HX : ∀ (K : Nat) (w : World), K ≤ s.size → Below W.heap.size W w → Hid (R = some ((strN s).take K, (strN s).drop K)) → Hid (TkR R W (.returned (.tuple #[.string (s.extract 0 K), .string (s.extract K s.size), .bool true])) w) := fun K w hK hb h => by
    rw [unhide h]
    refine ⟨⟨_, _, _, rfl, rfl, ?_, ?_⟩, hb⟩
    · rw [strN_ext]; simp
    · rw [strN_ext]; exact List.take_of_length_le (by rw [List.length_drop, strN_len]; omega)
  have HX := hide HX
  go_enter Tryd.func26, Tryd.ntmps26
  go_wp2
  go_step3
  go_wp2
  go_step3
  go_wp2
  go_loopw [5, 6, 7] (fun v5 _ _ wr => v5 = .int .i64 (s.size : Int) ∧ ∃ (pos : Nat), pos ≤ s.size ∧ Hid (wr.heap[W.heap.size]? = some (.stringIter s pos)) ∧ Hid (Below W.heap.size W wr) ∧ Hid (R = (bareP ((strN s).drop pos)).map fun p => ((strN s).take pos ++ p.1, p.2))) (fun _ _ _ wr => s.size - wr.iterPos W.heap.size)
  case atStart => exact ⟨rfl, 0, Nat.zero_le _, World.iter_heap W s 0, (Below.refl _ W).alloc (Nat.le_refl _) _, by show R = _; rw [← unhide HR, List.drop_zero]; cases bareP (strN s) <;> rfl⟩
  case round =>
    obtain ⟨rfl, pos, hpos, HIt, HB, HS⟩ := hrel
    by_cases hp : pos < s.size
    · obtain ⟨c, r, hdr⟩ := drop_cons hp
      have hnx : ∀ ty, (Instr.next (.pointer (some ⟨W.heap.size, 0, none⟩)) true ty).run Tryd.prog wr = _ := fun ty => Lib.run_next_any_at wr W.heap.size s pos ty (unhide HIt) hp
      obtain ⟨u, n, hun, hbu, hcu, h34, h92, hn1, hns, -, A, hA1, hA2, hA3, hA4⟩ := rune_step hdr
      rw [hun] at hnx
      simp only at hnx
      have HB2 := hide (Lib.below_iterAt (unhide HB) (k := W.heap.size) (Nat.le_refl _) s (pos + n))
      have HIt2 := hide (Lib.iterAt_heap wr W.heap.size s pos (pos + n) (unhide HIt))
      have HC := hide (fun w => hblank_any w u)
      have HD := hide (fun w => hcontrol_any w u)
      have HDr := hide hdr
      have hps : pos ≤ 65536 := by omega
      by_cases hb : blk c = true
      · rw [hbu, hb] at HC
        
        
        
        --TAIL
        have HEq : Hid (R = some ((strN s).take pos, (strN s).drop pos)) := by show R = _; rw [unhide HS, hdr, bareP, if_pos hb]; simp
        clear hun hbu hcu h34 h92 hn1 hns hA1 hA2 hA3 hA4 hb hdr HD
        go_wp2_with fail
        refine (unhide HC _).mono ?_
        rintro e w1 ⟨rfl, hw1⟩
        subst hw1
        have HBx := hide (unhide HB2)
        obtain ⟨wz, hwz⟩ : ∃ x, wr.iterAt W.heap.size s (pos + n) = x := ⟨_, rfl⟩
        rw [hwz] at HBx HB2 HIt2 ⊢
        clear hwz hnx HB2 HIt2
        go_wp2
        have k0 : (0 : Int) ≤ (pos : Int) := Int.natCast_nonneg _
        have k1 : (pos : Int) ≤ (s.size : Int) := by omega
        obtain ⟨X, hX⟩ : ∃ x, s.extract 0 pos = x := ⟨_, rfl⟩
        obtain ⟨Y, hY⟩ : ∃ x, s.extract pos s.size = x := ⟨_, rfl⟩
        have hXs : X.size ≤ 281474976710656 := by rw [← hX, ByteArray.size_extract]; omega
        refine wp_region_any (by kernel_rfl) ?_
        try (change wpAny _ _ _ _ _ _ _ (World.drew _))
        have hbd : Below W.heap.size W (wz).drew := below_drewN (unhide HBx) 1
        obtain ⟨wd, hwd⟩ : ∃ x, (wz).drew = x := ⟨_, rfl⟩
        rw [hwd] at hbd ⊢
        clear hwd
        refine wpAny_of_Z (z := 99) (T := fun _ => True) _ _ _ _ ?_
        have hT : (fun _ : World => True) wd := trivial
        refine wpAnyZ_tk 0 (.string s) 31 rfl rfl (Or.inl ⟨by rfl, fun w' _ => by go_simp⟩) hT ?_
        simp only [Act.put, List.setIfInBounds_toArray, List.set_cons_zero, List.set_cons_succ]
        refine wpAnyZ_tk 1 (.int .i64 (pos : Int)) 32 rfl rfl (Or.inl ⟨by rfl, fun w' _ => by go_simp⟩) hT ?_
        simp only [Act.put, List.setIfInBounds_toArray, List.set_cons_zero, List.set_cons_succ]
        refine wpAnyZ_tk 2 (.string (s.extract 0 pos)) 33 rfl rfl (Or.inl ⟨by rfl, fun w' _ => by go_simp⟩) hT ?_
        simp only [Act.put, List.setIfInBounds_toArray, List.set_cons_zero, List.set_cons_succ]
        refine wpAnyZ_tk 4 (.string s) 35 rfl rfl (Or.inl ⟨by rfl, fun w' _ => by go_simp⟩) hT ?_
        simp only [Act.put, List.setIfInBounds_toArray, List.set_cons_zero, List.set_cons_succ]
        refine wpAnyZ_tk 5 (.int .i64 (pos : Int)) 36 rfl rfl (Or.inl ⟨by rfl, fun w' _ => by go_simp⟩) hT ?_
        simp only [Act.put, List.setIfInBounds_toArray, List.set_cons_zero, List.set_cons_succ]
        refine wpAnyZ_tk 6 (.string (s.extract pos s.size)) 37 rfl rfl (Or.inl ⟨by rfl, fun w' _ => by go_simp⟩) hT ?_
        simp only [Act.put, List.setIfInBounds_toArray, List.set_cons_zero, List.set_cons_succ]
        refine wpAnyZ_one 3 (by kernel_rfl) rfl (fun K hK => ?_)
        refine step_callD 34 rfl rfl 36 (fun vs => by kernel_rfl) #[.tmp 33] #[9] rfl #[.string (s.extract 0 pos)] (by first | rfl | simp [Act.eval]) (clone_any wd _ (by rw [hX]; exact hXs)) ?_
        rintro e' w8 ⟨rfl, hb8⟩
        have HB8 := hide (hbd.trans (hb8.mono hbd.size))
        refine ⟨_, rfl, hK _ _ ⟨fun _ => trivial, ?_⟩⟩
        clear hK K hb8 hbd
        simp only [Act.put, List.setIfInBounds_toArray, List.set_cons_zero, List.set_cons_succ]
        refine wpAnyZ_one 7 (by kernel_rfl) rfl (fun K hK => ?_)
        go_simp
        refine hK _ _ ⟨fun _ => trivial, ?_⟩
        clear hK K
        refine wpAnyZ_one 8 (by kernel_rfl) rfl (fun K hK => ?_)
        go_simp
        refine hK _ _ ⟨fun _ => trivial, ?_⟩
        clear hK K
        refine wpAnyZ_one 9 (by kernel_rfl) rfl (fun K hK => ?_)
        go_simp
        refine hK _ _ ⟨fun _ => trivial, ?_⟩
        clear hK K
        refine wpAnyZ_done (by kernel_rfl) ?_
        have hr := unhide HX pos w8 (by omega) (unhide HB8) (unhide HEq)
        rw [hX, hY] at hr
        go_wp2
        go_ret3
        exact unhide hr
      · have hb' : blk c = false := Bool.eq_false_iff.2 hb
        rw [hbu, hb'] at HC
        by_cases hq : (ctl c || c == 34 || c == 92) = true
        · have HEq : Hid (R = none) := by show R = _; rw [unhide HS, hdr, bareP, if_neg hb, if_pos hq]; rfl
          have hret : ∀ w, Below W.heap.size W w → Hid (TkR R W (.returned (.tuple #[.string ⟨#[]⟩, .string ⟨#[]⟩, .bool false])) w) := fun w hb => by
            rw [unhide HEq]
            exact ⟨⟨_, _, _, rfl, rfl⟩, hb⟩
          have hr := hret _ (unhide HB2)
          have hq' : ctl u = true ∨ (ctl u = false ∧ u = 34) ∨ (ctl u = false ∧ u = 92) := by
            rw [hcu, h34, h92]
            cases h : ctl c with
            | true => exact .inl rfl
            | false =>
              rw [h] at hq
              simp at hq
              rcases hq with hq | hq
              · exact .inr (.inl ⟨rfl, hq⟩)
              · exact .inr (.inr ⟨rfl, hq⟩)
          clear hun hbu hcu h34 h92 hn1 hns hA1 hA2 hA3 hA4 hb hb' hdr hq hret HEq
          rcases hq' with hq | ⟨hq, hu⟩ | ⟨hq, hu⟩
          · go_wp2_with fail
            refine (unhide HC _).mono ?_
            rintro e w1 ⟨rfl, hw1⟩
            subst hw1
            rw [hq] at HD
            clear hq
            go_wp2_with fail
            refine (unhide HD _).mono ?_
            rintro e w1 ⟨rfl, hw1⟩
            subst hw1
            go_wp2
            try rw [Exit.noGoto_ret]
            go_ret3
            exact unhide hr
          · subst hu
            go_wp2_with fail
            refine (unhide HC _).mono ?_
            rintro e w1 ⟨rfl, hw1⟩
            subst hw1
            rw [hq] at HD
            clear hq
            go_wp2_with fail
            refine (unhide HD _).mono ?_
            rintro e w1 ⟨rfl, hw1⟩
            subst hw1
            go_wp2
            try rw [Exit.noGoto_ret]
            go_ret3
            exact unhide hr
          · subst hu
            go_wp2_with fail
            refine (unhide HC _).mono ?_
            rintro e w1 ⟨rfl, hw1⟩
            subst hw1
            rw [hq] at HD
            clear hq
            go_wp2_with fail
            refine (unhide HD _).mono ?_
            rintro e w1 ⟨rfl, hw1⟩
            subst hw1
            go_wp2
            try rw [Exit.noGoto_ret]
            go_ret3
            exact unhide hr
        · have hpl : pln c := by
            unfold pln
            simp only [Bool.or_eq_true, not_or, beq_iff_eq] at hq
            exact ⟨Bool.eq_false_iff.2 hq.1.1, hq.1.2, hq.2⟩
          have HS2 : Hid (R = (bareP ((strN s).drop (pos + n))).map fun p => ((strN s).take (pos + n) ++ p.1, p.2)) := by
            show R = _
            have e : (strN s).take (pos + n) = (strN s).take pos ++ A := by
              rw [List.take_add, hA1, ← hA2, List.take_left']
              rfl
            rw [unhide HS, hA1, bare_pln A _ (fun x hx => ⟨hA3 hpl x hx, hA4 hb' x hx⟩), e]
            cases bareP ((strN s).drop (pos + n)) with
            | none => rfl
            | some p => simp
          have hcu' : ctl u = false := by rw [hcu]; exact hpl.1
          have n34 : ((u : Int) == 34) = false := beq_false_of_ne (by have := hpl.2.1; omega)
          have n92 : ((u : Int) == 92) = false := beq_false_of_ne (by have := hpl.2.2; omega)
          rw [hcu'] at HD
          have Hn1 := hide (And.intro hn1 hns)
          clear hun hbu hcu h34 h92 hn1 hns hA1 hA2 hA3 hA4 hb hb' hdr hq hpl hcu'
          go_wp2_with fail
          refine (unhide HC _).mono ?_
          rintro e w1 ⟨rfl, hw1⟩
          subst hw1
          go_wp2_with fail
          refine (unhide HD _).mono ?_
          rintro e w1 ⟨rfl, hw1⟩
          subst hw1
          go_wp2
          try rw [Exit.noGoto_ret]
          go_roundw
          case rel => exact ⟨rfl, pos + n, (unhide Hn1).2, HIt2, HB2, HS2⟩
          case measure =>
            simp only [World.iterPos, unhide HIt2, unhide HIt]
            have := unhide Hn1
            omega
    · obtain rfl : pos = s.size := by omega
      have hnx : ∀ ty, (Instr.next (.pointer (some ⟨W.heap.size, 0, none⟩)) true ty).run Tryd.prog wr = _ := fun ty => Lib.run_next_end_at wr W.heap.size s s.size ty (unhide HIt) hp
      have HEq : Hid (R = some ((strN s).take s.size, (strN s).drop s.size)) := by
        show R = _
        rw [unhide HS, List.drop_eq_nil_of_le (by rw [strN_len]; exact Nat.le_refl _)]
        simp [bareP]
      have HBx := hide (unhide HB)
      clear hpos
      go_wp2
      try rw [Exit.noGoto_ret]
      have k0 : (0 : Int) ≤ (s.size : Int) := Int.natCast_nonneg _
      obtain ⟨X, hX⟩ : ∃ x, s.extract 0 s.size = x := ⟨_, rfl⟩
      obtain ⟨Y, hY⟩ : ∃ x, s.extract s.size s.size = x := ⟨_, rfl⟩
      have hXs : X.size ≤ 281474976710656 := by rw [← hX, ByteArray.size_extract]; omega
      refine wp_region_any (by kernel_rfl) ?_
      try (change wpAny _ _ _ _ _ _ _ (World.drew _))
      have hbd : Below W.heap.size W (wr).drew := below_drewN (unhide HBx) 1
      obtain ⟨wd, hwd⟩ : ∃ x, (wr).drew = x := ⟨_, rfl⟩
      rw [hwd] at hbd ⊢
      clear hwd
      refine wpAny_of_Z (z := 99) (T := fun _ => True) _ _ _ _ ?_
      have hT : (fun _ : World => True) wd := trivial
      refine wpAnyZ_tk 0 (.string s) 31 rfl rfl (Or.inl ⟨by rfl, fun w' _ => by go_simp⟩) hT ?_
      simp only [Act.put, List.setIfInBounds_toArray, List.set_cons_zero, List.set_cons_succ]
      refine wpAnyZ_tk 1 (.int .i64 (s.size : Int)) 32 rfl rfl (Or.inl ⟨by rfl, fun w' _ => by go_simp⟩) hT ?_
      simp only [Act.put, List.setIfInBounds_toArray, List.set_cons_zero, List.set_cons_succ]
      refine wpAnyZ_tk 2 (.string (s.extract 0 s.size)) 33 rfl rfl (Or.inl ⟨by rfl, fun w' _ => by go_simp⟩) hT ?_
      simp only [Act.put, List.setIfInBounds_toArray, List.set_cons_zero, List.set_cons_succ]
      refine wpAnyZ_tk 4 (.string s) 35 rfl rfl (Or.inl ⟨by rfl, fun w' _ => by go_simp⟩) hT ?_
      simp only [Act.put, List.setIfInBounds_toArray, List.set_cons_zero, List.set_cons_succ]
      refine wpAnyZ_tk 5 (.int .i64 (s.size : Int)) 36 rfl rfl (Or.inl ⟨by rfl, fun w' _ => by go_simp⟩) hT ?_
      simp only [Act.put, List.setIfInBounds_toArray, List.set_cons_zero, List.set_cons_succ]
      refine wpAnyZ_tk 6 (.string (s.extract s.size s.size)) 37 rfl rfl (Or.inl ⟨by rfl, fun w' _ => by go_simp⟩) hT ?_
      simp only [Act.put, List.setIfInBounds_toArray, List.set_cons_zero, List.set_cons_succ]
      refine wpAnyZ_one 3 (by kernel_rfl) rfl (fun K hK => ?_)
      refine step_callD 34 rfl rfl 36 (fun vs => by kernel_rfl) #[.tmp 33] #[9] rfl #[.string (s.extract 0 s.size)] (by first | rfl | simp [Act.eval]) (clone_any wd _ (by rw [hX]; exact hXs)) ?_
      rintro e' w8 ⟨rfl, hb8⟩
      have HB8 := hide (hbd.trans (hb8.mono hbd.size))
      refine ⟨_, rfl, hK _ _ ⟨fun _ => trivial, ?_⟩⟩
      clear hK K hb8 hbd
      simp only [Act.put, List.setIfInBounds_toArray, List.set_cons_zero, List.set_cons_succ]
      refine wpAnyZ_one 7 (by kernel_rfl) rfl (fun K hK => ?_)
      go_simp
      refine hK _ _ ⟨fun _ => trivial, ?_⟩
      clear hK K
      refine wpAnyZ_one 8 (by kernel_rfl) rfl (fun K hK => ?_)
      go_simp
      refine hK _ _ ⟨fun _ => trivial, ?_⟩
      clear hK K
      refine wpAnyZ_one 9 (by kernel_rfl) rfl (fun K hK => ?_)
      go_simp
      refine hK _ _ ⟨fun _ => trivial, ?_⟩
      clear hK K
      refine wpAnyZ_done (by kernel_rfl) ?_
      have hr := unhide HX s.size w8 (by omega) (unhide HB8) (unhide HEq)
      rw [hX, show s.extract s.size s.size = ByteArray.empty from by simp] at hr
      clear hY
      go_wp2
      go_ret3
      exact unhide hr
end Go.Proofs.YtadmamfekodkaaaDoor
