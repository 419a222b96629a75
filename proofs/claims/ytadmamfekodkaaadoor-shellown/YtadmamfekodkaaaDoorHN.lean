import Derived.Test.YtadmamfekodkaaaDoorHM

namespace Go.Proofs.YtadmamfekodkaaaDoor
open Go.RowKit
attribute [local go_sem ↓] Go.wp_at_zero Go.wp_at_succ

set_option maxRecDepth 100000 in
set_option maxHeartbeats 4000000 in
theorem quotW_any {W : World} (hE : HasE W) (s : ByteArray) (hs : s.size ≤ 65536) : Calls Tryd.prog 25 #[.string s] W (TkR (Qw (strN s)) W) := by
  obtain ⟨R, hR⟩ : ∃ R, Qw (strN s) = R := ⟨_, rfl⟩
  rw [hR]
  have HR := hide hR
  have HE := hide hE
  have HNo : Hid (∀ w, Below W.heap.size W w → R = none → TkR R W (.returned (.tuple #[.string ⟨#[]⟩, .string ⟨#[]⟩, .bool false])) w) := fun w hb h => by
    rw [h]
    exact ⟨⟨_, _, _, rfl, rfl⟩, hb⟩
  clear hR hE
  go_enter Tryd.func25, Tryd.ntmps25
  go_wp2
  go_step3
  go_wp2
  go_step3
  go_wp2
  go_loopw [6, 7, 8, 9, 10, 11] (fun v6 v7 _ _ _ _ wr => v7 = .int .i64 (-1) ∧ ∃ (pos fr : Nat) (O : List Nat), v6 = .int .i64 (fr : Int) ∧ Hid (QwS W s R pos fr O wr)) (fun _ _ _ _ _ _ wr => s.size - wr.iterPos (W.heap.size + 1))
  case atStart =>
    refine ⟨rfl, 0, 0, [], rfl, Nat.zero_le _, Nat.zero_le _, ?_, new_bi.iter0, ?_, ?_, fun k x _ _ h => absurd h (by omega), Nat.le_refl _, fun x hx => by cases hx⟩
    · have := World.iter_heap (W.alloc (.cells #[.pointer none, .slice none 0 0] 47)) s 0
      simpa using this
    · exact ((Below.refl _ W).alloc (Nat.le_refl _) _).alloc (by rw [World.size_alloc]; omega) _
    · show R = _
      rw [Nat.max_self, List.drop_zero, unhide HR, seg_nil]
      cases R <;> rfl
  case round =>
    obtain ⟨rfl, pos, fr, O, rfl, HS⟩ := hrel
    by_cases hp : pos < s.size
    · obtain ⟨c, r, hdr⟩ := drop_cons hp
      have hnx : ∀ ty, (Instr.next (.pointer (some ⟨W.heap.size + 1, 0, none⟩)) true ty).run Tryd.prog wr = _ := fun ty => Lib.run_next_any_at wr (W.heap.size + 1) s pos ty (unhide HS).it hp
      obtain ⟨u, n, hun, -, hcu, h34, h92, hn1, hns, h128, A, hA1, hA2, hA3, -⟩ := rune_step hdr
      rw [hun] at hnx
      simp only at hnx
      have hps : pos ≤ 65536 := by omega
      have hfr : fr ≤ 65536 := by have := (unhide HS).fr; omega
      by_cases hlt : pos < fr
      · have n1' : n = 1 := h128 ((unhide HS).low pos c (drop_at hdr).2.2.1 (Nat.le_refl _) hlt)
        subst n1'
        have hm1 : max pos fr = fr := by omega
        have hm2 : max (pos + 1) fr = fr := by omega
        have HS2 := hide ((unhide HS).step (Nat.le_refl 1) hns rfl (by have := (unhide HS).eq; rw [hm1] at this; rw [hm2]; exact this))
        have f1 : decide ((pos : Int) < (fr : Int)) = true := by simp; omega
        have hIt := (unhide HS).it
        have HIt := hide hIt
        have Hns := hide hns
        clear hun hcu h34 h92 hn1 h128 hA1 hA2 hA3 hdr hm1 hm2 hIt
        go_wp2
        go_roundw
        case rel => exact ⟨rfl, pos + 1, fr, O, rfl, HS2⟩
        case measure =>
          simp only [World.iterPos, (unhide HS2).it, unhide HIt]
          have := unhide Hns
          omega
      · have f1 : decide ((pos : Int) < (fr : Int)) = false := by simp; omega
        have hm1 : max pos fr = pos := by omega
        have heq := (unhide HS).eq
        rw [hm1, hdr] at heq
        have HEq := hide heq
        have HDr := hide hdr
        have Hfp := hide (show fr ≤ pos by omega)
        obtain ⟨wx, hwx⟩ : ∃ x, wr.iterAt (W.heap.size + 1) s (pos + n) = x := ⟨_, rfl⟩
        rw [hwx] at hnx
        have hbi := (unhide HS).bi.iter (s := s) (pos' := pos + n) (unhide HS).it (by omega)
        have hit := Lib.iterAt_heap wr (W.heap.size + 1) s pos (pos + n) (unhide HS).it
        have hbl := Lib.below_iterAt (unhide HS).bel (k := W.heap.size + 1) (by omega) s (pos + n)
        rw [hwx] at hbi hit hbl
        have HX := hide (And.intro hbi (And.intro hit hbl))
        clear heq hm1 hbi hit hbl
        rcases (show c = 34 ∨ c = 92 ∨ (c ≠ 34 ∧ c ≠ 92 ∧ ctl c = true) ∨ (pln c) by
          unfold pln
          by_cases q1 : c = 34
          · exact .inl q1
          · by_cases q2 : c = 92
            · exact .inr (.inl q2)
            · cases q3 : ctl c with
              | true => exact .inr (.inr (.inl ⟨q1, q2, rfl⟩))
              | false => exact .inr (.inr (.inr ⟨rfl, q1, q2⟩))) with hc | hc | ⟨hc1, hc2, hc3⟩ | hc
        · subst hc
          obtain rfl : u = 34 := h34.2 rfl
          clear hun hcu h34 h92 hn1 hns h128 hA1 hA2 hA3 hdr hwx
          have HW := hide (putS (unhide HX).1 (by have := (unhide HS).len; omega) (by have := (unhide HX).2.2.size; omega) (s.extract fr pos) (by rw [ByteArray.size_extract]; omega))
          have k0 : (0 : Int) ≤ (fr : Int) := Int.natCast_nonneg _
          have k1 : (fr : Int) ≤ (pos : Int) := by have := unhide Hfp; omega
          have k2 : (pos : Int) ≤ (s.size : Int) := by omega
          have k3 : decide ((pos : Int) < 0) = false := by simp
          have k4 : (0 : Int) ≤ (pos : Int) := Int.natCast_nonneg _
          have k5 : (pos : Int) + 1 ≤ (s.size : Int) := by omega
          have Hp := hide hp
          clear hp
          go_wp2_with fail
          refine (unhide HW).mono ?_
          rintro e w2 ⟨rfl, hbi, hbl, hkp⟩
          clear hnx
          have HB2 := hide ((unhide HX).2.2.trans hbl)
          have hbyt : Byt (O ++ strN (s.extract fr pos)) := (unhide HS).byt.append (strN_byt _)
          have HG := hide (getS hbi hbyt (unhide HB2).size)
          have HWd : Hid (strN (ofN (O ++ strN (s.extract fr pos))) = O ++ seg s fr pos) := by
            show _ = _
            rw [strN_ofN hbyt, seg_ext]
          obtain ⟨X, hX⟩ : ∃ x, ofN (O ++ strN (s.extract fr pos)) = x := ⟨_, rfl⟩
          rw [hX] at HG HWd
          obtain ⟨Y, hY⟩ : ∃ x, s.extract (pos + 1) s.size = x := ⟨_, rfl⟩
          have hYs : strN Y = r := by
            rw [← hY, strN_ext, List.take_of_length_le (by rw [List.length_drop, strN_len]; omega)]
            exact (drop_at (unhide HDr)).2.2.2
          have hRe : R = (closeP r).map fun p => ((O ++ seg s fr pos) ++ p.1, p.2) := by rw [unhide HEq, qw_close]
          have HRe := hide (And.intro hRe hYs)
          clear hbi hbl hkp HW hX hRe hbyt k0 k1
          cases r with
          | nil =>
            have hfin : ∀ w, Below W.heap.size W w → Hid (TkR R W (.returned (.tuple #[.string X, .string Y, .bool true])) w) := fun w hb => by
              rw [(unhide HRe).1]
              exact ⟨⟨_, _, _, rfl, rfl, by rw [unhide HWd]; simp, (unhide HRe).2⟩, hb⟩
            have HFin := hide hfin
            have h1 : Y = ⟨#[]⟩ := strN_inj (by rw [hYs]; rfl)
            subst h1
            clear hYs hfin
            go_wp2_with fail
            refine (unhide HG).mono ?_
            rintro e w3 ⟨rfl, hb3⟩
            have hr := unhide HFin w3 ((unhide HB2).trans hb3)
            clear hb3 HG hY
            go_wp2
            go_ret3
            exact unhide hr
          | cons d r' =>
            have hY1 : 0 < Y.size := by rw [← strN_len, hYs, List.length_cons]; omega
            obtain ⟨x, hx, hx2, gx⟩ := strN_ex Y 0 hY1
            obtain rfl : d = x := by
              rw [hYs] at hx
              exact Option.some.inj hx
            have hYl : Y.toList ≠ [] := fun h => by
              rw [ByteArray.toList_eq] at h
              have h2 := congrArg List.length h
              rw [Array.length_toList] at h2
              have h3 : Y.data.size = Y.size := rfl
              rw [h3] at h2
              exact absurd h2 (by show Y.size ≠ 0; omega)
            have HFin : Hid (∀ w, Below W.heap.size W w → TkR R W (.returned (.tuple #[.string X, .string Y, .bool (blk d)])) w) := fun w hb => by
              rw [(unhide HRe).1]
              rw [show closeP (d :: r') = if blk d = true then some ([], d :: r') else none from rfl]
              cases blk d with
              | true => exact ⟨⟨_, _, _, rfl, rfl, by rw [unhide HWd]; simp, (unhide HRe).2⟩, hb⟩
              | false => exact ⟨⟨_, _, _, rfl, rfl⟩, hb⟩
            have HBk := hide (fun w => hblank_any w d)
            have i32 : IntKind.i32.wrap (d : Int) = (d : Int) := by rw [IntKind.wrap_i32]; omega
            obtain ⟨bb, hbb⟩ : ∃ b, blk d = b := ⟨_, rfl⟩
            rw [hbb] at HFin HBk
            clear hx hYs hbb HRe
            go_wp2_with fail
            refine (unhide HG).mono ?_
            rintro e w3 ⟨rfl, hb3⟩
            have hr := hide (unhide HFin w3 ((unhide HB2).trans hb3))
            clear hb3 HG
            go_wp2_with fail
            all_goals try (exact absurd (by assumption) hYl)
            refine (unhide HBk _).mono ?_
            rintro e w4 ⟨rfl, hw⟩
            subst hw
            have q : (Y.toList.isEmpty || bb) = bb := by
              cases h : Y.toList with
              | nil => exact absurd h hYl
              | cons a l => rfl
            rw [← q] at hr
            clear q
            go_wp2
            go_ret3
            exact unhide hr
        · subst hc
          obtain rfl : u = 92 := h92.2 rfl
          obtain rfl : n = 1 := h128 (by decide)
          have hxs : strN (s.extract pos s.size) = 92 :: r := by
            rw [strN_ext, List.take_of_length_le (by rw [List.length_drop, strN_len]; omega)]
            exact hdr
          have HC := hide (esc_any ((unhide HE).up (unhide HX).2.2) (s.extract pos s.size) (by rw [ByteArray.size_extract]; omega) hxs)
          have HW := hide (fun w (hq : BI W.heap.size W.heap.size O w) (hb : W.heap.size ≤ w.heap.size) => putS hq (by have := (unhide HS).len; omega) hb (s.extract fr pos) (by rw [ByteArray.size_extract]; omega))
          have k0 : (0 : Int) ≤ (fr : Int) := Int.natCast_nonneg _
          have k1 : (fr : Int) ≤ (pos : Int) := by have := unhide Hfp; omega
          have k2 : (pos : Int) ≤ (s.size : Int) := by omega
          have k4 : (0 : Int) ≤ (pos : Int) := Int.natCast_nonneg _
          clear hun hcu h34 h92 hn1 h128 hA1 hA2 hA3 hdr hxs
          go_wp2_with fail
          refine (unhide HC).mono ?_
          rintro e w2 ⟨⟨b, m, rfl, hb, hm⟩, hbl⟩
          have hbl0 := (unhide HX).2.2.trans (hbl.mono (unhide HX).2.2.size)
          have hX2 := (unhide HX).1.up hbl
          have hit2 := (hbl.block _ (Array.getElem?_eq_some_iff.1 (unhide HX).2.1).1).trans (unhide HX).2.1
          cases he : escP r with
          | none =>
            rw [he] at hm
            simp only at hm
            subst hm
            have hR0 : R = none := by rw [unhide HEq, qw_esc, he]; rfl
            have hr := hide (unhide HNo w2 hbl0 hR0)
            clear he hbl hbl0 hX2 hit2 hR0 HC hb
            go_wp2
            try rw [Exit.noGoto_ret]
            go_ret3
            exact unhide hr
          | some p =>
            obtain ⟨b', n'⟩ := p
            rw [he] at hm
            obtain ⟨hm1, hm2⟩ := hm
            subst hm1 hm2
            obtain ⟨hl1, hl2, hl3, hl4⟩ := esc_low he
            have n0 : (((n' + 1 : Nat) : Int) == 0) = false := beq_false_of_ne (by omega)
            have HB2 := hide (And.intro hbl0 (And.intro hX2 hit2))
            have HL := hide (And.intro hl1 (And.intro hl2 (And.intro hl3 hl4)))
            have He := hide he
            have hn64 : n' ≤ 65536 := by
              have h1 := congrArg List.length (unhide HDr)
              rw [List.length_drop, strN_len, List.length_cons] at h1
              omega
            have i64 : IntKind.i64.wrap ((pos : Int) + ((n' + 1 : Nat) : Int)) = (pos : Int) + ((n' + 1 : Nat) : Int) := by rw [IntKind.wrap_i64]; omega
            clear he hbl hbl0 hX2 hit2 HC hl1 hl2 hl3 hl4 hb
            go_wp2_with fail
            refine (unhide HW w2 (unhide HB2).2.1 (unhide HB2).1.size).mono ?_
            rintro e w3 ⟨rfl, hbi, hbl, hkp⟩
            have HB3 := hide (And.intro ((unhide HB2).1.trans hbl) (And.intro hbi (hkp.iter (unhide HB2).2.2 (by omega))))
            have HP := hide (putB hbi (by rw [List.length_append, strN_len, ByteArray.size_extract]; have := (unhide HS).len; omega) ((unhide HB2).1.trans hbl).size b)
            clear hbi hbl hkp HW
            go_wp2_with fail
            refine (unhide HP).mono ?_
            rintro e w4 ⟨rfl, hbi, hbl, hkp⟩
            have hbl4 := (unhide HB3).1.trans hbl
            have hit4 := hkp.iter (unhide HB3).2.2 (by omega)
            have HS2 : Hid (QwS W s R (pos + 1) (pos + (n' + 1)) ((O ++ strN (s.extract fr pos)) ++ [b]) w4) := by
              obtain ⟨hl1, hl2, hl3, hl4⟩ := unhide HL
              have hdr := unhide HDr
              have h1 := congrArg List.length hdr
              rw [List.length_drop, strN_len, List.length_cons] at h1
              have hm : max (pos + 1) (pos + (n' + 1)) = pos + (n' + 1) := by omega
              have hdd : (strN s).drop (pos + (n' + 1)) = r.drop n' := by
                rw [← List.drop_drop, hdr, Nat.add_comm n' 1, ← List.drop_drop]
                rfl
              refine ⟨by omega, by omega, hit4, hbi, hbl4, ?_, fun k x hk h1 h2 => ?_, ?_, ?_⟩
              · rw [hm, seg_nil, hdd, unhide HEq, qw_esc, unhide He, seg_ext]
                simp only
                cases Qw (r.drop n') with
                | none => rfl
                | some p => simp
              · refine hl1 x ?_
                have e1 : r[k - (pos + 1)]? = some x := by
                  have e2 := (drop_at hdr).2.2.2
                  rw [← e2, List.getElem?_drop, show pos + 1 + (k - (pos + 1)) = k by omega]
                  exact hk
                have e3 : (r.take n')[k - (pos + 1)]? = some x := by rw [List.getElem?_take, if_pos (by omega)]; exact e1
                exact List.mem_of_getElem? e3
              · rw [List.length_append, List.length_append, strN_len, ByteArray.size_extract]
                have := (unhide HS).len
                have := unhide Hfp
                simp
                omega
              · exact ((unhide HS).byt.append (strN_byt _)).append (fun x hx => by rw [List.mem_singleton.1 hx]; exact hl4)
            have hItw := (unhide HS).it
            have HIw := hide hItw
            have Hns := hide hns
            clear hbi hbl hkp HP hbl4 hit4 hItw
            go_wp2
            go_roundw
            case rel => exact ⟨rfl, pos + 1, pos + (n' + 1), _, by go_num, HS2⟩
            case measure =>
              simp only [World.iterPos, (unhide HS2).it, unhide HIw]
              have := unhide Hns
              omega
        · have n1 : ((u : Int) == 34) = false := beq_false_of_ne (by omega)
          have n2 : ((u : Int) == 92) = false := beq_false_of_ne (by omega)
          have HC := hide (fun w => hcontrol_any w u)
          rw [hcu, hc3] at HC
          have hR0 : R = none := by rw [unhide HEq, qw_ctl hc3 hc1 hc2]; rfl
          have hr := hide (unhide HNo wx (unhide HX).2.2 hR0)
          clear hun hcu h34 h92 hn1 h128 hA1 hA2 hA3 hdr hR0 hc1 hc2 hc3
          go_wp2_with fail
          refine (unhide HC _).mono ?_
          rintro e w2 ⟨rfl, hw⟩
          subst hw
          go_wp2
          try rw [Exit.noGoto_ret]
          go_ret3
          exact unhide hr
        · have n1 : ((u : Int) == 34) = false := beq_false_of_ne (by have := hc.2.1; omega)
          have n2 : ((u : Int) == 92) = false := beq_false_of_ne (by have := hc.2.2; omega)
          have HC := hide (fun w => hcontrol_any w u)
          rw [hcu, hc.1] at HC
          have HS2 : Hid (QwS W s R (pos + n) fr O wx) := by
            refine (unhide HS).step hn1 hns hwx.symm ?_
            have hm2 : max (pos + n) fr = pos + n := by have := unhide Hfp; omega
            have := unhide HEq
            rw [hm2, seg_app s (unhide Hfp) hA1 hA2 (by omega), this, ← hdr, hA1, qw_pln A _ (hA3 hc)]
            cases Qw ((strN s).drop (pos + n)) with
            | none => rfl
            | some p => simp
          have hItw := (unhide HS).it
          have HIw := hide hItw
          have Hns := hide (And.intro hns hn1)
          clear hun hcu h34 h92 hn1 h128 hA1 hA2 hA3 hdr hc hItw hns
          go_wp2_with fail
          refine (unhide HC _).mono ?_
          rintro e w2 ⟨rfl, hw⟩
          subst hw
          clear hwx
          go_wp2
          go_roundw
          case rel => exact ⟨rfl, pos + n, fr, O, rfl, HS2⟩
          case measure =>
            simp only [World.iterPos, (unhide HS2).it, unhide HIw]
            have := unhide Hns
            omega
    · have hps2 : pos = s.size := by have := (unhide HS).ple; omega
      have hnx : ∀ ty, (Instr.next (.pointer (some ⟨W.heap.size + 1, 0, none⟩)) true ty).run Tryd.prog wr = _ := fun ty => Lib.run_next_end_at wr (W.heap.size + 1) s pos ty (unhide HS).it hp
      have hR0 : R = none := by
        rw [(unhide HS).eq, show max pos fr = s.size by have := (unhide HS).fr; omega, List.drop_eq_nil_of_le (by rw [strN_len]; exact Nat.le_refl _)]
        rfl
      have hr := hide (unhide HNo wr (unhide HS).bel hR0)
      clear hR0 hps2
      go_wp2
      try rw [Exit.noGoto_ret]
      go_ret3
      exact unhide hr
end Go.Proofs.YtadmamfekodkaaaDoor
