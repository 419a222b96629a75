import Derived.Test.YtlblllghgdfpoaaDoorFB

namespace Go.Proofs.YtlblllghgdfpoaaDoor
open Go.RowKit
attribute [local go_sem ↓] Go.wp_at_zero Go.wp_at_succ

theorem callSm (w : World) (vs : Array Value) : (callFunc 13 vs).run Tryd.prog w = .ok (.enter 13 vs) w := by
  have hn : ¬ Tryd.f13.name = "runtime.NumGoroutine" := by decide +kernel
  have hb : Tryd.f13.body.isSome = true := by kernel_rfl
  obtain ⟨c, hc⟩ := Option.isSome_iff_exists.1 hb
  simp [callFunc, Tryd.func13, hn, hc]
/-- The front and the end of a row of bytes. -/
theorem bytes_parts {B : Nat} {w : World} {v : Value} {l m : List Nat} {k : Nat} (h : Bytes B w v (l ++ m)) (hm : m.length = k) (hk : 0 < k) : ∃ g c, v = .slice (some ⟨g, 0, none⟩) (l.length + k) c ∧ l.length + k ≤ c ∧ c ≤ maxLen ∧ g < w.heap.size ∧ HasB w (.slice (some ⟨g, 0, none⟩) l.length c) l ∧ HasB w (.slice (some ⟨g, l.length, none⟩) k (c - l.length)) m := by
  obtain ⟨a, c, e, hc, h3⟩ := h.has
  rw [List.length_append, hm] at e hc h3
  obtain ⟨a', c', e', h4⟩ := bytes_shape h
  rw [List.length_append, hm] at e' h4
  obtain ⟨g, ha⟩ := h4 (by omega)
  rw [e] at e'
  injection e' with e1 _ _
  rw [ha] at e1
  subst e1
  obtain ⟨g2, off, e2, hg, hcell⟩ := h3 (by omega)
  injection e2 with e2
  injection e2 with e3 e4 _
  subst e3 e4
  refine ⟨g, c, e, hc.1, hc.2.1, hg, ⟨_, c, rfl, ⟨by have := hc.1; omega, hc.2.1, nofun⟩, fun _ => ⟨g, 0, rfl, hg, fun i x hx => ?_⟩⟩, ⟨some ⟨g, l.length, none⟩, c - l.length, by rw [hm], ⟨by rw [hm]; have := hc.1; omega, by have := hc.2.1; omega, nofun⟩, fun _ => ⟨g, l.length, rfl, hg, fun i x hx => ?_⟩⟩⟩
  · exact hcell i x (by rw [List.getElem?_append_left (List.getElem?_eq_some_iff.1 hx).1]; exact hx)
  · have := hcell (l.length + i) x (by rw [List.getElem?_append_right (by omega), Nat.add_sub_cancel_left]; exact hx)
    rw [Nat.zero_add] at this
    exact this
set_option maxRecDepth 100000 in
set_option maxHeartbeats 4000000 in
theorem l8_any {W : World} {B : Nat} {w : World} {vL vM : Value} {xs rs : List Value} {cs : List (List Nat)} {tm : Array Value} {Q : Exit → Act → World → Prop} (hr : w.ownsRow B 29 1 vL xs.length xs) (hg : Gw W B xs cs xs.length w vM rs) (hcs : ∀ (k : Nat) (l : List Nat), cs[k]? = some l → l = mkL k l.length ∧ l.length ≤ 67108864 ∧ Byt l) (hn : xs.length ≤ 2000000) (hsz : tm.size = 401) (hchk : chk tm [(3, vL), (28, vM)])
    (hQ : ∀ (w' : World) (tm' : Array Value), tm'.size = 401 → Below w.heap.size w w' → Q .normal { tmps := tm', defers := [] } w') : qL8.wp Tryd.prog Q { tmps := tm, defers := [] } w := by
  obtain ⟨aL, cL, hvL, -, -, hL⟩ := own_form hr
  subst hvL
  obtain ⟨aM, cM, hvM, -, -, hMc⟩ := own_form hg.rm
  have hrl := hg.rl
  rw [hrl] at hvM hMc
  subst hvM
  have HL := hide hL
  have HMc := hide hMc
  have HC := hide hcs
  have HG := hide hg
  have HQ := hide hQ
  have Hrl := hide hrl
  clear hr hL hMc hcs hg hQ hrl
  obtain ⟨u, rfl⟩ := frame401 hsz
  obtain ⟨e3, e28, _⟩ := hchk
  replace e3 : u 3 = .slice aL xs.length cL := Option.some.inj e3
  replace e28 : u 28 = .slice aM xs.length cM := Option.some.inj e28
  rw [e3, e28]
  clear e3 e28
  unfold qL8
  dsimp only [tl, hd, qBody, Tryd.f21]
  go_wp2
  go_loopg [30, 31] xs.length (fun gk v30 _ wr => ∃ (k : Nat), v30 = .int .i64 (k : Int) ∧ gk = xs.length - k ∧ k ≤ xs.length ∧ Hid (Below w.heap.size w wr))
  case atStart => exact ⟨0, rfl, rfl, by omega, Below.refl _ _⟩
  case round =>
    obtain ⟨k, rfl, hgk, hk, HB⟩ := hrel
    have Hgk := hide hgk
    clear hgk
    by_cases hlt : k < xs.length
    · obtain ⟨gL, rfl, hcl⟩ := unhide HL (by omega)
      obtain ⟨gM, rfl, hcm⟩ := unhide HMc (by omega)
      obtain ⟨v, l, hv, hl, hBy⟩ := (unhide HG).lb.at hlt
      obtain ⟨r, hr⟩ : ∃ r, rs[k]? = some r := ⟨_, List.getElem?_eq_getElem (by rw [unhide Hrl]; exact hlt)⟩
      obtain ⟨hlm, hbl, hbb⟩ := unhide HC k l hl
      obtain ⟨gR, cR, hrv, hcR, hcR2, hgR, hf, hb⟩ := bytes_parts ((unhide HG).el k r l hr hl).1 (mkL_len _ _) (by omega)
      subst hrv
      obtain ⟨av, cv, rfl, -⟩ := bytes_shape hBy
      have x1 := hcl k _ hv
      have x2 := hcm k _ hr
      have hgl : gL < w.heap.size := World.block_lt_of_cell? w _ x1
      have hgm : gM < w.heap.size := World.block_lt_of_cell? w _ x2
      have HT : Hid (∀ w' : World, Below w.heap.size w w' → w'.cell? ⟨gL, k, none⟩ = some (.slice av l.length cv) ∧ w'.cell? ⟨gM, k, none⟩ = some (.slice (some ⟨gR, 0, none⟩) (l.length + 70) cR)) := fun w' h => ⟨(h.cell (p := ⟨gL, k, none⟩) hgl).trans x1, (h.cell (p := ⟨gM, k, none⟩) hgm).trans x2⟩
      have HS1 : Hid (∀ (w' : World) (m1 : Value), Below w.heap.size w w' → HasB w' m1 (mkL k l.length) → Calls Tryd.prog 13 #[.slice av l.length cv, m1] w' fun e w2 => e = .returned (.bool true) ∧ w2 = w') := fun w' m1 h hm1 => by
        have q := same_any (hBy.has.up h) hm1 hbb (mkL_byt _ _)
        rw [decide_eq_true hlm] at q
        exact q
      have HS2 : Hid (∀ w' : World, Below w.heap.size w w' → Calls Tryd.prog 13 #[.slice (some ⟨gR, 0, none⟩) l.length cR, .slice av l.length cv] w' fun e w2 => e = .returned (.bool true) ∧ w2 = w') := fun w' h => by
        have q := same_any (hf.up h) (hBy.has.up h) hbb hbb
        rw [decide_eq_true rfl] at q
        exact q
      have HS3 : Hid (∀ (w' : World) (m2 : Value), Below w.heap.size w w' → HasB w' m2 (mkL (1048576 + k) 70) → Calls Tryd.prog 13 #[.slice (some ⟨gR, l.length, none⟩) 70 (cR - l.length), m2] w' fun e w2 => e = .returned (.bool true) ∧ w2 = w') := fun w' m2 h hm2 => by
        have q := same_any (hb.up h) hm2 (mkL_byt _ _) (mkL_byt _ _)
        rw [decide_eq_true rfl] at q
        exact q
      have HMk := hide (fun w' => marked_any w' k l.length (by omega))
      have HMl := hide (fun w' => marked_at w' 1048576 k 70 (1048576 + (k : Int)) 70 (by omega) rfl (by omega))
      have hwr : IntKind.i64.wrap (1048576 + (k : Int)) = 1048576 + (k : Int) := by rw [IntKind.wrap_i64]; omega
      have j0 : (0 : Int) ≤ (k : Int) := Int.natCast_nonneg _
      have j1 : (k : Int) < (xs.length : Int) := by omega
      have Hlt := hide hlt
      have n0 : (0 : Int) ≤ (l.length : Int) := Int.natCast_nonneg _
      have n1 : (l.length : Int) ≤ ((l.length + 70 : Nat) : Int) := by omega
      have n2 : (l.length : Int) ≤ (cR : Int) := by omega
      have n3 : ((l.length + 70 : Nat) : Int) ≤ (cR : Int) := by omega
      have n4 : cR ≠ l.length := by omega
      have n5 : l.length + 70 - l.length = 70 := by omega
      have HBd : Hid (Below w.heap.size w wr.drew) := (unhide HB).trans ⟨rfl, rfl, rfl, Nat.le_refl _, fun _ _ => rfl⟩
      obtain ⟨y1, -⟩ := unhide HT wr (unhide HB)
      have hT0 := unhide HT wr.drew (unhide HBd)
      clear hcl hcm hv hl hBy hr hlm hbb hcR2 hgR hf hb x1 x2 hgl hgm hlt HB
      go_wp2
      refine wp_region_noPanic ?_
      refine wp_region_any (by kernel_rfl) (Zz.wpAny_of_Z (z := 99) (T := fun w => w.cell? ⟨gL, k, none⟩ = some (.slice av l.length cv) ∧ w.cell? ⟨gM, k, none⟩ = some (.slice (some ⟨gR, 0, none⟩) (l.length + 70) cR)) _ _ _ _ ?_)
      have hT : (fun w : World => w.cell? ⟨gL, k, none⟩ = some (.slice av l.length cv) ∧ w.cell? ⟨gM, k, none⟩ = some (.slice (some ⟨gR, 0, none⟩) (l.length + 70) cR)) wr.drew := hT0
      clear y1
      refine Zz.wpAnyZ_tk 0 (.slice (some ⟨gL, 0, none⟩) xs.length cL) 365 rfl rfl (Or.inl ⟨by rfl, fun w hw => by obtain ⟨hw0, hw1⟩ := hw; go_simp⟩) hT ?_
      simp only [Act.put, List.setIfInBounds_toArray, List.set_cons_zero, List.set_cons_succ]
      refine Zz.wpAnyZ_tk 1 (.int .i64 (k : Int)) 366 rfl rfl (Or.inl ⟨by rfl, fun w hw => by obtain ⟨hw0, hw1⟩ := hw; go_simp⟩) hT ?_
      simp only [Act.put, List.setIfInBounds_toArray, List.set_cons_zero, List.set_cons_succ]
      refine Zz.wpAnyZ_tk 2 (.pointer (some ⟨gL, k, none⟩)) 367 rfl rfl (Or.inl ⟨by rfl, fun w hw => by obtain ⟨hw0, hw1⟩ := hw; go_simp⟩) hT ?_
      simp only [Act.put, List.setIfInBounds_toArray, List.set_cons_zero, List.set_cons_succ]
      refine Zz.wpAnyZ_tk 3 (.slice av l.length cv) 368 rfl rfl (Or.inl ⟨by rfl, fun w hw => by obtain ⟨hw0, hw1⟩ := hw; go_simp⟩) hT ?_
      simp only [Act.put, List.setIfInBounds_toArray, List.set_cons_zero, List.set_cons_succ]
      refine Zz.wpAnyZ_tk 4 (.int .i64 (k : Int)) 369 rfl rfl (Or.inl ⟨by rfl, fun w hw => by obtain ⟨hw0, hw1⟩ := hw; go_simp⟩) hT ?_
      simp only [Act.put, List.setIfInBounds_toArray, List.set_cons_zero, List.set_cons_succ]
      refine Zz.wpAnyZ_tk 5 (.int .i64 (l.length : Int)) 370 rfl rfl (Or.inl ⟨by rfl, fun w hw => by obtain ⟨hw0, hw1⟩ := hw; go_simp⟩) hT ?_
      simp only [Act.put, List.setIfInBounds_toArray, List.set_cons_zero, List.set_cons_succ]
      refine Zz.wpAnyZ_one 6 (by kernel_rfl) rfl (fun KK hK => ?_)
      refine Zz.step_callD 371 rfl rfl 37 (callMk _) #[.tmp 369, .tmp 370] #[3, 3] rfl #[.int .i64 (k : Int), .int .i64 (l.length : Int)] (by first | rfl | simp [Act.eval]) (unhide HMk _) ?_
      rintro o5 w5 ⟨m1, rfl, hB5, hb5⟩
      refine ⟨_, rfl, ?_⟩
      have Hbw5 : Hid (Below w.heap.size w w5) := (unhide HBd).trans (hb5.mono (unhide HBd).size)
      have HVm1 := hide hB5.has
      have hT5 := unhide HT _ (unhide Hbw5)
      clear hB5 hb5
      refine hK _ _ ⟨fun _ => hT5, ?_⟩
      clear hK KK hT
      have hT := hT5
      clear hT5
      simp only [Act.put, List.setIfInBounds_toArray, List.set_cons_zero, List.set_cons_succ]
      refine Zz.wpAnyZ_one 7 (by kernel_rfl) rfl (fun KK hK => ?_)
      refine Zz.step_callD 372 rfl rfl 13 (callSm _) #[.tmp 368, .tmp 371] #[29, 29] rfl #[.slice av l.length cv, m1] (by first | rfl | simp [Act.eval]) (unhide HS1 _ _ (unhide Hbw5) (unhide HVm1)) ?_
      rintro o5 wz ⟨rfl, he⟩
      obtain rfl : w5 = wz := he.symm
      refine ⟨_, rfl, ?_⟩
      have hT5 := hT
      clear he
      refine hK _ _ ⟨fun _ => hT5, ?_⟩
      clear hK KK hT
      have hT := hT5
      clear hT5
      simp only [Act.put, List.setIfInBounds_toArray, List.set_cons_zero, List.set_cons_succ]
      refine Zz.wpAnyZ_tk 8 (.bool false) 373 rfl rfl (Or.inl ⟨by rfl, fun w hw => by obtain ⟨hw0, hw1⟩ := hw; go_simp⟩) hT ?_
      simp only [Act.put, List.setIfInBounds_toArray, List.set_cons_zero, List.set_cons_succ]
      refine Zz.wpAnyZ_tk 9 (.bool false) 374 rfl rfl (Or.inl ⟨by rfl, fun w hw => by obtain ⟨hw0, hw1⟩ := hw; go_simp⟩) hT ?_
      simp only [Act.put, List.setIfInBounds_toArray, List.set_cons_zero, List.set_cons_succ]
      refine Zz.wpAnyZ_tk 10 (.slice (some ⟨gM, 0, none⟩) xs.length cM) 375 rfl rfl (Or.inl ⟨by rfl, fun w hw => by obtain ⟨hw0, hw1⟩ := hw; go_simp⟩) hT ?_
      simp only [Act.put, List.setIfInBounds_toArray, List.set_cons_zero, List.set_cons_succ]
      refine Zz.wpAnyZ_tk 11 (.int .i64 (k : Int)) 376 rfl rfl (Or.inl ⟨by rfl, fun w hw => by obtain ⟨hw0, hw1⟩ := hw; go_simp⟩) hT ?_
      simp only [Act.put, List.setIfInBounds_toArray, List.set_cons_zero, List.set_cons_succ]
      refine Zz.wpAnyZ_tk 12 (.pointer (some ⟨gM, k, none⟩)) 377 rfl rfl (Or.inl ⟨by rfl, fun w hw => by obtain ⟨hw0, hw1⟩ := hw; go_simp⟩) hT ?_
      simp only [Act.put, List.setIfInBounds_toArray, List.set_cons_zero, List.set_cons_succ]
      refine Zz.wpAnyZ_tk 13 (.slice (some ⟨gR, 0, none⟩) (l.length + 70) cR) 378 rfl rfl (Or.inl ⟨by rfl, fun w hw => by obtain ⟨hw0, hw1⟩ := hw; go_simp⟩) hT ?_
      simp only [Act.put, List.setIfInBounds_toArray, List.set_cons_zero, List.set_cons_succ]
      refine Zz.wpAnyZ_tk 14 (.int .i64 (l.length : Int)) 379 rfl rfl (Or.inl ⟨by rfl, fun w hw => by obtain ⟨hw0, hw1⟩ := hw; go_simp⟩) hT ?_
      simp only [Act.put, List.setIfInBounds_toArray, List.set_cons_zero, List.set_cons_succ]
      refine Zz.wpAnyZ_tk 15 (.slice (some ⟨gR, 0, none⟩) l.length cR) 380 rfl rfl (Or.inl ⟨by rfl, fun w hw => by obtain ⟨hw0, hw1⟩ := hw; go_simp⟩) hT ?_
      simp only [Act.put, List.setIfInBounds_toArray, List.set_cons_zero, List.set_cons_succ]
      refine Zz.wpAnyZ_tk 16 (.slice (some ⟨gL, 0, none⟩) xs.length cL) 381 rfl rfl (Or.inl ⟨by rfl, fun w hw => by obtain ⟨hw0, hw1⟩ := hw; go_simp⟩) hT ?_
      simp only [Act.put, List.setIfInBounds_toArray, List.set_cons_zero, List.set_cons_succ]
      refine Zz.wpAnyZ_tk 17 (.int .i64 (k : Int)) 382 rfl rfl (Or.inl ⟨by rfl, fun w hw => by obtain ⟨hw0, hw1⟩ := hw; go_simp⟩) hT ?_
      simp only [Act.put, List.setIfInBounds_toArray, List.set_cons_zero, List.set_cons_succ]
      refine Zz.wpAnyZ_tk 18 (.pointer (some ⟨gL, k, none⟩)) 383 rfl rfl (Or.inl ⟨by rfl, fun w hw => by obtain ⟨hw0, hw1⟩ := hw; go_simp⟩) hT ?_
      simp only [Act.put, List.setIfInBounds_toArray, List.set_cons_zero, List.set_cons_succ]
      refine Zz.wpAnyZ_tk 19 (.slice av l.length cv) 384 rfl rfl (Or.inl ⟨by rfl, fun w hw => by obtain ⟨hw0, hw1⟩ := hw; go_simp⟩) hT ?_
      simp only [Act.put, List.setIfInBounds_toArray, List.set_cons_zero, List.set_cons_succ]
      refine Zz.wpAnyZ_one 20 (by kernel_rfl) rfl (fun KK hK => ?_)
      refine Zz.stepG 385 rfl (by kernel_rfl) 13 (callSm _) #[.tmp 380, .tmp 384] #[29, 29] rfl #[.slice (some ⟨gR, 0, none⟩) l.length cR, .slice av l.length cv] (by first | rfl | simp [Act.eval]) (unhide HS2 _ (unhide Hbw5)) ?_
      rintro o5 wz ⟨rfl, he⟩
      obtain rfl : w5 = wz := he.symm
      refine ⟨_, rfl, ?_⟩
      have hT5 := hT
      clear he
      refine hK _ _ ⟨fun _ => hT5, ?_⟩
      clear hK KK hT
      have hT := hT5
      clear hT5
      simp only [Act.put, List.setIfInBounds_toArray, List.set_cons_zero, List.set_cons_succ]
      refine Zz.wpAnyZ_tk 21 (.bool false) 386 rfl rfl (Or.inl ⟨by rfl, fun w hw => by obtain ⟨hw0, hw1⟩ := hw; go_simp⟩) hT ?_
      simp only [Act.put, List.setIfInBounds_toArray, List.set_cons_zero, List.set_cons_succ]
      refine Zz.wpAnyZ_tk 22 (.bool false) 387 rfl rfl (Or.inl ⟨by rfl, fun w hw => by obtain ⟨hw0, hw1⟩ := hw; go_simp⟩) hT ?_
      simp only [Act.put, List.setIfInBounds_toArray, List.set_cons_zero, List.set_cons_succ]
      refine Zz.wpAnyZ_tk 23 (.bool false) 388 rfl rfl (Or.inl ⟨by rfl, fun w hw => by obtain ⟨hw0, hw1⟩ := hw; go_simp⟩) hT ?_
      simp only [Act.put, List.setIfInBounds_toArray, List.set_cons_zero, List.set_cons_succ]
      refine Zz.wpAnyZ_tk 24 (.slice (some ⟨gM, 0, none⟩) xs.length cM) 389 rfl rfl (Or.inl ⟨by rfl, fun w hw => by obtain ⟨hw0, hw1⟩ := hw; go_simp⟩) hT ?_
      simp only [Act.put, List.setIfInBounds_toArray, List.set_cons_zero, List.set_cons_succ]
      refine Zz.wpAnyZ_tk 25 (.int .i64 (k : Int)) 390 rfl rfl (Or.inl ⟨by rfl, fun w hw => by obtain ⟨hw0, hw1⟩ := hw; go_simp⟩) hT ?_
      simp only [Act.put, List.setIfInBounds_toArray, List.set_cons_zero, List.set_cons_succ]
      refine Zz.wpAnyZ_tk 26 (.pointer (some ⟨gM, k, none⟩)) 391 rfl rfl (Or.inl ⟨by rfl, fun w hw => by obtain ⟨hw0, hw1⟩ := hw; go_simp⟩) hT ?_
      simp only [Act.put, List.setIfInBounds_toArray, List.set_cons_zero, List.set_cons_succ]
      refine Zz.wpAnyZ_tk 27 (.slice (some ⟨gR, 0, none⟩) (l.length + 70) cR) 392 rfl rfl (Or.inl ⟨by rfl, fun w hw => by obtain ⟨hw0, hw1⟩ := hw; go_simp⟩) hT ?_
      simp only [Act.put, List.setIfInBounds_toArray, List.set_cons_zero, List.set_cons_succ]
      refine Zz.wpAnyZ_tk 28 (.int .i64 (l.length : Int)) 393 rfl rfl (Or.inl ⟨by rfl, fun w hw => by obtain ⟨hw0, hw1⟩ := hw; go_simp⟩) hT ?_
      simp only [Act.put, List.setIfInBounds_toArray, List.set_cons_zero, List.set_cons_succ]
      refine Zz.wpAnyZ_tk 29 (.slice (some ⟨gR, l.length, none⟩) 70 (cR - l.length)) 394 rfl rfl (Or.inl ⟨by rfl, fun w hw => by obtain ⟨hw0, hw1⟩ := hw; go_simp; intro hx; exact absurd hx (by omega)⟩) hT ?_
      simp only [Act.put, List.setIfInBounds_toArray, List.set_cons_zero, List.set_cons_succ]
      refine Zz.wpAnyZ_tk 30 (.int .i64 (k : Int)) 395 rfl rfl (Or.inl ⟨by rfl, fun w hw => by obtain ⟨hw0, hw1⟩ := hw; go_simp⟩) hT ?_
      simp only [Act.put, List.setIfInBounds_toArray, List.set_cons_zero, List.set_cons_succ]
      refine Zz.wpAnyZ_tk 31 (.int .i64 (1048576 + (k : Int))) 396 rfl rfl (Or.inl ⟨by rfl, fun w hw => by obtain ⟨hw0, hw1⟩ := hw; go_simp⟩) hT ?_
      simp only [Act.put, List.setIfInBounds_toArray, List.set_cons_zero, List.set_cons_succ]
      refine Zz.wpAnyZ_one 32 (by kernel_rfl) rfl (fun KK hK => ?_)
      refine Zz.stepG 397 rfl (by kernel_rfl) 37 (callMk _) #[.tmp 396, .const (.int .i64 70)] #[3, 3] rfl #[.int .i64 (1048576 + (k : Int)), .int .i64 70] (by first | rfl | simp [Act.eval]) (unhide HMl _) ?_
      rintro o5 w6 ⟨m2, rfl, hB5, hb5⟩
      refine ⟨_, rfl, ?_⟩
      have Hbw6 : Hid (Below w.heap.size w w6) := (unhide Hbw5).trans (hb5.mono (unhide Hbw5).size)
      have HVm2 := hide hB5.has
      have hT5 := unhide HT _ (unhide Hbw6)
      clear hB5 hb5
      refine hK _ _ ⟨fun _ => hT5, ?_⟩
      clear hK KK hT
      have hT := hT5
      clear hT5
      simp only [Act.put, List.setIfInBounds_toArray, List.set_cons_zero, List.set_cons_succ]
      refine Zz.wpAnyZ_one 33 (by kernel_rfl) rfl (fun KK hK => ?_)
      refine Zz.stepG 398 rfl (by kernel_rfl) 13 (callSm _) #[.tmp 394, .tmp 397] #[29, 29] rfl #[.slice (some ⟨gR, l.length, none⟩) 70 (cR - l.length), m2] (by first | rfl | simp [Act.eval]) (unhide HS3 _ _ (unhide Hbw6) (unhide HVm2)) ?_
      rintro o5 wz ⟨rfl, he⟩
      obtain rfl : w6 = wz := he.symm
      refine ⟨_, rfl, ?_⟩
      have hT5 := hT
      clear he
      refine hK _ _ ⟨fun _ => hT5, ?_⟩
      clear hK KK hT
      have hT := hT5
      clear hT5
      simp only [Act.put, List.setIfInBounds_toArray, List.set_cons_zero, List.set_cons_succ]
      refine Zz.wpAnyZ_tk 34 (.bool false) 399 rfl rfl (Or.inl ⟨by rfl, fun w hw => by obtain ⟨hw0, hw1⟩ := hw; go_simp⟩) hT ?_
      simp only [Act.put, List.setIfInBounds_toArray, List.set_cons_zero, List.set_cons_succ]
      refine Zz.wpAnyZ_tk 35 (.bool false) 400 rfl rfl (Or.inl ⟨by rfl, fun w hw => by obtain ⟨hw0, hw1⟩ := hw; go_simp⟩) hT ?_
      simp only [Act.put, List.setIfInBounds_toArray, List.set_cons_zero, List.set_cons_succ]
      refine Zz.wpAnyZ_done (by kernel_rfl) ?_
      refine NoPanic.normal ?_
      clear hT hT0
      go_wp2
      go_roundg (xs.length - (k + 1))
      case measure => have := unhide Hgk; have := unhide Hlt; omega
      case rel => exact ⟨k + 1, by go_num, rfl, unhide Hlt, unhide Hbw6⟩
    · obtain rfl : k = xs.length := by omega
      clear hlt hk Hgk
      go_wp2
      exact unhide HQ _ _ rfl (unhide HB)
end Go.Proofs.YtlblllghgdfpoaaDoor
