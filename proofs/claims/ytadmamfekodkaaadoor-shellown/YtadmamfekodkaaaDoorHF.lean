import Derived.Test.YtadmamfekodkaaaDoorHE

namespace Go.Proofs.YtadmamfekodkaaaDoor
open Go.RowKit
attribute [local go_sem ↓] Go.wp_at_zero Go.wp_at_succ

theorem wrap8 {n : Nat} (h : n < 256) : IntKind.u8.wrap (n : Int) = (n : Int) := by
  simp [IntKind.wrap, IntKind.bits, IntKind.signed]
  omega
set_option maxRecDepth 100000 in
set_option maxHeartbeats 2000000 in
theorem znext_any {b : Nat} {s : RS} {w : World} (h : Sr b s w) (hn : s.word.length ≤ 100000) (hn2 : s.words.length ≤ 100000) (h5 : s.inn = 5 → 0 ≤ s.dig) {c : Nat} (hc : c < 256) : Calls Tryd.prog 16 #[.pointer (some ⟨b, 0, none⟩), .int .u8 (c : Int)] w (SrQ b (nextR c s) w) := by
  obtain ⟨i0, hi, hz0, hz1, hz2⟩ := info_parts infoByteB
  have HS := hide h
  have Hn := hide hn
  have Hc := hide hc
  have HH := hide (xhex_any w hc)
  have HF := hide (zfirst_any h hn hc)
  have HP := hide (zplain_any h hn hc)
  have HI := hide (zinside_any h hn hn2 hc)
  have HX := hide (zescaped_any h hn hc)
  have HE := hide (zends_any h hn2)
  have hxb := hexv_bd c
  obtain ⟨D, hD⟩ : ∃ D, hexv c = D := ⟨_, rfl⟩
  rw [hD] at HH hxb
  have HD := hide hD
  clear hD
  rcases (by omega : s.inn = 0 ∨ s.inn = 1 ∨ s.inn = 2 ∨ s.inn = 3 ∨ s.inn = 4 ∨ s.inn = 5 ∨ s.inn = 6 ∨ 7 ≤ s.inn) with h0 | h0 | h0 | h0 | h0 | h0 | h0 | h0
  · have e : nextR c s = firstR c s := by
      unfold nextR
      rw [if_pos h0]
    rw [e]
    clear e
    obtain ⟨wa, wc, sa, sc, k0, -, -, k3, k4, k5, -, -, -⟩ := (unhide HS).cells
    rw [h0] at k0
    have z0 := k5 0
    have z3 := k5 3
    have z4 := k5 4
    clear k5
    have x0 : w.cell? ⟨b, 0, none⟩ = some (.int .i64 0) := k0
    clear k0
    clear HP HI HX HE HH h0 k3 k4
    go_enter Tryd.func16, Tryd.ntmps16
    go_wp2_with fail
    refine (unhide HF).mono ?_
    rintro e w1 ⟨rfl, h1, b1⟩
    have HS9 := hide h1
    have HB9 := hide b1
    clear h1 b1 HF
    go_wp2
    go_end0
    exact ⟨rfl, unhide HS9, unhide HB9⟩
  · obtain ⟨wa, wc, sa, sc, k0, -, -, k3, k4, k5, -, -, -⟩ := (unhide HS).cells
    rw [h0] at k0
    have z0 := k5 0
    have z3 := k5 3
    have z4 := k5 4
    clear k5
    have x0 : w.cell? ⟨b, 0, none⟩ = some (.int .i64 1) := k0
    clear k0
    by_cases hb : blk c = true
    · have e : nextR c s = { endsR s with inn := 0 } := by
        unfold nextR
        rw [if_neg (by omega), if_pos h0]
        rw [if_pos hb]
      rw [e]
      clear e
      clear HP HI HX HF HH k3 k4
      have hcc : c = 32 ∨ c = 9 := by unfold blk at hb; simpa using hb
      clear hb h0
      rcases hcc with rfl | rfl
      · go_enter Tryd.func16, Tryd.ntmps16
        go_wp2_with fail
        refine (unhide HE).mono ?_
        rintro e w1 ⟨rfl, h1, b1⟩
        have HS1 := hide h1
        have HB1 := hide b1
        clear h1 b1 HE x0 z0 z3 z4
        obtain ⟨wa', wc', sa', sc', k0', k1', k2', k3', k4', k5', -, -, -⟩ := (unhide HS1).cells
        have z0' := k5' 0
        clear k1' k2' k3' k4' k5'
        obtain ⟨q1, q2⟩ := (unhide HS1).put (s' := { endsR s with inn := 0 }) 0 (.int .i64 0) rfl rfl (fun _ _ => rfl) ((unhide HS1).dg)
        have HS9 := hide q1
        have HB9 := hide q2
        clear q1 q2
        go_wp2
        go_end0
        exact ⟨rfl, unhide HS9, (unhide HB1).trans (unhide HB9)⟩
      · go_enter Tryd.func16, Tryd.ntmps16
        go_wp2_with fail
        refine (unhide HE).mono ?_
        rintro e w1 ⟨rfl, h1, b1⟩
        have HS1 := hide h1
        have HB1 := hide b1
        clear h1 b1 HE x0 z0 z3 z4
        obtain ⟨wa', wc', sa', sc', k0', k1', k2', k3', k4', k5', -, -, -⟩ := (unhide HS1).cells
        have z0' := k5' 0
        clear k1' k2' k3' k4' k5'
        obtain ⟨q1, q2⟩ := (unhide HS1).put (s' := { endsR s with inn := 0 }) 0 (.int .i64 0) rfl rfl (fun _ _ => rfl) ((unhide HS1).dg)
        have HS9 := hide q1
        have HB9 := hide q2
        clear q1 q2
        go_wp2
        go_end0
        exact ⟨rfl, unhide HS9, (unhide HB1).trans (unhide HB9)⟩
    · have e : nextR c s = plainR c s := by
        unfold nextR
        rw [if_neg (by omega), if_pos h0]
        rw [if_neg hb]
      rw [e]
      clear e
      have g : c ≠ 32 ∧ c ≠ 9 := by unfold blk at hb; simpa using hb
      obtain ⟨g1, g2⟩ := g
      have n32 : ((c : Int) == 32) = false := beq_false_of_ne (by omega)
      have n9 : ((c : Int) == 9) = false := beq_false_of_ne (by omega)
      clear HE HI HX HF HH k3 k4 hb g1 g2 h0
      go_enter Tryd.func16, Tryd.ntmps16
      go_wp2_with fail
      refine (unhide HP).mono ?_
      rintro e w1 ⟨rfl, h1, b1⟩
      have HS9 := hide h1
      have HB9 := hide b1
      clear h1 b1 HP
      go_wp2
      go_end0
      exact ⟨rfl, unhide HS9, unhide HB9⟩
  · have e : nextR c s = insideR c s := by
      unfold nextR
      rw [if_neg (by omega), if_neg (by omega), if_pos h0]
    rw [e]
    clear e
    obtain ⟨wa, wc, sa, sc, k0, -, -, k3, k4, k5, -, -, -⟩ := (unhide HS).cells
    rw [h0] at k0
    have z0 := k5 0
    have z3 := k5 3
    have z4 := k5 4
    clear k5
    have x0 : w.cell? ⟨b, 0, none⟩ = some (.int .i64 2) := k0
    clear k0
    clear HP HF HX HE HH h0 k3 k4
    go_enter Tryd.func16, Tryd.ntmps16
    go_wp2_with fail
    refine (unhide HI).mono ?_
    rintro e w1 ⟨rfl, h1, b1⟩
    have HS9 := hide h1
    have HB9 := hide b1
    clear h1 b1 HI
    go_wp2
    go_end0
    exact ⟨rfl, unhide HS9, unhide HB9⟩
  · have e : nextR c s = escR c s := by
      unfold nextR
      rw [if_neg (by omega), if_neg (by omega), if_neg (by omega), if_pos h0]
    rw [e]
    clear e
    obtain ⟨wa, wc, sa, sc, k0, -, -, k3, k4, k5, -, -, -⟩ := (unhide HS).cells
    rw [h0] at k0
    have z0 := k5 0
    have z3 := k5 3
    have z4 := k5 4
    clear k5
    have x0 : w.cell? ⟨b, 0, none⟩ = some (.int .i64 3) := k0
    clear k0
    clear HP HF HI HE HH h0 k3 k4
    go_enter Tryd.func16, Tryd.ntmps16
    go_wp2_with fail
    refine (unhide HX).mono ?_
    rintro e w1 ⟨rfl, h1, b1⟩
    have HS9 := hide h1
    have HB9 := hide b1
    clear h1 b1 HX
    go_wp2
    go_end0
    exact ⟨rfl, unhide HS9, unhide HB9⟩
  · obtain ⟨wa, wc, sa, sc, k0, -, -, k3, k4, k5, -, -, -⟩ := (unhide HS).cells
    rw [h0] at k0
    have z0 := k5 0
    have z3 := k5 3
    have z4 := k5 4
    clear k5
    have x0 : w.cell? ⟨b, 0, none⟩ = some (.int .i64 4) := k0
    clear k0
    clear HP HF HI HE HX
    by_cases hneg : D < 0
    · have e : nextR c s = { s with dig := D, inn := 5, bad := true } := by
        unfold nextR
        rw [if_neg (by omega), if_neg (by omega), if_neg (by omega), if_neg (by omega), if_pos h0]
        rw [unhide HD, decide_eq_true hneg, Bool.or_true]
      rw [e]
      clear e
      have f1 : decide (D < 0) = true := decide_eq_true hneg
      obtain ⟨q1, q2⟩ := (unhide HS).put (s' := { s with dig := D }) 3 (.int .i64 D) rfl rfl (fun _ _ => rfl) (hxb)
      obtain ⟨w1, hww1⟩ : ∃ x, w.setCell ⟨b, 3, none⟩ (.int .i64 D) = x := ⟨_, rfl⟩
      rw [hww1] at q1 q2
      obtain ⟨s1, hs1⟩ : ∃ x, ({ s with dig := D } : RS) = x := ⟨_, rfl⟩
      rw [hs1] at q1
      have HSs1 := hide q1
      have HBs1 := hide q2
      have Hs1 := hide hs1
      clear q1 q2 hs1
      obtain ⟨q1, q2⟩ := (unhide HSs1).put (s' := { s1 with inn := 5 }) 0 (.int .i64 5) rfl rfl (fun _ _ => rfl) ((unhide HSs1).dg)
      obtain ⟨w2, hww2⟩ : ∃ x, w1.setCell ⟨b, 0, none⟩ (.int .i64 5) = x := ⟨_, rfl⟩
      rw [hww2] at q1 q2
      obtain ⟨s2, hs2⟩ : ∃ x, ({ s1 with inn := 5 } : RS) = x := ⟨_, rfl⟩
      rw [hs2] at q1
      have HSs2 := hide q1
      have HBs2 := hide q2
      have Hs2 := hide hs2
      clear q1 q2 hs2
      obtain ⟨q1, q2⟩ := (unhide HSs2).put (s' := { s2 with bad := true }) 4 (.bool true) rfl rfl (fun _ _ => rfl) ((unhide HSs2).dg)
      have HS9 := hide q1
      have HB9 := hide q2
      clear q1 q2
      rw [← hww2, ← hww1] at HS9 HB9
      have HB8 := hide ((unhide HBs1).trans (unhide HBs2))
      rw [← hww2, ← hww1] at HB8
      rw [← unhide Hs2, ← unhide Hs1] at HS9
      clear hww1 hww2 HSs1 HSs2 HBs1 HBs2 hneg h0 hxb
      go_enter Tryd.func16, Tryd.ntmps16
      go_wp2_with fail
      refine (unhide HH).mono ?_
      rintro e w9 ⟨rfl, hw⟩
      obtain rfl : w = w9 := hw.symm
      clear hw HH
      go_wp2
      go_end0
      exact ⟨rfl, unhide HS9, (unhide HB8).trans (unhide HB9)⟩
    · have e : nextR c s = { s with dig := D, inn := 5 } := by
        unfold nextR
        rw [if_neg (by omega), if_neg (by omega), if_neg (by omega), if_neg (by omega), if_pos h0]
        rw [unhide HD, decide_eq_false hneg, Bool.or_false]
      rw [e]
      clear e
      have f1 : decide (D < 0) = false := decide_eq_false hneg
      obtain ⟨q1, q2⟩ := (unhide HS).put (s' := { s with dig := D }) 3 (.int .i64 D) rfl rfl (fun _ _ => rfl) (hxb)
      obtain ⟨w1, hww1⟩ : ∃ x, w.setCell ⟨b, 3, none⟩ (.int .i64 D) = x := ⟨_, rfl⟩
      rw [hww1] at q1 q2
      obtain ⟨s1, hs1⟩ : ∃ x, ({ s with dig := D } : RS) = x := ⟨_, rfl⟩
      rw [hs1] at q1
      have HSs1 := hide q1
      have HBs1 := hide q2
      have Hs1 := hide hs1
      clear q1 q2 hs1
      obtain ⟨q1, q2⟩ := (unhide HSs1).put (s' := { s1 with inn := 5 }) 0 (.int .i64 5) rfl rfl (fun _ _ => rfl) ((unhide HSs1).dg)
      have HS9 := hide q1
      have HB9 := hide q2
      clear q1 q2
      rw [← hww1] at HS9 HB9
      have HB8 := hide (unhide HBs1)
      rw [← hww1] at HB8
      rw [← unhide Hs1] at HS9
      clear hww1 HSs1 HBs1 hneg h0 k4 hxb
      go_enter Tryd.func16, Tryd.ntmps16
      go_wp2_with fail
      refine (unhide HH).mono ?_
      rintro e w9 ⟨rfl, hw⟩
      obtain rfl : w = w9 := hw.symm
      clear hw HH
      go_wp2
      go_end0
      exact ⟨rfl, unhide HS9, (unhide HB8).trans (unhide HB9)⟩
  · obtain ⟨wa, wc, sa, sc, k0, -, -, k3, k4, k5, -, -, -⟩ := (unhide HS).cells
    rw [h0] at k0
    have z0 := k5 0
    have z3 := k5 3
    have z4 := k5 4
    clear k5
    have x0 : w.cell? ⟨b, 0, none⟩ = some (.int .i64 5) := k0
    clear k0
    clear HP HF HI HE HX
    have hd5 := h5 h0
    by_cases hneg : D < 0
    · have e : nextR c s = { s with bad := true, inn := 2 } := by
        unfold nextR
        rw [if_neg (by omega), if_neg (by omega), if_neg (by omega), if_neg (by omega), if_neg (by omega), if_pos h0]
        rw [unhide HD, if_pos hneg]
      rw [e]
      clear e
      have f1 : decide (D < 0) = true := decide_eq_true hneg
      obtain ⟨q1, q2⟩ := (unhide HS).put (s' := { s with bad := true }) 4 (.bool true) rfl rfl (fun _ _ => rfl) ((unhide HS).dg)
      obtain ⟨w1, hww1⟩ : ∃ x, w.setCell ⟨b, 4, none⟩ (.bool true) = x := ⟨_, rfl⟩
      rw [hww1] at q1 q2
      obtain ⟨s1, hs1⟩ : ∃ x, ({ s with bad := true } : RS) = x := ⟨_, rfl⟩
      rw [hs1] at q1
      have HSs1 := hide q1
      have HBs1 := hide q2
      have Hs1 := hide hs1
      clear q1 q2 hs1
      obtain ⟨q1, q2⟩ := (unhide HSs1).put (s' := { s1 with inn := 2 }) 0 (.int .i64 2) rfl rfl (fun _ _ => rfl) ((unhide HSs1).dg)
      have HS9 := hide q1
      have HB9 := hide q2
      clear q1 q2
      rw [← hww1] at HS9 HB9
      have HB8 := hide (unhide HBs1)
      rw [← hww1] at HB8
      rw [← unhide Hs1] at HS9
      clear hww1 HSs1 HBs1 hneg h0 k3 hxb hd5 h5
      go_enter Tryd.func16, Tryd.ntmps16
      go_wp2_with fail
      refine (unhide HH).mono ?_
      rintro e w9 ⟨rfl, hw⟩
      obtain rfl : w = w9 := hw.symm
      clear hw HH
      go_wp2
      go_end0
      exact ⟨rfl, unhide HS9, (unhide HB8).trans (unhide HB9)⟩
    · have f1 : decide (D < 0) = false := decide_eq_false hneg
      obtain ⟨en, hen⟩ : ∃ n : Nat, D = (n : Int) := ⟨D.toNat, by omega⟩
      obtain ⟨dn, hdn⟩ : ∃ n : Nat, s.dig = (n : Int) := ⟨s.dig.toNat, by omega⟩
      have hsd := (unhide HS).dg
      rw [hdn] at hsd k3
      subst hen
      obtain ⟨N, hN⟩ : ∃ n : Nat, n = 16 * dn + en := ⟨_, rfl⟩
      have hN2 : N < 256 := by omega
      have HNe := hide (show (16 * s.dig + hexv c).toNat % 256 = N by rw [hdn, unhide HD]; omega)
      have e1 : (16 : Int) * (dn : Int) + (en : Int) = (N : Int) := by omega
      have i1 : IntKind.i64.wrap (16 * (dn : Int)) = 16 * (dn : Int) := by rw [IntKind.wrap_i64]; omega
      have i2 : IntKind.i64.wrap (16 * (dn : Int) + (en : Int)) = (N : Int) := by rw [e1, IntKind.wrap_i64]; omega
      have i3 : IntKind.u8.wrap (N : Int) = (N : Int) := wrap8 hN2
      have HN2 := hide hN2
      have HI2 := hide i2
      have HI1 := hide i1
      have HI3 := hide i3
      have e : nextR c s = { s with word := s.word ++ [N], inn := 2 } := by
        unfold nextR
        rw [if_neg (by omega), if_neg (by omega), if_neg (by omega), if_neg (by omega), if_neg (by omega), if_pos h0]
        rw [if_neg (by rw [unhide HD]; omega), unhide HNe]
      rw [e]
      clear e
      have X0 := hide x0
      have HDn := hide hdn
      clear hneg hdn hN hN2 e1 i1 i2 i3 h0 hxb hd5 h5 hsd x0 z0 z3 z4 k3 k4
      have x0 := unhide X0
      go_enter Tryd.func16, Tryd.ntmps16
      go_wp2_with fail
      refine (unhide HH).mono ?_
      rintro e w9 ⟨rfl, hw⟩
      obtain rfl : w = w9 := hw.symm
      clear hw HH
      go_upto_region 21 with fail
      have hdr : Below w.heap.size w w.drew := below_drewN (Below.refl _ _) 1
      have hS := (unhide HS).up hdr
      have HB0 := hide (Below.mono hdr (show b ≤ w.heap.size by have := (unhide HS).lt; omega))
      refine wp_region_any (by kernel_rfl) ?_
      try (change wpAny _ _ _ _ _ _ _ (World.drew _))
      obtain ⟨wd, hwd⟩ : ∃ x, w.drew = x := ⟨_, rfl⟩
      rw [hwd] at hS HB0 ⊢
      clear hwd hdr x0 X0
      obtain ⟨wa, wc, sa, sc, -, -, -, -, -, -, x6, x7, x8⟩ := hS.cells
      refine wpAny_of_Z (z := 17) (T := fun w' => w'.heap[b]? = some (.cells (srA s (.slice wa s.word.length wc) (.slice sa s.words.length sc)) 43 (0, 0))) _ _ _ _ ?_
      have hT : (fun w' : World => w'.heap[b]? = some (.cells (srA s (.slice wa s.word.length wc) (.slice sa s.words.length sc)) 43 (0, 0))) wd := x8
      refine wpAnyZ_tk 0 (.pointer (some ⟨b, 0, none⟩)) 67 rfl rfl (Or.inl ⟨by rfl, fun w' hw => by obtain ⟨t0, t1, t2, t3, t4⟩ := sr_cells hw; rw [unhide HDn] at t3; go_simp⟩) hT ?_
      simp only [Act.put, List.setIfInBounds_toArray, List.set_cons_zero, List.set_cons_succ]
      refine wpAnyZ_tk 1 (.pointer (some ⟨b, 0, none⟩)) 68 rfl rfl (Or.inl ⟨by rfl, fun w' hw => by obtain ⟨t0, t1, t2, t3, t4⟩ := sr_cells hw; rw [unhide HDn] at t3; go_simp⟩) hT ?_
      simp only [Act.put, List.setIfInBounds_toArray, List.set_cons_zero, List.set_cons_succ]
      refine wpAnyZ_tk 2 (.pointer (some ⟨b, 0, none⟩)) 69 rfl rfl (Or.inl ⟨by rfl, fun w' hw => by obtain ⟨t0, t1, t2, t3, t4⟩ := sr_cells hw; rw [unhide HDn] at t3; go_simp⟩) hT ?_
      simp only [Act.put, List.setIfInBounds_toArray, List.set_cons_zero, List.set_cons_succ]
      refine wpAnyZ_tk 3 (.pointer (some ⟨b, 1, none⟩)) 70 rfl rfl (Or.inl ⟨by rfl, fun w' hw => by obtain ⟨t0, t1, t2, t3, t4⟩ := sr_cells hw; rw [unhide HDn] at t3; go_simp⟩) hT ?_
      simp only [Act.put, List.setIfInBounds_toArray, List.set_cons_zero, List.set_cons_succ]
      refine wpAnyZ_tk 4 (.slice wa s.word.length wc) 71 rfl rfl (Or.inl ⟨by rfl, fun w' hw => by obtain ⟨t0, t1, t2, t3, t4⟩ := sr_cells hw; rw [unhide HDn] at t3; go_simp⟩) hT ?_
      simp only [Act.put, List.setIfInBounds_toArray, List.set_cons_zero, List.set_cons_succ]
      refine wpAnyZ_tk 5 (.pointer (some ⟨b, 0, none⟩)) 72 rfl rfl (Or.inl ⟨by rfl, fun w' hw => by obtain ⟨t0, t1, t2, t3, t4⟩ := sr_cells hw; rw [unhide HDn] at t3; go_simp⟩) hT ?_
      simp only [Act.put, List.setIfInBounds_toArray, List.set_cons_zero, List.set_cons_succ]
      refine wpAnyZ_tk 6 (.pointer (some ⟨b, 0, none⟩)) 73 rfl rfl (Or.inl ⟨by rfl, fun w' hw => by obtain ⟨t0, t1, t2, t3, t4⟩ := sr_cells hw; rw [unhide HDn] at t3; go_simp⟩) hT ?_
      simp only [Act.put, List.setIfInBounds_toArray, List.set_cons_zero, List.set_cons_succ]
      refine wpAnyZ_tk 7 (.pointer (some ⟨b, 3, none⟩)) 74 rfl rfl (Or.inl ⟨by rfl, fun w' hw => by obtain ⟨t0, t1, t2, t3, t4⟩ := sr_cells hw; rw [unhide HDn] at t3; go_simp⟩) hT ?_
      simp only [Act.put, List.setIfInBounds_toArray, List.set_cons_zero, List.set_cons_succ]
      refine wpAnyZ_tk 8 (.int .i64 (dn : Int)) 75 rfl rfl (Or.inl ⟨by rfl, fun w' hw => by obtain ⟨t0, t1, t2, t3, t4⟩ := sr_cells hw; rw [unhide HDn] at t3; go_simp⟩) hT ?_
      simp only [Act.put, List.setIfInBounds_toArray, List.set_cons_zero, List.set_cons_succ]
      refine wpAnyZ_tk 9 (.int .i64 (16 * (dn : Int))) 76 rfl rfl (Or.inl ⟨by rfl, fun w' hw => by obtain ⟨t0, t1, t2, t3, t4⟩ := sr_cells hw; rw [unhide HDn] at t3; have i1 := unhide HI1; go_simp⟩) hT ?_
      simp only [Act.put, List.setIfInBounds_toArray, List.set_cons_zero, List.set_cons_succ]
      refine wpAnyZ_tk 10 (.int .i64 (en : Int)) 77 rfl rfl (Or.inl ⟨by rfl, fun w' hw => by obtain ⟨t0, t1, t2, t3, t4⟩ := sr_cells hw; rw [unhide HDn] at t3; go_simp⟩) hT ?_
      simp only [Act.put, List.setIfInBounds_toArray, List.set_cons_zero, List.set_cons_succ]
      refine wpAnyZ_tk 11 (.int .i64 (N : Int)) 78 rfl rfl (Or.inl ⟨by rfl, fun w' hw => by obtain ⟨t0, t1, t2, t3, t4⟩ := sr_cells hw; rw [unhide HDn] at t3; have i2 := unhide HI2; go_simp⟩) hT ?_
      simp only [Act.put, List.setIfInBounds_toArray, List.set_cons_zero, List.set_cons_succ]
      refine wpAnyZ_tk 12 (.int .u8 (N : Int)) 79 rfl rfl (Or.inl ⟨by rfl, fun w' hw => by obtain ⟨t0, t1, t2, t3, t4⟩ := sr_cells hw; rw [unhide HDn] at t3; have i3 := unhide HI3; go_simp⟩) hT ?_
      simp only [Act.put, List.setIfInBounds_toArray, List.set_cons_zero, List.set_cons_succ]
      obtain ⟨wy, hwy⟩ : ∃ x, wd.alloc (.cells #[.int .u8 (N : Int)] 5) = x := ⟨_, rfl⟩
      have hbn : Below wd.heap.size wd wy := by rw [← hwy]; exact (Below.refl _ _).alloc (Nat.le_refl _) _
      have hS2 := hS.up hbn
      have y6 := own_up x6 hbn
      have y7 := own_up x7 hbn
      have hlt := (Array.getElem?_eq_some_iff.1 x8).1
      have y8 := (hbn.block b hlt).trans x8
      have HB1 := hide ((unhide HB0).trans (Below.mono hbn (show b ≤ wd.heap.size by omega)))
      have hnw : ∀ j u, [Value.int .u8 (N : Int)][j]? = some u → wy.cell? ((⟨wd.heap.size, 0, none⟩ : Addr).add j) = some u := by rw [← hwy]; exact cells_new _ _ _
      have hsy : b + 1 ≤ wy.heap.size := by have := hbn.size; omega
      refine wpAnyZ_one 13 (by kernel_rfl) rfl (fun K hK => ?_)
      go_simp
      refine hK _ _ ⟨fun _ => y8, ?_⟩
      clear hK K hwy hbn hS x6 x7 x8 hT
      refine wpAnyZ_one 14 (by kernel_rfl) rfl (fun K hK => ?_)
      refine step_app_own 81 rfl rfl (.tmp 71) (.tmp 80) 30 rfl (b + 1) 5 i0 (.int .u8 0) 1 1 Tryd.underlying30 hi hz0 hz1 hz2 rfl (by decide) (.slice wa s.word.length wc) s.word.length _ (by first | rfl | simp [Act.eval]) y6 ⟨wd.heap.size, 0, none⟩ 1 1 [.int .u8 (N : Int)] (by first | rfl | simp [Act.eval]) rfl hnw (by simp [Value.oneCell']) (by have := unhide Hn; unfold maxLen; omega) (by have := unhide Hn; omega) hsy ?_
      intro v' w2 ho hg _
      obtain ⟨a4, c4, rfl⟩ := own_form ho
      obtain ⟨q1, q2, q3, q4⟩ := Sr.push hS2 y8 y6 y7 hg ho (unhide HN2)
      have hk2 : w2.heap[b]? = some (.cells (srA s (.slice wa s.word.length wc) (.slice sa s.words.length sc)) 43 (0, 0)) := (hg.block b (by omega) (fun e => by have := (World.ownsRow.lt y6 b e.symm).1; omega)).trans y8
      refine hK _ _ ⟨fun _ => hk2, ?_⟩
      clear hK K
      simp only [Act.put, List.setIfInBounds_toArray, List.set_cons_zero, List.set_cons_succ]
      refine wpAnyZ_one 15 (by kernel_rfl) rfl (fun K hK => ?_)
      go_simp
      refine hK _ _ ⟨fun _ => hk2, ?_⟩
      clear hK K
      refine wpAnyZ_one 16 (by kernel_rfl) rfl (fun K hK => ?_)
      go_simp
      refine hK _ _ ⟨fun _ => hk2, ?_⟩
      clear hK K
      refine wpAnyZ_one 17 (by kernel_rfl) rfl (fun K hK => ?_)
      go_simp
      refine hK _ _ ⟨fun q => absurd rfl q, ?_⟩
      clear hK K
      refine wpAnyZ_done (by kernel_rfl) ?_
      have HS3 := hide q1
      have HB3 := hide ((unhide HB1).trans q2)
      clear q1 q2 q3 q4 hS2 y6 y7 y8 hnw hk2 ho hg hsy hlt
      obtain ⟨w3, hw3⟩ : ∃ x, w2.setCell ⟨b, 1, none⟩ (.slice a4 (s.word.length + 1) c4) = x := ⟨_, rfl⟩
      rw [hw3] at HS3 HB3 ⊢
      clear hw3
      obtain ⟨wa', wc', sa', sc', k0', k1', k2', k3', k4', k5', -, -, -⟩ := (unhide HS3).cells
      have z0' := k5' 0
      clear k1' k2' k3' k4' k5'
      obtain ⟨q1, q2⟩ := (unhide HS3).put (s' := { s with word := s.word ++ [N], inn := 2 }) 0 (.int .i64 2) rfl rfl (fun _ _ => rfl) ((unhide HS3).dg)
      have HS9 := hide q1
      have HB9 := hide q2
      clear q1 q2
      go_wp2
      go_end0
      exact ⟨rfl, unhide HS9, (unhide HB3).trans (unhide HB9)⟩
  · obtain ⟨wa, wc, sa, sc, k0, -, -, k3, k4, k5, -, -, -⟩ := (unhide HS).cells
    rw [h0] at k0
    have z0 := k5 0
    have z3 := k5 3
    have z4 := k5 4
    clear k5
    have x0 : w.cell? ⟨b, 0, none⟩ = some (.int .i64 6) := k0
    clear k0
    clear HP HF HI HE HX HH
    by_cases hb : blk c = true
    · have e : nextR c s = { s with inn := 0 } := by
        unfold nextR
        rw [if_neg (by omega), if_neg (by omega), if_neg (by omega), if_neg (by omega), if_neg (by omega), if_neg (by omega), if_pos h0]
        rw [hb]
        simp
      rw [e]
      clear e
      have hcc : c = 32 ∨ c = 9 := by unfold blk at hb; simpa using hb
      clear hb
      obtain ⟨q1, q2⟩ := (unhide HS).put (s' := { s with inn := 0 }) 0 (.int .i64 0) rfl rfl (fun _ _ => rfl) ((unhide HS).dg)
      have HS9 := hide q1
      have HB9 := hide q2
      clear q1 q2
      clear h0
      rcases hcc with rfl | rfl
      · go_enter Tryd.func16, Tryd.ntmps16
        go_wp2
        go_end0
        exact ⟨rfl, unhide HS9, unhide HB9⟩
      · go_enter Tryd.func16, Tryd.ntmps16
        go_wp2
        go_end0
        exact ⟨rfl, unhide HS9, unhide HB9⟩
    · have e : nextR c s = { s with bad := true, inn := 0 } := by
        unfold nextR
        rw [if_neg (by omega), if_neg (by omega), if_neg (by omega), if_neg (by omega), if_neg (by omega), if_neg (by omega), if_pos h0]
        rw [Bool.eq_false_iff.2 hb]
        simp
      rw [e]
      clear e
      have g : c ≠ 32 ∧ c ≠ 9 := by unfold blk at hb; simpa using hb
      obtain ⟨g1, g2⟩ := g
      have n32 : ((c : Int) != 32) = true := by simp; omega
      have n9 : ((c : Int) != 9) = true := by simp; omega
      obtain ⟨q1, q2⟩ := (unhide HS).put (s' := { s with bad := true }) 4 (.bool true) rfl rfl (fun _ _ => rfl) ((unhide HS).dg)
      obtain ⟨w1, hww1⟩ : ∃ x, w.setCell ⟨b, 4, none⟩ (.bool true) = x := ⟨_, rfl⟩
      rw [hww1] at q1 q2
      obtain ⟨s1, hs1⟩ : ∃ x, ({ s with bad := true } : RS) = x := ⟨_, rfl⟩
      rw [hs1] at q1
      have HSs1 := hide q1
      have HBs1 := hide q2
      have Hs1 := hide hs1
      clear q1 q2 hs1
      obtain ⟨q1, q2⟩ := (unhide HSs1).put (s' := { s1 with inn := 0 }) 0 (.int .i64 0) rfl rfl (fun _ _ => rfl) ((unhide HSs1).dg)
      have HS9 := hide q1
      have HB9 := hide q2
      clear q1 q2
      rw [← hww1] at HS9 HB9
      have HB8 := hide (unhide HBs1)
      rw [← hww1] at HB8
      rw [← unhide Hs1] at HS9
      clear hww1 HSs1 HBs1 hb g1 g2 h0 k3
      go_enter Tryd.func16, Tryd.ntmps16
      go_wp2
      go_end0
      exact ⟨rfl, unhide HS9, (unhide HB8).trans (unhide HB9)⟩
  · obtain ⟨wa, wc, sa, sc, x0, -, -, -, -, -, -, -, -⟩ := (unhide HS).cells
    clear HP HF HI HE HX HH
    obtain ⟨m, hm⟩ : ∃ m : Nat, s.inn = m := ⟨_, rfl⟩
    rw [hm] at x0 h0
    have n0 : ((m : Int) == 0) = false := beq_false_of_ne (by omega)
    have n1 : ((m : Int) == 1) = false := beq_false_of_ne (by omega)
    have n2 : ((m : Int) == 2) = false := beq_false_of_ne (by omega)
    have n3 : ((m : Int) == 3) = false := beq_false_of_ne (by omega)
    have n4 : ((m : Int) == 4) = false := beq_false_of_ne (by omega)
    have n5 : ((m : Int) == 5) = false := beq_false_of_ne (by omega)
    have n6 : ((m : Int) == 6) = false := beq_false_of_ne (by omega)
    have e : nextR c s = s := by
      unfold nextR
      rw [hm, if_neg (by omega), if_neg (by omega), if_neg (by omega), if_neg (by omega), if_neg (by omega), if_neg (by omega), if_neg (by omega)]
    rw [e]
    clear e hm h0
    go_enter Tryd.func16, Tryd.ntmps16
    go_wp2
    go_end0
    exact ⟨rfl, unhide HS, Below.refl _ _⟩
end Go.Proofs.YtadmamfekodkaaaDoor
