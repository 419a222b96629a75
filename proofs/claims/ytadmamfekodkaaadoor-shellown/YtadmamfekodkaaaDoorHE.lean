import Derived.Test.YtadmamfekodkaaaDoorHD

namespace Go.Proofs.YtadmamfekodkaaaDoor
open Go.RowKit
attribute [local go_sem ↓] Go.wp_at_zero Go.wp_at_succ

set_option maxRecDepth 100000 in
theorem xhex_any (w : World) {c : Nat} (hc : c < 256) : Calls Tryd.prog 31 #[.int .u8 (c : Int)] w fun e w' => e = .returned (.int .i64 (hexv c)) ∧ w' = w := by
  unfold hexv
  rcases (by omega : (0 ≤ c ∧ c ≤ 47) ∨ (48 ≤ c ∧ c ≤ 57) ∨ (58 ≤ c ∧ c ≤ 64) ∨ (65 ≤ c ∧ c ≤ 70) ∨ (71 ≤ c ∧ c ≤ 96) ∨ (97 ≤ c ∧ c ≤ 102) ∨ (103 ≤ c ∧ c ≤ 255)) with ⟨h1, h2⟩ | ⟨h1, h2⟩ | ⟨h1, h2⟩ | ⟨h1, h2⟩ | ⟨h1, h2⟩ | ⟨h1, h2⟩ | ⟨h1, h2⟩
  · rw [if_neg (by omega), if_neg (by omega), if_neg (by omega)]
    have f1 : decide ((48 : Int) ≤ (c : Int)) = false := by simp; omega
    have f2 : decide ((c : Int) ≤ 57) = true := by simp; omega
    have f3 : decide ((97 : Int) ≤ (c : Int)) = false := by simp; omega
    have f4 : decide ((c : Int) ≤ 102) = true := by simp; omega
    have f5 : decide ((65 : Int) ≤ (c : Int)) = false := by simp; omega
    have f6 : decide ((c : Int) ≤ 70) = true := by simp; omega
    go_enter Tryd.func31, Tryd.ntmps31
    go_wp2
    go_ret
    exact ⟨rfl, rfl⟩
  · rw [if_pos (by omega)]
    have f1 : decide ((48 : Int) ≤ (c : Int)) = true := by simp; omega
    have f2 : decide ((c : Int) ≤ 57) = true := by simp; omega
    have f3 : decide ((97 : Int) ≤ (c : Int)) = false := by simp; omega
    have f4 : decide ((c : Int) ≤ 102) = true := by simp; omega
    have f5 : decide ((65 : Int) ≤ (c : Int)) = false := by simp; omega
    have f6 : decide ((c : Int) ≤ 70) = true := by simp; omega
    go_enter Tryd.func31, Tryd.ntmps31
    go_wp2
    go_ret
    exact ⟨rfl, rfl⟩
  · rw [if_neg (by omega), if_neg (by omega), if_neg (by omega)]
    have f1 : decide ((48 : Int) ≤ (c : Int)) = true := by simp; omega
    have f2 : decide ((c : Int) ≤ 57) = false := by simp; omega
    have f3 : decide ((97 : Int) ≤ (c : Int)) = false := by simp; omega
    have f4 : decide ((c : Int) ≤ 102) = true := by simp; omega
    have f5 : decide ((65 : Int) ≤ (c : Int)) = false := by simp; omega
    have f6 : decide ((c : Int) ≤ 70) = true := by simp; omega
    go_enter Tryd.func31, Tryd.ntmps31
    go_wp2
    go_ret
    exact ⟨rfl, rfl⟩
  · rw [if_neg (by omega), if_neg (by omega), if_pos (by omega)]
    have f1 : decide ((48 : Int) ≤ (c : Int)) = true := by simp; omega
    have f2 : decide ((c : Int) ≤ 57) = false := by simp; omega
    have f3 : decide ((97 : Int) ≤ (c : Int)) = false := by simp; omega
    have f4 : decide ((c : Int) ≤ 102) = true := by simp; omega
    have f5 : decide ((65 : Int) ≤ (c : Int)) = true := by simp; omega
    have f6 : decide ((c : Int) ≤ 70) = true := by simp; omega
    go_enter Tryd.func31, Tryd.ntmps31
    go_wp2
    go_ret
    exact ⟨rfl, rfl⟩
  · rw [if_neg (by omega), if_neg (by omega), if_neg (by omega)]
    have f1 : decide ((48 : Int) ≤ (c : Int)) = true := by simp; omega
    have f2 : decide ((c : Int) ≤ 57) = false := by simp; omega
    have f3 : decide ((97 : Int) ≤ (c : Int)) = false := by simp; omega
    have f4 : decide ((c : Int) ≤ 102) = true := by simp; omega
    have f5 : decide ((65 : Int) ≤ (c : Int)) = true := by simp; omega
    have f6 : decide ((c : Int) ≤ 70) = false := by simp; omega
    go_enter Tryd.func31, Tryd.ntmps31
    go_wp2
    go_ret
    exact ⟨rfl, rfl⟩
  · rw [if_neg (by omega), if_pos (by omega)]
    have f1 : decide ((48 : Int) ≤ (c : Int)) = true := by simp; omega
    have f2 : decide ((c : Int) ≤ 57) = false := by simp; omega
    have f3 : decide ((97 : Int) ≤ (c : Int)) = true := by simp; omega
    have f4 : decide ((c : Int) ≤ 102) = true := by simp; omega
    have f5 : decide ((65 : Int) ≤ (c : Int)) = true := by simp; omega
    have f6 : decide ((c : Int) ≤ 70) = false := by simp; omega
    go_enter Tryd.func31, Tryd.ntmps31
    go_wp2
    go_ret
    exact ⟨rfl, rfl⟩
  · rw [if_neg (by omega), if_neg (by omega), if_neg (by omega)]
    have f1 : decide ((48 : Int) ≤ (c : Int)) = true := by simp; omega
    have f2 : decide ((c : Int) ≤ 57) = false := by simp; omega
    have f3 : decide ((97 : Int) ≤ (c : Int)) = true := by simp; omega
    have f4 : decide ((c : Int) ≤ 102) = false := by simp; omega
    have f5 : decide ((65 : Int) ≤ (c : Int)) = true := by simp; omega
    have f6 : decide ((c : Int) ≤ 70) = false := by simp; omega
    go_enter Tryd.func31, Tryd.ntmps31
    go_wp2
    go_ret
    exact ⟨rfl, rfl⟩
set_option maxRecDepth 100000 in
set_option maxHeartbeats 2000000 in
theorem zfirst_any {b : Nat} {s : RS} {w : World} (h : Sr b s w) (hn : s.word.length ≤ 100000) {c : Nat} (hc : c < 256) : Calls Tryd.prog 27 #[.pointer (some ⟨b, 0, none⟩), .int .u8 (c : Int)] w (SrQ b (firstR c s) w) := by
  have HS := hide h
  have Hn := hide hn
  have Hc := hide hc
  clear h hn hc
  rcases (by omega : c = 32 ∨ c = 9 ∨ c = 35 ∨ c = 34 ∨ (c ≠ 32 ∧ c ≠ 9 ∧ c ≠ 35 ∧ c ≠ 34)) with rfl | rfl | rfl | rfl | ⟨g1, g2, g3, g4⟩
  · have e : firstR 32 s = { s with inn := 0 } := rfl
    rw [e]
    clear e
    obtain ⟨wa, wc, sa, sc, k0, k1, k2, k3, k4, k5, -, -, -⟩ := (unhide HS).cells
    have z0 := k5 0
    clear k1 k2 k3 k4 k5
    obtain ⟨q1, q2⟩ := (unhide HS).put (s' := { s with inn := 0 }) 0 (.int .i64 0) rfl rfl (fun _ _ => rfl) ((unhide HS).dg)
    have HS9 := hide q1
    have HB9 := hide q2
    clear q1 q2
    go_enter Tryd.func27, Tryd.ntmps27
    go_wp2
    go_end0
    exact ⟨rfl, unhide HS9, unhide HB9⟩
  · have e : firstR 9 s = { s with inn := 0 } := rfl
    rw [e]
    clear e
    obtain ⟨wa, wc, sa, sc, k0, k1, k2, k3, k4, k5, -, -, -⟩ := (unhide HS).cells
    have z0 := k5 0
    clear k1 k2 k3 k4 k5
    obtain ⟨q1, q2⟩ := (unhide HS).put (s' := { s with inn := 0 }) 0 (.int .i64 0) rfl rfl (fun _ _ => rfl) ((unhide HS).dg)
    have HS9 := hide q1
    have HB9 := hide q2
    clear q1 q2
    go_enter Tryd.func27, Tryd.ntmps27
    go_wp2
    go_end0
    exact ⟨rfl, unhide HS9, unhide HB9⟩
  · have e : firstR 35 s = { s with inn := 7 } := rfl
    rw [e]
    clear e
    obtain ⟨wa, wc, sa, sc, k0, k1, k2, k3, k4, k5, -, -, -⟩ := (unhide HS).cells
    have z0 := k5 0
    clear k1 k2 k3 k4 k5
    obtain ⟨q1, q2⟩ := (unhide HS).put (s' := { s with inn := 7 }) 0 (.int .i64 7) rfl rfl (fun _ _ => rfl) ((unhide HS).dg)
    have HS9 := hide q1
    have HB9 := hide q2
    clear q1 q2
    go_enter Tryd.func27, Tryd.ntmps27
    go_wp2
    go_end0
    exact ⟨rfl, unhide HS9, unhide HB9⟩
  · have e : firstR 34 s = { s with inn := 2 } := rfl
    rw [e]
    clear e
    obtain ⟨wa, wc, sa, sc, k0, k1, k2, k3, k4, k5, -, -, -⟩ := (unhide HS).cells
    have z0 := k5 0
    clear k1 k2 k3 k4 k5
    obtain ⟨q1, q2⟩ := (unhide HS).put (s' := { s with inn := 2 }) 0 (.int .i64 2) rfl rfl (fun _ _ => rfl) ((unhide HS).dg)
    have HS9 := hide q1
    have HB9 := hide q2
    clear q1 q2
    go_enter Tryd.func27, Tryd.ntmps27
    go_wp2
    go_end0
    exact ⟨rfl, unhide HS9, unhide HB9⟩
  · have n32 : ((c : Int) == 32) = false := beq_false_of_ne (by omega)
    have n9 : ((c : Int) == 9) = false := beq_false_of_ne (by omega)
    have n35 : ((c : Int) == 35) = false := beq_false_of_ne (by omega)
    have n34 : ((c : Int) == 34) = false := beq_false_of_ne (by omega)
    have e : firstR c s = plainR c { s with inn := 1 } := by
      unfold firstR blk
      simp [g1, g2, g3, g4]
    rw [e]
    clear e g1 g2 g3 g4
    obtain ⟨wa, wc, sa, sc, k0, k1, k2, k3, k4, k5, -, -, -⟩ := (unhide HS).cells
    have z0 := k5 0
    clear k1 k2 k3 k4 k5
    obtain ⟨q1, q2⟩ := (unhide HS).put (s' := { s with inn := 1 }) 0 (.int .i64 1) rfl rfl (fun _ _ => rfl) ((unhide HS).dg)
    obtain ⟨w1, hww1⟩ : ∃ x, w.setCell ⟨b, 0, none⟩ (.int .i64 1) = x := ⟨_, rfl⟩
    rw [hww1] at q1 q2
    obtain ⟨s1, hs1⟩ : ∃ x, ({ s with inn := 1 } : RS) = x := ⟨_, rfl⟩
    rw [hs1] at q1
    have HSs1 := hide q1
    have HBs1 := hide q2
    have Hs1 := hide hs1
    clear q1 q2 hs1
    have HP := hide (zplain_any (unhide HSs1) (by rw [← unhide Hs1]; exact unhide Hn) (unhide Hc))
    rw [unhide Hs1]
    go_enter Tryd.func27, Tryd.ntmps27
    go_wp2_with fail
    refine (unhide HP).mono ?_
    rintro e w2 ⟨rfl, h2, b2⟩
    have HS9 := hide h2
    have HB9 := hide ((unhide HBs1).trans b2)
    clear h2 b2 HP
    go_wp2
    go_end0
    exact ⟨rfl, unhide HS9, unhide HB9⟩
set_option maxRecDepth 100000 in
set_option maxHeartbeats 2000000 in
theorem zinside_any {b : Nat} {s : RS} {w : World} (h : Sr b s w) (hn : s.word.length ≤ 100000) (hn2 : s.words.length ≤ 100000) {c : Nat} (hc : c < 256) : Calls Tryd.prog 29 #[.pointer (some ⟨b, 0, none⟩), .int .u8 (c : Int)] w (SrQ b (insideR c s) w) := by
  obtain ⟨i0, hi, hz0, hz1, hz2⟩ := info_parts infoByteB
  have HS := hide h
  have Hn := hide hn
  have Hc := hide hc
  have HE := hide (zends_any h hn2)
  clear h hn hn2 hc
  rcases (by omega : c = 34 ∨ c = 92 ∨ c < 32 ∨ c = 127 ∨ (c ≠ 34 ∧ c ≠ 92 ∧ 32 ≤ c ∧ c ≠ 127)) with rfl | rfl | g1 | rfl | ⟨g1, g2, g3, g4⟩
  · have e : insideR 34 s = { endsR s with inn := 6 } := rfl
    rw [e]
    clear e
    go_enter Tryd.func29, Tryd.ntmps29
    go_wp2_with fail
    refine (unhide HE).mono ?_
    rintro e w1 ⟨rfl, h1, b1⟩
    have HS1 := hide h1
    have HB1 := hide b1
    clear h1 b1 HE
    obtain ⟨wa, wc, sa, sc, k0, k1, k2, k3, k4, k5, -, -, -⟩ := (unhide HS1).cells
    have z0 := k5 0
    clear k1 k2 k3 k4 k5
    obtain ⟨q1, q2⟩ := (unhide HS1).put (s' := { endsR s with inn := 6 }) 0 (.int .i64 6) rfl rfl (fun _ _ => rfl) ((unhide HS1).dg)
    have HS9 := hide q1
    have HB9 := hide q2
    clear q1 q2
    go_wp2
    go_end0
    exact ⟨rfl, unhide HS9, (unhide HB1).trans (unhide HB9)⟩
  · have e : insideR 92 s = { s with inn := 3 } := rfl
    rw [e]
    clear e
    obtain ⟨wa, wc, sa, sc, k0, k1, k2, k3, k4, k5, -, -, -⟩ := (unhide HS).cells
    have z0 := k5 0
    clear k1 k2 k3 k4 k5
    obtain ⟨q1, q2⟩ := (unhide HS).put (s' := { s with inn := 3 }) 0 (.int .i64 3) rfl rfl (fun _ _ => rfl) ((unhide HS).dg)
    have HS9 := hide q1
    have HB9 := hide q2
    clear q1 q2
    go_enter Tryd.func29, Tryd.ntmps29
    go_wp2
    go_end0
    exact ⟨rfl, unhide HS9, unhide HB9⟩
  · have n34 : ((c : Int) == 34) = false := beq_false_of_ne (by omega)
    have n92 : ((c : Int) == 92) = false := beq_false_of_ne (by omega)
    have f1 : decide ((c : Int) < 32) = true := by simp; omega
    have e : insideR c s = { s with bad := true } := by
      unfold insideR ctl
      rw [if_neg (by omega), if_neg (by omega), if_pos (by simp [g1])]
    rw [e]
    clear e g1
    obtain ⟨wa, wc, sa, sc, k0, k1, k2, k3, k4, k5, -, -, -⟩ := (unhide HS).cells
    have z4 := k5 4
    clear k0 k1 k2 k3 k5
    obtain ⟨q1, q2⟩ := (unhide HS).put (s' := { s with bad := true }) 4 (.bool true) rfl rfl (fun _ _ => rfl) ((unhide HS).dg)
    have HS9 := hide q1
    have HB9 := hide q2
    clear q1 q2
    go_enter Tryd.func29, Tryd.ntmps29
    go_wp2
    go_end0
    exact ⟨rfl, unhide HS9, unhide HB9⟩
  · have e : insideR 127 s = { s with bad := true } := rfl
    rw [e]
    clear e
    obtain ⟨wa, wc, sa, sc, k0, k1, k2, k3, k4, k5, -, -, -⟩ := (unhide HS).cells
    have z4 := k5 4
    clear k0 k1 k2 k3 k5
    obtain ⟨q1, q2⟩ := (unhide HS).put (s' := { s with bad := true }) 4 (.bool true) rfl rfl (fun _ _ => rfl) ((unhide HS).dg)
    have HS9 := hide q1
    have HB9 := hide q2
    clear q1 q2
    go_enter Tryd.func29, Tryd.ntmps29
    go_wp2
    go_end0
    exact ⟨rfl, unhide HS9, unhide HB9⟩
  · have n34 : ((c : Int) == 34) = false := beq_false_of_ne (by omega)
    have n92 : ((c : Int) == 92) = false := beq_false_of_ne (by omega)
    have n127 : ((c : Int) == 127) = false := beq_false_of_ne (by omega)
    have f1 : decide ((c : Int) < 32) = false := by simp; omega
    have e : insideR c s = { s with word := s.word ++ [c] } := by
      unfold insideR ctl
      rw [if_neg (by omega), if_neg (by omega), if_neg (by simp [g4]; omega)]
    rw [e]
    clear e g1 g2 g3 g4
    go_enter Tryd.func29, Tryd.ntmps29
    obtain ⟨wa, wc, sa, sc, x0, x1, x2, x3, x4, x5, x6, x7, x8⟩ := (unhide HS).cells
    have z1 := x5 1
    have hbn : Below w.heap.size w (w.alloc (.cells #[.int .u8 (c : Int)] 5)) := (Below.refl _ _).alloc (Nat.le_refl _) _
    have HSa := hide ((unhide HS).up hbn)
    have HO := hide (own_up x6 hbn)
    have HO2 := hide (own_up x7 hbn)
    have HSk := hide ((hbn.block b (Array.getElem?_eq_some_iff.1 x8).1).trans x8)
    have HBs := hide (show b + 1 ≤ (w.alloc (.cells #[.int .u8 (c : Int)] 5)).heap.size by rw [World.size_alloc]; have := (Array.getElem?_eq_some_iff.1 x8).1; omega)
    have HBn := hide (Below.mono hbn (show b ≤ w.heap.size by have := (Array.getElem?_eq_some_iff.1 x8).1; omega))
    have y1 : (w.alloc (.cells #[.int .u8 (c : Int)] 5)).cell? ⟨b, 1, none⟩ = some (.slice wa (s).word.length wc) := cell_of_row _ _ _ _ _ _ (unhide HSk)
    clear hbn x2 x3 x4 x5 x6 x7 x8
    go_wp2_with (at_builtin; refine wpList_append_own_at _ rfl _ _ 30 rfl (b + 1) 5 i0 (.int .u8 0) 1 1 Tryd.underlying30 hi hz0 hz1 hz2 rfl (by decide) _ _ _ rfl (unhide HO) ⟨w.heap.size, 0, none⟩ 1 1 [.int .u8 (c : Int)] rfl rfl (cells_one _ _ _) (by simp [Value.oneCell']) (by have := unhide Hn; unfold maxLen; omega) (by have := unhide Hn; omega) (unhide HBs) ?_; intro v' w2 ho hg2 _ _; obtain ⟨a4, c4, rfl⟩ := own_form ho; obtain ⟨h1, h2, h3, h4⟩ := Sr.push (unhide HSa) (unhide HSk) (unhide HO) (unhide HO2) hg2 ho (unhide Hc); have HS9 := hide h1; have HB9 := hide h2; clear ho hg2 h1 h2)
    go_end0
    exact ⟨rfl, unhide HS9, (unhide HBn).trans (unhide HB9)⟩
set_option maxRecDepth 100000 in
set_option maxHeartbeats 2000000 in
theorem zescaped_any {b : Nat} {s : RS} {w : World} (h : Sr b s w) (hn : s.word.length ≤ 100000) {c : Nat} (hc : c < 256) : Calls Tryd.prog 30 #[.pointer (some ⟨b, 0, none⟩), .int .u8 (c : Int)] w (SrQ b (escR c s) w) := by
  obtain ⟨i0, hi, hz0, hz1, hz2⟩ := info_parts infoByteB
  have HS := hide h
  have Hn0 := hide hn
  have Hc0 := hide hc
  clear h hn hc
  obtain ⟨wa, wc, sa, sc, k0, k1, k2, k3, k4, k5, -, -, -⟩ := (unhide HS).cells
  have z0 := k5 0
  clear k1 k2 k3 k4 k5
  obtain ⟨q1, q2⟩ := (unhide HS).put (s' := { s with inn := 2 }) 0 (.int .i64 2) rfl rfl (fun _ _ => rfl) ((unhide HS).dg)
  obtain ⟨w1, hww1⟩ : ∃ x, w.setCell ⟨b, 0, none⟩ (.int .i64 2) = x := ⟨_, rfl⟩
  rw [hww1] at q1 q2
  obtain ⟨s1, hs1⟩ : ∃ x, ({ s with inn := 2 } : RS) = x := ⟨_, rfl⟩
  rw [hs1] at q1
  have HSs1 := hide q1
  have HBs1 := hide q2
  have Hs1 := hide hs1
  clear q1 q2 hs1
  have Hn := hide (show s1.word.length ≤ 100000 by rw [← unhide Hs1]; exact unhide Hn0)
  rcases (by omega : c = 92 ∨ c = 34 ∨ c = 110 ∨ c = 116 ∨ c = 120 ∨ (c ≠ 92 ∧ c ≠ 34 ∧ c ≠ 110 ∧ c ≠ 116 ∧ c ≠ 120)) with rfl | rfl | rfl | rfl | rfl | ⟨g1, g2, g3, g4, g5⟩
  · have e : escR 92 s = { s1 with word := s1.word ++ [92] } := by rw [← unhide Hs1]; rfl
    rw [e]
    clear e
    have Hc := hide (show 92 < 256 by decide)
    obtain ⟨wa, wc, sa, sc, x0, x1, x2, x3, x4, x5, x6, x7, x8⟩ := (unhide HSs1).cells
    have z1 := x5 1
    have hbn : Below w1.heap.size w1 (w1.alloc (.cells #[.int .u8 (92 : Int)] 5)) := (Below.refl _ _).alloc (Nat.le_refl _) _
    have HSa := hide ((unhide HSs1).up hbn)
    have HO := hide (own_up x6 hbn)
    have HO2 := hide (own_up x7 hbn)
    have HSk := hide ((hbn.block b (Array.getElem?_eq_some_iff.1 x8).1).trans x8)
    have HBs := hide (show b + 1 ≤ (w1.alloc (.cells #[.int .u8 (92 : Int)] 5)).heap.size by rw [World.size_alloc]; have := (Array.getElem?_eq_some_iff.1 x8).1; omega)
    have HBn := hide (Below.mono hbn (show b ≤ w1.heap.size by have := (Array.getElem?_eq_some_iff.1 x8).1; omega))
    have y1 : (w1.alloc (.cells #[.int .u8 (92 : Int)] 5)).cell? ⟨b, 1, none⟩ = some (.slice wa (s1).word.length wc) := cell_of_row _ _ _ _ _ _ (unhide HSk)
    clear hbn x2 x3 x4 x5 x6 x7 x8
    go_enter Tryd.func30, Tryd.ntmps30
    go_wp2_with (at_builtin; refine wpList_append_own_at _ rfl _ _ 30 rfl (b + 1) 5 i0 (.int .u8 0) 1 1 Tryd.underlying30 hi hz0 hz1 hz2 rfl (by decide) _ _ _ rfl (unhide HO) ⟨w1.heap.size, 0, none⟩ 1 1 [.int .u8 (92 : Int)] rfl rfl (cells_one _ _ _) (by simp [Value.oneCell']) (by have := unhide Hn; unfold maxLen; omega) (by have := unhide Hn; omega) (unhide HBs) ?_; intro v' w2 ho hg2 _ _; obtain ⟨a4, c4, rfl⟩ := own_form ho; obtain ⟨h1, h2, h3, h4⟩ := Sr.push (unhide HSa) (unhide HSk) (unhide HO) (unhide HO2) hg2 ho (unhide Hc); have HS9 := hide h1; have HB9 := hide h2; clear ho hg2 h1 h2)
    go_end0
    exact ⟨rfl, unhide HS9, (unhide HBs1).trans ((unhide HBn).trans (unhide HB9))⟩
  · have e : escR 34 s = { s1 with word := s1.word ++ [34] } := by rw [← unhide Hs1]; rfl
    rw [e]
    clear e
    have Hc := hide (show 34 < 256 by decide)
    obtain ⟨wa, wc, sa, sc, x0, x1, x2, x3, x4, x5, x6, x7, x8⟩ := (unhide HSs1).cells
    have z1 := x5 1
    have hbn : Below w1.heap.size w1 (w1.alloc (.cells #[.int .u8 (34 : Int)] 5)) := (Below.refl _ _).alloc (Nat.le_refl _) _
    have HSa := hide ((unhide HSs1).up hbn)
    have HO := hide (own_up x6 hbn)
    have HO2 := hide (own_up x7 hbn)
    have HSk := hide ((hbn.block b (Array.getElem?_eq_some_iff.1 x8).1).trans x8)
    have HBs := hide (show b + 1 ≤ (w1.alloc (.cells #[.int .u8 (34 : Int)] 5)).heap.size by rw [World.size_alloc]; have := (Array.getElem?_eq_some_iff.1 x8).1; omega)
    have HBn := hide (Below.mono hbn (show b ≤ w1.heap.size by have := (Array.getElem?_eq_some_iff.1 x8).1; omega))
    have y1 : (w1.alloc (.cells #[.int .u8 (34 : Int)] 5)).cell? ⟨b, 1, none⟩ = some (.slice wa (s1).word.length wc) := cell_of_row _ _ _ _ _ _ (unhide HSk)
    clear hbn x2 x3 x4 x5 x6 x7 x8
    go_enter Tryd.func30, Tryd.ntmps30
    go_wp2_with (at_builtin; refine wpList_append_own_at _ rfl _ _ 30 rfl (b + 1) 5 i0 (.int .u8 0) 1 1 Tryd.underlying30 hi hz0 hz1 hz2 rfl (by decide) _ _ _ rfl (unhide HO) ⟨w1.heap.size, 0, none⟩ 1 1 [.int .u8 (34 : Int)] rfl rfl (cells_one _ _ _) (by simp [Value.oneCell']) (by have := unhide Hn; unfold maxLen; omega) (by have := unhide Hn; omega) (unhide HBs) ?_; intro v' w2 ho hg2 _ _; obtain ⟨a4, c4, rfl⟩ := own_form ho; obtain ⟨h1, h2, h3, h4⟩ := Sr.push (unhide HSa) (unhide HSk) (unhide HO) (unhide HO2) hg2 ho (unhide Hc); have HS9 := hide h1; have HB9 := hide h2; clear ho hg2 h1 h2)
    go_end0
    exact ⟨rfl, unhide HS9, (unhide HBs1).trans ((unhide HBn).trans (unhide HB9))⟩
  · have e : escR 110 s = { s1 with word := s1.word ++ [10] } := by rw [← unhide Hs1]; rfl
    rw [e]
    clear e
    have Hc := hide (show 10 < 256 by decide)
    obtain ⟨wa, wc, sa, sc, x0, x1, x2, x3, x4, x5, x6, x7, x8⟩ := (unhide HSs1).cells
    have z1 := x5 1
    have hbn : Below w1.heap.size w1 (w1.alloc (.cells #[.int .u8 (10 : Int)] 5)) := (Below.refl _ _).alloc (Nat.le_refl _) _
    have HSa := hide ((unhide HSs1).up hbn)
    have HO := hide (own_up x6 hbn)
    have HO2 := hide (own_up x7 hbn)
    have HSk := hide ((hbn.block b (Array.getElem?_eq_some_iff.1 x8).1).trans x8)
    have HBs := hide (show b + 1 ≤ (w1.alloc (.cells #[.int .u8 (10 : Int)] 5)).heap.size by rw [World.size_alloc]; have := (Array.getElem?_eq_some_iff.1 x8).1; omega)
    have HBn := hide (Below.mono hbn (show b ≤ w1.heap.size by have := (Array.getElem?_eq_some_iff.1 x8).1; omega))
    have y1 : (w1.alloc (.cells #[.int .u8 (10 : Int)] 5)).cell? ⟨b, 1, none⟩ = some (.slice wa (s1).word.length wc) := cell_of_row _ _ _ _ _ _ (unhide HSk)
    clear hbn x2 x3 x4 x5 x6 x7 x8
    go_enter Tryd.func30, Tryd.ntmps30
    go_wp2_with (at_builtin; refine wpList_append_own_at _ rfl _ _ 30 rfl (b + 1) 5 i0 (.int .u8 0) 1 1 Tryd.underlying30 hi hz0 hz1 hz2 rfl (by decide) _ _ _ rfl (unhide HO) ⟨w1.heap.size, 0, none⟩ 1 1 [.int .u8 (10 : Int)] rfl rfl (cells_one _ _ _) (by simp [Value.oneCell']) (by have := unhide Hn; unfold maxLen; omega) (by have := unhide Hn; omega) (unhide HBs) ?_; intro v' w2 ho hg2 _ _; obtain ⟨a4, c4, rfl⟩ := own_form ho; obtain ⟨h1, h2, h3, h4⟩ := Sr.push (unhide HSa) (unhide HSk) (unhide HO) (unhide HO2) hg2 ho (unhide Hc); have HS9 := hide h1; have HB9 := hide h2; clear ho hg2 h1 h2)
    go_end0
    exact ⟨rfl, unhide HS9, (unhide HBs1).trans ((unhide HBn).trans (unhide HB9))⟩
  · have e : escR 116 s = { s1 with word := s1.word ++ [9] } := by rw [← unhide Hs1]; rfl
    rw [e]
    clear e
    have Hc := hide (show 9 < 256 by decide)
    obtain ⟨wa, wc, sa, sc, x0, x1, x2, x3, x4, x5, x6, x7, x8⟩ := (unhide HSs1).cells
    have z1 := x5 1
    have hbn : Below w1.heap.size w1 (w1.alloc (.cells #[.int .u8 (9 : Int)] 5)) := (Below.refl _ _).alloc (Nat.le_refl _) _
    have HSa := hide ((unhide HSs1).up hbn)
    have HO := hide (own_up x6 hbn)
    have HO2 := hide (own_up x7 hbn)
    have HSk := hide ((hbn.block b (Array.getElem?_eq_some_iff.1 x8).1).trans x8)
    have HBs := hide (show b + 1 ≤ (w1.alloc (.cells #[.int .u8 (9 : Int)] 5)).heap.size by rw [World.size_alloc]; have := (Array.getElem?_eq_some_iff.1 x8).1; omega)
    have HBn := hide (Below.mono hbn (show b ≤ w1.heap.size by have := (Array.getElem?_eq_some_iff.1 x8).1; omega))
    have y1 : (w1.alloc (.cells #[.int .u8 (9 : Int)] 5)).cell? ⟨b, 1, none⟩ = some (.slice wa (s1).word.length wc) := cell_of_row _ _ _ _ _ _ (unhide HSk)
    clear hbn x2 x3 x4 x5 x6 x7 x8
    go_enter Tryd.func30, Tryd.ntmps30
    go_wp2_with (at_builtin; refine wpList_append_own_at _ rfl _ _ 30 rfl (b + 1) 5 i0 (.int .u8 0) 1 1 Tryd.underlying30 hi hz0 hz1 hz2 rfl (by decide) _ _ _ rfl (unhide HO) ⟨w1.heap.size, 0, none⟩ 1 1 [.int .u8 (9 : Int)] rfl rfl (cells_one _ _ _) (by simp [Value.oneCell']) (by have := unhide Hn; unfold maxLen; omega) (by have := unhide Hn; omega) (unhide HBs) ?_; intro v' w2 ho hg2 _ _; obtain ⟨a4, c4, rfl⟩ := own_form ho; obtain ⟨h1, h2, h3, h4⟩ := Sr.push (unhide HSa) (unhide HSk) (unhide HO) (unhide HO2) hg2 ho (unhide Hc); have HS9 := hide h1; have HB9 := hide h2; clear ho hg2 h1 h2)
    go_end0
    exact ⟨rfl, unhide HS9, (unhide HBs1).trans ((unhide HBn).trans (unhide HB9))⟩
  · have e : escR 120 s = { s1 with inn := 4 } := by rw [← unhide Hs1]; rfl
    rw [e]
    clear e
    obtain ⟨wa', wc', sa', sc', k0', k1', k2', k3', k4', k5', -, -, -⟩ := (unhide HSs1).cells
    have z0' := k5' 0
    clear k1' k2' k3' k4' k5'
    obtain ⟨q1, q2⟩ := (unhide HSs1).put (s' := { s1 with inn := 4 }) 0 (.int .i64 4) rfl rfl (fun _ _ => rfl) ((unhide HSs1).dg)
    have HS9 := hide q1
    have HB9 := hide q2
    clear q1 q2
    go_enter Tryd.func30, Tryd.ntmps30
    go_wp2
    go_end0
    exact ⟨rfl, unhide HS9, (unhide HBs1).trans (unhide HB9)⟩
  · have n92 : ((c : Int) == 92) = false := beq_false_of_ne (by omega)
    have n34 : ((c : Int) == 34) = false := beq_false_of_ne (by omega)
    have n110 : ((c : Int) == 110) = false := beq_false_of_ne (by omega)
    have n116 : ((c : Int) == 116) = false := beq_false_of_ne (by omega)
    have n120 : ((c : Int) == 120) = false := beq_false_of_ne (by omega)
    have e : escR c s = { s1 with bad := true } := by rw [← unhide Hs1]; unfold escR; simp [g1, g2, g3, g4, g5]
    rw [e]
    clear e g1 g2 g3 g4 g5
    obtain ⟨wa', wc', sa', sc', k0', k1', k2', k3', k4', k5', -, -, -⟩ := (unhide HSs1).cells
    have z4' := k5' 4
    clear k0' k1' k2' k3' k5'
    obtain ⟨q1, q2⟩ := (unhide HSs1).put (s' := { s1 with bad := true }) 4 (.bool true) rfl rfl (fun _ _ => rfl) ((unhide HSs1).dg)
    have HS9 := hide q1
    have HB9 := hide q2
    clear q1 q2
    go_enter Tryd.func30, Tryd.ntmps30
    go_wp2
    go_end0
    exact ⟨rfl, unhide HS9, (unhide HBs1).trans (unhide HB9)⟩
end Go.Proofs.YtadmamfekodkaaaDoor
