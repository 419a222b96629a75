import Derived.Test.YtoojchjfmnbdpaaDoorDRe
import Derived.Test.YtoojchjfmnbdpaaDoorDF
import Derived.Test.YtoojchjfmnbdpaaDoorDL1
namespace Go.Proofs.YtoojchjfmnbdpaaDoor
open Go.RowKit
attribute [local go_sem ↓] Go.wp_at_zero Go.wp_at_succ

theorem same_sum {W : World} {v u : Value} {l : List Nat} (h : HasB W v l) (h' : HasB W u l) (hl : Byt l) : Calls Tryd.prog 14 #[v, u] W fun o W' => o = .returned (.bool true) ∧ W' = W :=
  (same_any h h' hl hl).mono fun _ _ ⟨he, hw⟩ => ⟨by rw [he]; simp, hw⟩
set_option maxRecDepth 100000 in
set_option maxHeartbeats 4000000 in
theorem sums_any {W : World} (hS : HasS W) (hK : HasK W) (hX : HasX W) {v : Value} {l : List Nat} (h : HasB W v l) (hl : Byt l) (hn : l.length ≤ 140737488351232) :
    Calls Tryd.prog 6 #[v] W fun e W' => e = .returned (.bool true) ∧ Below W.heap.size W W' := by
  have hfl := flip_byt hl
  go_enter Tryd.func6, Tryd.ntmps6
  go_wp2_with fail
  refine (roomy_any h hn).mono ?_
  rintro e w1 ⟨rfl, hR, hb01⟩
  go_wp2_with fail
  refine (sum_any (hK.up hb01) (hS.up hb01) (hR.has (by omega)) hl (by omega)).mono ?_
  rintro e w2 ⟨v2, rfl, hB2, hb2⟩
  have hR2 := hR.up hb2
  have hb02 : Below W.heap.size W w2 := hb01.trans (hb2.mono hb01.size)
  have hH2 := hB2.has
  clear hb2 hR hB2
  go_wp2_with fail
  refine (xsum_any (hX.up hb02) (h.up hb02) hl hn).mono ?_
  rintro e w3 ⟨v3, rfl, hB3, hb3⟩
  have hR3 := hR2.up hb3
  have hH2' := hH2.up hb3
  have hH3 := hB3.has
  have hb03 : Below W.heap.size W w3 := hb02.trans (hb3.mono hb02.size)
  clear hb3 hR2 hH2 hB3
  go_wp2_with fail
  refine (same_sum hH2' hH3 (sha_byt _)).mono ?_
  rintro e w' ⟨rfl, he⟩
  obtain rfl : w3 = w' := he.symm
  go_wp2_with fail
  refine (kept_any hR3 (h.up hb03) hl hn).mono ?_
  rintro e w5 ⟨rfl, hb5⟩
  have hR5 := hR3.up hb5
  have hb05 : Below W.heap.size W w5 := hb03.trans (hb5.mono hb03.size)
  clear hb5 hR3 hH2' hH3 he
  go_wp2_with fail
  refine (flipped_any (B := W.heap.size) hR5 (Nat.le_refl _) hl hn).mono ?_
  rintro e w6 ⟨v6, rfl, hF, hR6, hb6⟩
  have hb06 : Below W.heap.size W w6 := hb05.trans hb6
  clear hb6 hR5 h hl
  rw [← flip_len l] at *
  generalize flip l = m at *
  go_wp2_with fail
  refine (sum_any (hK.up hb06) (hS.up hb06) (hR6.has (by omega)) hfl (by omega)).mono ?_
  rintro e w7 ⟨v7, rfl, hB7, hb7⟩
  have hR7 := hR6.up hb7
  have hF7 := hF.up hb7
  have hH7 := hB7.has
  have hb07 : Below W.heap.size W w7 := hb06.trans (hb7.mono hb06.size)
  clear hb7 hB7
  go_wp2_with fail
  refine (xsum_any (hX.up hb07) hF7 hfl (by omega)).mono ?_
  rintro e w8 ⟨v8, rfl, hB8, hb8⟩
  have hR8 := hR7.up hb8
  have hF8 := hF7.up hb8
  have hH8 := hH7.up hb8
  have hG8 := hB8.has
  have hb08 : Below W.heap.size W w8 := hb07.trans (hb8.mono hb07.size)
  clear hb8 hB8
  go_wp2_with fail
  refine (same_sum hH8 hG8 (sha_byt _)).mono ?_
  rintro e w' ⟨rfl, he⟩
  obtain rfl : w8 = w' := he.symm
  go_wp2_with fail
  refine (kept_any hR8 hF8 hfl (by omega)).mono ?_
  rintro e w9 ⟨rfl, hb9⟩
  have hb09 : Below W.heap.size W w9 := hb08.trans (hb9.mono hb08.size)
  go_wp2_with fail
  refine (head_any (hK.up hb09) (hS.up hb09)).mono ?_
  rintro e w10 ⟨rfl, hb10⟩
  have hb010 : Below W.heap.size W w10 := hb09.trans (hb10.mono hb09.size)
  go_wp2
  go_ret
  exact ⟨rfl, hb010⟩
end Go.Proofs.YtoojchjfmnbdpaaDoor
