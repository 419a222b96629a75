import Derived.Test.YtoclbmdnndaccaaDoorDC
namespace Go.Proofs.YtoclbmdnndaccaaDoor
open Go.RowKit
attribute [local go_sem ↓] Go.wp_at_zero Go.wp_at_succ

def k9 : List Nat := [49, 50, 51, 52, 53, 54, 55, 56, 57]
theorem k9_byt : Byt k9 := by unfold Byt k9; decide
def k9w (w : World) : World := w.alloc (.cells #[.int .u8 49, .int .u8 50, .int .u8 51, .int .u8 52, .int .u8 53, .int .u8 54, .int .u8 55, .int .u8 56, .int .u8 57] 5 (9, 10))
theorem k9_conv (w : World) : (convert 22 22 (.slice (some ⟨w.heap.size, 0, none⟩) 9 9)).run Tryd.prog (w.alloc (.cells #[.int .u8 49, .int .u8 50, .int .u8 51, .int .u8 52, .int .u8 53, .int .u8 54, .int .u8 55, .int .u8 56, .int .u8 57] 5)) = .ok (.slice (some ⟨w.heap.size, 0, none⟩) 9 9) (k9w w) :=
  Lib.run_convert_bytes_const w _ _ _ 9 9 Tryd.underlying22 Tryd.underlying5
theorem k9_has (w : World) : HasB (k9w w) (.slice (some ⟨w.heap.size, 0, none⟩) 9 9) k9 :=
  hasB_lit (l := k9) (heap_new _ _) 9 9 rfl (by decide)
theorem k9_below (w : World) : Below w.heap.size w (k9w w) := (Below.refl _ _).alloc (Nat.le_refl _) _

set_option maxRecDepth 100000 in
set_option maxHeartbeats 8000000 in
theorem crcs_any {W : World} (hT : HasT W) {v : Value} {l : List Nat} (h : HasB W v l) (hl : Byt l) (hn : l.length ≤ 140737488351232) :
    Calls Tryd.prog 5 #[v] W fun e W' => e = .returned (.bool true) ∧ Below W.heap.size W W' := by
  have hfl := flip_byt hl
  go_enter Tryd.func5, Tryd.ntmps5
  go_wp2_with fail
  refine (roomy_any h hn).mono ?_
  rintro e w1 ⟨rfl, hR, hb1⟩
  have cv := k9_conv w1
  go_wp2_with fail
  refine (crc_any ((hT.up hb1).up (k9_below w1)) (k9_has w1) k9_byt (by decide)).mono ?_
  rintro e w2 ⟨rfl, hb2⟩
  have hb12 := (k9_below w1).trans (hb2.mono (k9_below w1).size)
  clear cv
  have hR2 := hR.up hb12
  have hb02 : Below W.heap.size W w2 := hb1.trans (hb12.mono hb1.size)
  clear hb2 hb12
  rw [show crc k9 = 3808858755 from crc_known]
  go_wp2_with fail
  refine (crc_any (hT.up hb02) (hR2.has (by omega)) hl (by omega)).mono ?_
  rintro e w3 ⟨rfl, hb3⟩
  have hR3 := hR2.up hb3
  have hb03 : Below W.heap.size W w3 := hb02.trans (hb3.mono hb02.size)
  clear hb3
  go_wp2_with fail
  refine (xcrc_any (h.up hb03) hl (by omega)).mono ?_
  rintro e w4 ⟨rfl, hb4⟩
  have hR4 := hR3.up hb4
  have hb04 : Below W.heap.size W w4 := hb03.trans (hb4.mono hb03.size)
  clear hb4
  have q1 : (((crc l : Nat) : Int) != ((crc l : Nat) : Int)) = false := by simp
  go_wp2_with fail
  refine (kept_any hR4 (h.up hb04) hl hn).mono ?_
  rintro e w5 ⟨rfl, hb5⟩
  have hR5 := hR4.up hb5
  have hb05 : Below W.heap.size W w5 := hb04.trans (hb5.mono hb04.size)
  clear hb5
  go_wp2_with fail
  refine (flipped_any (B := W.heap.size) hR5 (Nat.le_refl _) hl hn).mono ?_
  rintro e w6 ⟨v6, rfl, hF, hR6, hb6⟩
  have hb06 : Below W.heap.size W w6 := hb05.trans hb6
  rw [← flip_len l] at *
  generalize flip l = m at *
  go_wp2_with fail
  refine (crc_any (hT.up hb06) (hR6.has (by omega)) hfl (by omega)).mono ?_
  rintro e w7 ⟨rfl, hb7⟩
  have hR7 := hR6.up hb7
  have hF7 := hF.up hb7
  have hb07 : Below W.heap.size W w7 := hb06.trans (hb7.mono hb06.size)
  clear hb7
  go_wp2_with fail
  refine (xcrc_any hF7 hfl (by omega)).mono ?_
  rintro e w8 ⟨rfl, hb8⟩
  have hR8 := hR7.up hb8
  have hF8 := hF7.up hb8
  have hb08 : Below W.heap.size W w8 := hb07.trans (hb8.mono hb07.size)
  clear hb8
  have q2 : (((crc m : Nat) : Int) == ((crc m : Nat) : Int)) = true := by simp
  go_wp2_with fail
  refine (kept_any hR8 hF8 hfl (by omega)).mono ?_
  rintro e w9 ⟨rfl, hb9⟩
  have hb09 : Below W.heap.size W w9 := hb08.trans (hb9.mono hb08.size)
  go_wp2
  go_ret
  exact ⟨rfl, hb09⟩
end Go.Proofs.YtoclbmdnndaccaaDoor
