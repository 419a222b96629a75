import Derived.Test.YtoojchjfmnbdpabDoorDSl
import Derived.Test.YtoojchjfmnbdpabDoorDY
namespace Go.Proofs.YtoojchjfmnbdpabDoor
open Go.RowKit
attribute [local go_sem ↓] Go.wp_at_zero Go.wp_at_succ

def abcL : List Nat := [97, 98, 99]
theorem abc_byt : Byt abcL := by unfold Byt abcL; decide
def abcw (w : World) : World := w.alloc (.cells #[.int .u8 97, .int .u8 98, .int .u8 99] 5 (3, 4))
theorem abc_conv (w : World) : (convert 28 28 (.slice (some ⟨w.heap.size, 0, none⟩) 3 3)).run Tryd.prog (w.alloc (.cells #[.int .u8 97, .int .u8 98, .int .u8 99] 5)) = .ok (.slice (some ⟨w.heap.size, 0, none⟩) 3 3) (abcw w) :=
  Lib.run_convert_bytes_const w _ _ _ 3 3 Tryd.underlying28 Tryd.underlying5
theorem abc_has (w : World) : HasB (abcw w) (.slice (some ⟨w.heap.size, 0, none⟩) 3 3) abcL := hasB_lit (l := abcL) (heap_new _ _) 3 3 rfl (by decide)
theorem abc_below (w : World) : Below w.heap.size w (abcw w) := (Below.refl _ _).alloc (Nat.le_refl _) _
def abcH : List Nat := [98, 97, 55, 56, 49, 54, 98, 102, 56, 102, 48, 49, 99, 102, 101, 97, 52, 49, 52, 49, 52, 48, 100, 101, 53, 100, 97, 101, 50, 50, 50, 51, 98, 48, 48, 51, 54, 49, 97, 51, 57, 54, 49, 55, 55, 97, 57, 99, 98, 52, 49, 48, 102, 102, 54, 49, 102, 50, 48, 48, 49, 53, 97, 100]
theorem abc_sha : hexL (sha abcL) = abcH := by
  rw [shaF_eq]
  decide +kernel
theorem sha_byt (l : List Nat) : Byt (sha l) := bytes_byt _
theorem sha_len (l : List Nat) : (sha l).length = 32 := bytes_len _
set_option maxRecDepth 100000 in
set_option maxHeartbeats 1000000 in
theorem head_any {W : World} (hK : HasK W) (hS : HasS W) : Calls Tryd.prog 9 #[] W fun e W' => e = .returned (.bool true) ∧ Below W.heap.size W W' := by
  have cv := abc_conv W
  have hb0 := abc_below W
  have hsum := sum_any (hK.up hb0) (hS.up hb0) (abc_has W) abc_byt (by decide)
  have Hsum := hide hsum
  have Hb0 := hide hb0
  obtain ⟨W1, hW1⟩ : ∃ W1, W1 = abcw W := ⟨_, rfl⟩
  rw [← hW1] at cv Hsum Hb0
  clear hW1 hsum hb0
  go_enter Tryd.func9, Tryd.ntmps9
  go_wp2_with fail
  refine (unhide Hsum).mono ?_
  rintro e w2 ⟨v2, rfl, hB2, hb2⟩
  have HB2 := hide hB2
  have Hb2 : Hid (Below W.heap.size W w2) := (unhide Hb0).trans (hb2.mono (unhide Hb0).size)
  obtain ⟨va, vn, vc, rfl⟩ : ∃ a n c, v2 = .slice a n c := by obtain ⟨a, c, rfl, _⟩ := hB2.has; exact ⟨_, _, _, rfl⟩
  clear hB2 hb2 cv Hsum
  go_wp2_with fail
  refine (xhex_any (unhide HB2).has (sha_byt _) (by rw [sha_len]; decide)).mono ?_
  rintro e w3 ⟨rfl, hb3⟩
  rw [abc_sha]
  have Hb3 : Hid (Below W.heap.size W w3) := (unhide Hb2).trans (hb3.mono (unhide Hb2).size)
  have hof : ofN abcH = ⟨#[98, 97, 55, 56, 49, 54, 98, 102, 56, 102, 48, 49, 99, 102, 101, 97, 52, 49, 52, 49, 52, 48, 100, 101, 53, 100, 97, 101, 50, 50, 50, 51, 98, 48, 48, 51, 54, 49, 97, 51, 57, 54, 49, 55, 55, 97, 57, 99, 98, 52, 49, 48, 102, 102, 54, 49, 102, 50, 48, 48, 49, 53, 97, 100]⟩ := rfl
  rw [hof]
  clear hb3 hof
  go_wp2
  go_ret
  exact ⟨by simp, unhide Hb3⟩
end Go.Proofs.YtoojchjfmnbdpabDoor
