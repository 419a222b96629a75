import Derived.Test.YtcmjlpfofcaekaaDoorSB1

namespace Go.Proofs.YtcmjlpfofcaekaaDoor
open Go.RowKit
attribute [local go_sem ↓] Go.wp_at_zero Go.wp_at_succ

/-- The forms of the characters. -/
def forms : List (Int × Int × Int × Int × Int) := [(0, 127, 0, 0, 0), (194, 223, 1, 128, 191), (224, 224, 2, 160, 191), (225, 236, 2, 128, 191), (237, 237, 2, 128, 159), (238, 239, 2, 128, 191), (240, 240, 3, 144, 191), (241, 243, 3, 128, 191), (244, 244, 3, 128, 143)]
/-- The package's table lies in its block. -/
def HasF (W : World) : Prop := 0 < W.heap.size ∧ ∀ i a b c d e, forms[i]? = some (a, b, c, d, e) → W.cell? ⟨0, i * 5, none⟩ = some (.int .u8 a) ∧ W.cell? ⟨0, i * 5 + 1, none⟩ = some (.int .u8 b) ∧ W.cell? ⟨0, i * 5 + 2, none⟩ = some (.int .u8 c) ∧ W.cell? ⟨0, i * 5 + 3, none⟩ = some (.int .u8 d) ∧ W.cell? ⟨0, i * 5 + 4, none⟩ = some (.int .u8 e)
theorem HasF.up {W w : World} (h : HasF W) (hb : Below W.heap.size W w) : HasF w :=
  ⟨Nat.lt_of_lt_of_le h.1 hb.size, fun i a b c d e hf => by
    obtain ⟨q0, q1, q2, q3, q4⟩ := h.2 i a b c d e hf
    exact ⟨(hb.cell (p := ⟨0, i * 5, none⟩) h.1).trans q0, (hb.cell (p := ⟨0, i * 5 + 1, none⟩) h.1).trans q1, (hb.cell (p := ⟨0, i * 5 + 2, none⟩) h.1).trans q2, (hb.cell (p := ⟨0, i * 5 + 3, none⟩) h.1).trans q3, (hb.cell (p := ⟨0, i * 5 + 4, none⟩) h.1).trans q4⟩⟩
theorem forms_len : forms.length = 9 := rfl
end Go.Proofs.YtcmjlpfofcaekaaDoor
