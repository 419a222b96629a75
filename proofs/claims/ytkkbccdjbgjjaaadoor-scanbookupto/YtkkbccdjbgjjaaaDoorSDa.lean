import Derived.Test.YtkkbccdjbgjjaaaDoorSC1

namespace Go.Proofs.YtkkbccdjbgjjaaaDoor
open Go.RowKit
attribute [local go_sem ↓] Go.wp_at_zero Go.wp_at_succ

/-- The call answers a bool that says p. -/
def SaysB (W : World) (p : Prop) (e : Ending) (w : World) : Prop := ∃ b : Bool, e = .returned (.bool b) ∧ w = W ∧ (b = true ↔ p)
theorem saysB {W : World} {p : Prop} (b : Bool) (h : b = true ↔ p) : SaysB W p (.returned (.bool b)) W := ⟨b, rfl, rfl, h⟩
end Go.Proofs.YtkkbccdjbgjjaaaDoor
