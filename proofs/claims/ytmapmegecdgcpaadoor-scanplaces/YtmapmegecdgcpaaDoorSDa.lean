import Derived.Test.YtmapmegecdgcpaaDoorSC1
namespace Go.Proofs.YtmapmegecdgcpaaDoor
open Go.RowKit
attribute [local go_sem ↓] Go.wp_at_zero Go.wp_at_succ

/-- The call answers a bool that says p. -/
def SaysB (W : World) (p : Prop) (e : Ending) (w : World) : Prop := ∃ b : Bool, e = .returned (.bool b) ∧ w = W ∧ (b = true ↔ p)
theorem saysB {W : World} {p : Prop} (b : Bool) (h : b = true ↔ p) : SaysB W p (.returned (.bool b)) W := ⟨b, rfl, rfl, h⟩
set_option maxRecDepth 100000 in
theorem xletter_any (W : World) (c : Nat) (hc : c < 256) :
    Calls Tryd.prog 50 #[.int .u8 (c : Int)] W (SaysB W (isLet c)) := by
  go_enter Tryd.func50, Tryd.ntmps50
  go_wp2
  all_goals (go_ret; refine saysB _ ?_; simp [isLet]; omega)
set_option maxRecDepth 100000 in
theorem xdigit_any (W : World) (c : Nat) (hc : c < 256) :
    Calls Tryd.prog 51 #[.int .u8 (c : Int), .int .u8 10] W (SaysB W (isDig c)) := by
  go_enter Tryd.func51, Tryd.ntmps51
  go_wp2
  all_goals (go_ret; refine saysB _ ?_; simp [isDig]; omega)
end Go.Proofs.YtmapmegecdgcpaaDoor
