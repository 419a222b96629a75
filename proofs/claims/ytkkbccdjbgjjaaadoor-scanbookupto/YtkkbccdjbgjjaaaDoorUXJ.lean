import Derived.Test.YtkkbccdjbgjjaaaDoorUX
import Derived.Test.YtkkbccdjbgjjaaaDoorSGJ
import Derived.Test.YtkkbccdjbgjjaaaDoorSGJ

namespace Go.Proofs.YtkkbccdjbgjjaaaDoor
open Go.RowKit Go.Lib
attribute [local go_sem ↓] Go.wp_at_zero Go.wp_at_succ

end Go.Proofs.YtkkbccdjbgjjaaaDoor

namespace Go.Proofs.YtkkbccdjbgjjaaaDoor
open Go.RowKit Go.Lib

theorem utf_ascii {s : ByteArray} (h : ∀ k, k < s.size → byteAt s k < 128) : ∀ (m k : Nat), s.size - k ≤ m → utfAt s k = -1 := by
  intro m
  induction m with
  | zero => intro k hm; exact utf_end (by omega)
  | succ m ih =>
    intro k hm
    by_cases hk : k < s.size
    · have hc := chAt_low hk (h k hk)
      rw [utf_step hk (by omega), hc]
      exact ih (k + 1) (by omega)
    · exact utf_end hk
end Go.Proofs.YtkkbccdjbgjjaaaDoor
