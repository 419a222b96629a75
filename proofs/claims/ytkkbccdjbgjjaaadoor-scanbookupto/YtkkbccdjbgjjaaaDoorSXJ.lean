import Derived.Test.YtkkbccdjbgjjaaaDoorSW
import Derived.Test.YtkkbccdjbgjjaaaDoorSDa
import Derived.Test.YtkkbccdjbgjjaaaDoorSYe

namespace Go.Proofs.YtkkbccdjbgjjaaaDoor
open Go.RowKit
attribute [local go_sem ↓] Go.wp_at_zero Go.wp_at_succ

theorem two_beq {s : ByteArray} {k : Nat} (h : k + 2 ≤ s.size) (a b : UInt8) : ((s.extract k (k + 2)).toList == [a, b]) = decide (byteAt s k = a.toNat ∧ byteAt s (k + 1) = b.toNat) := by
  rw [ByteArray.toList_eq]
  have := two_eq h a b
  by_cases e : (s.extract k (k + 2)).data.toList = [a, b]
  · rw [decide_eq_true (this.1 e), e]; simp
  · rw [decide_eq_false (fun q => e (this.2 q))]
    exact beq_eq_false_iff_ne.2 e
theorem byte_get {s : ByteArray} {k : Nat} (h : k < s.size) : s[k].toNat = byteAt s k := by unfold byteAt; rw [dif_pos h]
end Go.Proofs.YtkkbccdjbgjjaaaDoor

namespace Go.Proofs.YtkkbccdjbgjjaaaDoor
open Go.RowKit
attribute [local go_sem ↓] Go.wp_at_zero Go.wp_at_succ

end Go.Proofs.YtkkbccdjbgjjaaaDoor
