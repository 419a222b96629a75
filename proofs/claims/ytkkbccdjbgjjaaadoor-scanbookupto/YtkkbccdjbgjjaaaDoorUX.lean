import Derived.Test.YtkkbccdjbgjjaaaDoorUJ
import Derived.Test.YtkkbccdjbgjjaaaDoorSB
import Derived.Deep.CutBlock

namespace Go.Proofs.YtkkbccdjbgjjaaaDoor
open Go.RowKit
attribute [local go_sem ↓] Go.wp_at_zero Go.wp_at_succ

theorem ltiF {c : Nat} {k : Int} (h : k ≤ (c : Int)) : decide ((c : Int) < k) = false := by simp; omega
theorem ltiT {c : Nat} {k : Int} (h : (c : Int) < k) : decide ((c : Int) < k) = true := by simp; omega
theorem eqT {c : Nat} {k : Int} (h : (c : Int) = k) : ((c : Int) == k) = true := by simp; omega
theorem len_in {s : ByteArray} {k c lo hi i y : Nat} {L H : Int} (q : LenOkAt s k c lo hi) (i1 : 1 ≤ i) (hic : i < 1 + c) (hb : byteAt s (k + i) = y) (hL : L = if i = 1 then (lo : Int) else 128) (hH : H = if i = 1 then (hi : Int) else 191) : L ≤ (y : Int) ∧ (y : Int) ≤ H := by
  have q1 := q.2 i i1 hic
  rw [hb] at q1
  by_cases h : i = 1
  · rw [if_pos h] at hL hH
    rw [if_pos h, if_pos h] at q1
    omega
  · rw [if_neg h] at hL hH
    rw [if_neg h, if_neg h] at q1
    omega
theorem len_next {s : ByteArray} {k lo hi i y : Nat} {L H : Int} (hb : byteAt s (k + i) = y) (hL : L = if i = 1 then (lo : Int) else 128) (hH : H = if i = 1 then (hi : Int) else 191) (h1 : L ≤ (y : Int)) (h2 : (y : Int) ≤ H)
    (hall : ∀ j, 1 ≤ j → j < i → (if j = 1 then lo else 128) ≤ byteAt s (k + j) ∧ byteAt s (k + j) ≤ (if j = 1 then hi else 191)) :
    ∀ j, 1 ≤ j → j < i + 1 → (if j = 1 then lo else 128) ≤ byteAt s (k + j) ∧ byteAt s (k + j) ≤ (if j = 1 then hi else 191) := by
  intro j j1 j2
  by_cases hj : j = i
  · subst hj
    rw [hb]
    by_cases h : j = 1
    · rw [if_pos h] at hL hH
      rw [if_pos h, if_pos h]
      omega
    · rw [if_neg h] at hL hH
      rw [if_neg h, if_neg h]
      omega
  · exact hall j j1 (by omega)
end Go.Proofs.YtkkbccdjbgjjaaaDoor
