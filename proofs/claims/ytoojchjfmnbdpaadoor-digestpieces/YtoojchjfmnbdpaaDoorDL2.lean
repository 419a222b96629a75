import Derived.Test.YtoojchjfmnbdpaaDoorDL1
import Derived.Test.YtoojchjfmnbdpaaDoorDH
import Derived.Test.YtoojchjfmnbdpaaDoorSOi
namespace Go.Proofs.YtoojchjfmnbdpaaDoor
open Go.RowKit
attribute [local go_sem ↓] Go.wp_at_zero Go.wp_at_succ

/-- A piece of bytes that can be read. -/
theorem HasB.mid {W : World} {a : Option Addr} {n c : Nat} {l : List Nat} (h : HasB W (.slice a n c) l) (i m : Nat) (hi : i + m ≤ l.length) (a' : Option Addr) (c' : Nat) (hc : m ≤ c' ∧ c' ≤ maxLen ∧ (a' = none → c' = 0)) (ha : 0 < m → ∀ g off, a = some ⟨g, off, none⟩ → a' = some ⟨g, off + i, none⟩) : HasB W (.slice a' m c') ((l.drop i).take m) := by
  obtain ⟨a2, c2, e, hm, h3⟩ := h
  injection e with e1 e2 e3
  subst e1
  have hl : ((l.drop i).take m).length = m := by rw [List.length_take, List.length_drop]; omega
  refine ⟨a', c', by rw [hl], by rw [hl]; exact hc, fun hp => ?_⟩
  rw [hl] at hp
  obtain ⟨g, off, q1, q2, q3⟩ := h3 (by omega)
  refine ⟨g, off + i, ha hp g off q1, q2, fun j b hb => ?_⟩
  rw [List.getElem?_take] at hb
  split at hb
  · rw [List.getElem?_drop] at hb
    rw [Nat.add_assoc]
    exact q3 (i + j) b hb
  · cases hb
theorem cut_abs (z : Int) : ∃ n : Nat, (z.tmod 130 = (n : Int) ∨ (z.tmod 130 < 0 ∧ -(z.tmod 130) = (n : Int))) ∧ n < 130 := by
  have h1 : z.tmod 130 < 130 := Int.tmod_lt_of_pos z (by decide)
  have h0 : -130 < z.tmod 130 := Int.lt_tmod_of_pos z (by decide)
  by_cases h : z.tmod 130 < 0
  · exact ⟨(-(z.tmod 130)).toNat, .inr ⟨h, by omega⟩, by omega⟩
  · exact ⟨(z.tmod 130).toNat, .inl (by omega), by omega⟩
end Go.Proofs.YtoojchjfmnbdpaaDoor
