import Derived.Test.YtkkbccdjbgjjaaaDoorSSJ

namespace Go.Proofs.YtkkbccdjbgjjaaaDoor
open Go.RowKit
attribute [local go_sem ↓] Go.wp_at_zero Go.wp_at_succ

/-- The reference's worth of a hexadecimal digit. -/
def hexI (x : Nat) : Int := if 48 ≤ x ∧ x ≤ 57 then (x : Int) - 48 else if 97 ≤ x ∧ x ≤ 102 then (x : Int) - 87 else if 65 ≤ x ∧ x ≤ 70 then (x : Int) - 55 else -1
theorem hexI_cases (x : Nat) : (hexI x = -1 ∧ (∀ d, dgv x = some d → 16 ≤ d)) ∨ (∃ d : Nat, hexI x = (d : Int) ∧ dgv x = some d ∧ d < 16) := by
  unfold hexI dgv
  by_cases h1 : 48 ≤ x ∧ x ≤ 57
  · rw [if_pos h1, if_pos h1]; exact .inr ⟨x - 48, by omega, rfl, by omega⟩
  · rw [if_neg h1, if_neg h1]
    by_cases h2 : 97 ≤ x ∧ x ≤ 102
    · rw [if_pos h2, if_neg (by omega), if_pos (by omega)]; exact .inr ⟨x - 87, by omega, rfl, by omega⟩
    · rw [if_neg h2]
      by_cases h3 : 65 ≤ x ∧ x ≤ 70
      · rw [if_pos h3, if_pos (by omega)]; exact .inr ⟨x - 55, by omega, rfl, by omega⟩
      · rw [if_neg h3]
        refine .inl ⟨rfl, fun d hd => ?_⟩
        split at hd
        · have := Option.some.inj hd; omega
        · split at hd
          · have := Option.some.inj hd; omega
          · cases hd
/-- What the reference's Digits answers. -/
def DigP (W : World) (l : List Nat) (e : Ending) (w : World) : Prop := w = W ∧ ((∃ u : Nat, e = .returned (.tuple #[.int .i64 (u : Int), .bool true]) ∧ wv l = some u) ∨ (e = .returned (.tuple #[.int .i64 0, .bool false]) ∧ wv l = none))
theorem digBad {W : World} {l : List Nat} (h : wv l = none) : DigP W l (.returned (.tuple #[.int .i64 0, .bool false])) W := ⟨rfl, .inr ⟨rfl, h⟩⟩
theorem digGood {W : World} {l : List Nat} {u : Nat} (h : wv l = some u) : DigP W l (.returned (.tuple #[.int .i64 (u : Int), .bool true])) W := ⟨rfl, .inl ⟨u, rfl, h⟩⟩
end Go.Proofs.YtkkbccdjbgjjaaaDoor
