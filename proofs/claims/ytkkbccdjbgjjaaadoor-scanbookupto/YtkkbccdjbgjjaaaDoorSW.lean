import Derived.Test.YtkkbccdjbgjjaaaDoorQM

namespace Go.Proofs.YtkkbccdjbgjjaaaDoor
open Go.RowKit

/-- The place behind the letters and digits from k on. -/
def endRow (s : ByteArray) (k : Nat) : Nat := if h : k < s.size ∧ (isLet (byteAt s k) ∨ isDig (byteAt s k)) then endRow s (k + 1) else k
termination_by s.size - k
decreasing_by omega
/-- The next byte 10 from k on, or the end. -/
def nlAt (s : ByteArray) (k : Nat) : Nat := if h : k < s.size ∧ ¬ byteAt s k = 10 then nlAt s (k + 1) else k
termination_by s.size - k
decreasing_by omega
/-- The next star and slash from k on, or a place with less than two bytes behind it. -/
def starAt (s : ByteArray) (k : Nat) : Nat := if h : k + 2 ≤ s.size ∧ ¬ (byteAt s k = 42 ∧ byteAt s (k + 1) = 47) then starAt s (k + 1) else k
termination_by s.size - k
decreasing_by omega
theorem endRow_ge (s : ByteArray) (k : Nat) : k ≤ endRow s k := by
  rw [endRow]
  split
  · have := endRow_ge s (k + 1)
    omega
  · exact Nat.le_refl _
termination_by s.size - k
decreasing_by omega
theorem endRow_le (s : ByteArray) (k : Nat) (h : k ≤ s.size) : endRow s k ≤ s.size := by
  rw [endRow]
  split
  · exact endRow_le s (k + 1) (by omega)
  · exact h
termination_by s.size - k
decreasing_by omega
theorem nlAt_ge (s : ByteArray) (k : Nat) : k ≤ nlAt s k := by
  rw [nlAt]
  split
  · have := nlAt_ge s (k + 1)
    omega
  · exact Nat.le_refl _
termination_by s.size - k
decreasing_by omega
theorem nlAt_le (s : ByteArray) (k : Nat) (h : k ≤ s.size) : nlAt s k ≤ s.size := by
  rw [nlAt]
  split
  · exact nlAt_le s (k + 1) (by omega)
  · exact h
termination_by s.size - k
decreasing_by omega
theorem starAt_ge (s : ByteArray) (k : Nat) : k ≤ starAt s k := by
  rw [starAt]
  split
  · have := starAt_ge s (k + 1)
    omega
  · exact Nat.le_refl _
termination_by s.size - k
decreasing_by omega
theorem nlAt_lt {s : ByteArray} {k : Nat} (h : k < s.size) (h2 : byteAt s k = 47) : k < nlAt s k := by
  rw [nlAt, dif_pos ⟨h, by omega⟩]
  have := nlAt_ge s (k + 1)
  omega
def isBlk (c : Nat) : Prop := (9 ≤ c ∧ c ≤ 13) ∨ c = 32
instance (c : Nat) : Decidable (isBlk c) := by unfold isBlk; infer_instance
/-- What is passed over from k on: the place, and whether all is well. -/
def passF (s : ByteArray) : Nat → Nat → Nat × Bool
  | 0, k => (k, true)
  | f + 1, k => if k < s.size then
      if isBlk (byteAt s k) then passF s f (k + 1)
      else if k + 2 ≤ s.size ∧ byteAt s k = 47 ∧ byteAt s (k + 1) = 47 then passF s f (nlAt s k)
      else if k + 2 ≤ s.size ∧ byteAt s k = 47 ∧ byteAt s (k + 1) = 42 then
        if starAt s (k + 2) + 2 ≤ s.size then passF s f (starAt s (k + 2) + 2) else (k, false)
      else (k, true)
    else (k, true)
/-- The fuel does not matter, if it is enough. -/
theorem passF_fuel (s : ByteArray) : ∀ (f f' k : Nat), s.size - k ≤ f → s.size - k ≤ f' → passF s f k = passF s f' k := by
  intro f
  induction f with
  | zero =>
    intro f' k hf hf'
    cases f' with
    | zero => rfl
    | succ f' => rw [passF, passF, if_neg (by omega)]
  | succ f ih =>
    intro f' k hf hf'
    cases f' with
    | zero => rw [passF, passF, if_neg (by omega)]
    | succ f' =>
      rw [passF, passF]
      by_cases h : k < s.size
      · rw [if_pos h, if_pos h]
        split
        · exact ih f' (k + 1) (by omega) (by omega)
        · split
          · rename_i h2
            have := nlAt_lt h h2.2.1
            exact ih f' _ (by omega) (by omega)
          · split
            · have := starAt_ge s (k + 2)
              split
              · exact ih f' _ (by omega) (by omega)
              · rfl
            · rfl
      · rw [if_neg h, if_neg h]
theorem two_list {s : ByteArray} {k : Nat} (h : k + 2 ≤ s.size) : (s.extract k (k + 2)).data.toList = [s[k], s[k + 1]] := by
  rw [ByteArray.data_extract, Array.toList_extract]
  apply List.ext_getElem?
  intro i
  rw [List.getElem?_take, List.getElem?_drop]
  match i with
  | 0 => simp; exact Array.getElem?_eq_getElem (by show k < s.size; omega)
  | 1 => simp; exact Array.getElem?_eq_getElem (by show k + 1 < s.size; omega)
  | i + 2 => simp; omega
theorem two_eq {s : ByteArray} {k : Nat} (h : k + 2 ≤ s.size) (a b : UInt8) : ((s.extract k (k + 2)).data.toList = [a, b]) ↔ (byteAt s k = a.toNat ∧ byteAt s (k + 1) = b.toNat) := by
  rw [two_list h]
  unfold byteAt
  rw [dif_pos (by omega), dif_pos (by omega)]
  simp [UInt8.toNat_inj]
end Go.Proofs.YtkkbccdjbgjjaaaDoor
