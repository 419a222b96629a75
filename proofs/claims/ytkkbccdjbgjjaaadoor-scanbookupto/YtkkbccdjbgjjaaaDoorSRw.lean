import Derived.Test.YtkkbccdjbgjjaaaDoorSN

namespace Go.Proofs.YtkkbccdjbgjjaaaDoor
open Go.RowKit

def Top : Nat := 9223372036854775807
/-- The worth of a text that is just a number. -/
def wv (l : List Nat) : Option Nat :=
  if l.take 2 = [48, 120] ∨ l.take 2 = [48, 88] then (if l.length = 2 then none else nval 16 9223372036854775807 (l.drop 2) 0)
  else if l.take 1 = [48] then nval 8 9223372036854775807 l 0 else if l = [] then none else nval 10 9223372036854775807 l 0
theorem nval_le {B M : Nat} : ∀ (l : List Nat) (n u : Nat), n ≤ M → nval B M l n = some u → u ≤ M
  | [], n, u, hn, h => by
    have : n = u := by simpa [nval] using h
    omega
  | c :: r, n, u, hn, h => by
    simp only [nval] at h
    split at h
    · cases h
    · split at h
      · rename_i hc
        exact nval_le r _ u hc.2 h
      · cases h
theorem wv_le {l : List Nat} {u : Nat} (h : wv l = some u) : u ≤ 9223372036854775807 := by
  unfold wv at h
  split at h
  · split at h
    · cases h
    · exact nval_le _ 0 u (by decide) h
  · split at h
    · exact nval_le _ 0 u (by decide) h
    · split at h
      · cases h
      · exact nval_le _ 0 u (by decide) h
end Go.Proofs.YtkkbccdjbgjjaaaDoor
