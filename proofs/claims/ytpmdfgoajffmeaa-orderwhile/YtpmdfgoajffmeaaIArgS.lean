import Derived.Test.YtpmdfgoajffmeaaIMade
import Derived.Test.YtpmdfgoajffmeaaRows
import Derived.WalkKit
import Derived.ProofKit
import Derived.OpenShut
import Derived.ShutString
import Derived.ChangeOld
import Derived.Below
import Derived.SizedLaws

namespace Go.Proofs.Ytpmdfgoajffmeaa
open Go.ChangeShapes Go.WideShapes Go.ChangeAt Go.RowKit

/-- A []int that came in, and how much of the reading it is. -/
theorem open_argS {H : Type} {enc : TypeId × Value → H} {W : World} {base fuel len cap : Nat} {spare : Nat → Bool} {held : Bool} {a : Option Addr} {x : DataW H × List MemPlace}
    (hf : DataW.trod enc Try.prog W base spare held fuel 22 (Value.slice a len cap).cells.toList = some x) : ∃ l, IsArg W (.slice a len cap) l ∧ (l = [] ∨ ∃ el sp, x.1 = .slice el sp ∧ l.length ≤ el.length + sp.length) := by
  rcases open_ints Try.underlying22 Try.underlying3 (by kernel_rfl) hf with ⟨hcs, rfl⟩ | ⟨y, l, c, zs, hcs, _, hl, hm, hz, rfl, hcell, _⟩
  · simp [Value.cells] at hcs
    obtain ⟨rfl, rfl, rfl⟩ := hcs
    exact ⟨[], ⟨none, 0, rfl, Nat.le_refl _, by simp, fun h => by simp at h⟩, .inl rfl⟩
  · simp [Value.cells] at hcs
    obtain ⟨rfl, rfl, rfl⟩ := hcs
    have hlz : len ≤ zs.length := by rw [hz]; split <;> omega
    have hlen : (zs.take len).length = len := by rw [List.length_take]; omega
    refine ⟨zs.take len, ⟨some y, cap, by rw [hlen], by omega, hm, fun hp => ?_⟩, .inr ⟨_, _, rfl, ?_⟩⟩
    · obtain ⟨b, off, rfl, hc⟩ := ints_at hcell (by omega)
      refine ⟨b, off, rfl, lt_of_cell (hc 0 (by omega)), fun i k hk => ?_⟩
      rw [List.getElem?_take] at hk
      split at hk
      · rename_i hi
        have := hc i (by omega)
        rw [List.getD_eq_getElem?_getD, hk] at this
        exact this
      · cases hk
    · simp [lits]
end Go.Proofs.Ytpmdfgoajffmeaa
