import Derived.Test.YtadmamfekodkaaaDoorHsE

namespace Go.Proofs.YtadmamfekodkaaaDoor
open Go.RowKit

theorem owned_row {P : Prop} {W : World} (hE : HasE W) {v : Value} {l : List ByteArray} (hS : HasS W v l) (_hn : P) : Calls Tryd.prog 6 #[v] W fun e w => e = .returned (.bool true) ∧ Below W.heap.size W w := by
  have h := hS
  obtain ⟨a, c, rfl, -⟩ := h
  exact own_core hE hS
end Go.Proofs.YtadmamfekodkaaaDoor
