import Derived.Test.YtckpainohfhopaaGreatDoorPdI
import Derived.Test.YtckpainohfhopaaGreatDoorPdG

namespace Go.Proofs.YtckpainohfhopaaGreatDoor
open Go.RowKit

theorem parseJoins_row {W : World} {v : Value} {l : List ByteArray} (hF : HasF W) (hE : HasE W) (hM : HasM W) (h : HasS W v l) (hl : l.length ≤ 140737488351232) : Calls Tryz.prog 6 #[v] W fun e W' => e = .returned (.bool true) ∧ Below W.heap.size W W' := joins_core hF hE hM h hl (known_any hF hE hM)
end Go.Proofs.YtckpainohfhopaaGreatDoor
