import Derived.Test.YtckpainohfhopaaGreatDoorPdI
import Derived.Test.YtckpainohfhopaaGreatDoorPdH

namespace Go.Proofs.YtckpainohfhopaaGreatDoor
open Go.RowKit

theorem parseWords_row {W : World} {v : Value} {l : List ByteArray} (hF : HasF W) (hE : HasE W) (hM : HasM W) (h : HasS W v l) (hl : l.length ≤ 140737488351232) : Calls Tryz.prog 5 #[v] W fun e W' => e = .returned (.bool true) ∧ Below W.heap.size W W' := words_core h hl (known_any hF hE hM)
end Go.Proofs.YtckpainohfhopaaGreatDoor
