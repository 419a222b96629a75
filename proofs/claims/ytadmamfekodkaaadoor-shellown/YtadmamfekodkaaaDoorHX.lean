import Derived.Test.YtadmamfekodkaaaDoorHW
import Derived.Test.YtadmamfekodkaaaDoorDOO

namespace Go.Proofs.YtadmamfekodkaaaDoor
open Go.RowKit

theorem joins_row {P : Prop} {W : World} (hE : HasE W) {v : Value} {ls : List (List Nat)} (h : HasBB W v ls) (hl : BytB ls) (_hn : P) {s : ByteArray} (_hs : s.size ≤ 140737488351232) : Calls Tryd.prog 5 #[v, .string s] W fun e w => e = .returned (.bool true) ∧ Below W.heap.size W w := joins_core hE h (fun l hm => hl l hm) s
end Go.Proofs.YtadmamfekodkaaaDoor
