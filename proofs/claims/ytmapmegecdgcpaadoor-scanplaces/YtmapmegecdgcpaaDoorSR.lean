import Derived.Test.YtmapmegecdgcpaaDoorSQ
import Derived.Test.YtmapmegecdgcpaaDoorSRa
import Derived.Test.YtmapmegecdgcpaaDoorSRw
namespace Go.Proofs.YtmapmegecdgcpaaDoor
open Go.RowKit

/-- What worth answers. -/
def NumU (l : List Nat) (n c : Int) : Prop := (∃ u : Nat, wv l = some u ∧ n = (u : Int) ∧ c = 0) ∨ (wv l = none ∧ n = 0 ∧ c = 41)
def WorthP (W : World) (l : List Nat) (e : Ending) (w : World) : Prop := Below W.heap.size W w ∧ ∃ n c : Int, e = .returned (.tuple #[.int .i64 n, .int .i64 c]) ∧ NumU l n c
end Go.Proofs.YtmapmegecdgcpaaDoor
