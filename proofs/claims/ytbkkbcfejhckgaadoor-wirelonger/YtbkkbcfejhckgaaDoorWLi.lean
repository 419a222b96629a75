import Derived.Test.YtbkkbcfejhckgaaDoorWLh
import Derived.Test.YtbkkbcfejhckgaaDoorWX
namespace Go.Proofs.YtbkkbcfejhckgaaDoor
open Go.RowKit
theorem wireLonger_row {W : World} {nm v mo ms : Int} (hF : HasF W) (hnm : -9223372036854775808 ≤ nm ∧ nm ≤ 9223372036854775807) (hv : -9223372036854775808 ≤ v ∧ v ≤ 9223372036854775807) (hmo : -9223372036854775808 ≤ mo ∧ mo ≤ 9223372036854775807) (hms : -9223372036854775808 ≤ ms ∧ ms ≤ 9223372036854775807) :
    Calls Tryd.prog 3 #[.int .i64 nm, .int .i64 v, .int .i64 mo, .int .i64 ms] W fun e W' => e = .returned (.bool true) ∧ Below W.heap.size W W' :=
  wireLonger_any (fun _ _ _ _ _ _ _ r h => add_nil r h) hF hnm hv hmo hms
#print axioms wireLonger_row
end Go.Proofs.YtbkkbcfejhckgaaDoor
