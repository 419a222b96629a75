import Derived.Test.YtdmpknekmdniaaaDoorWireZigs
import Derived.Test.YtdmpknekmdniaaaDoorWX
namespace Go.Proofs.YtdmpknekmdniaaaDoor
theorem addNil : AddNil := fun _ _ _ _ _ _ _ r h => add_nil r h
/-- The statement. -/
theorem proved : Rows.WireZigsCardSaid := PWireZigs.card addNil
#print axioms proved
end Go.Proofs.YtdmpknekmdniaaaDoor
