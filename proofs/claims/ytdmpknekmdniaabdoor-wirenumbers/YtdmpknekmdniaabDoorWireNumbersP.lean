import Derived.Test.YtdmpknekmdniaabDoorWireNumbers
import Derived.Test.YtdmpknekmdniaabDoorWX
namespace Go.Proofs.YtdmpknekmdniaabDoor
theorem addNil : AddNil := fun _ _ _ _ _ _ _ r h => add_nil r h
/-- The statement. -/
theorem proved : Rows.WireNumbersCardSaid := PWireNumbers.card addNil
#print axioms proved
end Go.Proofs.YtdmpknekmdniaabDoor
