import Derived.Test.YtadmamfekodkaaaDoorDB

namespace Go.Proofs.YtadmamfekodkaaaDoor
open Go.RowKit

/-- A text's bytes. -/
def strN (s : ByteArray) : List Nat := s.data.toList.map UInt8.toNat
theorem strN_len (s : ByteArray) : (strN s).length = s.size := by simp [strN]
theorem strN_byt (s : ByteArray) : Byt (strN s) := by
  intro x hx
  obtain ⟨b, _, rfl⟩ := List.mem_map.1 hx
  exact b.toNat_lt
end Go.Proofs.YtadmamfekodkaaaDoor
