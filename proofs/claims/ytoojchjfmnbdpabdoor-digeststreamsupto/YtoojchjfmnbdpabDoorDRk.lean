import Derived.Test.YtoojchjfmnbdpabDoorDLb
import Derived.Test.YtoojchjfmnbdpabDoorDRd
namespace Go.Proofs.YtoojchjfmnbdpabDoor
open Go.ChangeShapes Go.WideShapes Go.ChangeAt Go.RowKit

theorem hasX_of {W : World} {laid : List (String × DataW Unit)} (h : laidMet Tryd.prog laid W) (hm : ("sigil/sigilref3.keys", Rows.laid_sigil_sigilref3_keys) ∈ laid) : HasX W := by
  have h1 : Lib.VarReads Tryd.prog W "sigil/sigilref3.keys" (Lib.tabData .i64 (kw.map Int.ofNat)) := Lib.laidMet.reads h hm
  have h2 := tab_reads (g := 2) (t := 72) (e := 3) (n := 64) (by kernel_rfl) (by kernel_rfl) Tryd.underlying72 Tryd.underlying3 (by kernel_rfl) (by kernel_rfl) h1
  have h3 : ∀ (i t : Nat), kw[i]? = some t → W.cell? ⟨2, i, none⟩ = some (.int .i64 (t : Int)) := fun i t hi => h2 i t (by rw [List.getElem?_map, hi]; rfl)
  exact ⟨World.block_lt_of_cell? W _ (h3 0 _ rfl), h3⟩
end Go.Proofs.YtoojchjfmnbdpabDoor
