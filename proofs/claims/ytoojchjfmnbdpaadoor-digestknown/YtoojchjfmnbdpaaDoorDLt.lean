import Derived.Test.YtoojchjfmnbdpaaDoorDLb
import Derived.Test.YtoojchjfmnbdpaaDoorDCa
namespace Go.Proofs.YtoojchjfmnbdpaaDoor
open Go.ChangeShapes Go.WideShapes Go.ChangeAt Go.RowKit

theorem hasT_of {W : World} {laid : List (String × DataW Unit)} (h : laidMet Tryd.prog laid W) (hm : ("sigil/digest.sumTable", Rows.laid_sigil_digest_sumTable) ∈ laid) : HasT W := by
  have h1 : Lib.VarReads Tryd.prog W "sigil/digest.sumTable" (Lib.tabData .u32 (tab.map Int.ofNat)) := Lib.laidMet.reads h hm
  have h2 := tab_reads (g := 0) (t := 49) (e := 47) (n := 16) (by kernel_rfl) (by kernel_rfl) Tryd.underlying49 Tryd.underlying47 (by kernel_rfl) (by kernel_rfl) h1
  have h3 : ∀ (i t : Nat), tab[i]? = some t → W.cell? ⟨0, i, none⟩ = some (.int .u32 (t : Int)) := fun i t hi => h2 i t (by rw [List.getElem?_map, hi]; rfl)
  exact ⟨World.block_lt_of_cell? W _ (h3 0 0 rfl), h3⟩
end Go.Proofs.YtoojchjfmnbdpaaDoor
