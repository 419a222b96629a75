import Derived.Test.YtoojchjfmnbdpabDoorDLb
import Derived.Test.YtoojchjfmnbdpabDoorDSj
namespace Go.Proofs.YtoojchjfmnbdpabDoor
open Go.ChangeShapes Go.WideShapes Go.ChangeAt Go.RowKit

theorem hasK_of {W : World} {laid : List (String × DataW Unit)} (h : laidMet Tryd.prog laid W) (hm : ("sigil/digest.roundWords", Rows.laid_sigil_digest_roundWords) ∈ laid) : HasK W := by
  have h1 : Lib.VarReads Tryd.prog W "sigil/digest.roundWords" (Lib.tabData .u32 (kw.map Int.ofNat)) := Lib.laidMet.reads h hm
  have h2 := tab_reads (g := 1) (t := 81) (e := 60) (n := 64) (by kernel_rfl) (by kernel_rfl) Tryd.underlying81 Tryd.underlying60 (by kernel_rfl) (by kernel_rfl) h1
  have h3 : ∀ (i t : Nat), kw[i]? = some t → W.cell? ⟨1, i, none⟩ = some (.int .u32 (t : Int)) := fun i t hi => h2 i t (by rw [List.getElem?_map, hi]; rfl)
  exact ⟨World.block_lt_of_cell? W _ (h3 0 _ rfl), h3⟩
theorem hasS_of {W : World} {laid : List (String × DataW Unit)} (h : laidMet Tryd.prog laid W) (hm : ("sigil/digest.firstState", Rows.laid_sigil_digest_firstState) ∈ laid) : HasS W := by
  have h1 : Lib.VarReads Tryd.prog W "sigil/digest.firstState" (Lib.tabData .u32 (st0.list.map Int.ofNat)) := Lib.laidMet.reads h hm
  have h2 := tab_reads (g := 0) (t := 62) (e := 60) (n := 8) (by kernel_rfl) (by kernel_rfl) Tryd.underlying62 Tryd.underlying60 (by kernel_rfl) (by kernel_rfl) h1
  have h3 : ∀ (i t : Nat), st0.list[i]? = some t → W.cell? ⟨0, i, none⟩ = some (.int .u32 (t : Int)) := fun i t hi => h2 i t (by rw [List.getElem?_map, hi]; rfl)
  exact ⟨World.block_lt_of_cell? W _ (h3 0 _ rfl), h3⟩
end Go.Proofs.YtoojchjfmnbdpabDoor
