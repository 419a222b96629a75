import Derived.Test.YtoclbmdnndaccaaDoorDO
import Derived.Test.YtoclbmdnndaccaaDoorDC
import Derived.Lib.LaidTab
import Derived.Lib.LaidU8
namespace Go.Proofs.YtoclbmdnndaccaaDoor
open Go.ChangeShapes Go.WideShapes Go.ChangeAt Go.RowKit

theorem tab_reads {P : Program} {W : World} {name : String} {k : IntKind} {zs : List Int} {g : Nat} {t e : TypeId} {n : Nat}
    (hg : P.globalNamed name = some g) (hty : (P.globals[g]?).map (·.type) = some t) (ht : P.underlying t = some (.array n e)) (he : P.underlying e = some (.int k)) (hce : P.cellsOf e = 1) (hct : P.cellsOf t = n)
    (h : Lib.VarReads P W name (Lib.tabData k zs)) : ∀ i z, zs[i]? = some z → W.cell? ⟨g, i, none⟩ = some (.int k z) := by
  obtain ⟨g', t', cs, fuel, p, hg', ht', hvar, hd⟩ := h
  obtain rfl := Option.some.inj (hg.symm.trans hg')
  obtain rfl := Option.some.inj (hty.symm.trans ht')
  have hc := World.var?_cell hg hvar
  have e1 := Lib.cells_of_tab ht he hce hct hd
  intro i z hz
  rw [hc]
  have : cs.toList[i]? = some (.int k z) := by rw [e1, List.getElem?_map, hz]; rfl
  simpa using this
theorem hasT_of {W : World} {laid : List (String × DataW Unit)} (h : laidMet Tryd.prog laid W) (hm : ("sigil/digest.sumTable", Rows.laid_sigil_digest_sumTable) ∈ laid) : HasT W := by
  have h1 : Lib.VarReads Tryd.prog W "sigil/digest.sumTable" (Lib.tabData .u32 (tab.map Int.ofNat)) := Lib.laidMet.reads h hm
  have h2 := tab_reads (g := 0) (t := 31) (e := 29) (n := 16) (by kernel_rfl) (by kernel_rfl) Tryd.underlying31 Tryd.underlying29 (by kernel_rfl) (by kernel_rfl) h1
  have h3 : ∀ (i t : Nat), tab[i]? = some t → W.cell? ⟨0, i, none⟩ = some (.int .u32 (t : Int)) := fun i t hi => h2 i t (by rw [List.getElem?_map, hi]; rfl)
  exact ⟨World.block_lt_of_cell? W _ (h3 0 0 rfl), h3⟩
end Go.Proofs.YtoclbmdnndaccaaDoor
