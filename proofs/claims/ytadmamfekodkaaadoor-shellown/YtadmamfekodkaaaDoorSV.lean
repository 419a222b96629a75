import Derived.Test.YtadmamfekodkaaaDoorSQ
import Derived.Test.YtadmamfekodkaaaDoorRows
import Derived.WalkKit
import Derived.ProofKit
import Derived.OpenShut
import Derived.Lib.LaidTab
import Derived.Lib.LaidU8

namespace Go.Proofs.YtadmamfekodkaaaDoor
open Go.ChangeShapes Go.WideShapes Go.ChangeAt Go.RowKit

theorem iface_cells {H : Type} {enc : TypeId × Value → H} {P : Program} {w : World} {base : Nat} {sp : Nat → Bool} {held : Bool} {fuel : Nat} {t : TypeId} {ms : _} {cs : List Value} {nm : String} {d : DataW H} {p : List MemPlace}
    (ht : P.underlying t = some (.interface ms)) (h : DataW.trod enc P w base sp held fuel t cs = some (.iface nm d, p)) : ∃ u v, cs = [.iface u v] := by
  cases fuel with
  | zero => simp [DataW.trod] at h
  | succ fuel =>
    simp only [DataW.trod, ht] at h
    split at h
    all_goals first
      | exact ⟨_, _, rfl⟩
      | (simp at h; done)
      | (simp_all; done)
      | (rename_i heq _; cases heq; done)
      | (rename_i heq; cases heq; done)
theorem hasV_of {W : World} {name nm : String} {d : DataW Unit} {g : Nat} (hg : Tryd.prog.globalNamed name = some g) (hty : (Tryd.prog.globals[g]?).map (·.type) = some 50) (h : Lib.VarReads Tryd.prog W name (.iface nm d)) : HasV W g := by
  obtain ⟨g', t', cs, fuel, p, hg', ht', hvar, hd⟩ := h
  obtain rfl := Option.some.inj (hg.symm.trans hg')
  obtain rfl := Option.some.inj (hty.symm.trans ht')
  have hc := World.var?_cell hg hvar
  obtain ⟨u, v, hcs⟩ := iface_cells Tryd.underlying50 hd
  have h1 : W.cell? ⟨g, 0, none⟩ = some (.iface u v) := by
    rw [hc]
    have : cs.toList[0]? = some (.iface u v) := by rw [hcs]; rfl
    simpa using this
  exact ⟨World.block_lt_of_cell? W _ h1, _, h1, .inr ⟨u, v, rfl⟩⟩
theorem hasE_of {W : World} {laid : List (String × DataW Unit)} (h : laidMet Tryd.prog laid W) (hm : ("strconv.ErrSyntax", Rows.laid_strconv_ErrSyntax) ∈ laid) (hm2 : ("strconv.ErrRange", Rows.laid_strconv_ErrRange) ∈ laid) : HasE W :=
  ⟨hasV_of (by kernel_rfl) (by kernel_rfl) (Lib.laidMet.reads h hm), hasV_of (by kernel_rfl) (by kernel_rfl) (Lib.laidMet.reads h hm2)⟩
end Go.Proofs.YtadmamfekodkaaaDoor
