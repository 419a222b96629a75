import Derived.Test.YtaadpiimcaabkaaGreatDoorJ20
import Derived.Test.YtaadpiimcaabkaaGreatDoorJ18
import Derived.Shelf.Vars
import Derived.Test.YtaadpiimcaabkaaGreatDoorRows
import Derived.Lib.LaidTab
import Derived.Lib.LaidU8
import Derived.Test.YtaadpiimcaabkaaGreatDoorJ13
import Derived.WalkKit
import Derived.ProofKit
import Derived.OpenShut
import Derived.Test.YtaadpiimcaabkaaGreatDoorJ03

namespace Go.Proofs.YtaadpiimcaabkaaGreatDoor
open Go.RowKit

theorem hasP_of {W : World} {laid : List (String × DataW Unit)} (h : laidMet Tryz.prog laid W) (hm : ("internal/strconv.uint64pow10", Rows.laid_internal_strconv_uint64pow10) ∈ laid) : HasP W := by
  have h1 : Lib.VarReads Tryz.prog W "internal/strconv.uint64pow10" (Lib.tabData .u64 Lib.pow10Tab) := Lib.laidMet.reads h hm
  obtain ⟨g', t', cs, fuel, p, hg', ht', hvar, hd⟩ := h1
  have hg : Tryz.prog.globalNamed "internal/strconv.uint64pow10" = some 4 := by kernel_rfl
  have hty : (Tryz.prog.globals[4]?).map (·.type) = some 228 := by kernel_rfl
  obtain rfl := Option.some.inj (hg.symm.trans hg')
  obtain rfl := Option.some.inj (hty.symm.trans ht')
  unfold HasP Lib.TabIs
  rw [hvar, ← Lib.cells_of_tab Tryz.underlying228 Tryz.underlying189 (by kernel_rfl) (by kernel_rfl) hd]
/-- MaxLen holds some number. -/
theorem maxM_of {W : World} (h : W.ShapedOpen Tryz.prog) : HasM W := by
  obtain ⟨m, hm⟩ := cell_of_shapedOpen_int (P := Tryz.prog) (g := 1) (t := 3) (zero := #[.int .i64 0]) h (of_decide_eq_true (by kernel_rfl)) (by kernel_rfl) rfl (by kernel_rfl) (by kernel_rfl) Tryz.underlying3
  exact ⟨World.block_lt_of_cell? W _ hm, m, hm⟩
end Go.Proofs.YtaadpiimcaabkaaGreatDoor

namespace Go.Proofs.YtaadpiimcaabkaaGreatDoor
open Go.ChangeShapes Go.WideShapes Go.ChangeAt Go.RowKit

theorem iface_cells {H : Type} {enc : TypeId × Value → H} {P : Program} {w : World} {base : Nat} {sp : Nat → Bool} {held : Bool} {fuel : Nat} {t : TypeId} {ms : _} {cs : List Value} {nm : String} {d : DataW H} {p : List MemPlace}
    (ht : P.underlying t = some (.interface ms)) (h : DataW.trod enc P w base sp held fuel t cs = some (.iface nm d, p)) : ∃ u v, cs = [.iface u v] := by
  cases fuel with
  | zero => simp [DataW.trod] at h
  | succ fuel =>
    simp only [DataW.trod, ht] at h
    split at h
    all_goals first
      | exact ⟨_, _, rfl⟩
      | (simp at h; done)
      | (simp_all; done)
      | (rename_i heq _; cases heq; done)
      | (rename_i heq; cases heq; done)
theorem hasV_of {W : World} {name nm : String} {d : DataW Unit} {g : Nat} (hg : Tryz.prog.globalNamed name = some g) (hty : (Tryz.prog.globals[g]?).map (·.type) = some 127) (h : Lib.VarReads Tryz.prog W name (.iface nm d)) : HasV W g := by
  obtain ⟨g', t', cs, fuel, p, hg', ht', hvar, hd⟩ := h
  obtain rfl := Option.some.inj (hg.symm.trans hg')
  obtain rfl := Option.some.inj (hty.symm.trans ht')
  have hc := World.var?_cell hg hvar
  obtain ⟨u, v, hcs⟩ := iface_cells Tryz.underlying127 hd
  have h1 : W.cell? ⟨g, 0, none⟩ = some (.iface u v) := by
    rw [hc]
    have : cs.toList[0]? = some (.iface u v) := by rw [hcs]; rfl
    simpa using this
  exact ⟨World.block_lt_of_cell? W _ h1, _, h1, .inr ⟨u, v, rfl⟩⟩
theorem hasE_of {W : World} {laid : List (String × DataW Unit)} (h : laidMet Tryz.prog laid W) (hm : ("strconv.ErrSyntax", Rows.laid_strconv_ErrSyntax) ∈ laid) (hm2 : ("strconv.ErrRange", Rows.laid_strconv_ErrRange) ∈ laid) : HasE W :=
  ⟨hasV_of (by kernel_rfl) (by kernel_rfl) (Lib.laidMet.reads h hm), hasV_of (by kernel_rfl) (by kernel_rfl) (Lib.laidMet.reads h hm2)⟩
end Go.Proofs.YtaadpiimcaabkaaGreatDoor

namespace Go.Proofs.YtaadpiimcaabkaaGreatDoor
open Go.ChangeShapes Go.WideShapes Go.ChangeAt Go.RowKit

theorem gForms : Tryz.prog.globalNamed "sigil/wire.forms" = some 0 := by kernel_rfl
theorem gFormsType : (Tryz.prog.globals[0]?).map (·.type) = some 168 := by kernel_rfl
theorem cellsForms : Tryz.prog.cellsOf 168 = 45 := by kernel_rfl
theorem cellsForm : Tryz.prog.cellsOf 167 = 5 := by kernel_rfl
theorem cellsByte : Tryz.prog.cellsOf 5 = 1 := by kernel_rfl

set_option maxRecDepth 100000 in
/-- A form's five numbers. -/
theorem form_cells {H : Type} {enc : TypeId × Value → H} {w : World} {base : Nat} {sp : Nat → Bool} {held : Bool} {fuel : Nat} {cs : List Value} {a b c d e : Int} {p : List MemPlace}
    (h : DataW.trod enc Tryz.prog w base sp held fuel 167 cs = some (.agg [.lit (.int .u8 a), .lit (.int .u8 b), .lit (.int .u8 c), .lit (.int .u8 d), .lit (.int .u8 e)], p)) :
    cs = [.int .u8 a, .int .u8 b, .int .u8 c, .int .u8 d, .int .u8 e] := by
  obtain ⟨xs, k, _, hx, hlen, hxl, hf⟩ := DataW.trod_struct Tryz.underlying167 h
  rw [cellsForm] at hlen
  match xs, hxl, cs, hlen with
  | [y0, y1, y2, y3, y4], _, [v0, v1, v2, v3, v4], _ =>
    have g0 := hf 0 _ rfl
    have g1 := hf 1 _ rfl
    have g2 := hf 2 _ rfl
    have g3 := hf 3 _ rfl
    have g4 := hf 4 _ rfl
    simp [cellsByte] at g0 g1 g2 g3 g4
    obtain ⟨n0, e0, f0, _⟩ := DataW.trod_int Tryz.underlying5 g0
    obtain ⟨n1, e1, f1, _⟩ := DataW.trod_int Tryz.underlying5 g1
    obtain ⟨n2, e2, f2, _⟩ := DataW.trod_int Tryz.underlying5 g2
    obtain ⟨n3, e3, f3, _⟩ := DataW.trod_int Tryz.underlying5 g3
    obtain ⟨n4, e4, f4, _⟩ := DataW.trod_int Tryz.underlying5 g4
    simp at e0 e1 e2 e3 e4
    subst e0 e1 e2 e3 e4 f0 f1 f2 f3 f4
    simp at hx
    obtain ⟨⟨q0, q1, q2, q3, q4⟩, _⟩ := hx
    subst q0 q1 q2 q3 q4
    rfl

theorem table_cells {H : Type} {enc : TypeId × Value → H} {w : World} {base : Nat} {sp : Nat → Bool} {held : Bool} {fuel : Nat} {cs : List Value} {p : List MemPlace}
    (h : DataW.trod enc Tryz.prog w base sp held fuel 168 cs = some (Rows.laid_sigil_wire_forms, p)) :
    ∀ (i : Nat) (a b c d e : Int), forms[i]? = some (a, b, c, d, e) → (cs.drop (i * 5)).take 5 = [.int .u8 a, .int .u8 b, .int .u8 c, .int .u8 d, .int .u8 e] := by
  intro i a b c d e hf
  cases fuel with
  | zero => simp [DataW.trod] at h
  | succ fuel =>
    simp only [DataW.trod, Tryz.underlying168, cellsForm, cellsForms] at h
    split at h
    · obtain ⟨xs, hm, hx⟩ := Option.map_eq_some_iff.1 h
      have hi : i < 9 := by
        have := (List.getElem?_eq_some_iff.1 hf).1
        rw [forms_len] at this
        exact this
      obtain ⟨y, hy, hfy⟩ := Lib.mapM_at hm i i (by simp [hi])
      have hxs : xs.map (·.1) = forms.map fun z => (DataW.agg [.lit (.int .u8 z.1), .lit (.int .u8 z.2.1), .lit (.int .u8 z.2.2.1), .lit (.int .u8 z.2.2.2.1), .lit (.int .u8 z.2.2.2.2)] : DataW H) := by
        have := congrArg Prod.fst hx
        simpa [Rows.laid_sigil_wire_forms, forms] using this
      have h2 : (xs.map (·.1))[i]? = some y.1 := by simp [hy]
      rw [hxs, List.getElem?_map, hf] at h2
      simp at h2
      obtain ⟨y1, y2⟩ := y
      simp only at h2
      subst h2
      exact form_cells hfy
    · cases h

theorem hasF_of {W : World} {laid : List (String × DataW Unit)} (h : laidMet Tryz.prog laid W) (hm : ("sigil/wire.forms", Rows.laid_sigil_wire_forms) ∈ laid) : HasF W := by
  obtain ⟨g', t', cs, fuel, p, hg', ht', hvar, hd⟩ := Lib.laidMet.reads h hm
  obtain rfl := Option.some.inj (gForms.symm.trans hg')
  obtain rfl := Option.some.inj (gFormsType.symm.trans ht')
  have hc := World.var?_cell gForms hvar
  have ht := table_cells hd
  have hat : ∀ (i j : Nat) (l : List Value) (v : Value), (cs.toList.drop (i * 5)).take 5 = l → j < 5 → l[j]? = some v → W.cell? ⟨0, i * 5 + j, none⟩ = some v := by
    intro i j l v hl hj hv
    rw [hc]
    subst hl
    rw [List.getElem?_take, if_pos hj, List.getElem?_drop] at hv
    simpa using hv
  refine ⟨?_, fun i a b c d e hf => ?_⟩
  · have := hat 0 0 _ (.int .u8 0) (ht 0 0 127 0 0 0 rfl) (by decide) rfl
    exact World.block_lt_of_cell? W _ this
  · have hl := ht i a b c d e hf
    have h0 := hat i 0 _ _ hl (by decide) rfl
    have h1 := hat i 1 _ _ hl (by decide) rfl
    have h2 := hat i 2 _ _ hl (by decide) rfl
    have h3 := hat i 3 _ _ hl (by decide) rfl
    have h4 := hat i 4 _ _ hl (by decide) rfl
    exact ⟨h0, h1, h2, h3, h4⟩
end Go.Proofs.YtaadpiimcaabkaaGreatDoor
