import Derived.Test.YthodjkeppobcmaaDoorJ45
import Derived.Test.YthodjkeppobcmaaDoorJ45
import Derived.Outline
import Derived.Test.YthodjkeppobcmaaDoorJ18
import Derived.Test.YthodjkeppobcmaaDoorRows
import Derived.WalkKit
import Derived.ProofKit
import Derived.OpenShut
import Derived.Lib.LaidTab
import Derived.Lib.LaidU8
import Derived.Test.YthodjkeppobcmaaDoorJ03

namespace Go.Proofs.YthodjkeppobcmaaDoor
open Go.RowKit Go.Lib
attribute [local go_sem ↓] Go.wp_at_zero Go.wp_at_succ

theorem lit_ck : ckR lit1 = .ok (lit2, 22) := by
  unfold ckR
  rw [lit_utf, lit_size, lit_strN, lit_top]
  rfl
def reS : RR → ByteArray
  | .error _ => ⟨#[]⟩
  | .ok (l, _) => ofN l
def reC : RR → Int
  | .error (c, _) => (c : Int)
  | .ok _ => 0
def reP : RR → Int
  | .error (_, p) => (p : Int)
  | .ok _ => 0
theorem JA.eq {W w : World} {r : RR} {e : Ending} (h : JA W r e w) : e = .returned (.tuple #[.string (reS r), .agg (fltA (reC r) (reP r))]) ∧ Below W.heap.size W w := by
  rcases r with ⟨c, p⟩ | ⟨l, p⟩
  · exact ⟨h.1, h.2⟩
  · exact ⟨h.1, h.2⟩
theorem CoA.eq {W w : World} {r : RR} {e : Ending} (h : CoA W r e w) : e = .returned (.tuple #[.string (reS r), .int .i64 (reC r), .int .i64 (reP r)]) ∧ Below W.heap.size W w := by
  rcases r with ⟨c, p⟩ | ⟨l, p⟩
  · exact ⟨h.2, h.1⟩
  · exact ⟨h.2, h.1⟩
set_option maxRecDepth 100000 in
set_option maxHeartbeats 2000000 in
theorem jsonCompacts_row {W : World} {s : ByteArray} (hF : HasF W) (hE : HasE W) (hs : s.size ≤ 140737488351232) : Calls Tryd.prog 3 #[.string s] W fun e w => e = .returned (.bool true) ∧ Below W.heap.size W w := by
  have HJ := hide (fun W hE hF => (jcompact_any (W := W) hE hF s hs).mono fun _ _ h => JA.eq h)
  have HK := hide (fun W => (kcompact_any (W := W) s hs).mono fun _ _ h => CoA.eq h)
  have HL := hide (fun W hE hF => (jcompact_any (W := W) hE hF lit1 (by rw [lit_size]; omega)).mono fun _ _ h => JA.eq h)
  rw [lit_ck] at HL
  have hS : reS (.ok (lit2, 22)) = ⟨#[91, 49, 44, 123, 34, 97, 34, 58, 110, 117, 108, 108, 125, 93]⟩ := by decide +kernel
  have hC : reC (.ok (lit2, 22)) = 0 := rfl
  have hP : reP (.ok (lit2, 22)) = 0 := rfl
  rw [hS, hC, hP] at HL
  unfold lit1 fltA at HL
  obtain ⟨t, ht⟩ : ∃ x, reS (ckR s) = x := ⟨_, rfl⟩
  obtain ⟨c, hc⟩ : ∃ x, reC (ckR s) = x := ⟨_, rfl⟩
  obtain ⟨p, hp⟩ : ∃ x, reP (ckR s) = x := ⟨_, rfl⟩
  rw [ht, hc, hp] at HJ HK
  unfold fltA at HJ
  have HE := hide hE
  have HF := hide hF
  clear ht hc hp hS hC hP hE hF
  go_enter Tryd.func3, Tryd.ntmps3
  go_wp2_with fail
  refine (unhide HJ _ (unhide HE) (unhide HF)).mono ?_
  rintro e w1 ⟨rfl, hb1⟩
  have hbA := hb1.alloc hb1.size (.cells #[.int .i64 c, .int .i64 0, .int .i64 p, .string ⟨#[]⟩] 24)
  have ka : (w1.alloc (.cells #[.int .i64 c, .int .i64 0, .int .i64 p, .string ⟨#[]⟩] 24)).heap[w1.heap.size]? = some (.cells #[.int .i64 c, .int .i64 0, .int .i64 p, .string ⟨#[]⟩] 24 (0, 0)) := heap_new _ _
  have HBA := hide hbA
  have KA := hide ka
  clear hb1 hbA ka
  go_wp2_with fail
  refine (unhide HK _).mono ?_
  rintro e w2 ⟨rfl, hb2⟩
  have hbW : Below W.heap.size W w2 := (unhide HBA).trans (hb2.mono (unhide HBA).size)
  have k2 := (hb2.block w1.heap.size (by rw [World.size_alloc]; omega)).trans (unhide KA)
  have l2 := (Array.getElem?_eq_some_iff.1 k2).1
  have HE2 := hide ((unhide HE).up hbW)
  have HF2 := hide ((unhide HF).up hbW)
  have HBW := hide hbW
  have K2 := hide k2
  have L2 := hide l2
  clear HBA KA hb2 hbW k2 l2 HE HF
  go_wp2_with fail
  refine (unhide HL _ (unhide HE2) (unhide HF2)).mono ?_
  rintro e w3 ⟨rfl, hb3⟩
  have hbV : Below W.heap.size W w3 := (unhide HBW).trans (hb3.mono (unhide HBW).size)
  have k3 := (hb3.block w1.heap.size (unhide L2)).trans (unhide K2)
  have l3 := (Array.getElem?_eq_some_iff.1 k3).1
  have k4 : (w3.alloc (.cells #[.int .i64 0, .int .i64 0, .int .i64 0, .string ⟨#[]⟩] 24)).heap[w1.heap.size]? = _ := (Below.heap_alloc _ _ _ l3).trans k3
  have k5 : (w3.alloc (.cells #[.int .i64 0, .int .i64 0, .int .i64 0, .string ⟨#[]⟩] 24)).heap[w3.heap.size]? = some (.cells #[.int .i64 0, .int .i64 0, .int .i64 0, .string ⟨#[]⟩] 24 (0, 0)) := heap_new _ _
  have HB4 := hide (hbV.alloc hbV.size (.cells #[.int .i64 0, .int .i64 0, .int .i64 0, .string ⟨#[]⟩] 24))
  have n4 := (cells4 k4).1
  have n5 := (cells4 k5).1
  obtain ⟨a0, a1, a2, a3⟩ := n4
  obtain ⟨b0, b1, b2, b3⟩ := n5
  clear hb3 hbV k3 l3 k4 k5 HBW K2 L2 HE2 HF2
  go_wp2_with fail
  go_ret
  exact ⟨rfl, unhide HB4⟩
end Go.Proofs.YthodjkeppobcmaaDoor

namespace Go.Proofs.YthodjkeppobcmaaDoor
open Go.ChangeShapes Go.WideShapes Go.ChangeAt Go.RowKit

theorem iface_cells {H : Type} {enc : TypeId × Value → H} {P : Program} {w : World} {base : Nat} {sp : Nat → Bool} {held : Bool} {fuel : Nat} {t : TypeId} {ms : _} {cs : List Value} {nm : String} {d : DataW H} {p : List MemPlace}
    (ht : P.underlying t = some (.interface ms)) (h : DataW.trod enc P w base sp held fuel t cs = some (.iface nm d, p)) : ∃ u v, cs = [.iface u v] := by
  cases fuel with
  | zero => simp [DataW.trod] at h
  | succ fuel =>
    simp only [DataW.trod, ht] at h
    split at h
    all_goals first
      | exact ⟨_, _, rfl⟩
      | (simp at h; done)
      | (simp_all; done)
      | (rename_i heq _; cases heq; done)
      | (rename_i heq; cases heq; done)
theorem hasV_of {W : World} {name nm : String} {d : DataW Unit} {g : Nat} (hg : Tryd.prog.globalNamed name = some g) (hty : (Tryd.prog.globals[g]?).map (·.type) = some 36) (h : Lib.VarReads Tryd.prog W name (.iface nm d)) : HasV W g := by
  obtain ⟨g', t', cs, fuel, p, hg', ht', hvar, hd⟩ := h
  obtain rfl := Option.some.inj (hg.symm.trans hg')
  obtain rfl := Option.some.inj (hty.symm.trans ht')
  have hc := World.var?_cell hg hvar
  obtain ⟨u, v, hcs⟩ := iface_cells Tryd.underlying36 hd
  have h1 : W.cell? ⟨g, 0, none⟩ = some (.iface u v) := by
    rw [hc]
    have : cs.toList[0]? = some (.iface u v) := by rw [hcs]; rfl
    simpa using this
  exact ⟨World.block_lt_of_cell? W _ h1, _, h1, .inr ⟨u, v, rfl⟩⟩
theorem hasE_of {W : World} {laid : List (String × DataW Unit)} (h : laidMet Tryd.prog laid W) (hm : ("strconv.ErrSyntax", Rows.laid_strconv_ErrSyntax) ∈ laid) (hm2 : ("strconv.ErrRange", Rows.laid_strconv_ErrRange) ∈ laid) : HasE W :=
  ⟨hasV_of (by kernel_rfl) (by kernel_rfl) (Lib.laidMet.reads h hm), hasV_of (by kernel_rfl) (by kernel_rfl) (Lib.laidMet.reads h hm2)⟩
end Go.Proofs.YthodjkeppobcmaaDoor

namespace Go.Proofs.YthodjkeppobcmaaDoor
open Go.ChangeShapes Go.WideShapes Go.ChangeAt Go.RowKit

theorem gForms : Tryd.prog.globalNamed "sigil/wire.forms" = some 0 := by kernel_rfl
theorem gFormsType : (Tryd.prog.globals[0]?).map (·.type) = some 71 := by kernel_rfl
theorem cellsForms : Tryd.prog.cellsOf 71 = 45 := by kernel_rfl
theorem cellsForm : Tryd.prog.cellsOf 70 = 5 := by kernel_rfl
theorem cellsByte : Tryd.prog.cellsOf 5 = 1 := by kernel_rfl

set_option maxRecDepth 100000 in
/-- A form's five numbers. -/
theorem form_cells {H : Type} {enc : TypeId × Value → H} {w : World} {base : Nat} {sp : Nat → Bool} {held : Bool} {fuel : Nat} {cs : List Value} {a b c d e : Int} {p : List MemPlace}
    (h : DataW.trod enc Tryd.prog w base sp held fuel 70 cs = some (.agg [.lit (.int .u8 a), .lit (.int .u8 b), .lit (.int .u8 c), .lit (.int .u8 d), .lit (.int .u8 e)], p)) :
    cs = [.int .u8 a, .int .u8 b, .int .u8 c, .int .u8 d, .int .u8 e] := by
  obtain ⟨xs, k, _, hx, hlen, hxl, hf⟩ := DataW.trod_struct Tryd.underlying70 h
  rw [cellsForm] at hlen
  match xs, hxl, cs, hlen with
  | [y0, y1, y2, y3, y4], _, [v0, v1, v2, v3, v4], _ =>
    have g0 := hf 0 _ rfl
    have g1 := hf 1 _ rfl
    have g2 := hf 2 _ rfl
    have g3 := hf 3 _ rfl
    have g4 := hf 4 _ rfl
    simp [cellsByte] at g0 g1 g2 g3 g4
    obtain ⟨n0, e0, f0, _⟩ := DataW.trod_int Tryd.underlying5 g0
    obtain ⟨n1, e1, f1, _⟩ := DataW.trod_int Tryd.underlying5 g1
    obtain ⟨n2, e2, f2, _⟩ := DataW.trod_int Tryd.underlying5 g2
    obtain ⟨n3, e3, f3, _⟩ := DataW.trod_int Tryd.underlying5 g3
    obtain ⟨n4, e4, f4, _⟩ := DataW.trod_int Tryd.underlying5 g4
    simp at e0 e1 e2 e3 e4
    subst e0 e1 e2 e3 e4 f0 f1 f2 f3 f4
    simp at hx
    obtain ⟨⟨q0, q1, q2, q3, q4⟩, _⟩ := hx
    subst q0 q1 q2 q3 q4
    rfl

theorem table_cells {H : Type} {enc : TypeId × Value → H} {w : World} {base : Nat} {sp : Nat → Bool} {held : Bool} {fuel : Nat} {cs : List Value} {p : List MemPlace}
    (h : DataW.trod enc Tryd.prog w base sp held fuel 71 cs = some (Rows.laid_sigil_wire_forms, p)) :
    ∀ (i : Nat) (a b c d e : Int), forms[i]? = some (a, b, c, d, e) → (cs.drop (i * 5)).take 5 = [.int .u8 a, .int .u8 b, .int .u8 c, .int .u8 d, .int .u8 e] := by
  intro i a b c d e hf
  cases fuel with
  | zero => simp [DataW.trod] at h
  | succ fuel =>
    simp only [DataW.trod, Tryd.underlying71, cellsForm, cellsForms] at h
    split at h
    · obtain ⟨xs, hm, hx⟩ := Option.map_eq_some_iff.1 h
      have hi : i < 9 := by
        have := (List.getElem?_eq_some_iff.1 hf).1
        rw [forms_len] at this
        exact this
      obtain ⟨y, hy, hfy⟩ := Lib.mapM_at hm i i (by simp [hi])
      have hxs : xs.map (·.1) = forms.map fun z => (DataW.agg [.lit (.int .u8 z.1), .lit (.int .u8 z.2.1), .lit (.int .u8 z.2.2.1), .lit (.int .u8 z.2.2.2.1), .lit (.int .u8 z.2.2.2.2)] : DataW H) := by
        have := congrArg Prod.fst hx
        simpa [Rows.laid_sigil_wire_forms, forms] using this
      have h2 : (xs.map (·.1))[i]? = some y.1 := by simp [hy]
      rw [hxs, List.getElem?_map, hf] at h2
      simp at h2
      obtain ⟨y1, y2⟩ := y
      simp only at h2
      subst h2
      exact form_cells hfy
    · cases h

theorem hasF_of {W : World} {laid : List (String × DataW Unit)} (h : laidMet Tryd.prog laid W) (hm : ("sigil/wire.forms", Rows.laid_sigil_wire_forms) ∈ laid) : HasF W := by
  obtain ⟨g', t', cs, fuel, p, hg', ht', hvar, hd⟩ := Lib.laidMet.reads h hm
  obtain rfl := Option.some.inj (gForms.symm.trans hg')
  obtain rfl := Option.some.inj (gFormsType.symm.trans ht')
  have hc := World.var?_cell gForms hvar
  have ht := table_cells hd
  have hat : ∀ (i j : Nat) (l : List Value) (v : Value), (cs.toList.drop (i * 5)).take 5 = l → j < 5 → l[j]? = some v → W.cell? ⟨0, i * 5 + j, none⟩ = some v := by
    intro i j l v hl hj hv
    rw [hc]
    subst hl
    rw [List.getElem?_take, if_pos hj, List.getElem?_drop] at hv
    simpa using hv
  refine ⟨?_, fun i a b c d e hf => ?_⟩
  · have := hat 0 0 _ (.int .u8 0) (ht 0 0 127 0 0 0 rfl) (by decide) rfl
    exact World.block_lt_of_cell? W _ this
  · have hl := ht i a b c d e hf
    have h0 := hat i 0 _ _ hl (by decide) rfl
    have h1 := hat i 1 _ _ hl (by decide) rfl
    have h2 := hat i 2 _ _ hl (by decide) rfl
    have h3 := hat i 3 _ _ hl (by decide) rfl
    have h4 := hat i 4 _ _ hl (by decide) rfl
    exact ⟨h0, h1, h2, h3, h4⟩
end Go.Proofs.YthodjkeppobcmaaDoor
