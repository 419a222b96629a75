import Derived.Test.YtobomdokdajbaaaDoorJ05

namespace Go.Proofs.YtobomdokdajbaaaDoor
open Go.RowKit
attribute [local go_sem ↓] Go.wp_at_zero Go.wp_at_succ

/-- What 'add' does at a walk that has no record yet. -/
def AddNil : Prop := ∀ (W : World) (wb : Nat) (rp : Option Addr) (tag depth num0 : Int) (ag : Value) (r : Rec), W.heap[wb]? = some (.cells #[.pointer rp, .int .i64 tag, .int .i64 depth, .bool true, .int .i64 num0, .slice none 0 0, ag] 83 (0, 0)) →
    Calls Tryd.prog 75 #[.pointer (some ⟨wb, 0, none⟩), .agg #[.int .i64 (r.number : Int), .int .i64 (r.kind : Int), .int .i64 r.num, .string r.text, .slice r.ia 0 r.ic], .int .i64 0] W fun e W' => e = .returned (.int .i64 0) ∧ ∃ v, Upd W wb (.cells #[.pointer rp, .int .i64 tag, .int .i64 depth, .bool true, .int .i64 num0, v, ag] 83 (0, 0)) W' ∧ HasR W' v [r]

/-- The walk's block, read. -/
theorem walk_cells {W : World} {wb : Nat} {p0 p1 p2 p3 p4 p5 p6 : Value} (h : W.heap[wb]? = some (.cells #[p0, p1, p2, p3, p4, p5, p6] 83 (0, 0))) :
    W.cell? ⟨wb, 0, none⟩ = some p0 ∧ W.cell? ⟨wb, 1, none⟩ = some p1 ∧ W.cell? ⟨wb, 2, none⟩ = some p2 ∧ W.cell? ⟨wb, 3, none⟩ = some p3 ∧ W.cell? ⟨wb, 4, none⟩ = some p4 ∧ W.cell? ⟨wb, 5, none⟩ = some p5 ∧ W.cell? ⟨wb, 6, none⟩ = some p6 ∧ W.frozen? ⟨wb, 1, none⟩ = false := by
  unfold World.cell? World.frozen?
  rw [h]
  exact ⟨rfl, rfl, rfl, rfl, rfl, rfl, rfl, rfl⟩

set_option maxRecDepth 100000 in
set_option maxHeartbeats 2000000 in
/-- The reading of the example's number, by the table's entry. -/
theorem take0 (hadd : AddNil) {W : World} {b wb : Nat} {tag depth num0 : Int} {ag : Value} (h : W.heap[b]? = some (.cells #[.string ⟨#[8, 150, 1]⟩, .int .i64 1, .bool true] 78 (0, 0))) (hw : W.heap[wb]? = some (.cells #[.pointer (some ⟨b, 0, none⟩), .int .i64 tag, .int .i64 depth, .bool true, .int .i64 num0, .slice none 0 0, ag] 83 (0, 0))) :
    Calls Tryd.prog 74 #[.pointer (some ⟨wb, 0, none⟩), .int .i64 1] W fun e W' => e = .returned (.int .i64 0) ∧ ∃ v W1, Upd W b (.cells #[.string ⟨#[8, 150, 1]⟩, .int .i64 3, .bool true] 78 (0, 0)) W1 ∧ Upd W1 wb (.cells #[.pointer (some ⟨b, 0, none⟩), .int .i64 tag, .int .i64 depth, .bool true, .int .i64 num0, v, ag] 83 (0, 0)) W' ∧ HasR W' v [⟨1, 0, 150, .empty, none, 0⟩] := by
  obtain ⟨c0, c1, c2, c3, c4, c5, c6, f1⟩ := walk_cells hw
  have hne : wb ≠ b := fun e => by subst e; rw [h] at hw; cases hw
  go_enter Tryd.func74, Tryd.ntmps74
  go_wp2_with fail
  refine (rvar150 h).mono ?_
  rintro e w1 ⟨rfl, hU⟩
  have hw1 := (hU.far wb (Array.getElem?_eq_some_iff.1 hw).1 hne).trans hw
  go_wp2_with fail
  refine (hadd w1 wb _ _ _ _ _ ⟨1, 0, 150, .empty, none, 0⟩ hw1).mono ?_
  rintro e w2 ⟨rfl, v, hU2, hR⟩
  go_wp2
  go_ret
  exact ⟨rfl, v, w1, hU, hU2, hR⟩

theorem Upd.of {A W W' : World} {b : Nat} {o : Obj} (hA : Below A.heap.size A W) (h : Upd W b o W') : Upd A b o W' :=
  ⟨h.os.trans hA.os, h.tape.trans hA.tape, h.output.trans hA.output, Nat.le_trans hA.size h.size, h.at', fun k hk hn => (h.far k (Nat.lt_of_lt_of_le hk hA.size) hn).trans (hA.block k hk)⟩

set_option maxRecDepth 100000 in
set_option maxHeartbeats 2000000 in
theorem wtake0 (hadd : AddNil) {W : World} {b wb : Nat} {tag depth num0 : Int} {ag : Value} (h : W.heap[b]? = some (.cells #[.string ⟨#[8, 150, 1]⟩, .int .i64 1, .bool true] 78 (0, 0))) (hw : W.heap[wb]? = some (.cells #[.pointer (some ⟨b, 0, none⟩), .int .i64 tag, .int .i64 depth, .bool true, .int .i64 num0, .slice none 0 0, ag] 83 (0, 0))) :
    Calls Tryd.prog 66 #[.pointer (some ⟨wb, 0, none⟩), .int .i64 1, .int .i64 0] W fun e W' => e = .returned (.int .i64 0) ∧ ∃ v W1, Upd W b (.cells #[.string ⟨#[8, 150, 1]⟩, .int .i64 3, .bool true] 78 (0, 0)) W1 ∧ Upd W1 wb (.cells #[.pointer (some ⟨b, 0, none⟩), .int .i64 tag, .int .i64 depth, .bool true, .int .i64 num0, v, ag] 83 (0, 0)) W' ∧ HasR W' v [⟨1, 0, 150, .empty, none, 0⟩] := by
  go_enter Tryd.func66, Tryd.ntmps66
  go_wp2_with fail
  refine (acts_any W).mono ?_
  rintro e w1 ⟨rfl, hb1⟩
  obtain ⟨A, hA, hTab⟩ : ∃ A, actCells.toArray = A ∧ Tab A := ⟨_, rfl, tab_any⟩
  rw [hA]
  clear hA
  have hth := there_new w1 hTab
  have hif := hTab.info
  have hone := hTab.one
  have hT := hasT_new w1 hTab
  have hB0 := below_setCells hb1.size A.toList 0 _ (hb1.alloc hb1.size (.cells #[.nilFunc, .nilFunc, .nilFunc, .nilFunc, .nilFunc, .nilFunc, .nilFunc, .nilFunc, .nilFunc, .nilFunc, .nilFunc, .nilFunc, .nilFunc, .nilFunc, .nilFunc, .nilFunc, .nilFunc, .nilFunc, .nilFunc, .nilFunc, .nilFunc, .nilFunc, .nilFunc, .nilFunc] 113))
  have ht1 := (hT.cell 3).trans (show actCells[3]? = some (.func (.func 74) #[] #[]) from rfl)
  go_wp2_with (first | (go_at_call 74; fail) | (refine wpList_store_mid rfl 113 (.tmp 7) (.tmp 8) rfl w1.heap.size 0 A rfl rfl hth hif hone ?_; generalize (w1.alloc (.cells #[.nilFunc, .nilFunc, .nilFunc, .nilFunc, .nilFunc, .nilFunc, .nilFunc, .nilFunc, .nilFunc, .nilFunc, .nilFunc, .nilFunc, .nilFunc, .nilFunc, .nilFunc, .nilFunc, .nilFunc, .nilFunc, .nilFunc, .nilFunc, .nilFunc, .nilFunc, .nilFunc, .nilFunc] 113)).setCells w1.heap.size 0 A.toList = X at *))
  have hX := (hB0.block b (Array.getElem?_eq_some_iff.1 h).1).trans h
  have hXw := (hB0.block wb (Array.getElem?_eq_some_iff.1 hw).1).trans hw
  refine (take0 hadd hX hXw).mono ?_
  rintro e w2 ⟨rfl, v, W1, hU1, hU2, hR⟩
  go_wp2
  go_ret
  exact ⟨rfl, v, W1, hU1.of hB0, hU2, hR⟩

set_option maxRecDepth 100000 in
set_option maxHeartbeats 2000000 in
theorem wstep0 (hadd : AddNil) {W : World} {b wb : Nat} {depth num0 : Int} {ag : Value} (h : W.heap[b]? = some (.cells #[.string ⟨#[8, 150, 1]⟩, .int .i64 0, .bool true] 78 (0, 0))) (hw : W.heap[wb]? = some (.cells #[.pointer (some ⟨b, 0, none⟩), .int .i64 0, .int .i64 depth, .bool true, .int .i64 num0, .slice none 0 0, ag] 83 (0, 0))) :
    Calls Tryd.prog 48 #[.pointer (some ⟨wb, 0, none⟩)] W fun e W' => e = .returned (.int .i64 0) ∧ ∃ v, W'.heap[b]? = some (.cells #[.string ⟨#[8, 150, 1]⟩, .int .i64 3, .bool true] 78 (0, 0)) ∧ W'.heap[wb]? = some (.cells #[.pointer (some ⟨b, 0, none⟩), .int .i64 0, .int .i64 depth, .bool true, .int .i64 num0, v, ag] 83 (0, 0)) ∧ HasR W' v [⟨1, 0, 150, .empty, none, 0⟩] ∧ (∀ n, n ≤ W.heap.size → n ≤ b → n ≤ wb → Below n W W') := by
  obtain ⟨c0, c1, c2, c3, c4, c5, c6, f1⟩ := walk_cells hw
  obtain ⟨d0, d1, d2, _⟩ := cells3_of h
  have hne : wb ≠ b := fun e => by subst e; rw [h] at hw; cases hw
  have hwb := (Array.getElem?_eq_some_iff.1 hw).1
  have hb' := (Array.getElem?_eq_some_iff.1 h).1
  go_enter Tryd.func48, Tryd.ntmps48
  go_wp2_with fail
  have hS := heap_setCell_same W wb 1 _ _ (.int .i64 0) hw
  have hSb := (heap_setCell_other W ⟨wb, 1, none⟩ b (.int .i64 0) (Ne.symm hne)).trans h
  have hSB : ∀ n, n ≤ wb → Below n W (W.setCell ⟨wb, 1, none⟩ (.int .i64 0)) := fun n hn => (Below.refl n W).setCell (p := ⟨wb, 1, none⟩) hn _
  have hSz : (W.setCell ⟨wb, 1, none⟩ (.int .i64 0)).heap.size = W.heap.size := World.size_setCell _ _ _
  generalize W.setCell ⟨wb, 1, none⟩ (.int .i64 0) = S at *
  refine (rtag hSb).mono ?_
  rintro e w1 ⟨rfl, hU⟩
  have hw1 : w1.heap[wb]? = some (.cells #[.pointer (some ⟨b, 0, none⟩), .int .i64 0, .int .i64 depth, .bool true, .int .i64 num0, .slice none 0 0, ag] 83 (0, 0)) := (hU.far wb (by omega) hne).trans hS
  clear c0 c1 c2 c3 c4 c5 c6 f1 d0 d1 d2
  go_wp2_with fail
  refine (wtake0 hadd hU.at' hw1).mono ?_
  rintro e w2 ⟨rfl, v, W1, hU1, hU2, hR⟩
  have hz1 := hU.size
  have hz2 := hU1.size
  go_wp2
  go_ret
  exact ⟨rfl, v, (hU2.far b (by omega) (Ne.symm hne)).trans hU1.at', hU2.at', hR, fun n h1 h2 h3 => (hSB n h3).trans ((hU.below (by omega) h2).trans ((hU1.below (by omega) h2).trans (hU2.below (by omega) h3)))⟩

set_option maxRecDepth 100000 in
set_option maxHeartbeats 2000000 in
theorem ingroup0 {W : World} {wb : Nat} {p0 p1 p2 p3 p4 p5 : Value} (hw : W.heap[wb]? = some (.cells #[p0, p1, p2, p3, p4, p5, .slice none 0 0] 83 (0, 0))) :
    Calls Tryd.prog 47 #[.pointer (some ⟨wb, 0, none⟩)] W fun e W' => e = .returned (.bool false) ∧ W' = W := by
  obtain ⟨c0, c1, c2, c3, c4, c5, c6, f1⟩ := walk_cells hw
  go_enter Tryd.func47, Tryd.ntmps47
  go_wp2
  go_ret
  exact ⟨rfl, rfl⟩

set_option maxRecDepth 100000 in
set_option maxHeartbeats 2000000 in
theorem read0 {W : World} {g : Nat} {off cap : Nat} (h0 : W.cell? ⟨g, off, none⟩ = some (.int .u8 8)) (h1 : W.cell? ⟨g, off + 1, none⟩ = some (.int .u8 150)) (h2 : W.cell? ⟨g, off + 2, none⟩ = some (.int .u8 1)) :
    Calls Tryd.prog 23 #[.slice (some ⟨g, off, none⟩) 3 cap, .bool true] W fun e W' => e = .returned (.tuple #[.pointer (some ⟨W.heap.size, 0, none⟩), .int .i64 0]) ∧ W'.heap[W.heap.size]? = some (.cells #[.string ⟨#[8, 150, 1]⟩, .int .i64 0, .bool true] 78 (0, 0)) ∧ Below W.heap.size W W' := by
  have hcv : (convert 24 9 (.slice (some ⟨g, off, none⟩) 3 cap)).run Tryd.prog W = .ok (.string ⟨#[8, 150, 1]⟩) W :=
    run_convert_bytes_back (P := Tryd.prog) W 24 9 5 ⟨g, off, none⟩ cap [8, 150, 1] Tryd.underlying24 Tryd.underlying5 Tryd.underlying9 (fun j hj => by
      rw [Go.WideShapes.add_plain]
      match j, hj with
      | 0, _ => exact h0
      | 1, _ => exact h1
      | 2, _ => exact h2)
  have hnw := heap_alloc_new W (.cells #[.string ⟨#[8, 150, 1]⟩, .int .i64 0, .bool true] 78)
  have hB : Below W.heap.size W (W.alloc (.cells #[.string ⟨#[8, 150, 1]⟩, .int .i64 0, .bool true] 78)) := (Below.refl _ _).alloc (Nat.le_refl _) _
  go_enter Tryd.func23, Tryd.ntmps23
  go_wp2
  go_ret2
  exact ⟨rfl, hnw, hB⟩

set_option maxRecDepth 100000 in
set_option maxHeartbeats 2000000 in
theorem newWalk0 {W : World} {b : Nat} (h : W.heap[b]? = some (.cells #[.string ⟨#[8, 150, 1]⟩, .int .i64 0, .bool true] 78 (0, 0))) :
    Calls Tryd.prog 45 #[.pointer (some ⟨b, 0, none⟩), .int .i64 63, .bool true] W fun e W' => e = .returned (.pointer (some ⟨W.heap.size, 0, none⟩)) ∧ W'.heap[W.heap.size]? = some (.cells #[.pointer (some ⟨b, 0, none⟩), .int .i64 0, .int .i64 63, .bool true, .int .i64 0, .slice none 0 0, .slice none 0 0] 83 (0, 0)) ∧ Below W.heap.size W W' := by
  obtain ⟨d0, d1, d2, _⟩ := cells3_of h
  have hnw := heap_alloc_new W (.cells #[.pointer (some ⟨b, 0, none⟩), .int .i64 0, .int .i64 63, .bool true, .int .i64 0, .slice none 0 0, .slice none 0 0] 83)
  have hB : Below W.heap.size W (W.alloc (.cells #[.pointer (some ⟨b, 0, none⟩), .int .i64 0, .int .i64 63, .bool true, .int .i64 0, .slice none 0 0, .slice none 0 0] 83)) := (Below.refl _ _).alloc (Nat.le_refl _) _
  go_enter Tryd.func45, Tryd.ntmps45
  go_wp2
  go_ret
  exact ⟨rfl, hnw, hB⟩
end Go.Proofs.YtobomdokdajbaaaDoor

namespace Go.Proofs.YtobomdokdajbaaaDoor
open Go.RowKit
attribute [local go_sem ↓] Go.wp_at_zero Go.wp_at_succ

set_option maxRecDepth 100000 in
set_option maxHeartbeats 4000000 in
theorem split0 (hadd : AddNil) {W : World} {g : Nat} {off cap : Nat} (h0 : W.cell? ⟨g, off, none⟩ = some (.int .u8 8)) (h1 : W.cell? ⟨g, off + 1, none⟩ = some (.int .u8 150)) (h2 : W.cell? ⟨g, off + 2, none⟩ = some (.int .u8 1)) :
    Calls Tryd.prog 14 #[.slice (some ⟨g, off, none⟩) 3 cap, .bool true] W fun e W' => ∃ v, e = .returned (.tuple #[v, .int .i64 0, .int .i64 0]) ∧ HasR W' v [⟨1, 0, 150, .empty, none, 0⟩] ∧ Below W.heap.size W W' := by
  go_enter Tryd.func14, Tryd.ntmps14
  go_wp2_with fail
  refine (read0 h0 h1 h2).mono ?_
  rintro e w1 ⟨rfl, hr, hb1⟩
  have hz1 := (Array.getElem?_eq_some_iff.1 hr).1
  go_wp2_with fail
  refine (newWalk0 hr).mono ?_
  rintro e w2 ⟨rfl, hw, hb2⟩
  have hr2 := (hb2.block W.heap.size hz1).trans hr
  have hB2 := hb1.trans (hb2.mono hb1.size)
  clear h0 h1 h2 hb1
  go_wp2_with fail
  refine wp_loop_rounds 2 ?_
  rw [rounds_succ]
  go_wp2_with fail
  refine (more0 (n := 0) (r := true) hr2 rfl).mono ?_
  rintro e w3 ⟨rfl, k3, rfl⟩
  go_wp2_with fail
  refine (wstep0 hadd (W := w2.drewN k3) hr2 hw).mono ?_
  rintro e w4 ⟨rfl, v, hr4, hw4, hR4, hB4⟩
  have hB4' : Below W.heap.size W w4 := hB2.trans (by have := hB4 W.heap.size (by have := hB2.size; exact this) (Nat.le_refl _) (by omega); exact ⟨this.os, this.tape, this.output, this.size, this.block⟩)
  clear hr2 hw hB4
  go_wp2_with fail
  rw [rounds_succ]
  go_wp2_with fail
  refine (more0 (n := 3) (r := false) hr4 rfl).mono ?_
  rintro e w5 ⟨rfl, k5, rfl⟩
  go_wp2_with fail
  refine (ingroup0 (W := w4.drewN k5) hw4).mono ?_
  rintro e w' ⟨rfl, rfl⟩
  obtain ⟨c0, c1, c2, c3, c4, c5, c6, f1⟩ := walk_cells (W := w4.drewN k5) hw4
  have hR5 : HasR (w4.drewN k5) v [⟨1, 0, 150, .empty, none, 0⟩] := hR4
  have hB5 : Below W.heap.size W (w4.drewN k5) := ⟨hB4'.os, hB4'.tape, hB4'.output, hB4'.size, hB4'.block⟩
  generalize w4.drewN k5 = Z at *
  go_wp2
  go_ret3
  exact ⟨v, rfl, hR5, hB5⟩
end Go.Proofs.YtobomdokdajbaaaDoor

namespace Go.Proofs.YtobomdokdajbaaaDoor
open Go.RowKit
attribute [local go_sem ↓] Go.wp_at_zero Go.wp_at_succ

/-- The forms of the characters. -/
def forms : List (Int × Int × Int × Int × Int) := [(0, 127, 0, 0, 0), (194, 223, 1, 128, 191), (224, 224, 2, 160, 191), (225, 236, 2, 128, 191), (237, 237, 2, 128, 159), (238, 239, 2, 128, 191), (240, 240, 3, 144, 191), (241, 243, 3, 128, 191), (244, 244, 3, 128, 143)]
/-- The package's table lies in its block. -/
def HasF (W : World) : Prop := 0 < W.heap.size ∧ ∀ i a b c d e, forms[i]? = some (a, b, c, d, e) → W.cell? ⟨0, i * 5, none⟩ = some (.int .u8 a) ∧ W.cell? ⟨0, i * 5 + 1, none⟩ = some (.int .u8 b) ∧ W.cell? ⟨0, i * 5 + 2, none⟩ = some (.int .u8 c) ∧ W.cell? ⟨0, i * 5 + 3, none⟩ = some (.int .u8 d) ∧ W.cell? ⟨0, i * 5 + 4, none⟩ = some (.int .u8 e)
theorem HasF.up {W w : World} (h : HasF W) (hb : Below W.heap.size W w) : HasF w :=
  ⟨Nat.lt_of_lt_of_le h.1 hb.size, fun i a b c d e hf => by
    obtain ⟨q0, q1, q2, q3, q4⟩ := h.2 i a b c d e hf
    exact ⟨(hb.cell (p := ⟨0, i * 5, none⟩) h.1).trans q0, (hb.cell (p := ⟨0, i * 5 + 1, none⟩) h.1).trans q1, (hb.cell (p := ⟨0, i * 5 + 2, none⟩) h.1).trans q2, (hb.cell (p := ⟨0, i * 5 + 3, none⟩) h.1).trans q3, (hb.cell (p := ⟨0, i * 5 + 4, none⟩) h.1).trans q4⟩⟩
theorem forms_len : forms.length = 9 := rfl
theorem forms_last : ∀ (i : Nat) (a b c d e : Int), forms[i]? = some (a, b, c, d, e) → a ≤ 255 ∧ b < 255 := by
  intro i a b c d e h
  have key : ∀ x ∈ forms, x.1 ≤ 255 ∧ x.2.1 < 255 := by decide
  exact key _ (List.mem_of_getElem? h)

set_option maxRecDepth 100000 in
set_option maxHeartbeats 4000000 in
/-- No character begins with the byte 255. -/
theorem char255 {W : World} (h : HasF W) (s : ByteArray) (hs : 0 < s.size) (h0 : s[0].toNat = 255) :
    Calls Tryd.prog 62 #[.string s] W fun e W' => e = .returned (.int .i64 0) ∧ Below W.heap.size W W' := by
  go_enter Tryd.func62, Tryd.ntmps62
  go_wp2
  go_loopg [5] 9 (fun gk v5 wr => ∃ (i : Nat), v5 = .int .i64 (i : Int) ∧ gk = 9 - i ∧ i ≤ 9 ∧ Below W.heap.size W wr)
  case atStart => exact ⟨0, rfl, rfl, by decide, Below.refl _ _⟩
  case round =>
    obtain ⟨i, rfl, hgk, hin, hB⟩ := hrel
    have Hgk := hide hgk
    clear hgk
    by_cases hlt : i < 9
    · obtain ⟨⟨a, b, c, d, e⟩, hf⟩ : ∃ x, forms[i]? = some x := ⟨_, List.getElem?_eq_getElem (by rw [forms_len]; exact hlt)⟩
      obtain ⟨q0, q1, q2, q3, q4⟩ := (h.up hB).2 i a b c d e hf
      obtain ⟨l1, l2⟩ := forms_last i a b c d e hf
      have hi0 : (0 : Int) ≤ (i : Int) := Int.natCast_nonneg _
      have hi1 : (i : Int) < 9 := by omega
      have e1 : a ≤ 255 := l1
      have e2 : decide ((255 : Int) ≤ b) = false := by simp; omega
      have hs' : (0 : Int) < (s.size : Int) := by omega
      clear hf l1 l2
      go_wp2_with fail
      go_quiet (fail)
      go_wp2
      go_roundg (9 - (i + 1))
      case measure => have := unhide Hgk; omega
      case rel => exact ⟨i + 1, by go_num, rfl, by omega, ⟨hB.os, hB.tape, hB.output, by rw [World.heap_drewN]; exact (hB.alloc hB.size _).size, fun k hk => (hB.alloc hB.size _).block k hk⟩⟩
    · obtain rfl : i = 9 := by omega
      go_wp2
      go_ret
      exact ⟨rfl, hB⟩

set_option maxRecDepth 100000 in
set_option maxHeartbeats 4000000 in
theorem length0 (W : World) (s : ByteArray) (hs : 0 < s.size) :
    Calls Tryd.prog 70 #[.agg #[.int .u8 0, .int .u8 127, .int .u8 0, .int .u8 0, .int .u8 0], .string s] W fun e W' => e = .returned (.int .i64 1) ∧ Below W.heap.size W W' := by
  have hs' : decide ((s.size : Int) < 1) = false := by simp; omega
  have hs2 : s.size ≠ 0 := by omega
  go_enter Tryd.func70, Tryd.ntmps70
  go_wp2_with fail
  go_quiet (fail)
  go_wp2
  refine wp_loop_rounds 1 ?_
  rw [rounds_succ]
  go_wp2
  go_ret
  refine ⟨rfl, ?_⟩
  have hB : Below W.heap.size W (W.alloc (.cells #[.int .u8 0, .int .u8 127, .int .u8 0, .int .u8 0, .int .u8 0] 120)) := (Below.refl _ _).alloc (Nat.le_refl _) _
  exact ⟨hB.os, hB.tape, hB.output, hB.size, hB.block⟩

set_option maxRecDepth 100000 in
set_option maxHeartbeats 4000000 in
theorem char97 {W : World} (h : HasF W) (s : ByteArray) (hs : 0 < s.size) (h0 : s[0].toNat = 97) :
    Calls Tryd.prog 62 #[.string s] W fun e W' => e = .returned (.int .i64 1) ∧ Below W.heap.size W W' := by
  obtain ⟨q0, q1, q2, q3, q4⟩ := h.2 0 0 127 0 0 0 rfl
  have hs' : (0 : Int) < (s.size : Int) := by omega
  go_enter Tryd.func62, Tryd.ntmps62
  go_wp2
  refine wp_loop_rounds 1 ?_
  rw [rounds_succ]
  go_wp2_with fail
  go_quiet (fail)
  go_wp2_with fail
  refine (length0 _ s hs).mono ?_
  rintro e w2 ⟨rfl, hb2⟩
  have hB : Below W.heap.size W (W.alloc (.cells #[.int .u8 0, .int .u8 127, .int .u8 0, .int .u8 0, .int .u8 0] 120)) := (Below.refl _ _).alloc (Nat.le_refl _) _
  have hB2 : Below W.heap.size W w2 := ⟨hb2.os.trans hB.os, hb2.tape.trans hB.tape, hb2.output.trans hB.output, Nat.le_trans hB.size hb2.size, fun k hk => (hb2.block k (Nat.lt_of_lt_of_le hk hB.size)).trans (hB.block k hk)⟩
  go_wp2
  go_ret
  exact ⟨rfl, hB2⟩

set_option maxRecDepth 100000 in
set_option maxHeartbeats 4000000 in
theorem utf8_0 {W : World} (h : HasF W) : Calls Tryd.prog 30 #[.string ⟨#[97, 255]⟩] W fun e W' => e = .returned (.int .i64 1) ∧ Below W.heap.size W W' := by
  have hsz : (⟨#[97, 255]⟩ : ByteArray).size = 2 := rfl
  go_enter Tryd.func30, Tryd.ntmps30
  go_wp2
  refine wp_loop_rounds 2 ?_
  rw [rounds_succ]
  go_wp2_with fail
  refine (char97 h _ (by decide) (by decide)).mono ?_
  rintro e w1 ⟨rfl, hb1⟩
  go_wp2_with fail
  rw [rounds_succ]
  go_wp2_with fail
  refine (char255 (h.up hb1) _ (by decide) (by decide)).mono ?_
  rintro e w2 ⟨rfl, hb2⟩
  go_wp2
  go_ret
  exact ⟨rfl, hb1.trans (hb2.mono hb1.size)⟩
end Go.Proofs.YtobomdokdajbaaaDoor
