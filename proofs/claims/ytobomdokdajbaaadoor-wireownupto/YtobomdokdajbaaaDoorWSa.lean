import Derived.Test.YtobomdokdajbaaaDoorJ16
import Derived.Test.YtobomdokdajbaaaDoorJ14

namespace Go.Proofs.YtobomdokdajbaaaDoor
open Go.RowKit
attribute [local go_sem ↓] Go.wp_at_zero Go.wp_at_succ

abbrev set5 (w : World) (g p : Nat) (a b c d e : Value) : World := ((((w.setCell ⟨g, p, none⟩ a).setCell ⟨g, p + 1, none⟩ b).setCell ⟨g, p + 2, none⟩ c).setCell ⟨g, p + 3, none⟩ d).setCell ⟨g, p + 4, none⟩ e
theorem own_set5 {w : World} {B g n cap : Nat} {xs : List Value} {z0 z1 z2 z3 z4 a b c d e : Value} (h : w.ownsRow B 35 5 (.slice (some ⟨g, 0, none⟩) (n + 1) cap) (n + 1) (xs ++ [z0, z1, z2, z3, z4])) (hx : xs.length = n * 5) :
    (set5 w g (n * 5) a b c d e).ownsRow B 35 5 (.slice (some ⟨g, 0, none⟩) (n + 1) cap) (n + 1) (xs ++ [a, b, c, d, e]) := by
  have q := (((((h.stored (n * 5) a).1.stored (n * 5 + 1) b).1.stored (n * 5 + 2) c).1.stored (n * 5 + 3) d).1.stored (n * 5 + 4) e).1
  have e1 : (((((xs ++ [z0, z1, z2, z3, z4]).set (n * 5) a).set (n * 5 + 1) b).set (n * 5 + 2) c).set (n * 5 + 3) d).set (n * 5 + 4) e = xs ++ [a, b, c, d, e] := by
    rw [← hx]
    simp
  rw [e1] at q
  exact q
theorem far_set5 {w : World} {g p q : Nat} {a b c d e : Value} (h : q ≠ g) : (set5 w g p a b c d e).heap[q]? = w.heap[q]? := by
  unfold set5
  rw [heap_setCell_other _ ⟨g, p + 4, none⟩ q e h, heap_setCell_other _ ⟨g, p + 3, none⟩ q d h, heap_setCell_other _ ⟨g, p + 2, none⟩ q c h, heap_setCell_other _ ⟨g, p + 1, none⟩ q b h, heap_setCell_other _ ⟨g, p, none⟩ q a h]
theorem size_set5 {w : World} {g p : Nat} {a b c d e : Value} : (set5 w g p a b c d e).heap.size = w.heap.size := by
  unfold set5
  simp only [World.size_setCell]
theorem frame_set (w : World) (a : Addr) (v : Value) : (w.setCell a v).os = w.os ∧ (w.setCell a v).tape = w.tape ∧ (w.setCell a v).output = w.output := ⟨rfl, rfl, rfl⟩
theorem frame_set5 {w : World} {g p : Nat} {a b c d e : Value} : (set5 w g p a b c d e).os = w.os ∧ (set5 w g p a b c d e).tape = w.tape ∧ (set5 w g p a b c d e).output = w.output := by
  unfold set5
  refine ⟨?_, ?_, ?_⟩
  · rw [(frame_set _ _ _).1, (frame_set _ _ _).1, (frame_set _ _ _).1, (frame_set _ _ _).1, (frame_set _ _ _).1]
  · rw [(frame_set _ _ _).2.1, (frame_set _ _ _).2.1, (frame_set _ _ _).2.1, (frame_set _ _ _).2.1, (frame_set _ _ _).2.1]
  · rw [(frame_set _ _ _).2.2, (frame_set _ _ _).2.2, (frame_set _ _ _).2.2, (frame_set _ _ _).2.2, (frame_set _ _ _).2.2]
/-- What keeping a record does. -/
structure AddA (W : World) (wb B : Nat) (iv : Value) (w : World) (v' : Value) : Prop where
  os : w.os = W.os
  tape : w.tape = W.tape
  output : w.output = W.output
  size : W.heap.size ≤ w.heap.size
  far : ∀ q, q < W.heap.size → q ≠ wb → some q ≠ iv.ownBlock → w.heap[q]? = W.heap[q]?
  blk : v'.ownBlock = iv.ownBlock ∨ ∃ g, v'.ownBlock = some g ∧ W.heap.size ≤ g
/-- What a record that is kept leaves. -/
def AddFin (W : World) (wb B : Nat) (p0 p1 p2 p3 p4 iv p6 : Value) (xs : List Value) (n : Nat) (E : World) (v' : Value) : Prop := E.heap[wb]? = some (.cells #[p0, p1, p2, p3, p4, v', p6] 83 (0, 0)) ∧ E.ownsRow B 35 5 v' (n + 1) xs ∧ AddA W wb B iv E v'
theorem add_walk3 {W V w3 : World} {wb B n g3 : Nat} {o : Obj} {iv : Value} {xs : List Value} {ob : Obj} (hV : Below W.heap.size W V) (hwb : wb < B) (hBW : B ≤ W.heap.size) (hWw : W.heap[wb]? = some o) (hrow : W.ownsRow B 35 5 iv n xs) (hg : (V.alloc ob).grownBy w3 iv.ownBlock) (hat : iv.ownBlock = some g3 ∨ g3 = V.heap.size + 1) : w3.heap[wb]? = some o ∧ wb ≠ g3 := by
  have hz := hV.size
  have hn : some wb ≠ iv.ownBlock := fun q => by have := (hrow.lt wb q.symm).1; omega
  refine ⟨(hg.block wb (by rw [World.size_alloc]; omega) hn).trans ((Below.heap_alloc V ob wb (by omega)).trans ((hV.block wb (by omega)).trans hWw)), fun q => ?_⟩
  rcases hat with q1 | q1
  · exact hn (by rw [q1, q])
  · omega
/-- The blocks behind the append that are as they were. -/
theorem add_far3 {W V w3 : World} {g3 : Nat} {iv : Value} {ob : Obj} (hV : Below W.heap.size W V) (hg : (V.alloc ob).grownBy w3 iv.ownBlock) (hat : iv.ownBlock = some g3 ∨ g3 = V.heap.size + 1) : ∀ q, q < W.heap.size → some q ≠ iv.ownBlock → q ≠ g3 ∧ w3.heap[q]? = W.heap[q]? := by
  intro q hq h2
  have hz := hV.size
  refine ⟨fun e => ?_, ?_⟩
  · rcases hat with q1 | q1
    · exact h2 (by rw [q1, e])
    · omega
  · rw [hg.block q (by rw [World.size_alloc]; omega) h2, Below.heap_alloc V ob q (by omega)]
    exact hV.block q hq
theorem add_fin1 {W V w3 : World} {wb B n g3 cap : Nat} {p0 p1 p2 p3 p4 p6 iv z0 z1 z2 z3 z4 a b c d e : Value} {xs : List Value} {ob : Obj} (hV : Below W.heap.size W V) (hwb : wb < B) (hBW : B ≤ W.heap.size) (hWw : W.heap[wb]? = some (.cells #[p0, p1, p2, p3, p4, iv, p6] 83 (0, 0)))
    (hrow : W.ownsRow B 35 5 iv n xs) (hown : w3.ownsRow B 35 5 (.slice (some ⟨g3, 0, none⟩) (n + 1) cap) (n + 1) (xs ++ [z0, z1, z2, z3, z4])) (hg : (V.alloc ob).grownBy w3 iv.ownBlock) (hat : iv.ownBlock = some g3 ∨ g3 = V.heap.size + 1) :
    AddFin W wb B p0 p1 p2 p3 p4 iv p6 (xs ++ [a, b, c, d, e]) n ((set5 w3 g3 (n * 5) a b c d e).setCell ⟨wb, 5, none⟩ (.slice (some ⟨g3, 0, none⟩) (n + 1) cap)) (.slice (some ⟨g3, 0, none⟩) (n + 1) cap) := by
  obtain ⟨h3, hne⟩ := add_walk3 hV hwb hBW hWw hrow hg hat
  have hf := add_far3 hV hg hat
  have hz := hV.size
  have hgz := hg.size
  rw [World.size_alloc] at hgz
  have o5 := own_set5 (a := a) (b := b) (c := c) (d := d) (e := e) hown hrow.1
  have w5 := (far_set5 (w := w3) (p := n * 5) (a := a) (b := b) (c := c) (d := d) (e := e) hne).trans h3
  have z5 := size_set5 (w := w3) (g := g3) (p := n * 5) (a := a) (b := b) (c := c) (d := d) (e := e)
  have f5 : ∀ q, q ≠ g3 → (set5 w3 g3 (n * 5) a b c d e).heap[q]? = w3.heap[q]? := fun q hq => far_set5 hq
  have s5 := frame_set5 (w := w3) (g := g3) (p := n * 5) (a := a) (b := b) (c := c) (d := d) (e := e)
  generalize set5 w3 g3 (n * 5) a b c d e = Y at o5 w5 z5 f5 s5 ⊢
  refine ⟨heap_setCell_same Y wb 5 _ _ _ w5, rowSetB o5 hwb, ⟨s5.1.trans (hg.os.trans hV.os), s5.2.1.trans (hg.tape.trans hV.tape), s5.2.2.trans (hg.output.trans hV.output), by rw [World.size_setCell]; omega, fun q hq h1 h2 => ?_, ?_⟩⟩
  · rw [heap_setCell_other Y ⟨wb, 5, none⟩ q _ h1, f5 q (hf q hq h2).1]
    exact (hf q hq h2).2
  · rcases hat with q1 | q1
    · exact .inl q1.symm
    · exact .inr ⟨g3, rfl, by omega⟩
theorem add_fin2 {W V w3 : World} {wb B n g3 cap : Nat} {p0 p1 p2 p3 p4 p6 iv z0 z1 z2 z3 z4 a b c d e : Value} {xs : List Value} {ob : Obj} (hV : Below W.heap.size W V) (hwb : wb < B) (hBW : B ≤ W.heap.size) (hWw : W.heap[wb]? = some (.cells #[p0, p1, p2, p3, p4, iv, p6] 83 (0, 0)))
    (hrow : W.ownsRow B 35 5 iv n xs) (hown : w3.ownsRow B 35 5 (.slice (some ⟨g3, 0, none⟩) (n + 1) cap) (n + 1) (xs ++ [z0, z1, z2, z3, z4])) (hg : (V.alloc ob).grownBy w3 iv.ownBlock) (hat : iv.ownBlock = some g3 ∨ g3 = V.heap.size + 1) :
    AddFin W wb B p0 p1 p2 p3 p4 iv p6 (xs ++ [a, b, c, d, e]) n (set5 (w3.setCell ⟨wb, 5, none⟩ (.slice (some ⟨g3, 0, none⟩) (n + 1) cap)) g3 (n * 5) a b c d e) (.slice (some ⟨g3, 0, none⟩) (n + 1) cap) := by
  obtain ⟨h3, hne⟩ := add_walk3 hV hwb hBW hWw hrow hg hat
  have hf := add_far3 hV hg hat
  have hz := hV.size
  have hgz := hg.size
  rw [World.size_alloc] at hgz
  have hY := heap_setCell_same w3 wb 5 _ _ (.slice (some ⟨g3, 0, none⟩) (n + 1) cap) h3
  have oY := rowSetB (i := 5) (u := .slice (some ⟨g3, 0, none⟩) (n + 1) cap) hown hwb
  have fY : ∀ q, q ≠ wb → (w3.setCell ⟨wb, 5, none⟩ (.slice (some ⟨g3, 0, none⟩) (n + 1) cap)).heap[q]? = w3.heap[q]? := fun q hq => heap_setCell_other w3 ⟨wb, 5, none⟩ q _ hq
  have zY := World.size_setCell w3 ⟨wb, 5, none⟩ (.slice (some ⟨g3, 0, none⟩) (n + 1) cap)
  have sY : (w3.setCell ⟨wb, 5, none⟩ (.slice (some ⟨g3, 0, none⟩) (n + 1) cap)).os = w3.os ∧ (w3.setCell ⟨wb, 5, none⟩ (.slice (some ⟨g3, 0, none⟩) (n + 1) cap)).tape = w3.tape ∧ (w3.setCell ⟨wb, 5, none⟩ (.slice (some ⟨g3, 0, none⟩) (n + 1) cap)).output = w3.output := ⟨rfl, rfl, rfl⟩
  generalize w3.setCell ⟨wb, 5, none⟩ (.slice (some ⟨g3, 0, none⟩) (n + 1) cap) = Y at hY oY fY zY sY ⊢
  have o5 := own_set5 (a := a) (b := b) (c := c) (d := d) (e := e) oY hrow.1
  have z5 := size_set5 (w := Y) (g := g3) (p := n * 5) (a := a) (b := b) (c := c) (d := d) (e := e)
  have f5 : ∀ q, q ≠ g3 → (set5 Y g3 (n * 5) a b c d e).heap[q]? = Y.heap[q]? := fun q hq => far_set5 hq
  have s5 := frame_set5 (w := Y) (g := g3) (p := n * 5) (a := a) (b := b) (c := c) (d := d) (e := e)
  generalize set5 Y g3 (n * 5) a b c d e = Z at o5 z5 f5 s5 ⊢
  refine ⟨(f5 wb hne).trans hY, o5, ⟨s5.1.trans (sY.1.trans (hg.os.trans hV.os)), s5.2.1.trans (sY.2.1.trans (hg.tape.trans hV.tape)), s5.2.2.trans (sY.2.2.trans (hg.output.trans hV.output)), by omega, fun q hq h1 h2 => ?_, ?_⟩⟩
  · rw [f5 q (hf q hq h2).1, fY q h1]
    exact (hf q hq h2).2
  · rcases hat with q1 | q1
    · exact .inl q1.symm
    · exact .inr ⟨g3, rfl, by omega⟩
theorem cells5_of' {W : World} {b : Nat} {x y z u r : Value} {t : TypeId} (h : W.heap[b]? = some (.cells #[x, y, z, u, r] t (0, 0))) : W.cell? ⟨b, 0, none⟩ = some x ∧ W.cell? ⟨b, 1, none⟩ = some y ∧ W.cell? ⟨b, 2, none⟩ = some z ∧ W.cell? ⟨b, 3, none⟩ = some u ∧ W.cell? ⟨b, 4, none⟩ = some r ∧ True := by
  unfold World.cell?
  rw [h]
  exact ⟨rfl, rfl, rfl, rfl, rfl, trivial⟩
theorem own_cells5 {W : World} {B g n cap : Nat} {xs : List Value} {z0 z1 z2 z3 z4 : Value} (h : W.ownsRow B 35 5 (.slice (some ⟨g, 0, none⟩) (n + 1) cap) (n + 1) (xs ++ [z0, z1, z2, z3, z4])) (hx : xs.length = n * 5) :
    W.cell? ⟨g, n * 5, none⟩ = some z0 ∧ W.cell? ⟨g, n * 5 + 1, none⟩ = some z1 ∧ W.cell? ⟨g, n * 5 + 2, none⟩ = some z2 ∧ W.cell? ⟨g, n * 5 + 3, none⟩ = some z3 ∧ W.cell? ⟨g, n * 5 + 4, none⟩ = some z4 ∧ ∀ j, W.frozen? ⟨g, j, none⟩ = false := by
  have hc : ∀ j z, (xs ++ [z0, z1, z2, z3, z4])[j]? = some z → W.cell? ⟨g, j, none⟩ = some z := fun j z hz => by
    have := h.cells (g := g) rfl j z hz
    rwa [Go.WideShapes.add_plain, Nat.zero_add] at this
  refine ⟨hc _ _ ?_, hc _ _ ?_, hc _ _ ?_, hc _ _ ?_, hc _ _ ?_, fun j => h.frozenAt j⟩
  all_goals (rw [List.getElem?_append_right (by omega), hx]; simp)
set_option maxRecDepth 100000 in
set_option maxHeartbeats 8000000 in
/-- A record is kept. -/
theorem add_keep {W : World} {wb B n vc : Nat} {va : Option Addr} {rp : Option Addr} {tag depth num0 x0 x1 x2 : Int} {t : ByteArray} {ia : Option Addr} {il ic : Nat} {ag : Value} {xs : List Value} (h : W.heap[wb]? = some (.cells #[.pointer rp, .int .i64 tag, .int .i64 depth, .bool true, .int .i64 num0, .slice va n vc, ag] 83 (0, 0)))
    (hrow : W.ownsRow B 35 5 (.slice va n vc) n xs) (hwb : wb < B) (hBW : B ≤ W.heap.size) (hn : n ≤ 1048576) :
    Calls Tryd.prog 75 #[.pointer (some ⟨wb, 0, none⟩), .agg #[.int .i64 x0, .int .i64 x1, .int .i64 x2, .string t, .slice ia il ic], .int .i64 0] W fun e E => e = .returned (.int .i64 0) ∧ ∃ v', AddFin W wb B (.pointer rp) (.int .i64 tag) (.int .i64 depth) (.bool true) (.int .i64 num0) (.slice va n vc) ag (xs ++ [.int .i64 x0, .int .i64 x1, .int .i64 x2, .string t, .slice ia il ic]) n E v' := by
  obtain ⟨i0, hi, hz0, hz1, hz2⟩ := info_parts Tryd.infoRec
  have hwW : wb < W.heap.size := (Array.getElem?_eq_some_iff.1 h).1
  have c3 := cell_of_row W wb 3 _ _ _ h
  have c5 := cell_of_row W wb 5 _ _ _ h
  have f5 := frozen_of_row W wb 5 _ _ h
  simp at c3 c5
  have hV : Below W.heap.size W (W.alloc (.cells #[.int .i64 x0, .int .i64 x1, .int .i64 x2, .string t, .slice ia il ic] 35)) := (Below.refl _ _).alloc (Nat.le_refl _) _
  have hbx := heap_alloc_new W (.cells #[.int .i64 x0, .int .i64 x1, .int .i64 x2, .string t, .slice ia il ic] 35)
  have hVs : (W.alloc (.cells #[.int .i64 x0, .int .i64 x1, .int .i64 x2, .string t, .slice ia il ic] 35)).heap.size = W.heap.size + 1 := World.size_alloc _ _
  go_enter Tryd.func75, Tryd.ntmps75
  go_wp2_with fail
  generalize W.alloc (.cells #[.int .i64 x0, .int .i64 x1, .int .i64 x2, .string t, .slice ia il ic] 35) = V at *
  obtain ⟨y0, y1, y2, y3, y4, _⟩ := cells5_of' hbx
  have hVw := (hV.block wb hwW).trans h
  have v5 := (hV.cell (p := ⟨wb, 5, none⟩) hwW).trans c5
  have g5 := frozen_of_row V wb 5 _ _ hVw
  have hA : ∀ (b j : Nat) (o : Obj), b < V.heap.size → (V.alloc o).cell? ⟨b, j, none⟩ = V.cell? ⟨b, j, none⟩ := fun b j o hb => World.cell?_alloc_lt _ _ _ hb
  have a5 : ∀ o, (V.alloc o).cell? ⟨wb, 5, none⟩ = some (.slice va n vc) := fun o => (hA wb 5 o (by omega)).trans v5
  have a0 : ∀ o, (V.alloc o).cell? ⟨W.heap.size, 0, none⟩ = _ := fun o => (hA W.heap.size 0 o (by omega)).trans y0
  have a1 : ∀ o, (V.alloc o).cell? ⟨W.heap.size, 1, none⟩ = _ := fun o => (hA W.heap.size 1 o (by omega)).trans y1
  have a2 : ∀ o, (V.alloc o).cell? ⟨W.heap.size, 2, none⟩ = _ := fun o => (hA W.heap.size 2 o (by omega)).trans y2
  have a3 : ∀ o, (V.alloc o).cell? ⟨W.heap.size, 3, none⟩ = _ := fun o => (hA W.heap.size 3 o (by omega)).trans y3
  have a4 : ∀ o, (V.alloc o).cell? ⟨W.heap.size, 4, none⟩ = _ := fun o => (hA W.heap.size 4 o (by omega)).trans y4
  have hrV := rowUp hrow hV
  have HrV := hide hrV
  have Hrow := hide hrow
  have n0 : (0 : Int) ≤ (n : Int) := Int.natCast_nonneg _
  have n1 : (n : Int) < ((n + 1 : Nat) : Int) := by omega
  have n2 : (n : Int) < (n : Int) + 1 := by omega
  have O1 : Hid (n + 1 ≤ maxLen) := by show _ ≤ _; unfold maxLen; omega
  have O2 : Hid ((n + 1) * 64 ≤ 140737488355328) := by show _ ≤ _; omega
  clear hA hrV hrow
  go_region_law (refine step_append_lies _ rfl (.tmp 19) (.tmp 22) 33 rfl B 35 i0 (.agg #[.int .i64 0, .int .i64 0, .int .i64 0, .string .empty, .slice none 0 0]) 5 64 Tryd.underlying33 hi hz0 hz1 hz2 rfl (by decide) (.slice va n vc) n xs (by first | rfl | simp [Act.eval, Act.put]) ((unhide HrV).alloc _) ⟨V.heap.size, 0, none⟩ 1 1 [.int .i64 0, .int .i64 0, .int .i64 0, .string .empty, .slice none 0 0] (by first | rfl | simp [Act.eval, Act.put]) (by rfl) (World.news_of_block (cs := #[.int .i64 0, .int .i64 0, .int .i64 0, .string .empty, .slice none 0 0]) (t := 35) (fr := (0, 0)) (heap_alloc_new _ _)) (by simp [Value.oneCell']) (by decide) (unhide O1) (unhide O2) (by first | omega | (simp; omega)) (V.heap.size + 1) (by simp) ?_; intro g3 cap w3 hown3 hgrow hat3 hlt3; obtain ⟨z0, z1, z2, z3, z4, zf⟩ := own_cells5 hown3 (unhide Hrow).1; have hgr : (V.alloc (.cells #[.int .i64 0, .int .i64 0, .int .i64 0, .string .empty, .slice none 0 0] 35)).grownBy w3 (Value.slice va n vc).ownBlock := ⟨hgrow.os, hgrow.tape, hgrow.output, hgrow.size, hgrow.block⟩; obtain ⟨hw3, hne⟩ := add_walk3 hV hwb hBW h (unhide Hrow) hgr hat3; have k5 := cell_of_row w3 wb 5 _ _ _ hw3; simp at k5; have k5f := frozen_of_row w3 wb 5 _ _ hw3)
  all_goals
    have F1 := hide (add_fin1 (a := .int .i64 x0) (b := .int .i64 x1) (c := .int .i64 x2) (d := .string t) (e := .slice ia il ic) hV hwb hBW h (unhide Hrow) hown3 hgr hat3)
    have F2 := hide (add_fin2 (a := .int .i64 x0) (b := .int .i64 x1) (c := .int .i64 x2) (d := .string t) (e := .slice ia il ic) hV hwb hBW h (unhide Hrow) hown3 hgr hat3)
    clear hown3 hgrow hgr hat3 hlt3 z0 z1 z2 z3 z4 zf hw3 hne k5 k5f a0 a1 a2 a3 a4 a5 y0 y1 y2 y3 y4 hVw v5 g5 hV hbx hVs c3 c5 f5 h
    go_wp2
    go_ret
    first
      | with_reducible exact ⟨rfl, _, unhide F1⟩
      | with_reducible exact ⟨rfl, _, unhide F2⟩
      | exact ⟨rfl, _, unhide F1⟩
end Go.Proofs.YtobomdokdajbaaaDoor
