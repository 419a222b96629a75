import Derived.Test.YtphccijiniolcaaDoorWQ
import Derived.Deep.RegionLaw
namespace Go.Proofs.YtphccijiniolcaaDoor
open Go.RowKit
attribute [local go_sem ↓] Go.wp_at_zero Go.wp_at_succ

theorem written5 {cur : Array Value} {a b c d e : Value} (h : 5 ≤ cur.size) : (written cur 0 [a, b, c, d, e])[0]? = some a ∧ (written cur 0 [a, b, c, d, e])[1]? = some b ∧ (written cur 0 [a, b, c, d, e])[2]? = some c ∧ (written cur 0 [a, b, c, d, e])[3]? = some d ∧ (written cur 0 [a, b, c, d, e])[4]? = some e := by
  have h0 : 0 < cur.size := by omega
  have h1 : 1 < cur.size := by omega
  have h2 : 2 < cur.size := by omega
  have h3 : 3 < cur.size := by omega
  have h4 : 4 < cur.size := by omega
  simp [written, h0, h1, h2, h3, h4]
theorem add_done {W V w3 : World} {wb g3 cap : Nat} {cur : Array Value} {p0 p1 p2 p3 p4 p6 : Value} (r : Rec) (hV : Below W.heap.size W V) (hwb : wb < W.heap.size) (hWw : W.heap[wb]? = some (.cells #[p0, p1, p2, p3, p4, .slice none 0 0, p6] 75 (0, 0)))
    (ho : w3.os = V.os) (ht : w3.tape = V.tape) (hp : w3.output = V.output) (hsz : V.heap.size ≤ w3.heap.size) (hk : ∀ b, b < V.heap.size → w3.heap[b]? = V.heap[b]?) (hcur : w3.heap[g3]? = some (.cells cur 45 (0, 0))) (hcs : 5 ≤ cur.size) (hg : V.heap.size ≤ g3) :
    Upd W wb (.cells #[p0, p1, p2, p3, p4, .slice (some ⟨g3, 0, none⟩) 1 cap, p6] 75 (0, 0)) ((w3.setCells g3 0 [.int .i64 (r.number : Int), .int .i64 (r.kind : Int), .int .i64 r.num, .string r.text, .slice r.ia 0 r.ic]).setCell ⟨wb, 5, none⟩ (.slice (some ⟨g3, 0, none⟩) 1 cap)) ∧
    HasR ((w3.setCells g3 0 [.int .i64 (r.number : Int), .int .i64 (r.kind : Int), .int .i64 r.num, .string r.text, .slice r.ia 0 r.ic]).setCell ⟨wb, 5, none⟩ (.slice (some ⟨g3, 0, none⟩) 1 cap)) (.slice (some ⟨g3, 0, none⟩) 1 cap) [r] := by
  have hVz := hV.size
  obtain ⟨q1, q2⟩ := heap_setCells (t := 45) (g := g3) [.int .i64 (r.number : Int), .int .i64 (r.kind : Int), .int .i64 r.num, .string r.text, .slice r.ia 0 r.ic] 0 w3 cur hcur
  have hB := below_setCells (n := V.heap.size) (g := g3) (A := w3) hg [.int .i64 (r.number : Int), .int .i64 (r.kind : Int), .int .i64 r.num, .string r.text, .slice r.ia 0 r.ic] 0 w3 (Below.refl _ _)
  generalize w3.setCells g3 0 [.int .i64 (r.number : Int), .int .i64 (r.kind : Int), .int .i64 r.num, .string r.text, .slice r.ia 0 r.ic] = Y at *
  have hYw : Y.heap[wb]? = some (.cells #[p0, p1, p2, p3, p4, .slice none 0 0, p6] 75 (0, 0)) := (hB.block wb (by omega)).trans ((hk wb (by omega)).trans ((hV.block wb hwb).trans hWw))
  have hYg : g3 < Y.heap.size := by
    have := (Array.getElem?_eq_some_iff.1 q1).1
    exact this
  have hZg := (heap_setCell_other Y ⟨wb, 5, none⟩ g3 (.slice (some ⟨g3, 0, none⟩) 1 cap) (by show g3 ≠ wb; omega)).trans q1
  refine ⟨⟨hB.os.trans (ho.trans hV.os), hB.tape.trans (ht.trans hV.tape), hB.output.trans (hp.trans hV.output), ?_, heap_setCell_same Y wb 5 _ _ _ hYw, fun k hk' hn => ?_⟩, ?_⟩
  · rw [World.size_setCell]
    have := hB.size
    have := hsz
    omega
  · exact (heap_setCell_other Y ⟨wb, 5, none⟩ k _ hn).trans ((hB.block k (by omega)).trans ((hk k (by omega)).trans (hV.block k hk')))
  · refine ⟨some ⟨g3, 0, none⟩, cap, rfl, by simp, fun _ => ⟨g3, 0, rfl, by rw [World.size_setCell]; exact hYg, fun i x hx => ?_⟩⟩
    cases i with
    | zero =>
      obtain rfl : r = x := by simpa using hx
      simp only [Nat.zero_add, Nat.zero_mul]
      obtain ⟨w0, w1, w2, w3', w4⟩ := written5 (a := .int .i64 (r.number : Int)) (b := .int .i64 (r.kind : Int)) (c := .int .i64 r.num) (d := .string r.text) (e := .slice r.ia 0 r.ic) hcs
      exact ⟨(cell_of_row _ _ _ _ _ _ hZg).trans w0, (cell_of_row _ _ _ _ _ _ hZg).trans w1, (cell_of_row _ _ _ _ _ _ hZg).trans w2, (cell_of_row _ _ _ _ _ _ hZg).trans w3', (cell_of_row _ _ _ _ _ _ hZg).trans w4⟩
    | succ i => simp at hx

theorem add_nest {W V w3 : World} {wb g3 cap : Nat} {cur : Array Value} {p0 p1 p2 p3 p4 p6 : Value} (r : Rec) (hV : Below W.heap.size W V) (hwb : wb < W.heap.size) (hWw : W.heap[wb]? = some (.cells #[p0, p1, p2, p3, p4, .slice none 0 0, p6] 75 (0, 0)))
    (ho : w3.os = V.os) (ht : w3.tape = V.tape) (hp : w3.output = V.output) (hsz : V.heap.size ≤ w3.heap.size) (hk : ∀ b, b < V.heap.size → w3.heap[b]? = V.heap[b]?) (hcur : w3.heap[g3]? = some (.cells cur 45 (0, 0))) (hcs : 5 ≤ cur.size) (hg : V.heap.size ≤ g3) :
    ∃ v, v = Value.slice (some ⟨g3, 0, none⟩) 1 cap ∧ Upd W wb (.cells #[p0, p1, p2, p3, p4, v, p6] 75 (0, 0)) ((((((w3.setCell ⟨g3, 0, none⟩ (.int .i64 (r.number : Int))).setCell ⟨g3, 1, none⟩ (.int .i64 (r.kind : Int))).setCell ⟨g3, 2, none⟩ (.int .i64 r.num)).setCell ⟨g3, 3, none⟩ (.string r.text)).setCell ⟨g3, 4, none⟩ (.slice r.ia 0 r.ic)).setCell ⟨wb, 5, none⟩ (.slice (some ⟨g3, 0, none⟩) 1 cap)) ∧
    HasR ((((((w3.setCell ⟨g3, 0, none⟩ (.int .i64 (r.number : Int))).setCell ⟨g3, 1, none⟩ (.int .i64 (r.kind : Int))).setCell ⟨g3, 2, none⟩ (.int .i64 r.num)).setCell ⟨g3, 3, none⟩ (.string r.text)).setCell ⟨g3, 4, none⟩ (.slice r.ia 0 r.ic)).setCell ⟨wb, 5, none⟩ (.slice (some ⟨g3, 0, none⟩) 1 cap)) v [r] := by
  have := add_done (cap := cap) r hV hwb hWw ho ht hp hsz hk hcur hcs hg
  simp only [World.setCells, Nat.zero_add, Nat.reduceAdd] at this
  exact ⟨_, rfl, this.1, this.2⟩
theorem add_done2 {W V w3 : World} {wb g3 cap : Nat} {cur : Array Value} {p0 p1 p2 p3 p4 p6 : Value} (r : Rec) (hV : Below W.heap.size W V) (hwb : wb < W.heap.size) (hWw : W.heap[wb]? = some (.cells #[p0, p1, p2, p3, p4, .slice none 0 0, p6] 75 (0, 0)))
    (ho : w3.os = V.os) (ht : w3.tape = V.tape) (hp : w3.output = V.output) (hsz : V.heap.size ≤ w3.heap.size) (hk : ∀ b, b < V.heap.size → w3.heap[b]? = V.heap[b]?) (hcur : w3.heap[g3]? = some (.cells cur 45 (0, 0))) (hcs : 5 ≤ cur.size) (hg : V.heap.size ≤ g3) :
    Upd W wb (.cells #[p0, p1, p2, p3, p4, (.slice (some ⟨g3, 0, none⟩) 1 cap), p6] 75 (0, 0)) ((w3.setCell ⟨wb, 5, none⟩ (.slice (some ⟨g3, 0, none⟩) 1 cap)).setCells g3 0 [.int .i64 (r.number : Int), .int .i64 (r.kind : Int), .int .i64 r.num, .string r.text, .slice r.ia 0 r.ic]) ∧ HasR ((w3.setCell ⟨wb, 5, none⟩ (.slice (some ⟨g3, 0, none⟩) 1 cap)).setCells g3 0 [.int .i64 (r.number : Int), .int .i64 (r.kind : Int), .int .i64 r.num, .string r.text, .slice r.ia 0 r.ic]) (.slice (some ⟨g3, 0, none⟩) 1 cap) [r] := by
  have hVz := hV.size
  have hw3 : w3.heap[wb]? = some (.cells #[p0, p1, p2, p3, p4, .slice none 0 0, p6] 75 (0, 0)) := (hk wb (by omega)).trans ((hV.block wb hwb).trans hWw)
  have hY1 := heap_setCell_same w3 wb 5 _ _ (.slice (some ⟨g3, 0, none⟩) 1 cap) hw3
  have hYo : ∀ k, k ≠ wb → (w3.setCell ⟨wb, 5, none⟩ (.slice (some ⟨g3, 0, none⟩) 1 cap)).heap[k]? = w3.heap[k]? := fun k hn => heap_setCell_other w3 ⟨wb, 5, none⟩ k (.slice (some ⟨g3, 0, none⟩) 1 cap) hn
  have hYz : (w3.setCell ⟨wb, 5, none⟩ (.slice (some ⟨g3, 0, none⟩) 1 cap)).heap.size = w3.heap.size := World.size_setCell _ _ _
  have hYB : (w3.setCell ⟨wb, 5, none⟩ (.slice (some ⟨g3, 0, none⟩) 1 cap)).os = w3.os ∧ (w3.setCell ⟨wb, 5, none⟩ (.slice (some ⟨g3, 0, none⟩) 1 cap)).tape = w3.tape ∧ (w3.setCell ⟨wb, 5, none⟩ (.slice (some ⟨g3, 0, none⟩) 1 cap)).output = w3.output := ⟨rfl, rfl, rfl⟩
  generalize (w3.setCell ⟨wb, 5, none⟩ (.slice (some ⟨g3, 0, none⟩) 1 cap)) = Y at *
  obtain ⟨q1, q2⟩ := heap_setCells (t := 45) (g := g3) [.int .i64 (r.number : Int), .int .i64 (r.kind : Int), .int .i64 r.num, .string r.text, .slice r.ia 0 r.ic] 0 Y cur ((hYo g3 (by omega)).trans hcur)
  have hB := below_setCells (n := V.heap.size) (g := g3) (A := Y) hg [.int .i64 (r.number : Int), .int .i64 (r.kind : Int), .int .i64 r.num, .string r.text, .slice r.ia 0 r.ic] 0 Y (Below.refl _ _)
  generalize Y.setCells g3 0 [.int .i64 (r.number : Int), .int .i64 (r.kind : Int), .int .i64 r.num, .string r.text, .slice r.ia 0 r.ic] = Z at *
  have hZs := hB.size
  have hg3 := (Array.getElem?_eq_some_iff.1 q1).1
  refine ⟨⟨hB.os.trans (hYB.1.trans (ho.trans hV.os)), hB.tape.trans (hYB.2.1.trans (ht.trans hV.tape)), hB.output.trans (hYB.2.2.trans (hp.trans hV.output)), by have := hsz; omega, (q2 wb (by omega)).trans hY1, fun k hk' hn => ?_⟩, ?_⟩
  · exact (q2 k (by omega)).trans ((hYo k hn).trans ((hk k (by omega)).trans (hV.block k hk')))
  · refine ⟨some ⟨g3, 0, none⟩, cap, rfl, by simp, fun _ => ⟨g3, 0, rfl, hg3, fun i x hx => ?_⟩⟩
    cases i with
    | zero =>
      obtain rfl : r = x := by simpa using hx
      simp only [Nat.zero_add, Nat.zero_mul]
      obtain ⟨w0, w1, w2, w3', w4⟩ := written5 (a := .int .i64 (r.number : Int)) (b := .int .i64 (r.kind : Int)) (c := .int .i64 r.num) (d := .string r.text) (e := .slice r.ia 0 r.ic) hcs
      exact ⟨(cell_of_row _ _ _ _ _ _ q1).trans w0, (cell_of_row _ _ _ _ _ _ q1).trans w1, (cell_of_row _ _ _ _ _ _ q1).trans w2, (cell_of_row _ _ _ _ _ _ q1).trans w3', (cell_of_row _ _ _ _ _ _ q1).trans w4⟩
    | succ i => simp at hx
theorem add_nest2 {W V w3 : World} {wb g3 cap : Nat} {cur : Array Value} {p0 p1 p2 p3 p4 p6 : Value} (r : Rec) (hV : Below W.heap.size W V) (hwb : wb < W.heap.size) (hWw : W.heap[wb]? = some (.cells #[p0, p1, p2, p3, p4, .slice none 0 0, p6] 75 (0, 0)))
    (ho : w3.os = V.os) (ht : w3.tape = V.tape) (hp : w3.output = V.output) (hsz : V.heap.size ≤ w3.heap.size) (hk : ∀ b, b < V.heap.size → w3.heap[b]? = V.heap[b]?) (hcur : w3.heap[g3]? = some (.cells cur 45 (0, 0))) (hcs : 5 ≤ cur.size) (hg : V.heap.size ≤ g3) :
    ∃ v, v = Value.slice (some ⟨g3, 0, none⟩) 1 cap ∧ Upd W wb (.cells #[p0, p1, p2, p3, p4, v, p6] 75 (0, 0)) ((((((w3.setCell ⟨wb, 5, none⟩ (.slice (some ⟨g3, 0, none⟩) 1 cap)).setCell ⟨g3, 0, none⟩ (.int .i64 (r.number : Int))).setCell ⟨g3, 1, none⟩ (.int .i64 (r.kind : Int))).setCell ⟨g3, 2, none⟩ (.int .i64 r.num)).setCell ⟨g3, 3, none⟩ (.string r.text)).setCell ⟨g3, 4, none⟩ (.slice r.ia 0 r.ic)) ∧ HasR ((((((w3.setCell ⟨wb, 5, none⟩ (.slice (some ⟨g3, 0, none⟩) 1 cap)).setCell ⟨g3, 0, none⟩ (.int .i64 (r.number : Int))).setCell ⟨g3, 1, none⟩ (.int .i64 (r.kind : Int))).setCell ⟨g3, 2, none⟩ (.int .i64 r.num)).setCell ⟨g3, 3, none⟩ (.string r.text)).setCell ⟨g3, 4, none⟩ (.slice r.ia 0 r.ic)) v [r] := by
  have := add_done2 (cap := cap) r hV hwb hWw ho ht hp hsz hk hcur hcs hg
  simp only [World.setCells, Nat.zero_add, Nat.reduceAdd] at this
  exact ⟨_, rfl, this.1, this.2⟩
end Go.Proofs.YtphccijiniolcaaDoor
