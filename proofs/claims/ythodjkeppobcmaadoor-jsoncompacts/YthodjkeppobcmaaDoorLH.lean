import Derived.Test.YthodjkeppobcmaaDoorLG
import Derived.Test.YthodjkeppobcmaaDoorKP

namespace Go.Proofs.YthodjkeppobcmaaDoor
open Go.RowKit Go.Lib
attribute [local go_sem ↓] Go.wp_at_zero Go.wp_at_succ

/-- A node. -/
structure NdV where
  k : Int
  a : Int
  e : Int
  x : ByteArray
  vn : Value
  vi : Value
def NdV.cells (d : NdV) : List Value := [.int .i64 d.k, .int .i64 d.a, .int .i64 d.e, .string d.x, d.vn, d.vi]
def NdV.val (d : NdV) : Value := .agg #[.int .i64 d.k, .int .i64 d.a, .int .i64 d.e, .string d.x, d.vn, d.vi]
def ndF (l : List NdV) : List Value := l.flatMap NdV.cells
theorem ndF_len (l : List NdV) : (ndF l).length = l.length * 6 := by
  induction l with
  | nil => rfl
  | cons d l ih => unfold ndF at *; rw [List.flatMap_cons, List.length_append, ih, List.length_cons]; simp [NdV.cells]; omega
theorem ndF_app (l : List NdV) (d : NdV) : ndF (l ++ [d]) = ndF l ++ d.cells := by simp [ndF]
theorem ndF_at : ∀ (l : List NdV) (i j : Nat) (d : NdV) (u : Value), l[i]? = some d → d.cells[j]? = some u → (ndF l)[i * 6 + j]? = some u := by
  intro l
  induction l with
  | nil => intro i j d u h; cases h
  | cons c l ih =>
    intro i j d u h hj
    have hj6 : j < 6 := (List.getElem?_eq_some_iff.1 hj).1
    unfold ndF
    rw [List.flatMap_cons]
    cases i with
    | zero =>
      obtain rfl : c = d := by simpa using h
      rw [Nat.zero_mul, Nat.zero_add, List.getElem?_append_left (by simpa [NdV.cells] using hj6)]
      exact hj
    | succ i =>
      rw [List.getElem?_append_right (by simp [NdV.cells]; omega)]
      have e : (i + 1) * 6 + j - c.cells.length = i * 6 + j := by simp [NdV.cells]; omega
      rw [e]
      exact ih i j d u (by simpa using h) hj
/-- A list of nodes that can be read. -/
def RowN (P : Nat → Prop) (w : World) (v : Value) (l : List NdV) : Prop := ∃ a c, v = .slice a l.length c ∧ (l.length ≤ c ∧ c ≤ maxLen) ∧ (0 < l.length → ∃ g, a = some ⟨g, 0, none⟩ ∧ P g ∧ g < w.heap.size ∧ ∀ i j d u, l[i]? = some d → d.cells[j]? = some u → w.cell? ⟨g, i * 6 + j, none⟩ = some u)
theorem RowN.to {P Q : Nat → Prop} {w w' : World} {v : Value} {l : List NdV} (h : RowN P w v l) (hs : w.heap.size ≤ w'.heap.size) (hg : ∀ g, P g → g < w.heap.size → Q g ∧ w'.heap[g]? = w.heap[g]?) : RowN Q w' v l := by
  obtain ⟨a, c, rfl, h1, h2⟩ := h
  refine ⟨a, c, rfl, h1, fun hp => ?_⟩
  obtain ⟨g, rfl, h3, h4, h5⟩ := h2 hp
  obtain ⟨q1, q2⟩ := hg g h3 h4
  exact ⟨g, rfl, q1, by omega, fun i j d u hd hu => (World.cell?_of_block (a := ⟨g, i * 6 + j, none⟩) q2).trans (h5 i j d u hd hu)⟩
theorem RowN.own {B : Nat} {w : World} {v : Value} {l : List NdV} (h : w.ownsRow B 43 6 v l.length (ndF l)) : RowN (fun g => v.ownBlock = some g) w v l := by
  rcases id h.2 with ⟨rfl, h0⟩ | ⟨g, cap, cur, rfl, hg, hb, hc, hm, _⟩
  · exact ⟨none, 0, by rw [h0], ⟨by omega, by omega⟩, fun hp => by omega⟩
  · refine ⟨some ⟨g, 0, none⟩, cap, rfl, ⟨hc, hm⟩, fun _ => ⟨g, rfl, rfl, (Array.getElem?_eq_some_iff.1 hb).1, fun i j d u hd hu => ?_⟩⟩
    have := h.cells (g := g) rfl (i * 6 + j) u (ndF_at l i j d u hd hu)
    rw [Go.WideShapes.add_plain] at this
    simpa using this
/-- A thing within an object or an array. -/
structure It where
  na : Nat
  ne : Nat
  nx : ByteArray
  v : NdV
  b : List Nat
def It.nm (i : It) : NdV := ⟨3, i.na, i.ne, i.nx, .slice none 0 0, .slice none 0 0⟩
def itB (L : List Nat) (k : Nat) (i : It) : List Nat := if k = 1 then (L.drop i.na).take (i.ne - i.na) ++ 58 :: i.b else i.b
def jn : List (List Nat) → List Nat
  | [] => []
  | x :: xs => x ++ (xs.map (44 :: ·)).flatten
theorem jn_snoc (xs : List (List Nat)) (x : List Nat) : jn (xs ++ [x]) = if xs = [] then x else jn xs ++ 44 :: x := by
  cases xs with
  | nil => simp [jn]
  | cons y ys => simp [jn]
def isSl (v : Value) : Prop := ∃ a n c, v = .slice a n c
inductive HasNd (L : List Nat) (P : Nat → Prop) (w : World) : NdV → List Nat → Prop
  | leaf (k a e : Nat) (x : ByteArray) (vn vi : Value) (hsl : isSl vn ∧ isSl vi) (h1 : k ≠ 1) (h2 : k ≠ 2) (h3 : a ≤ e) (h4 : e ≤ L.length) : HasNd L P w ⟨k, a, e, x, vn, vi⟩ ((L.drop a).take (e - a))
  | row (k a e : Nat) (x : ByteArray) (vn vi : Value) (its : List It) (hsl : isSl vn) (hk : k = 1 ∨ k = 2) (ha : a < L.length) (he : 0 < e ∧ e ≤ L.length) (hi : RowN P w vi (its.map It.v)) (hn : k = 1 → RowN P w vn (its.map It.nm)) (hm : ∀ i ∈ its, k = 1 → i.na ≤ i.ne ∧ i.ne ≤ L.length) (hc : ∀ i ∈ its, HasNd L P w i.v i.b) : HasNd L P w ⟨k, a, e, x, vn, vi⟩ (bt L a :: jn (its.map (itB L k)) ++ [bt L (e - 1)])
theorem HasNd.to {L : List Nat} {P Q : Nat → Prop} {w w' : World} (hs : w.heap.size ≤ w'.heap.size) (hg : ∀ g, P g → g < w.heap.size → Q g ∧ w'.heap[g]? = w.heap[g]?) {d : NdV} {b : List Nat} (h : HasNd L P w d b) : HasNd L Q w' d b := by
  induction h with
  | leaf k a e x vn vi hsl h1 h2 h3 h4 => exact .leaf k a e x vn vi hsl h1 h2 h3 h4
  | row k a e x vn vi its hsl hk ha he hi hn hm hc ih => exact .row k a e x vn vi its hsl hk ha he (hi.to hs hg) (fun q => (hn q).to hs hg) hm ih
/-- What value and inside answer. -/
def VR (V W : World) (t : Nat) (s : ByteArray) (pl : Nat) (r : RR) (e : Ending) (w : World) : Prop := ∃ d : NdV, e = .returned d.val ∧ (isSl d.vn ∧ isSl d.vi) ∧ (match r with
  | .error (c, p) => ∃ a, Tx V t s a c p w
  | .ok (l, p) => Tx V t s p 0 pl w ∧ HasNd (strN s) (fun g => W.heap.size ≤ g) w d l)
/-- A member by its name. -/
theorem mem_nm {L : List Nat} {v : Nat → RR} {a : Nat} (h : bt L a = 34) (hk : skB L a = a) : memR L v a = match nmR L a with
  | .error x => .error x
  | .ok (_, p) => RR.pre ((L.drop a).take ((strE L a).getD a - a) ++ [58]) (v p) := by
  unfold memR mustR
  rw [hk, if_pos h]
  unfold tokR nmR nmO
  rw [hk]
  have ht : tkE L a = (strE L a).getD a := by
    unfold tkE
    rw [h]
    rfl
  rw [ht]
  cases hE : strE L a with
  | none =>
    simp only [Option.getD_none, Nat.lt_irrefl, if_false, h, if_true]
    rfl
  | some e =>
    have hlt : a < e := by have := strG_le _ _ _ _ hE; omega
    simp only [Option.getD_some]
    rw [if_pos hlt]
    show RR.pre _ (RR.go (if bt L (skB L e) = 58 then _ else _) v) = _
    by_cases q : bt L (skB L e) = 58
    · rw [if_pos q, if_pos q]
      have ht2 : tkE L (skB L e) = skB L e + 1 := by unfold tkE; rw [q]; rfl
      rw [if_pos (by rw [ht2]; omega), ht2]
      have hl : skB L e < L.length := bt_lt (by rw [q]; omega)
      have hp : (L.drop (skB L e)).take (skB L e + 1 - skB L e) = [58] := by
        rw [drop_at hl, q, show skB L e + 1 - skB L e = 1 by omega]
        rfl
      rw [hp]
      show RR.pre _ (RR.pre [58] (v _)) = _
      rw [RR.pre_pre]
    · rw [if_neg q, if_neg q]
      rfl
end Go.Proofs.YthodjkeppobcmaaDoor
