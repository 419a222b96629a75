import Derived.Test.YtobomdokdajbaaaDoorJ18
import Derived.Test.YtobomdokdajbaaaDoorWGf
import Derived.Test.YtobomdokdajbaaaDoorJ26

namespace Go.Proofs.YtobomdokdajbaaaDoor
open Go.ChangeShapes Go.WideShapes Go.ChangeAt Go.RowKit

/-- A record that came in: any numbers. -/
inductive Ri where
  | mk (number kind num : Int) (text : ByteArray) (inner : List Ri)
def Ri.inner : Ri → List Ri | .mk _ _ _ _ l => l
def icells : Ri → Value → List Value | .mk nb kd x t _, u => [.int .i64 nb, .int .i64 kd, .int .i64 x, .string t, u]
mutual
/-- How much there is of a record. -/
def blR : Ri → Nat
  | .mk _ _ _ t li => t.size + 1 + blL li
def blL : List Ri → Nat
  | [] => 0
  | r :: rs => blR r + blL rs
end
def RngI (x : Int) : Prop := -9223372036854775808 ≤ x ∧ x ≤ 9223372036854775807
/-- Records that came in. -/
inductive HasRi (W : World) : Value → List Ri → Prop
  | nil (a : Option Addr) (c : Nat) : HasRi W (.slice a 0 c) []
  | row (g off n c : Nat) (rs : List Ri) (us : Nat → Value) (hn : rs.length = n) (hm : n ≤ maxLen) (hg : g < W.heap.size) (hw : ∀ (i : Nat) (nb kd x : Int) (t : ByteArray) (li : List Ri), rs[i]? = some (.mk nb kd x t li) → RngI nb ∧ RngI kd ∧ RngI x) (hc : ∀ (i : Nat) (r : Ri), rs[i]? = some r → ∀ (j : Nat) (x : Value), (icells r (us i))[j]? = some x → W.cell? ⟨g, off + i * 5 + j, none⟩ = some x) (hi : ∀ (i : Nat) (r : Ri), rs[i]? = some r → HasRi W (us i) r.inner) : HasRi W (.slice (some ⟨g, off, none⟩) n c) rs
theorem HasRi.form {W : World} {v : Value} {rs : List Ri} (h : HasRi W v rs) : ∃ a c, v = .slice a rs.length c := by
  cases h with
  | nil a c => exact ⟨a, c, rfl⟩
  | row g off n c rs us hn hm hg hw hc hi => exact ⟨_, c, by rw [hn]⟩
theorem HasRi.up {W w : World} {v : Value} {rs : List Ri} (h : HasRi W v rs) (hb : Below W.heap.size W w) : HasRi w v rs := by
  induction h with
  | nil a c => exact .nil a c
  | row g off n c rs us hn hm hg hw hc hi ih => exact .row g off n c rs us hn hm (Nat.lt_of_lt_of_le hg hb.size) hw (fun i r hr j x hx => (hb.cell (p := ⟨g, off + i * 5 + j, none⟩) hg).trans (hc i r hr j x hx)) ih
/-- A record of those that came in. -/
theorem HasRi.rec' {W : World} {v : Value} {rs : List Ri} (h : HasRi W v rs) {i : Nat} {nb kd x : Int} {t : ByteArray} {li : List Ri} (hr : rs[i]? = some (.mk nb kd x t li)) :
    ∃ g off c ia ic, v = .slice (some ⟨g, off, none⟩) rs.length c ∧ g < W.heap.size ∧ (RngI nb ∧ RngI kd ∧ RngI x) ∧ W.cell? ⟨g, off + i * 5, none⟩ = some (.int .i64 nb) ∧ W.cell? ⟨g, off + i * 5 + 1, none⟩ = some (.int .i64 kd) ∧ W.cell? ⟨g, off + i * 5 + 2, none⟩ = some (.int .i64 x) ∧ W.cell? ⟨g, off + i * 5 + 3, none⟩ = some (.string t) ∧ W.cell? ⟨g, off + i * 5 + 4, none⟩ = some (.slice ia li.length ic) ∧ HasRi W (.slice ia li.length ic) li := by
  cases h with
  | nil a c => simp at hr
  | row g off n c rs us hn hm hg hw hc hi =>
    have hcs := hc i _ hr
    have hin := hi i _ hr
    obtain ⟨ia, ic, eu⟩ := hin.form
    rw [eu] at hcs hin
    exact ⟨g, off, c, ia, ic, by rw [hn], hg, hw i nb kd x t li hr, hcs 0 _ rfl, hcs 1 _ rfl, hcs 2 _ rfl, hcs 3 _ rfl, hcs 4 _ rfl, hin⟩
theorem cellsRecW : Tryd.prog.cellsOf 35 = 5 := by kernel_rfl
theorem cellsStrW : Tryd.prog.cellsOf 9 = 1 := by kernel_rfl
theorem cellsRecsW : Tryd.prog.cellsOf 33 = 1 := by kernel_rfl
instance : Inhabited Ri := ⟨.mk 0 0 0 .empty []⟩
theorem blL_map {H : Type} (L : Nat → Ri) (D : Nat → DataW H) : ∀ (is : List Nat), (∀ i ∈ is, blR (L i) ≤ Rows.uptoBulk (D i)) → blL (is.map L) ≤ Rows.uptoBulkAll (is.map D)
  | [], _ => by simp [blL, Rows.uptoBulkAll]
  | i :: is, h => by
    have h1 := h i (List.mem_cons_self)
    have h2 := blL_map L D is (fun j hj => h j (List.mem_cons_of_mem _ hj))
    simp only [List.map_cons, blL, Rows.uptoBulkAll]
    omega
/-- A record, its fields told. -/
def RecIn (w : World) (a : Addr) (r : Ri) : Prop := ∃ nb kd x t li u, r = .mk nb kd x t li ∧ (RngI nb ∧ RngI kd ∧ RngI x) ∧ w.cell? (a.add 0) = some (.int .i64 nb) ∧ w.cell? (a.add 1) = some (.int .i64 kd) ∧ w.cell? (a.add 2) = some (.int .i64 x) ∧ w.cell? (a.add 3) = some (.string t) ∧ w.cell? (a.add 4) = some u ∧ HasRi w u li
set_option maxRecDepth 100000 in
theorem open_rec {H : Type} {enc : TypeId × Value → H} {w : World} {base : Nat} {spare : Nat → Bool} {held : Bool} {n : Nat} {a : Addr} {cs : List Value} {x : DataW H × List MemPlace}
    (ih : ∀ m, m < n → ∀ (v : Value) (y : DataW H × List MemPlace), DataW.trod enc Tryd.prog w base spare held m 33 [v] = some y → ∃ rs, HasRi w v rs ∧ blL rs ≤ Rows.uptoBulk y.1)
    (h1 : w.cells? base a 5 = some cs) (h2 : DataW.trod enc Tryd.prog w base spare held n 35 cs = some x) :
    ∃ r : Ri, RecIn w a r ∧ blR r ≤ Rows.uptoBulk x.1 := by
  obtain ⟨_, hlen, hcell⟩ := World.cells?_some h1
  obtain ⟨xs, k, hk, hxe, _, hxl, hf⟩ := DataW.trod_struct Tryd.underlying35 h2
  match xs, hxl, cs, hlen with
  | [y0, y1, y2, y3, y4], _, [v0, v1, v2, v3, v4], _ =>
    have g0 := hf 0 _ rfl
    have g1 := hf 1 _ rfl
    have g2 := hf 2 _ rfl
    have g3 := hf 3 _ rfl
    have g4 := hf 4 _ rfl
    simp [cellsIntW, cellsStrW, cellsRecsW] at g0 g1 g2 g3 g4
    obtain ⟨n0, e0, _, f0⟩ := DataW.trod_int Tryd.underlying3 g0
    obtain ⟨n1, e1, _, f1⟩ := DataW.trod_int Tryd.underlying3 g1
    obtain ⟨n2, e2, _, f2⟩ := DataW.trod_int Tryd.underlying3 g2
    obtain ⟨s, e3, f3, _⟩ := DataW.trod_string Tryd.underlying9 g3
    obtain ⟨li, q1, q2⟩ := ih k (by omega) v4 y4 g4
    simp at e0 e1 e2 e3
    subst e0 e1 e2 e3
    refine ⟨.mk n0 n1 n2 s li, ⟨n0, n1, n2, s, li, v4, rfl, ⟨bounds_i64 f0, bounds_i64 f1, bounds_i64 f2⟩, hcell 0 (by omega), hcell 1 (by omega), hcell 2 (by omega), hcell 3 (by omega), hcell 4 (by omega), q1⟩, ?_⟩
    have f3' := congrArg Prod.fst f3
    rw [hxe]
    simp only [List.map_cons, List.map_nil, Rows.uptoBulk, Rows.uptoBulkAll, blR]
    rw [f3']
    simp only [Rows.uptoBulk]
    have e : s.data.toList.length = s.size := rfl
    omega
/-- Nested records that came in. -/
theorem open_hasRi {H : Type} {enc : TypeId × Value → H} {w : World} {base : Nat} {spare : Nat → Bool} {held : Bool} : ∀ (fuel : Nat) (v : Value) (x : DataW H × List MemPlace), DataW.trod enc Tryd.prog w base spare held fuel 33 [v] = some x → ∃ rs, HasRi w v rs ∧ blL rs ≤ Rows.uptoBulk x.1 := by
  intro fuel
  induction fuel using Nat.strongRecOn with
  | ind fuel ih =>
    intro v x h
    rcases DataW.trod_slice Tryd.underlying33 h with ⟨hcs, rfl⟩ | ⟨y, len, cap, elems, rest, n, rfl, hcs, rfl, _, hl, hm, hel, hat, _, _⟩
    · obtain rfl : v = .slice none 0 0 := by simpa using hcs
      exact ⟨[], .nil _ _, by simp [blL]⟩
    · obtain rfl : v = .slice (some y) len cap := by simpa using hcs
      have each : ∀ i, i < len → ∃ r : Ri, RecIn w (y.add (i * 5)) r ∧ blR r ≤ Rows.uptoBulk (elems.getD i (.nil, [])).1 := by
        intro i hi
        have q := hat i hi
        rw [cellsRecW] at q
        have hei : elems[i]? = some elems[i] := List.getElem?_eq_getElem (by omega)
        rw [hei] at q
        obtain ⟨cs, h1, h2⟩ := Option.bind_eq_some_iff.1 q
        have hgd : elems.getD i (.nil, []) = elems[i] := by rw [List.getD_eq_getElem?_getD, hei]; rfl
        rw [hgd]
        exact open_rec (fun m hm => ih m (by omega)) h1 h2
      obtain ⟨q, hq⟩ := Go.Deep.choose_lt each
      have hlen : ((List.range len).map q).length = len := by simp
      have hb : blL ((List.range len).map q) ≤ Rows.uptoBulkAll (elems.map (·.1)) := by
        have h1 := blL_map q (fun i => (elems.getD i (.nil, [])).1) (List.range len) (fun i hi => (hq i (List.mem_range.1 hi)).2)
        have h2 : (List.range len).map (fun i => (elems.getD i (.nil, [])).1) = elems.map (·.1) := by
          rw [← hel]
          refine List.ext_getElem (by simp) fun i p1 p2 => ?_
          simp at p1 p2
          simp [List.getD_eq_getElem?_getD, p1]
        rw [h2] at h1
        exact h1
      refine ⟨(List.range len).map q, ?_, by simp only [Rows.uptoBulk]; omega⟩
      by_cases h0 : len = 0
      · subst h0
        exact .nil _ _
      · obtain ⟨nb0, kd0, x0, t0, li0, u0, _, _, c0, _⟩ := (hq 0 (by omega)).1
        obtain ⟨b, off, spot⟩ := y
        have hspot : spot = none := by simpa [Addr.add] using World.cell?_spot c0
        subst hspot
        have hbl : b < w.heap.size := by
          rw [Go.Deep.add_add, Go.WideShapes.add_plain] at c0
          exact World.block_lt_of_cell? w _ c0
        have hget : ∀ (i : Nat) (r : Ri), ((List.range len).map q)[i]? = some r → i < len ∧ r = q i := by
          intro i o ho
          rw [List.getElem?_map, Option.map_eq_some_iff] at ho
          obtain ⟨j, hj, rfl⟩ := ho
          rw [List.getElem?_eq_some_iff] at hj
          obtain ⟨hj, e⟩ := hj
          simp at hj e
          exact ⟨hj, by rw [e]⟩
        have hu : ∀ i, ∃ u : Value, i < len → ∃ nb kd x t li, q i = .mk nb kd x t li ∧ (RngI nb ∧ RngI kd ∧ RngI x) ∧ w.cell? ⟨b, off + i * 5, none⟩ = some (.int .i64 nb) ∧ w.cell? ⟨b, off + i * 5 + 1, none⟩ = some (.int .i64 kd) ∧ w.cell? ⟨b, off + i * 5 + 2, none⟩ = some (.int .i64 x) ∧ w.cell? ⟨b, off + i * 5 + 3, none⟩ = some (.string t) ∧ w.cell? ⟨b, off + i * 5 + 4, none⟩ = some u ∧ HasRi w u li := fun i => by
          by_cases hi : i < len
          · obtain ⟨nb, kd, x, t, li, u, hr, hw, q0, q1, q2, q3, q4, q5⟩ := (hq i hi).1
            simp only [Go.WideShapes.add_plain] at q0 q1 q2 q3 q4
            exact ⟨u, fun _ => ⟨nb, kd, x, t, li, hr, hw, q0, q1, q2, q3, q4, q5⟩⟩
          · exact ⟨.int .i64 0, fun h => absurd h hi⟩
        obtain ⟨U, hU⟩ := Classical.axiomOfChoice hu
        refine .row b off len cap _ U hlen (by omega) hbl (fun i nb kd x t li hr => ?_) (fun i r hr j z hz => ?_) (fun i r hr => ?_)
        · obtain ⟨hi, e⟩ := hget i _ hr
          obtain ⟨nb', kd', x', t', li', e', hw, _⟩ := hU i hi
          rw [e'] at e
          injection e with e1 e2 e3
          subst e1 e2 e3
          exact hw
        · obtain ⟨hi, rfl⟩ := hget i _ hr
          obtain ⟨nb', kd', x', t', li', e', _, q0, q1, q2, q3, q4, _⟩ := hU i hi
          rw [e'] at hz
          match j, hz with
          | 0, hz => simp [icells] at hz; rw [← hz]; exact q0
          | 1, hz => simp [icells] at hz; rw [← hz]; exact q1
          | 2, hz => simp [icells] at hz; rw [← hz]; exact q2
          | 3, hz => simp [icells] at hz; rw [← hz]; exact q3
          | 4, hz => simp [icells] at hz; rw [← hz]; exact q4
          | j + 5, hz => simp [icells] at hz
        · obtain ⟨hi, rfl⟩ := hget i _ hr
          obtain ⟨nb', kd', x', t', li', e', _, _, _, _, _, _, q5⟩ := hU i hi
          rw [e']
          exact q5
#print axioms open_hasRi
end Go.Proofs.YtobomdokdajbaaaDoor

namespace Go.Proofs.YtobomdokdajbaaaDoor
open Go.RowKit
attribute [local go_sem ↓] Go.wp_at_zero Go.wp_at_succ

/-- Records of our own with a mark behind each list, in blocks of P. -/
inductive HasRk (W : World) (P : Nat → Prop) : Value → List Ri → Prop
  | row (g n : Nat) (rs : List Ri) (us : Nat → Value) (hP : P g) (hn : rs.length = n) (hm : n ≤ 1048576) (hg : g < W.heap.size) (hk : W.cell? ⟨g, n * 5, none⟩ = some (.int .i64 91)) (hw : ∀ (i : Nat) (nb kd x : Int) (t : ByteArray) (li : List Ri), rs[i]? = some (.mk nb kd x t li) → RngI nb ∧ RngI kd ∧ RngI x) (hc : ∀ (i : Nat) (r : Ri), rs[i]? = some r → ∀ (j : Nat) (x : Value), (icells r (us i))[j]? = some x → W.cell? ⟨g, i * 5 + j, none⟩ = some x) (hi : ∀ (i : Nat) (r : Ri), rs[i]? = some r → HasRk W P (us i) r.inner) : HasRk W P (.slice (some ⟨g, 0, none⟩) n (n + 1)) rs
theorem HasRk.form {W : World} {P : Nat → Prop} {v : Value} {rs : List Ri} (h : HasRk W P v rs) : ∃ g, v = .slice (some ⟨g, 0, none⟩) rs.length (rs.length + 1) := by
  cases h with
  | row g n rs us hP hn hm hg hk hw hc hi => exact ⟨g, by rw [hn]⟩
theorem HasRk.mono {W w : World} {P Q : Nat → Prop} (hP : ∀ g, g < W.heap.size → P g → Q g ∧ w.heap[g]? = W.heap[g]?) (hz : W.heap.size ≤ w.heap.size) {v : Value} {rs : List Ri} (h : HasRk W P v rs) : HasRk w Q v rs := by
  induction h with
  | row g n rs us hp hn hm hg hk hw hc hi ih =>
    refine .row g n rs us (hP g hg hp).1 hn hm (Nat.lt_of_lt_of_le hg hz) ((World.cell?_of_block (a := ⟨g, n * 5, none⟩) (hP g hg hp).2).trans hk) hw (fun i t ht j x hx => ?_) ih
    exact (World.cell?_of_block (a := ⟨g, i * 5 + j, none⟩) (hP g hg hp).2).trans (hc i t ht j x hx)
/-- Five cells of a block. -/
def s5 (cur : Array Value) (p : Nat) (a b c d e : Value) : Array Value := ((((cur.setIfInBounds p a).setIfInBounds (p + 1) b).setIfInBounds (p + 2) c).setIfInBounds (p + 3) d).setIfInBounds (p + 4) e
theorem s5_size (cur : Array Value) (p : Nat) (a b c d e : Value) : (s5 cur p a b c d e).size = cur.size := by simp [s5]
theorem s5_far {cur : Array Value} {p j : Nat} {a b c d e : Value} (h : j < p ∨ p + 5 ≤ j) : (s5 cur p a b c d e)[j]? = cur[j]? := by
  unfold s5
  rw [Array.getElem?_setIfInBounds_ne (by omega), Array.getElem?_setIfInBounds_ne (by omega), Array.getElem?_setIfInBounds_ne (by omega), Array.getElem?_setIfInBounds_ne (by omega), Array.getElem?_setIfInBounds_ne (by omega)]
theorem s5_at {cur : Array Value} {p : Nat} {a b c d e : Value} (h : p + 5 ≤ cur.size) : (s5 cur p a b c d e)[p]? = some a ∧ (s5 cur p a b c d e)[p + 1]? = some b ∧ (s5 cur p a b c d e)[p + 2]? = some c ∧ (s5 cur p a b c d e)[p + 3]? = some d ∧ (s5 cur p a b c d e)[p + 4]? = some e := by
  unfold s5
  refine ⟨?_, ?_, ?_, ?_, ?_⟩
  · rw [Array.getElem?_setIfInBounds_ne (by omega), Array.getElem?_setIfInBounds_ne (by omega), Array.getElem?_setIfInBounds_ne (by omega), Array.getElem?_setIfInBounds_ne (by omega), Array.getElem?_setIfInBounds_self_of_lt (by omega)]
  · rw [Array.getElem?_setIfInBounds_ne (by omega), Array.getElem?_setIfInBounds_ne (by omega), Array.getElem?_setIfInBounds_ne (by omega), Array.getElem?_setIfInBounds_self_of_lt (by simp; omega)]
  · rw [Array.getElem?_setIfInBounds_ne (by omega), Array.getElem?_setIfInBounds_ne (by omega), Array.getElem?_setIfInBounds_self_of_lt (by simp; omega)]
  · rw [Array.getElem?_setIfInBounds_ne (by omega), Array.getElem?_setIfInBounds_self_of_lt (by simp; omega)]
  · rw [Array.getElem?_setIfInBounds_self_of_lt (by simp; omega)]
/-- The world behind a store of five cells. -/
def W5 (w : World) (g p : Nat) (a b c d e : Value) : World := ((((w.setCell ⟨g, p, none⟩ a).setCell ⟨g, p + 1, none⟩ b).setCell ⟨g, p + 2, none⟩ c).setCell ⟨g, p + 3, none⟩ d).setCell ⟨g, p + 4, none⟩ e
theorem W5_blk {w : World} {g p : Nat} {a b c d e : Value} {cur : Array Value} {t : TypeId} (h : w.heap[g]? = some (.cells cur t (0, 0))) : (W5 w g p a b c d e).heap[g]? = some (.cells (s5 cur p a b c d e) t (0, 0)) := heap_setCell_same _ _ _ _ _ _ (heap_setCell_same _ _ _ _ _ _ (heap_setCell_same _ _ _ _ _ _ (heap_setCell_same _ _ _ _ _ _ (heap_setCell_same _ _ _ _ _ _ h))))
theorem W5_far {w : World} {g p q : Nat} {a b c d e : Value} (h : q ≠ g) : (W5 w g p a b c d e).heap[q]? = w.heap[q]? := by
  unfold W5
  rw [heap_setCell_other _ ⟨g, p + 4, none⟩ q _ h, heap_setCell_other _ ⟨g, p + 3, none⟩ q _ h, heap_setCell_other _ ⟨g, p + 2, none⟩ q _ h, heap_setCell_other _ ⟨g, p + 1, none⟩ q _ h, heap_setCell_other _ ⟨g, p, none⟩ q _ h]
theorem W5_size {w : World} {g p : Nat} {a b c d e : Value} : (W5 w g p a b c d e).heap.size = w.heap.size := by unfold W5; simp only [World.size_setCell]
theorem W5_frame {w : World} {g p : Nat} {a b c d e : Value} : (W5 w g p a b c d e).os = w.os ∧ (W5 w g p a b c d e).tape = w.tape ∧ (W5 w g p a b c d e).output = w.output := by
  unfold W5
  refine ⟨?_, ?_, ?_⟩
  · rw [(frame_set _ _ _).1, (frame_set _ _ _).1, (frame_set _ _ _).1, (frame_set _ _ _).1, (frame_set _ _ _).1]
  · rw [(frame_set _ _ _).2.1, (frame_set _ _ _).2.1, (frame_set _ _ _).2.1, (frame_set _ _ _).2.1, (frame_set _ _ _).2.1]
  · rw [(frame_set _ _ _).2.2, (frame_set _ _ _).2.2, (frame_set _ _ _).2.2, (frame_set _ _ _).2.2, (frame_set _ _ _).2.2]
theorem W5_below {w : World} {n g p : Nat} {a b c d e : Value} (h : n ≤ g) : Below n w (W5 w g p a b c d e) := ⟨W5_frame.1, W5_frame.2.1, W5_frame.2.2, by rw [W5_size]; exact Nat.le_refl _, fun q hq => W5_far (by omega)⟩
/-- Where lent's loop stands. -/
structure LK (w0 wr : World) (rs : List Ri) (n i : Nat) (us : Nat → Value) : Prop where
  bel : Below w0.heap.size w0 wr
  sz : w0.heap.size < wr.heap.size
  blk : ∃ cur : Array Value, wr.heap[w0.heap.size]? = some (.cells cur 35 (0, 0)) ∧ cur.size = (n + 1) * 5 ∧ ∀ (j : Nat) (r : Ri), j < i → rs[j]? = some r → ∀ (q : Nat) (x : Value), (icells r (us j))[q]? = some x → cur[j * 5 + q]? = some x
  inn : ∀ (j : Nat) (r : Ri), j < i → rs[j]? = some r → HasRk wr (fun g => w0.heap.size < g) (us j) r.inner
theorem cell_blk {w : World} {g : Nat} {cur : Array Value} {t : TypeId} (h : w.heap[g]? = some (.cells cur t (0, 0))) (p : Nat) (hp : p < cur.size) : ∃ z, w.cell? ⟨g, p, none⟩ = some z ∧ w.frozen? ⟨g, p, none⟩ = false := ⟨cur[p], (cell_of_row _ _ _ _ _ _ h).trans (Array.getElem?_eq_getElem hp), frozen_of_row _ _ _ _ _ h⟩
theorem icells_len (r : Ri) (u : Value) : (icells r u).length = 5 := by cases r; rfl
/-- A record more. -/
theorem LK.step {w0 wr w2 : World} {rs : List Ri} {n i : Nat} {us : Nat → Value} {nb kd x : Int} {t : ByteArray} {li : List Ri} {y u : Value} (h : LK w0 wr rs n i us) (hi : i < n) (hr : rs[i]? = some (.mk nb kd x t li)) (hB : Below wr.heap.size (W5 wr w0.heap.size (i * 5) (.int .i64 nb) (.int .i64 kd) (.int .i64 x) (.string t) y) w2) (hu : HasRk w2 (fun g => wr.heap.size ≤ g) u li) :
    LK w0 (w2.setCell ⟨w0.heap.size, i * 5 + 4, none⟩ u) rs n (i + 1) (fun j => if j = i then u else us j) := by
  obtain ⟨cur, hb, hs, hc⟩ := h.blk
  have hz := h.sz
  have hzB := hB.size
  rw [W5_size] at hzB
  have hb5 := W5_blk (p := i * 5) (a := .int .i64 nb) (b := .int .i64 kd) (c := .int .i64 x) (d := .string t) (e := y) hb
  have hb2 := (hB.block _ hz).trans hb5
  have hb3 := heap_setCell_same w2 w0.heap.size (i * 5 + 4) _ _ u hb2
  have hat := s5_at (cur := cur) (p := i * 5) (a := .int .i64 nb) (b := .int .i64 kd) (c := .int .i64 x) (d := .string t) (e := y) (by omega)
  have hfar : ∀ q, q ≠ w0.heap.size → q < wr.heap.size → (w2.setCell ⟨w0.heap.size, i * 5 + 4, none⟩ u).heap[q]? = wr.heap[q]? := fun q hq hl => (heap_setCell_other w2 ⟨w0.heap.size, i * 5 + 4, none⟩ q u hq).trans ((hB.block q hl).trans (W5_far hq))
  refine ⟨?_, by rw [World.size_setCell]; omega, ⟨_, hb3, by simp [s5_size, hs], ?_⟩, ?_⟩
  · refine h.bel.trans ⟨hB.os.trans W5_frame.1, hB.tape.trans W5_frame.2.1, hB.output.trans W5_frame.2.2, by rw [World.size_setCell]; omega, fun q hq => hfar q (by omega) (by omega)⟩
  · intro j r hj hrj q z hz'
    have hq5 : q < 5 := by have := (List.getElem?_eq_some_iff.1 hz').1; rw [icells_len] at this; exact this
    by_cases hji : j = i
    · subst hji
      rw [hr] at hrj
      obtain rfl := Option.some.inj hrj
      rw [if_pos rfl] at hz'
      match q, hq5, hz' with
      | 0, _, hz' => rw [Array.getElem?_setIfInBounds_ne (by omega), Nat.add_zero, hat.1]; exact hz'
      | 1, _, hz' => rw [Array.getElem?_setIfInBounds_ne (by omega), hat.2.1]; exact hz'
      | 2, _, hz' => rw [Array.getElem?_setIfInBounds_ne (by omega), hat.2.2.1]; exact hz'
      | 3, _, hz' => rw [Array.getElem?_setIfInBounds_ne (by omega), hat.2.2.2.1]; exact hz'
      | 4, _, hz' => rw [Array.getElem?_setIfInBounds_self_of_lt (by rw [s5_size]; omega)]; exact hz'
    · rw [if_neg hji] at hz'
      rw [Array.getElem?_setIfInBounds_ne (by omega), s5_far (by omega)]
      exact hc j r (by omega) hrj q z hz'
  · intro j r hj hrj
    by_cases hji : j = i
    · subst hji
      rw [hr] at hrj
      obtain rfl := Option.some.inj hrj
      show HasRk _ _ (if j = j then u else us j) _
      rw [if_pos rfl]
      refine hu.mono (fun g hg hp => ?_) (by rw [World.size_setCell]; exact Nat.le_refl _)
      replace hp : wr.heap.size ≤ g := hp
      exact ⟨by omega, heap_setCell_other w2 ⟨w0.heap.size, j * 5 + 4, none⟩ g u (by show g ≠ w0.heap.size; omega)⟩
    · show HasRk _ _ (if j = i then u else us j) _
      rw [if_neg hji]
      refine (h.inn j r (by omega) hrj).mono (fun g hg hp => ?_) (by rw [World.size_setCell]; omega)
      replace hp : w0.heap.size < g := hp
      exact ⟨hp, hfar g (by omega) hg⟩
end Go.Proofs.YtobomdokdajbaaaDoor

namespace Go.Proofs.YtobomdokdajbaaaDoor

theorem bl_mem {r : Ri} : ∀ {rs : List Ri} {i : Nat}, rs[i]? = some r → blR r ≤ blL rs
  | [], i, h => by simp at h
  | q :: rs, 0, h => by simp at h; subst h; rw [blL]; omega
  | q :: rs, i + 1, h => by
    rw [List.getElem?_cons_succ] at h
    have := bl_mem h
    rw [blL]
    omega
theorem blR_pos (r : Ri) : 1 ≤ blR r := by cases r; rw [blR]; omega
theorem bl_len : ∀ rs : List Ri, rs.length ≤ blL rs
  | [] => Nat.le_refl _
  | r :: rs => by
    have := bl_len rs
    have := blR_pos r
    rw [blL, List.length_cons]
    omega
end Go.Proofs.YtobomdokdajbaaaDoor
