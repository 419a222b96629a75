import Derived.Test.YtdhncpeemcanlaaGreatDoorJ22
import Derived.Test.YtdhncpeemcanlaaGreatDoorPbA

namespace Go.Proofs.YtdhncpeemcanlaaGreatDoor
open Go.RowKit

/-- Declarations. -/
structure En where
  name : ByteArray
  vals : List (ByteArray × Int)
  res : List (Int × Int)
  gone : List ByteArray
inductive Ms where
  | mk (name : ByteArray) (fs : List Fd) (os : List ByteArray) (ms : List Ms) (es : List En) (rs : List (Int × Int)) (gs : List ByteArray) : Ms
structure Fl where
  pkg : ByteArray
  imps : List ByteArray
  ms : List Ms
  es : List En
def strC (l : List ByteArray) : List Value := l.map Value.string
def fldC (l : List Fd) : List Value := l.flatMap fun d => d.arr.toList
def evC (l : List (ByteArray × Int)) : List Value := l.flatMap fun p => [.string p.1, .int .i64 p.2]
def rgC (l : List (Int × Int)) : List Value := l.flatMap fun p => [.int .i64 p.1, .int .i64 p.2]
theorem strC_len (l : List ByteArray) : (strC l).length = l.length * 1 := by simp [strC]
theorem fldC_len : ∀ l : List Fd, (fldC l).length = l.length * 6
  | [] => rfl
  | d :: r => by
    have := fldC_len r
    unfold fldC at *
    rw [List.flatMap_cons, List.length_append, this, List.length_cons]
    simp only [Fd.arr, List.length_cons, List.length_nil]
    omega
theorem evC_len : ∀ l : List (ByteArray × Int), (evC l).length = l.length * 2
  | [] => rfl
  | d :: r => by
    have := evC_len r
    unfold evC at *
    rw [List.flatMap_cons, List.length_append, this, List.length_cons]
    simp only [List.length_cons, List.length_nil]
    omega
theorem rgC_len : ∀ l : List (Int × Int), (rgC l).length = l.length * 2
  | [] => rfl
  | d :: r => by
    have := rgC_len r
    unfold rgC at *
    rw [List.flatMap_cons, List.length_append, this, List.length_cons]
    simp only [List.length_cons, List.length_nil]
    omega
theorem strC_app (a b : List ByteArray) : strC (a ++ b) = strC a ++ strC b := List.map_append
theorem fldC_app (a b : List Fd) : fldC (a ++ b) = fldC a ++ fldC b := List.flatMap_append
theorem evC_app (a b : List (ByteArray × Int)) : evC (a ++ b) = evC a ++ evC b := List.flatMap_append
theorem rgC_app (a b : List (Int × Int)) : rgC (a ++ b) = rgC a ++ rgC b := List.flatMap_append
/-- A row that can be read, in a block of P. -/
def RowR (P : Nat → Prop) (w : World) (t : TypeId) (sz : Nat) (v : Value) (n : Nat) (xs : List Value) : Prop := w.ownsRow 0 t sz v n xs ∧ ∀ g, v.ownBlock = some g → P g
/-- From w to w', from P to P'. -/
def Goes (P P' : Nat → Prop) (w w' : World) : Prop := ∀ k, P k → k < w.heap.size → P' k ∧ w'.heap[k]? = w.heap[k]?
theorem RowR.goes {P P' : Nat → Prop} {w w' : World} {t sz n : Nat} {v : Value} {xs : List Value} (h : RowR P w t sz v n xs) (hg : Goes P P' w w') : RowR P' w' t sz v n xs := by
  obtain ⟨h1, h2⟩ := h
  refine ⟨⟨h1.1, ?_⟩, fun g e => (hg g (h2 g e) (h1.lt g e).2).1⟩
  rcases h1.2 with h3 | ⟨g, cap, cur, rfl, hb, hc, rest⟩
  · exact .inl h3
  · exact .inr ⟨g, cap, cur, rfl, hb, ((hg g (h2 g rfl) (Array.getElem?_eq_some_iff.1 hc).1).2).trans hc, rest⟩
/-- What is said of blocks of P alone. -/
def Stable (N : (Nat → Prop) → World → Prop) : Prop := ∀ P P' w w', Goes P P' w w' → N P w → N P' w'
theorem Stable.and {N M : (Nat → Prop) → World → Prop} (h : Stable N) (k : Stable M) : Stable fun P w => N P w ∧ M P w := fun P P' w w' hg hn => ⟨h P P' w w' hg hn.1, k P P' w w' hg hn.2⟩
theorem stable_true : Stable fun _ _ => True := fun _ _ _ _ _ _ => trivial
/-- Enums in a row. -/
inductive HasEs (P : Nat → Prop) (w : World) : List Value → List En → Prop
  | nil : HasEs P w [] []
  | cons {e : En} {vv vr vg : Value} {rest : List Value} {l : List En} (hv : RowR P w 68 2 vv e.vals.length (evC e.vals)) (hr : RowR P w 84 2 vr e.res.length (rgC e.res)) (hg : RowR P w 9 1 vg e.gone.length (strC e.gone)) (ht : HasEs P w rest l) : HasEs P w (.string e.name :: vv :: vr :: vg :: rest) (e :: l)
theorem stable_es (cs : List Value) (l : List En) : Stable fun P w => HasEs P w cs l := by
  intro P P' w w' hg h
  induction h with
  | nil => exact .nil
  | cons hv hr hgo _ ih => exact .cons (hv.goes hg) (hr.goes hg) (hgo.goes hg) ih
theorem HasEs.app {P : Nat → Prop} {w : World} {a b : List Value} {l k : List En} (h : HasEs P w a l) (hb : HasEs P w b k) : HasEs P w (a ++ b) (l ++ k) := by
  induction h with
  | nil => exact hb
  | cons hv hr hgo _ ih => exact .cons hv hr hgo ih
theorem HasEs.len {P : Nat → Prop} {w : World} {a : List Value} {l : List En} (h : HasEs P w a l) : a.length = l.length * 4 := by
  induction h with
  | nil => rfl
  | cons hv hr hgo _ ih => simp only [List.length_cons, ih]; omega
/-- Messages in a row. -/
inductive HasMs (P : Nat → Prop) (w : World) : List Value → List Ms → Prop
  | nil : HasMs P w [] []
  | cons {nm : ByteArray} {fs : List Fd} {os : List ByteArray} {ms : List Ms} {es : List En} {rs : List (Int × Int)} {gs : List ByteArray} {vf vo vm ve vr vg : Value} {cm ce rest : List Value} {l : List Ms}
      (hf : RowR P w 47 6 vf fs.length (fldC fs)) (ho : RowR P w 9 1 vo os.length (strC os)) (hm : RowR P w 51 7 vm ms.length cm) (hms : HasMs P w cm ms) (he : RowR P w 66 4 ve es.length ce) (hes : HasEs P w ce es)
      (hr : RowR P w 84 2 vr rs.length (rgC rs)) (hg : RowR P w 9 1 vg gs.length (strC gs)) (ht : HasMs P w rest l) : HasMs P w (.string nm :: vf :: vo :: vm :: ve :: vr :: vg :: rest) (.mk nm fs os ms es rs gs :: l)
theorem stable_ms (cs : List Value) (l : List Ms) : Stable fun P w => HasMs P w cs l := by
  intro P P' w w' hg h
  induction h with
  | nil => exact .nil
  | cons hf ho hm _ he hes hr hgo _ ih1 ih2 => exact .cons (hf.goes hg) (ho.goes hg) (hm.goes hg) ih1 (he.goes hg) (stable_es _ _ P P' w w' hg hes) (hr.goes hg) (hgo.goes hg) ih2
theorem HasMs.app {P : Nat → Prop} {w : World} {a b : List Value} {l k : List Ms} (h : HasMs P w a l) (hb : HasMs P w b k) : HasMs P w (a ++ b) (l ++ k) := by
  induction h with
  | nil => exact hb
  | cons hf ho hm hms he hes hr hgo _ _ ih2 => exact .cons hf ho hm hms he hes hr hgo ih2
theorem HasMs.len {P : Nat → Prop} {w : World} {a : List Value} {l : List Ms} (h : HasMs P w a l) : a.length = l.length * 7 := by
  induction h with
  | nil => rfl
  | cons hf ho hm hms he hes hr hgo _ _ ih2 => simp only [List.length_cons, ih2]; omega
/-- A block that only is read. -/
def Cell1 (p : Nat) (vs : Array Value) (t : TypeId) (P : Nat → Prop) (w : World) : Prop := w.heap[p]? = some (.cells vs t (0, 0)) ∧ P p
theorem stable_cell (p : Nat) (vs : Array Value) (t : TypeId) : Stable (Cell1 p vs t) := by
  intro P P' w w' hg h
  obtain ⟨h1, h2⟩ := hg p h.2 (Array.getElem?_eq_some_iff.1 h.1).1
  exact ⟨h2.trans h.1, h1⟩
/-- A row that may grow. -/
structure Slot where
  t : TypeId
  sz : Nat
  v : Value
  n : Nat
  xs : List Value
/-- A name and rows that may grow. -/
structure Bx (w : World) (g : Nat) (T : TypeId) (nm : ByteArray) (ss : List Slot) : Prop where
  blk : w.heap[g]? = some (.cells (.string nm :: ss.map Slot.v).toArray T (0, 0))
  own : ∀ (i : Nat) (sl : Slot), ss[i]? = some sl → w.ownsRow (g + 1) sl.t sl.sz sl.v sl.n sl.xs
  apart : ∀ (i j : Nat) (a c : Slot), i ≠ j → ss[i]? = some a → ss[j]? = some c → ∀ k, a.v.ownBlock = some k → c.v.ownBlock ≠ some k
/-- Neither the reader, nor the box, nor a row that may grow. -/
def Fz (ss : List Slot) (g b k : Nat) : Prop := k ≠ b ∧ k ≠ g ∧ ∀ (i : Nat) (sl : Slot), ss[i]? = some sl → sl.v.ownBlock ≠ some k
theorem Bx.lt {w : World} {g T : Nat} {nm : ByteArray} {ss : List Slot} (h : Bx w g T nm ss) : g < w.heap.size := (Array.getElem?_eq_some_iff.1 h.blk).1
/-- What the box and its rows are worth in a world in which nothing of them has changed. -/
theorem Bx.same {w w' : World} {g T : Nat} {nm : ByteArray} {ss : List Slot} (h : Bx w g T nm ss) (hs : ∀ k, g ≤ k → k < w.heap.size → w'.heap[k]? = w.heap[k]?) : Bx w' g T nm ss := by
  refine ⟨(hs g (Nat.le_refl _) h.lt).trans h.blk, fun i sl hi => ?_, h.apart⟩
  have h1 := h.own i sl hi
  refine ⟨h1.1, ?_⟩
  rcases h1.2 with h3 | ⟨r, cap, cur, e, hb, hc, rest⟩
  · exact .inl h3
  · exact .inr ⟨r, cap, cur, e, hb, (hs r (by omega) (Array.getElem?_eq_some_iff.1 hc).1).trans hc, rest⟩
/-- Below g all is as it was but block b. -/
structure Sv (g b : Nat) (W w : World) : Prop where
  os : w.os = W.os
  tape : w.tape = W.tape
  output : w.output = W.output
  size : W.heap.size ≤ w.heap.size
  block : ∀ k, k < g → k ≠ b → w.heap[k]? = W.heap[k]?
theorem Sv.refl (g b : Nat) (W : World) : Sv g b W W := ⟨rfl, rfl, rfl, Nat.le_refl _, fun _ _ _ => rfl⟩
theorem Sv.trans {g b : Nat} {W w w' : World} (h : Sv g b W w) (k : Sv g b w w') : Sv g b W w' := ⟨k.os.trans h.os, k.tape.trans h.tape, k.output.trans h.output, Nat.le_trans h.size k.size, fun i h1 h2 => (k.block i h1 h2).trans (h.block i h1 h2)⟩
theorem Sv.of {g b : Nat} {W w : World} (h : W.grownBy w (some b)) (hl : g ≤ W.heap.size) : Sv g b W w := ⟨h.os, h.tape, h.output, h.size, fun k h1 h2 => h.block k (by omega) (by simpa using h2)⟩
theorem Sv.grown {g b : Nat} {W w : World} (h : Sv g b W w) (hl : W.heap.size ≤ g) : W.grownBy w (some b) := ⟨h.os, h.tape, h.output, h.size, fun k h1 h2 => h.block k (by omega) (by simpa using h2)⟩
theorem Sv.other {g b r : Nat} {W w : World} (h : W.grownBy w (some r)) (hr : g ≤ r) (hl : g ≤ W.heap.size) : Sv g b W w := ⟨h.os, h.tape, h.output, h.size, fun k h1 h2 => h.block k (by omega) (by simp; omega)⟩
theorem Sv.mono {g g' b : Nat} {W w : World} (h : Sv g b W w) (hl : g' ≤ g) : Sv g' b W w := ⟨h.os, h.tape, h.output, h.size, fun k h1 h2 => h.block k (by omega) h2⟩
/-- A reader beside a box whose rows grow. -/
structure Ap (lo b g : Nat) (T : TypeId) (nm : ByteArray) (ss : List Slot) (N : (Nat → Prop) → World → Prop) (V W : World) (s : PSt) (w : World) : Prop where
  bx : Bx w g T nm ss
  nx : N (Fz ss g b) w
  rd : Rd lo w b s
  lg : lo ≤ g
  sv : Sv g b W w
  ev : Env V w b
theorem Ap.below {lo b g T : Nat} {nm : ByteArray} {ss : List Slot} {N : (Nat → Prop) → World → Prop} {V W w : World} {s : PSt} (h : Ap lo b g T nm ss N V W s w) : b < lo ∧ lo ≤ g ∧ b < g ∧ g < w.heap.size := ⟨h.rd.low.1, h.lg, Nat.lt_of_lt_of_le h.rd.low.1 h.lg, h.bx.lt⟩
/-- A call over the reader. -/
theorem Ap.read {lo b g T : Nat} {nm : ByteArray} {ss : List Slot} {N : (Nat → Prop) → World → Prop} {V W w w' : World} {s s' : PSt} (h : Ap lo b g T nm ss N V W s w) (hN : Stable N) (hr : Rd lo w' b s') (hg : w.grownBy w' (some b)) : Ap lo b g T nm ss N V W s' w' := by
  obtain ⟨h1, h2, h3, h4⟩ := h.below
  refine ⟨h.bx.same (fun k h5 h6 => hg.block k h6 (by simp; omega)), hN _ _ w w' (fun k hk hl => ⟨hk, hg.block k hl (by simpa using hk.1)⟩) h.nx, hr, h.lg, h.sv.trans (Sv.of hg (by omega)), h.ev.step hg⟩
theorem Ap.up {lo b g T : Nat} {nm : ByteArray} {ss : List Slot} {N : (Nat → Prop) → World → Prop} {V W w w' : World} {s : PSt} (h : Ap lo b g T nm ss N V W s w) (hN : Stable N) (hb : Below w.heap.size w w') : Ap lo b g T nm ss N V W s w' := h.read hN (h.rd.up hb) (below_grown b hb)
theorem Ap.imp {lo b g T : Nat} {nm : ByteArray} {ss : List Slot} {N N' : (Nat → Prop) → World → Prop} {V W w : World} {s : PSt} (h : Ap lo b g T nm ss N V W s w) (hi : N (Fz ss g b) w → N' (Fz ss g b) w) : Ap lo b g T nm ss N' V W s w := ⟨h.bx, hi h.nx, h.rd, h.lg, h.sv, h.ev⟩
/-- What is new lies apart. -/
theorem Ap.fresh {lo b g T : Nat} {nm : ByteArray} {ss : List Slot} {N : (Nat → Prop) → World → Prop} {V W w : World} {s : PSt} (h : Ap lo b g T nm ss N V W s w) {k : Nat} (hk : w.heap.size ≤ k) : Fz ss g b k := by
  obtain ⟨h1, h2, h3, h4⟩ := h.below
  refine ⟨by omega, by omega, fun i sl hi e => ?_⟩
  have := ((h.bx.own i sl hi).lt k e).2
  omega
theorem Ap.join {lo b g T : Nat} {nm : ByteArray} {ss : List Slot} {N N1 : (Nat → Prop) → World → Prop} {V W w w' : World} {s s' : PSt} (h : Ap lo b g T nm ss N V W s w) (hN : Stable N) (hN1 : Stable N1) (hr : Rd lo w' b s') (hg : w.grownBy w' (some b)) (h1 : N1 (fun k => w.heap.size ≤ k) w') : Ap lo b g T nm ss (fun P w => N P w ∧ N1 P w) V W s' w' := by
  have h2 := h.read hN hr hg
  exact ⟨h2.bx, ⟨h2.nx, hN1 _ _ w' w' (fun k hk _ => ⟨h.fresh hk, rfl⟩) h1⟩, h2.rd, h2.lg, h2.sv, h2.ev⟩
theorem list_set_map {α β : Type} (f : α → β) : ∀ (l : List α) (i : Nat) (x : α), (l.set i x).map f = (l.map f).set i (f x)
  | [], _, _ => rfl
  | _ :: _, 0, _ => rfl
  | a :: r, i + 1, x => by simp [list_set_map f r i x]
/-- A row has grown, and is written into the box. -/
theorem Ap.app {lo b g T : Nat} {nm : ByteArray} {ss : List Slot} {N : (Nat → Prop) → World → Prop} {V W w w1 : World} {s : PSt} {i n' : Nat} {sl : Slot} {v' : Value} {xs' : List Value} (h : Ap lo b g T nm ss N V W s w) (hN : Stable N) (hi : ss[i]? = some sl) (hg : w.grownBy w1 sl.v.ownBlock)
    (ho : w1.ownsRow (g + 1) sl.t sl.sz v' n' xs') (hl : v'.ownBlock = sl.v.ownBlock ∨ v'.ownBlock = some w.heap.size) : Ap lo b g T nm (ss.set i ⟨sl.t, sl.sz, v', n', xs'⟩) N V W s (w1.setCell ⟨g, i + 1, none⟩ v') := by
  obtain ⟨l1, l2, l3, l4⟩ := h.below
  have hil : i < ss.length := (List.getElem?_eq_some_iff.1 hi).1
  have hrow : ∀ k, sl.v.ownBlock = some k → g + 1 ≤ k ∧ k < w.heap.size := (h.bx.own i sl hi).lt
  have hgb : w1.heap[g]? = some (.cells (.string nm :: ss.map Slot.v).toArray T (0, 0)) := (hg.block g l4 (fun e => by have := hrow g e.symm; omega)).trans h.bx.blk
  obtain ⟨q1, q2⟩ := set_block (j := i + 1) hgb v'
  have hgo : ∀ k, k < w.heap.size → k ≠ g → sl.v.ownBlock ≠ some k → (w1.setCell ⟨g, i + 1, none⟩ v').heap[k]? = w.heap[k]? := fun k h1 h2 h3 => (q2.block k (Nat.lt_of_lt_of_le h1 hg.size) (by simpa using h2)).trans (hg.block k h1 (fun e => h3 e.symm))
  have hset : ∀ j sl', (ss.set i ⟨sl.t, sl.sz, v', n', xs'⟩)[j]? = some sl' → (j = i ∧ sl' = ⟨sl.t, sl.sz, v', n', xs'⟩) ∨ (j ≠ i ∧ ss[j]? = some sl') := fun j sl' hj => by
    rw [List.getElem?_set] at hj
    split at hj
    · rename_i e
      subst e
      exact .inl ⟨rfl, (Option.some.inj hj).symm⟩
    · rename_i e
      exact .inr ⟨fun q => e q.symm, hj⟩
  have hv' : ∀ k, v'.ownBlock = some k → sl.v.ownBlock = some k ∨ k = w.heap.size := fun k e => by
    rcases hl with q | q
    · exact .inl (q.symm.trans e)
    · rw [q] at e
      exact .inr (Option.some.inj e).symm
  refine ⟨⟨?_, fun j sl' hj => ?_, fun j j' a c hne ha hc k hk hk' => ?_⟩, ?_, ?_, h.lg, ?_, ?_⟩
  · rw [q1]
    congr 2
    rw [list_set_map]
    simp
  · rcases hset j sl' hj with ⟨rfl, rfl⟩ | ⟨hne, hj'⟩
    · refine World.ownsRow.kept ho q2 ?_
      right
      intro e
      rcases hv' g e with q | q
      · have := hrow g q; omega
      · omega
    · have h1 := h.bx.own j sl' hj'
      refine ⟨h1.1, ?_⟩
      rcases h1.2 with h3 | ⟨r, cap, cur, e, hb, hc, rest⟩
      · exact .inl h3
      · refine .inr ⟨r, cap, cur, e, hb, (hgo r (Array.getElem?_eq_some_iff.1 hc).1 (by omega) ?_).trans hc, rest⟩
        exact fun q => h.bx.apart i j sl sl' (Ne.symm hne) hi hj' r q (by rw [e]; rfl)
  · rcases hset j a ha with ⟨rfl, rfl⟩ | ⟨hj, hja⟩ <;> rcases hset j' c hc with ⟨rfl, rfl⟩ | ⟨hj', hjc⟩
    · exact hne rfl
    · rcases hv' k hk with q | q
      · exact h.bx.apart j j' sl c hne hi hjc k q hk'
      · have := ((h.bx.own j' c hjc).lt k hk').2; omega
    · rcases hv' k hk' with q | q
      · exact h.bx.apart j j' a sl hne hja hi k hk q
      · have := ((h.bx.own j a hja).lt k hk).2; omega
    · exact h.bx.apart j j' a c hne hja hjc k hk hk'
  · refine hN _ _ w _ (fun k hk hkl => ⟨⟨hk.1, hk.2.1, fun j sl' hj e => ?_⟩, hgo k hkl hk.2.1 (hk.2.2 i sl hi)⟩) h.nx
    rcases hset j sl' hj with ⟨rfl, rfl⟩ | ⟨hne, hj'⟩
    · rcases hv' k e with q | q
      · exact hk.2.2 _ sl hi q
      · omega
    · exact hk.2.2 j sl' hj' e
  · refine h.rd.up' ⟨(q2.os).trans hg.os, q2.tape.trans hg.tape, q2.output.trans hg.output, Nat.le_trans hg.size q2.size, fun k hk => hgo k (by omega) (by omega) (fun e => by have := hrow k e; omega)⟩
  · refine h.sv.trans ⟨(q2.os).trans hg.os, q2.tape.trans hg.tape, q2.output.trans hg.output, Nat.le_trans hg.size q2.size, fun k hk _ => hgo k (by omega) (by omega) (fun e => by have := hrow k e; omega)⟩
  · have := h.ev.lo
    exact ⟨h.ev.f, h.ev.e, h.ev.m, h.ev.below.trans ⟨(q2.os).trans hg.os, q2.tape.trans hg.tape, q2.output.trans hg.output, Nat.le_trans hg.size q2.size, fun k hk => hgo k (by omega) (by omega) (fun e => by have := hrow k e; omega)⟩, h.ev.lo⟩
theorem set_self {α : Type} {l : List α} {i : Nat} {x : α} (h : l[i]? = some x) : l.set i x = l := by
  apply List.ext_getElem?
  intro m
  rw [List.getElem?_set]
  split
  · rename_i e
    subst e
    obtain ⟨h1, h2⟩ := List.getElem?_eq_some_iff.1 h
    simp [h1, h2]
  · rfl
/-- A cell of a row that may grow is written. -/
theorem Ap.setRow {lo b g T : Nat} {nm : ByteArray} {ss : List Slot} {N : (Nat → Prop) → World → Prop} {V W w : World} {s : PSt} {i k : Nat} {sl : Slot} (h : Ap lo b g T nm ss N V W s w) (hN : Stable N) (hi : ss[i]? = some sl) (hk : sl.v.ownBlock = some k) (j : Nat) (u : Value) : Ap lo b g T nm (ss.set i ⟨sl.t, sl.sz, sl.v, sl.n, sl.xs.set j u⟩) N V W s (w.setCell ⟨k, j, none⟩ u) := by
  obtain ⟨l1, l2, l3, l4⟩ := h.below
  have hil : i < ss.length := (List.getElem?_eq_some_iff.1 hi).1
  have h0 := h.bx.own i sl hi
  obtain ⟨r1, r2⟩ := h0.lt k hk
  obtain ⟨c, hc⟩ : ∃ c, sl.v = .slice (some ⟨k, 0, none⟩) sl.n c := by
    rcases h0.2 with ⟨e, _⟩ | ⟨g', cap, _, e, _⟩
    · rw [e] at hk; cases hk
    · rw [e] at hk
      cases hk
      exact ⟨cap, e⟩
  have h0' : w.ownsRow (g + 1) sl.t sl.sz (.slice (some ⟨k, 0, none⟩) sl.n c) sl.n sl.xs := by rw [← hc]; exact h0
  obtain ⟨q1, q2⟩ := World.ownsRow.stored h0' j u
  have hgo : ∀ m, m < w.heap.size → m ≠ k → (w.setCell ⟨k, j, none⟩ u).heap[m]? = w.heap[m]? := fun m h1 h2 => q2.block m h1 (by simpa using h2)
  have hset : ∀ (m : Nat) (sl' : Slot), (ss.set i ⟨sl.t, sl.sz, sl.v, sl.n, sl.xs.set j u⟩)[m]? = some sl' → (m = i ∧ sl' = ⟨sl.t, sl.sz, sl.v, sl.n, sl.xs.set j u⟩) ∨ (m ≠ i ∧ ss[m]? = some sl') := fun m sl' hm => by
    rw [List.getElem?_set] at hm
    split at hm
    · rename_i e
      subst e
      exact .inl ⟨rfl, (Option.some.inj hm).symm⟩
    · rename_i e
      exact .inr ⟨fun q => e q.symm, hm⟩
  have hv : ∀ (m : Nat) (sl' : Slot), (ss.set i ⟨sl.t, sl.sz, sl.v, sl.n, sl.xs.set j u⟩)[m]? = some sl' → ∃ sl0, ss[m]? = some sl0 ∧ sl0.v = sl'.v := fun m sl' hm => by
    rcases hset m sl' hm with ⟨rfl, rfl⟩ | ⟨_, hm'⟩
    · exact ⟨sl, hi, rfl⟩
    · exact ⟨sl', hm', rfl⟩
  have hb : ∀ m, m < g → (w.setCell ⟨k, j, none⟩ u).heap[m]? = w.heap[m]? := fun m hm => hgo m (by omega) (by omega)
  refine ⟨⟨?_, fun m sl' hm => ?_, fun m m' a c' hne ha hc' x hx hx' => ?_⟩, ?_, ?_, h.lg, ?_, ?_⟩
  · rw [hgo g l4 (by omega), h.bx.blk]
    rw [list_set_map]
    simp only
    rw [set_self (show (ss.map Slot.v)[i]? = some sl.v by simp [hi])]
  · rcases hset m sl' hm with ⟨rfl, rfl⟩ | ⟨hne, hm'⟩
    · simp only
      rw [hc]
      exact q1
    · have h1 := h.bx.own m sl' hm'
      refine ⟨h1.1, ?_⟩
      rcases h1.2 with h3 | ⟨r, cap, cur, e, hb, hcc, rest⟩
      · exact .inl h3
      · refine .inr ⟨r, cap, cur, e, hb, (hgo r (Array.getElem?_eq_some_iff.1 hcc).1 ?_).trans hcc, rest⟩
        rintro rfl
        exact h.bx.apart i m sl sl' (Ne.symm hne) hi hm' r hk (by rw [e]; rfl)
  · obtain ⟨a0, e1, e2⟩ := hv m a ha
    obtain ⟨c0, e3, e4⟩ := hv m' c' hc'
    exact h.bx.apart m m' a0 c0 hne e1 e3 x (e2 ▸ hx) (e4 ▸ hx')
  · refine hN _ _ w _ (fun m hm hml => ⟨⟨hm.1, hm.2.1, fun q sl' hq e => ?_⟩, hgo m hml (fun e => hm.2.2 i sl hi (e ▸ hk))⟩) h.nx
    obtain ⟨a0, e1, e2⟩ := hv q sl' hq
    exact hm.2.2 q a0 e1 (e2 ▸ e)
  · exact h.rd.up' ⟨q2.os, q2.tape, q2.output, q2.size, fun m hm => hb m (by omega)⟩
  · exact h.sv.trans ⟨q2.os, q2.tape, q2.output, q2.size, fun m hm _ => hb m hm⟩
  · have := h.ev.lo
    exact ⟨h.ev.f, h.ev.e, h.ev.m, h.ev.below.trans ⟨q2.os, q2.tape, q2.output, q2.size, fun m hm => hb m (by omega)⟩, h.ev.lo⟩
end Go.Proofs.YtdhncpeemcanlaaGreatDoor
