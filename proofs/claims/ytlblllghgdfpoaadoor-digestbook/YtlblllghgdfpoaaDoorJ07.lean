import Derived.Test.YtlblllghgdfpoaaDoorEF
import Derived.Test.YtlblllghgdfpoaaDoorJ05
import Derived.Test.YtlblllghgdfpoaaDoorJ05

namespace Go.Proofs.YtlblllghgdfpoaaDoor
open Go.RowKit

/-- Rows of lists that lie in blocks of their own, each in another. -/
structure Lr (B : Nat) (w : World) (vs : List Value) (ls : List (List Value)) : Prop where
  len : ls.length = vs.length
  own : ∀ (i : Nat) (v : Value) (l : List Value), vs[i]? = some v → ls[i]? = some l → w.ownsRow B 29 1 v l.length l
  ap : ∀ (i j : Nat) (v u : Value) (b : Nat), vs[i]? = some v → vs[j]? = some u → v.ownBlock = some b → u.ownBlock = some b → i = j
theorem Lr.nil (B : Nat) (w : World) : Lr B w [] [] := ⟨rfl, fun i v bs h => by simp at h, fun i j v u b h => by simp at h⟩
theorem Lr.at {B : Nat} {w : World} {vs : List Value} {ls : List (List Value)} (h : Lr B w vs ls) {i : Nat} (hi : i < vs.length) : ∃ v l, vs[i]? = some v ∧ ls[i]? = some l ∧ w.ownsRow B 29 1 v l.length l := by
  have h1 : ls[i]? = some (ls[i]'(by rw [h.len]; exact hi)) := List.getElem?_eq_getElem _
  exact ⟨_, _, List.getElem?_eq_getElem hi, h1, h.own i _ _ (List.getElem?_eq_getElem hi) h1⟩
theorem Lr.lt {B : Nat} {w : World} {vs : List Value} {ls : List (List Value)} (h : Lr B w vs ls) {g : Nat} (hg : InB vs g) : B ≤ g ∧ g < w.heap.size := by
  obtain ⟨i, v, h1, h2⟩ := hg
  obtain ⟨v', bs, h3, h4, h5⟩ := h.at (List.getElem?_eq_some_iff.1 h1).1
  obtain rfl := Option.some.inj (h1.symm.trans h3)
  exact World.ownsRow.lt h5 g h2
theorem Lr.keep {B : Nat} {w w' : World} {vs : List Value} {ls : List (List Value)} (h : Lr B w vs ls) (hf : ∀ g, g < w.heap.size → InB vs g → w'.heap[g]? = w.heap[g]?) : Lr B w' vs ls :=
  ⟨h.len, fun i v l hv hb => own_same (h.own i v l hv hb) (fun b e => hf b (World.ownsRow.lt (h.own i v l hv hb) b e).2 ⟨i, v, hv, e⟩), h.ap⟩
/-- One of them is another. -/
theorem Lr.set {B : Nat} {w w' : World} {vs : List Value} {ls : List (List Value)} (h : Lr B w vs ls) {i : Nat} {v v' : Value} {l' : List Value} (hi : vs[i]? = some v) (hn : w'.ownsRow B 29 1 v' l'.length l') (hblk : v'.ownBlock = v.ownBlock ∨ ∃ g', v'.ownBlock = some g' ∧ w.heap.size ≤ g') (hf : ∀ q, q < w.heap.size → some q ≠ v.ownBlock → w'.heap[q]? = w.heap[q]?) : Lr B w' (vs.set i v') (ls.set i l') := by
  have hlt := (List.getElem?_eq_some_iff.1 hi).1
  refine ⟨by rw [List.length_set, List.length_set]; exact h.len, fun j x bs hx hb => ?_, fun j k x y b hx hy ex ey => ?_⟩
  · by_cases hij : i = j
    · subst hij
      rw [List.getElem?_set_self hlt] at hx
      rw [List.getElem?_set_self (by rw [h.len]; exact hlt)] at hb
      obtain rfl := Option.some.inj hx
      obtain rfl := Option.some.inj hb
      exact hn
    · rw [List.getElem?_set_ne hij] at hx hb
      refine own_same (h.own j x bs hx hb) (fun b e => hf b (World.ownsRow.lt (h.own j x bs hx hb) b e).2 (fun e2 => hij (h.ap i j v x b hi hx e2.symm e)))
  · have old : ∀ (m : Nat) (z : Value), vs[m]? = some z → z.ownBlock = some b → b < w.heap.size := fun m z hz ez => (h.lt ⟨m, z, hz, ez⟩).2
    by_cases hij : i = j
    · by_cases hik : i = k
      · omega
      · subst hij
        rw [List.getElem?_set_self hlt] at hx
        rw [List.getElem?_set_ne hik] at hy
        obtain rfl := Option.some.inj hx
        rcases hblk with e | ⟨g', e, hg'⟩
        · exact h.ap i k v y b hi hy (e.symm.trans ex) ey
        · have := old k y hy ey
          have := Option.some.inj (e.symm.trans ex)
          omega
    · rw [List.getElem?_set_ne hij] at hx
      by_cases hik : i = k
      · subst hik
        rw [List.getElem?_set_self hlt] at hy
        obtain rfl := Option.some.inj hy
        rcases hblk with e | ⟨g', e, hg'⟩
        · exact h.ap j i x v b hx hi ex (e.symm.trans ey)
        · have := old j x hx ex
          have := Option.some.inj (e.symm.trans ey)
          omega
      · rw [List.getElem?_set_ne hik] at hy
        exact h.ap j k x y b hx hy ex ey
/-- A row of lists is grown. -/
structure RgA (w0 : World) (B : Nat) (v : Value) (xs ys : List Value) (w : World) (r : Value) : Prop where
  rr : w.ownsRow B 29 1 r (xs ++ ys).length (xs ++ ys)
  vv : w.ownsRow B 29 1 v xs.length xs
  os : w.os = w0.os
  tape : w.tape = w0.tape
  output : w.output = w0.output
  size : w0.heap.size ≤ w.heap.size
  far : ∀ q, q < w0.heap.size → v.ownBlock ≠ some q → w.heap[q]? = w0.heap[q]?
  blk : r.ownBlock = v.ownBlock ∨ ∃ g, r.ownBlock = some g ∧ w0.heap.size ≤ g
  old : ∀ b, v.ownBlock = some b → b < w0.heap.size
theorem RgA.up {w0 w w' : World} {B : Nat} {v r : Value} {xs ys : List Value} (h : RgA w0 B v xs ys w r) (hb : Below w.heap.size w w') : RgA w0 B v xs ys w' r :=
  ⟨own_same h.rr (fun b e => hb.block b (h.rr.lt b e).2), own_same h.vv (fun b e => hb.block b (h.vv.lt b e).2), hb.os.trans h.os, hb.tape.trans h.tape, hb.output.trans h.output, Nat.le_trans h.size hb.size, fun q hq hn => (hb.block q (Nat.lt_of_lt_of_le hq h.size)).trans (h.far q hq hn), h.blk, h.old⟩
theorem RgA.step {w0 w w2 : World} {B g' c' n : Nat} {v r x : Value} {xs ys : List Value} {o1 : Obj} (h : RgA w0 B v xs ys w r) (hn : (xs ++ ys).length = n)
    (h1 : w2.ownsRow B 29 1 (.slice (some ⟨g', 0, none⟩) (n + 1) c') (n + 1) (xs ++ ys ++ [x])) (h2 : w2.ownsRow B 29 1 r n (xs ++ ys)) (h3 : (w.alloc o1).grownBy w2 r.ownBlock) (h4 : r.ownBlock = some g' ∨ (w.alloc o1).heap.size ≤ g') : RgA w0 B v xs (ys ++ [x]) w2 (.slice (some ⟨g', 0, none⟩) (n + 1) c') := by
  have s0 := h.size
  have s2 := h3.size
  rw [World.size_alloc] at s2 h4
  have key : ∀ q, q < w.heap.size → r.ownBlock ≠ some q → w2.heap[q]? = w.heap[q]? := fun q hq hn => (h3.block q (by rw [World.size_alloc]; omega) (fun e => hn e.symm)).trans (Below.heap_alloc w o1 q hq)
  have hrq : ∀ q, q < w0.heap.size → v.ownBlock ≠ some q → r.ownBlock ≠ some q := fun q hq hnv e => by
    rcases h.blk with e2 | ⟨g, e2, hg⟩
    · exact hnv (e2.symm.trans e)
    · have := Option.some.inj (e2.symm.trans e)
      omega
  refine ⟨?_, ?_, h3.os.trans h.os, h3.tape.trans h.tape, h3.output.trans h.output, by omega, fun q hq hnv => (key q (by omega) (hrq q hq hnv)).trans (h.far q hq hnv), ?_, h.old⟩
  · rw [← List.append_assoc, List.length_append, hn]
    exact h1
  · rcases h.blk with e | ⟨g, e, hg⟩
    · have hr0 := h.rr
      rw [hn] at hr0
      exact own_share h.vv hr0 h2 e
    · refine own_same h.vv (fun b eb => key b (by have := h.old b eb; omega) (fun er => ?_))
      have := h.old b eb
      have := Option.some.inj (e.symm.trans er)
      omega
  · rcases h4 with e | e
    · rcases h.blk with e2 | ⟨g, e2, hg⟩
      · exact .inl (e.symm.trans e2)
      · exact .inr ⟨g', rfl, by have := Option.some.inj (e.symm.trans e2); omega⟩
    · exact .inr ⟨g', rfl, by omega⟩
/-- What grownLists lays in place. -/
def q4 (i k : Nat) : List Nat := [i % 256, i / 256 % 256, k % 256, k / 256 % 256]
theorem q4_byt (i k : Nat) : Byt (q4 i k) := fun x hx => by
  simp [q4] at hx
  omega
/-- Where grownLists stands: the rows, and what lies in their places so far. -/
structure GlS (W : World) (B : Nat) (vs : List Value) (uss0 : List (List Value)) (D : Nat → Nat → Prop) (w : World) (uss : List (List Value)) : Prop where
  lr : Lr B w vs uss
  fr : Fr W w (InB vs)
  ln : ∀ j : Nat, (uss[j]?).map List.length = (uss0[j]?).map List.length
  el : ∀ (j k : Nat) (us : List Value) (u : Value), D j k → uss[j]? = some us → us[k]? = some u → HasB w u (q4 j k) ∧ ∀ q, u.ownBlock = some q → W.heap.size ≤ q ∧ q < w.heap.size
  vo : ∀ q, InB vs q → q < W.heap.size
theorem row_set {B : Nat} {w : World} {g n c : Nat} {l : List Value} (h : w.ownsRow B 29 1 (.slice (some ⟨g, 0, none⟩) n c) n l) (k : Nat) (x : Value) : (w.setCell ⟨g, k, none⟩ x).ownsRow B 29 1 (.slice (some ⟨g, 0, none⟩) n c) n (l.set k x) := by
  obtain ⟨h1, ⟨e, -⟩ | ⟨g', c', cur, e, h2, h3, h4, h5, h6, h7⟩⟩ := id h
  · cases e
  · cases e
    refine ⟨by rw [List.length_set]; exact h1, .inr ⟨g, c, _, rfl, h2, heap_setCell_same w g k _ _ _ h3, h4, h5, by rw [Array.size_setIfInBounds]; exact h6, ?_⟩⟩
    rw [Array.toList_setIfInBounds, List.take_set, h7]
/-- One more is laid in its place. -/
theorem GlS.put {W : World} {B : Nat} {vs : List Value} {uss0 uss : List (List Value)} {i k : Nat} {w : World} {D : Nat → Nat → Prop} (h : GlS W B vs uss0 D w uss) {g n c : Nat} {us : List Value} (hv : vs[i]? = some (.slice (some ⟨g, 0, none⟩) n c)) (hu : uss[i]? = some us) (hn : us.length = n) (o : Obj) (ho : o = .cells ((q4 i k).map fun (x : Nat) => Value.int .u8 (x : Int)).toArray 5) :
    GlS W B vs uss0 (fun j m => D j m ∧ (j, m) ≠ (i, k) ∨ (j, m) = (i, k)) ((w.alloc o).setCell ⟨g, k, none⟩ (.slice (some ⟨w.heap.size, 0, none⟩) 4 4)) (uss.set i (us.set k (.slice (some ⟨w.heap.size, 0, none⟩) 4 4))) := by
  have hlt := (List.getElem?_eq_some_iff.1 hv).1
  have hbA : Below w.heap.size w (w.alloc o) := (Below.refl _ _).alloc (Nat.le_refl _) o
  have hgv := h.vo g ⟨i, _, hv, rfl⟩
  have hsz := h.fr.size
  have e : vs.set i (.slice (some ⟨g, 0, none⟩) n c) = vs := by
    apply List.ext_getElem?
    intro j
    by_cases hij : i = j
    · subst hij; rw [List.getElem?_set_self hlt, hv]
    · rw [List.getElem?_set_ne hij]
  have h0 := h.lr.keep (w' := w.alloc o) (fun q hq _ => hbA.block q hq)
  have h1 := h0.set hv (l' := us.set k (.slice (some ⟨w.heap.size, 0, none⟩) 4 4)) (by have := row_set (k := k) (x := .slice (some ⟨w.heap.size, 0, none⟩) 4 4) (by have := h0.own i _ us hv hu; rw [hn] at this; exact this); rw [List.length_set, hn]; exact this) (.inl rfl) (fun q _ hn => heap_setCell_other (w.alloc o) ⟨g, k, none⟩ q _ (fun e => hn (by rw [show q = g from e]; rfl)))
  rw [e] at h1
  have far : ∀ q, q < w.heap.size → q ≠ g → ((w.alloc o).setCell ⟨g, k, none⟩ (.slice (some ⟨w.heap.size, 0, none⟩) 4 4)).heap[q]? = w.heap[q]? := fun q hq hne => (heap_setCell_other (w.alloc o) ⟨g, k, none⟩ q _ hne).trans (hbA.block q hq)
  refine ⟨h1, (h.fr.up hbA).set (.inl ⟨i, _, hv, rfl⟩) k _, fun j => ?_, fun j m us' u hD hus hu' => ?_, h.vo⟩
  · by_cases hij : i = j
    · subst hij
      rw [List.getElem?_set_self (by rw [h.lr.len]; exact hlt), ← h.ln, hu]
      simp
    · rw [List.getElem?_set_ne hij]; exact h.ln j
  · have hs2 : ((w.alloc o).setCell ⟨g, k, none⟩ (.slice (some ⟨w.heap.size, 0, none⟩) 4 4)).heap.size = w.heap.size + 1 := by rw [World.size_setCell, World.size_alloc]
    have stay : ∀ us1, uss[j]? = some us1 → us1[m]? = some u → D j m → HasB ((w.alloc o).setCell ⟨g, k, none⟩ (.slice (some ⟨w.heap.size, 0, none⟩) 4 4)) u (q4 j m) ∧ ∀ q, u.ownBlock = some q → W.heap.size ≤ q ∧ q < ((w.alloc o).setCell ⟨g, k, none⟩ (.slice (some ⟨w.heap.size, 0, none⟩) 4 4)).heap.size := fun us1 k1 k2 k3 => by
      obtain ⟨a1, a2⟩ := h.el j m us1 u k3 k1 k2
      exact ⟨a1.stays (by omega) (fun q e hq => far q hq (fun e2 => by have := (a2 q e).1; omega)), fun q e => ⟨(a2 q e).1, by have := (a2 q e).2; omega⟩⟩
    by_cases hij : i = j
    · subst hij
      rw [List.getElem?_set_self (by rw [h.lr.len]; exact hlt)] at hus
      obtain rfl := Option.some.inj hus
      by_cases hkm : k = m
      · subst hkm
        have hk : k < us.length := by have := (List.getElem?_eq_some_iff.1 hu').1; rw [List.length_set] at this; exact this
        rw [List.getElem?_set_self hk] at hu'
        obtain rfl := Option.some.inj hu'
        refine ⟨⟨some ⟨w.heap.size, 0, none⟩, 4, rfl, ⟨Nat.le_refl _, by unfold maxLen; decide, nofun⟩, fun _ => ⟨w.heap.size, 0, rfl, by omega, fun a x hx => ?_⟩⟩, fun q e => ?_⟩
        · have hb2 : ((w.alloc o).setCell ⟨g, k, none⟩ (.slice (some ⟨w.heap.size, 0, none⟩) 4 4)).heap[w.heap.size]? = some o := (heap_setCell_other (w.alloc o) ⟨g, k, none⟩ w.heap.size _ (by show w.heap.size ≠ g; omega)).trans (heap_new w o)
          rw [ho] at hb2
          rw [Nat.zero_add]
          rw [ho] at *
          refine (cell_of_row _ _ _ _ _ _ hb2).trans ?_
          simp [List.getElem?_map, hx]
        · have e2 : w.heap.size = q := Option.some.inj e
          exact ⟨by omega, by omega⟩
      · rw [List.getElem?_set_ne hkm] at hu'
        rcases hD with ⟨k3, -⟩ | k3
        · exact stay us hu hu' k3
        · exact absurd (by injection k3 with _ k3; exact k3.symm) hkm
    · rw [List.getElem?_set_ne hij] at hus
      rcases hD with ⟨k3, -⟩ | k3
      · exact stay us' hus hu' k3
      · exact absurd (by injection k3 with k3; exact k3.symm) hij
theorem GlS.weak {W : World} {B : Nat} {vs : List Value} {uss0 uss : List (List Value)} {w : World} {D E : Nat → Nat → Prop} (h : GlS W B vs uss0 D w uss) (hd : ∀ j k us u, E j k → uss[j]? = some us → us[k]? = some u → D j k) : GlS W B vs uss0 E w uss := ⟨h.lr, h.fr, h.ln, fun j k us u hE h1 h2 => h.el j k us u (hd j k us u hE h1 h2) h1 h2, h.vo⟩
theorem GlS.up {W w w' : World} {B : Nat} {vs : List Value} {uss0 uss : List (List Value)} {D : Nat → Nat → Prop} (h : GlS W B vs uss0 D w uss) (hb : Below w.heap.size w w') : GlS W B vs uss0 D w' uss := ⟨h.lr.keep (fun q hq _ => hb.block q hq), h.fr.up hb, h.ln, fun j k us u hE h1 h2 => ⟨(h.el j k us u hE h1 h2).1.up hb, fun q e => ⟨((h.el j k us u hE h1 h2).2 q e).1, Nat.lt_of_lt_of_le ((h.el j k us u hE h1 h2).2 q e).2 hb.size⟩⟩, h.vo⟩
/-- One of the rows is grown. -/
theorem GlS.grow {W w w' : World} {B i : Nat} {vs : List Value} {uss0 uss : List (List Value)} {D : Nat → Nat → Prop} {v r : Value} {us ys : List Value} (h : GlS W B vs uss0 D w uss) (hv : vs[i]? = some v) (hu : uss[i]? = some us) (hg : RgA w B v us ys w' r) : GlS W B vs uss0 D w' uss := by
  refine ⟨⟨h.lr.len, fun k x l hx hl => ?_, h.lr.ap⟩, ⟨hg.os.trans h.fr.os, hg.tape.trans h.fr.tape, hg.output.trans h.fr.output, Nat.le_trans h.fr.size hg.size, fun q hq hn => (hg.far q (Nat.lt_of_lt_of_le hq h.fr.size) (fun e => hn ⟨i, v, hv, e⟩)).trans (h.fr.far q hq hn)⟩, h.ln, fun j k us' u hE h1 h2 => ?_, h.vo⟩
  · by_cases hk : k = i
    · subst hk
      obtain rfl := Option.some.inj (hx.symm.trans hv)
      obtain rfl := Option.some.inj (hl.symm.trans hu)
      exact hg.vv
    · exact own_same (h.lr.own k x l hx hl) (fun q e => hg.far q (World.ownsRow.lt (h.lr.own k x l hx hl) q e).2 (fun e2 => hk (h.lr.ap k i x v q hx hv e e2)))
  · obtain ⟨a1, a2⟩ := h.el j k us' u hE h1 h2
    exact ⟨a1.stays hg.size (fun q e hq => hg.far q hq (fun e2 => by have := (a2 q e).1; have := h.vo q ⟨i, v, hv, e2⟩; omega)), fun q e => ⟨(a2 q e).1, Nat.lt_of_lt_of_le (a2 q e).2 hg.size⟩⟩
end Go.Proofs.YtlblllghgdfpoaaDoor

namespace Go.Proofs.YtlblllghgdfpoaaDoor
open Go.RowKit

/-- Two rows that grow beside one another. -/
structure TwS (B : Nat) (W : World) (vL0 vW0 : Value) (w : World) (vL vW : Value) (xs ys : List Value) : Prop where
  rl : w.ownsRow B 29 1 vL xs.length xs
  rw : w.ownsRow B 9 1 vW ys.length ys
  wl : ∀ q, vW.ownBlock = some q → vL.ownBlock ≠ some q
  fr : Fr W w (fun q => vL0.ownBlock = some q ∨ vW0.ownBlock = some q)
  nl : ∀ q, vL.ownBlock = some q → vL0.ownBlock = some q ∨ W.heap.size ≤ q
  nw : ∀ q, vW.ownBlock = some q → vW0.ownBlock = some q ∨ W.heap.size ≤ q
  bs : B ≤ W.heap.size
/-- Two cells that are to be put behind one of them. -/
structure TwA (w : World) (vL vW : Value) (p : Nat) (x1 x2 : Value) : Prop where
  lt : p < w.heap.size
  c0 : w.cell? ⟨p, 0, none⟩ = some x1
  c1 : w.cell? ⟨p, 1, none⟩ = some x2
  nl : vL.ownBlock ≠ some p
  nw : vW.ownBlock ≠ some p
theorem TwA.news {w : World} {vL vW : Value} {p : Nat} {x1 x2 : Value} (h : TwA w vL vW p x1 x2) : ∀ (j : Nat) (u : Value), [x1, x2][j]? = some u → w.cell? (Addr.add ⟨p, 0, none⟩ j) = some u := by
  intro j u hu
  match j, hu with
  | 0, hu => simp at hu; subst hu; exact h.c0
  | 1, hu => simp at hu; subst hu; exact h.c1
theorem TwS.alloc {B : Nat} {W w : World} {vL0 vW0 vL vW : Value} {xs ys : List Value} (h : TwS B W vL0 vW0 w vL vW xs ys) (o : Obj) : TwS B W vL0 vW0 (w.alloc o) vL vW xs ys :=
  ⟨h.rl.alloc o, h.rw.alloc o, h.wl, h.fr.up ((Below.refl _ _).alloc (Nat.le_refl _) o), h.nl, h.nw, h.bs⟩
theorem TwS.new {B : Nat} {W w : World} {vL0 vW0 vL vW : Value} {xs ys : List Value} (h : TwS B W vL0 vW0 w vL vW xs ys) (x1 x2 : Value) (t : TypeId) : TwA (w.alloc (.cells #[x1, x2] t)) vL vW w.heap.size x1 x2 :=
  ⟨by rw [World.size_alloc]; omega, by simp, by simp, fun e => by have := (h.rl.lt _ e).2; omega, fun e => by have := (h.rw.lt _ e).2; omega⟩
theorem TwA.alloc {w : World} {vL vW : Value} {p : Nat} {x1 x2 : Value} (h : TwA w vL vW p x1 x2) (o : Obj) : TwA (w.alloc o) vL vW p x1 x2 := by
  have hb : Below w.heap.size w (w.alloc o) := (Below.refl _ _).alloc (Nat.le_refl _) o
  exact ⟨Nat.lt_of_lt_of_le h.lt hb.size, (hb.cell (p := ⟨p, 0, none⟩) h.lt).trans h.c0, (hb.cell (p := ⟨p, 1, none⟩) h.lt).trans h.c1, h.nl, h.nw⟩
theorem Fr.grow0 {A B C : World} {X : Nat → Prop} {r : Option Nat} (h : Fr A B X) (k : B.grownBy C r) (hr : ∀ q, r = some q → X q ∨ A.heap.size ≤ q) : Fr A C X :=
  ⟨k.os.trans h.os, k.tape.trans h.tape, k.output.trans h.output, Nat.le_trans h.size k.size, fun q hq hn => (k.block q (Nat.lt_of_lt_of_le hq h.size) (fun e => (hr q e.symm).elim hn (fun k => by omega))).trans (h.far q hq hn)⟩
theorem TwS.appL {B : Nat} {W w w2 : World} {vL0 vW0 vL vW vL' : Value} {xs ys us : List Value} {n : Nat} (h : TwS B W vL0 vW0 w vL vW xs ys) (r : w2.ownsRow B 29 1 vL' (xs.length + n) (xs ++ us)) (hn : us.length = n) (g : w.grownBy w2 vL.ownBlock) (hat : vL'.ownBlock = vL.ownBlock ∨ ∃ q, vL'.ownBlock = some q ∧ w.heap.size ≤ q) : TwS B W vL0 vW0 w2 vL' vW (xs ++ us) ys := by
  refine ⟨by rw [List.length_append, hn]; exact r, own_same h.rw (fun q e => g.block q (h.rw.lt q e).2 (fun e2 => h.wl q e e2.symm)), fun q e e2 => ?_, h.fr.grow0 g (fun q e => (h.nl q e).imp .inl (fun k => k)), fun q e => ?_, h.nw, h.bs⟩
  · rcases hat with k | ⟨q2, k, hq⟩
    · exact h.wl q e (k.symm.trans e2)
    · have := (h.rw.lt q e).2
      have := Option.some.inj (k.symm.trans e2)
      omega
  · rcases hat with k | ⟨q2, k, hq⟩
    · exact h.nl q (k.symm.trans e)
    · have := Option.some.inj (k.symm.trans e)
      have := h.fr.size
      exact .inr (by omega)
theorem TwA.appL {w w2 : World} {vL vW vL' : Value} {p : Nat} {x1 x2 : Value} (h : TwA w vL vW p x1 x2) (g : w.grownBy w2 vL.ownBlock) (hat : vL'.ownBlock = vL.ownBlock ∨ ∃ q, vL'.ownBlock = some q ∧ w.heap.size ≤ q) : TwA w2 vL' vW p x1 x2 := by
  have e := g.block p h.lt (fun e => h.nl e.symm)
  refine ⟨Nat.lt_of_lt_of_le h.lt g.size, (World.cell?_of_block (a := ⟨p, 0, none⟩) e).trans h.c0, (World.cell?_of_block (a := ⟨p, 1, none⟩) e).trans h.c1, fun e2 => ?_, h.nw⟩
  rcases hat with k | ⟨q2, k, hq⟩
  · exact h.nl (k.symm.trans e2)
  · have := Option.some.inj (k.symm.trans e2)
    have := h.lt
    omega
theorem TwS.appW {B : Nat} {W w w2 : World} {vL0 vW0 vL vW vW' : Value} {xs ys us : List Value} {n : Nat} (h : TwS B W vL0 vW0 w vL vW xs ys) (r : w2.ownsRow B 9 1 vW' (ys.length + n) (ys ++ us)) (hn : us.length = n) (g : w.grownBy w2 vW.ownBlock) (hat : vW'.ownBlock = vW.ownBlock ∨ ∃ q, vW'.ownBlock = some q ∧ w.heap.size ≤ q) : TwS B W vL0 vW0 w2 vL vW' xs (ys ++ us) := by
  refine ⟨own_same h.rl (fun q e => g.block q (h.rl.lt q e).2 (fun e2 => h.wl q e2.symm e)), by rw [List.length_append, hn]; exact r, fun q e e2 => ?_, h.fr.grow0 g (fun q e => (h.nw q e).imp .inr (fun k => k)), h.nl, fun q e => ?_, h.bs⟩
  · rcases hat with k | ⟨q2, k, hq⟩
    · exact h.wl q (k.symm.trans e) e2
    · have := (h.rl.lt q e2).2
      have := Option.some.inj (k.symm.trans e)
      omega
  · rcases hat with k | ⟨q2, k, hq⟩
    · exact h.nw q (k.symm.trans e)
    · have := Option.some.inj (k.symm.trans e)
      have := h.fr.size
      exact .inr (by omega)
theorem TwA.appW {w w2 : World} {vL vW vW' : Value} {p : Nat} {x1 x2 : Value} (h : TwA w vL vW p x1 x2) (g : w.grownBy w2 vW.ownBlock) (hat : vW'.ownBlock = vW.ownBlock ∨ ∃ q, vW'.ownBlock = some q ∧ w.heap.size ≤ q) : TwA w2 vL vW' p x1 x2 := by
  have e := g.block p h.lt (fun e => h.nw e.symm)
  refine ⟨Nat.lt_of_lt_of_le h.lt g.size, (World.cell?_of_block (a := ⟨p, 0, none⟩) e).trans h.c0, (World.cell?_of_block (a := ⟨p, 1, none⟩) e).trans h.c1, h.nl, fun e2 => ?_⟩
  rcases hat with k | ⟨q2, k, hq⟩
  · exact h.nw (k.symm.trans e2)
  · have := Option.some.inj (k.symm.trans e2)
    have := h.lt
    omega
end Go.Proofs.YtlblllghgdfpoaaDoor
