import Derived.Test.YtlblllghgdfpoaaDoorJ03

namespace Go.Proofs.YtlblllghgdfpoaaDoor
open Go.RowKit

/-- The blocks that take may write. -/
def TkX (b : Nat) (vW0 vL0 : Value) (us : List Value) (q : Nat) : Prop := q = b ∨ vW0.ownBlock = some q ∨ vL0.ownBlock = some q ∨ InB us q
/-- Where take stands: the Book, and the lists that are taken. -/
structure TkS (W : World) (B b N : Nat) (vW0 vL0 : Value) (vs0 us : List Value) (ms : List (List Nat)) (w : World) (vW vL : Value) (vs : List Value) (ls : List (List Nat)) : Prop where
  bk : Bk B w b N vW vL vs ls
  lb : Lb B w us ms
  fr : Fr W w (TkX b vW0 vL0 us)
  nw : ∀ q, vW.ownBlock = some q → vW0.ownBlock = some q ∨ W.heap.size ≤ q
  nl : ∀ q, vL.ownBlock = some q → vL0.ownBlock = some q ∨ W.heap.size ≤ q
  ub : ∀ q, InB us q → q < W.heap.size ∧ q ≠ b ∧ vW.ownBlock ≠ some q ∧ vL.ownBlock ≠ some q
  nv : ∀ q, InB vs q → InB vs0 q ∨ InB us q ∨ W.heap.size ≤ q
theorem TkS.up {W w w' : World} {B b N : Nat} {vW0 vL0 vW vL : Value} {vs0 us vs : List Value} {ms ls : List (List Nat)} (h : TkS W B b N vW0 vL0 vs0 us ms w vW vL vs ls) (hb : Below w.heap.size w w') : TkS W B b N vW0 vL0 vs0 us ms w' vW vL vs ls :=
  ⟨h.bk.up hb, h.lb.keep (fun q hq _ => hb.block q hq), h.fr.up hb, h.nw, h.nl, h.ub, h.nv⟩
theorem TkS.setN {W w : World} {B b N : Nat} {vW0 vL0 vW vL : Value} {vs0 us vs : List Value} {ms ls : List (List Nat)} (h : TkS W B b N vW0 vL0 vs0 us ms w vW vL vs ls) (M : Nat) : TkS W B b M vW0 vL0 vs0 us ms (w.setCell ⟨b, 0, none⟩ (.int .i64 (M : Int))) vW vL vs ls :=
  ⟨h.bk.setN M, h.lb.keep (fun q _ hi => heap_setCell_other w ⟨b, 0, none⟩ q _ (h.ub q hi).2.1), h.fr.set (.inl (.inl rfl)) 0 _, h.nw, h.nl, h.ub, h.nv⟩
theorem TkS.pushL {W w w2 : World} {B b N m : Nat} {vW0 vL0 vW vL vL' : Value} {vs0 us vs u1 : List Value} {ms ls : List (List Nat)} {o1 : Obj} (h : TkS W B b N vW0 vL0 vs0 us ms w vW vL vs ls) (hl : ls.length ≤ vs.length) (r : w2.ownsRow B 29 1 vL' (vs.length + m) (vs ++ u1)) (g1 : (w.alloc o1).grownBy w2 vL.ownBlock) (hat : vL'.ownBlock = vL.ownBlock ∨ ∃ g, vL'.ownBlock = some g ∧ (w.alloc o1).heap.size ≤ g) (hm : u1.length = m)
    (hu : ∀ q, InB u1 q → q < w.heap.size ∧ (InB us q ∨ W.heap.size ≤ q) ∧ q ≠ b ∧ vW.ownBlock ≠ some q ∧ vL.ownBlock ≠ some q) : TkS W B b N vW0 vL0 vs0 us ms (w2.setCell ⟨b, 2, none⟩ vL') vW vL' (vs ++ u1) ls := by
  have s0 := h.fr.size
  have s1 := g1.size
  rw [World.size_alloc] at s1
  have hat' := hat
  rw [World.size_alloc] at hat'
  have key : ∀ q, q < w.heap.size → vL.ownBlock ≠ some q → w2.heap[q]? = w.heap[q]? := fun q hq hn => (g1.block q (by rw [World.size_alloc]; omega) (fun e => hn e.symm)).trans (Below.heap_alloc w o1 q hq)
  refine ⟨h.bk.pushL hl g1 r hm hat (fun q hq => by obtain ⟨a1, _, a2⟩ := hu q hq; exact ⟨a1, a2⟩), h.lb.keep (fun q hq hi => (heap_setCell_other w2 ⟨b, 2, none⟩ q _ (h.ub q hi).2.1).trans (key q hq (h.ub q hi).2.2.2)), (h.fr.grow g1 (fun q e => (h.nl q e).imp (fun k => .inr (.inr (.inl k))) (fun k => k))).set (.inl (.inl rfl)) 2 _, h.nw, fun q e => ?_, fun q hq => ?_, fun q hq => ?_⟩
  · rcases hat' with e2 | ⟨g2, e2, hg2⟩
    · exact h.nl q (e2.symm.trans e)
    · have := Option.some.inj (e2.symm.trans e); exact .inr (by omega)
  · obtain ⟨a1, a2, a3, a4⟩ := h.ub q hq
    refine ⟨a1, a2, a3, fun e => ?_⟩
    rcases hat' with e2 | ⟨g2, e2, hg2⟩
    · exact a4 (e2.symm.trans e)
    · have := Option.some.inj (e2.symm.trans e); omega
  · rcases inB_apps hq with k | k
    · exact h.nv q k
    · exact .inr (hu q k).2.1
theorem TkS.pushW {W w w2 : World} {B b N m : Nat} {vW0 vL0 vW vL vW' : Value} {vs0 us vs : List Value} {ms ls l1 : List (List Nat)} {o1 : Obj} (h : TkS W B b N vW0 vL0 vs0 us ms w vW vL vs ls) (r : w2.ownsRow B 9 1 vW' (ls.length + m) ((ls ++ l1).map fun l => .string (ofN l))) (g1 : (w.alloc o1).grownBy w2 vW.ownBlock) (hat : vW'.ownBlock = vW.ownBlock ∨ ∃ g, vW'.ownBlock = some g ∧ (w.alloc o1).heap.size ≤ g) (hm : l1.length = m)
    (hu : ∀ (i : Nat) (v : Value) (l : List Nat), l1[i]? = some l → vs[ls.length + i]? = some v → HasB w v l ∧ Byt l) : TkS W B b N vW0 vL0 vs0 us ms (w2.setCell ⟨b, 1, none⟩ vW') vW' vL vs (ls ++ l1) := by
  have s0 := h.fr.size
  have s1 := g1.size
  rw [World.size_alloc] at s1
  have hat' := hat
  rw [World.size_alloc] at hat'
  have key : ∀ q, q < w.heap.size → vW.ownBlock ≠ some q → w2.heap[q]? = w.heap[q]? := fun q hq hn => (g1.block q (by rw [World.size_alloc]; omega) (fun e => hn e.symm)).trans (Below.heap_alloc w o1 q hq)
  refine ⟨h.bk.pushW g1 r hm hat hu, h.lb.keep (fun q hq hi => (heap_setCell_other w2 ⟨b, 1, none⟩ q _ (h.ub q hi).2.1).trans (key q hq (h.ub q hi).2.2.1)), (h.fr.grow g1 (fun q e => (h.nw q e).imp (fun k => .inr (.inl k)) (fun k => k))).set (.inl (.inl rfl)) 1 _, fun q e => ?_, h.nl, fun q hq => ?_, h.nv⟩
  · rcases hat' with e2 | ⟨g2, e2, hg2⟩
    · exact h.nw q (e2.symm.trans e)
    · have := Option.some.inj (e2.symm.trans e); exact .inr (by omega)
  · obtain ⟨a1, a2, a3, a4⟩ := h.ub q hq
    refine ⟨a1, a2, fun e => ?_, a4⟩
    rcases hat' with e2 | ⟨g2, e2, hg2⟩
    · exact a3 (e2.symm.trans e)
    · have := Option.some.inj (e2.symm.trans e); omega
/-- One of the lists is grown. -/
theorem TkS.grow {W w w' : World} {B b N i : Nat} {vW0 vL0 vW vL u r : Value} {vs0 us vs : List Value} {ms ls : List (List Nat)} {xs ys : List Nat} (h : TkS W B b N vW0 vL0 vs0 us ms w vW vL vs ls) (hi : us[i]? = some u) (hx : ms[i]? = some xs) (hg : GrA w B u xs ys w' r)
    (on : ∀ (k : Nat) (v : Value) (q : Nat), vs[k]? = some v → v.ownBlock = some q → u.ownBlock = some q → v = u ∧ (∀ l, ls[k]? = some l → l = xs)) : TkS W B b N vW0 vL0 vs0 us ms w' vW vL vs ls := by
  have inu : ∀ q, u.ownBlock = some q → InB us q := fun q e => ⟨i, u, hi, e⟩
  have bl := h.bk.bl
  refine ⟨⟨(hg.far b bl (fun e => (h.ub b (inu b e)).2.1 rfl)).trans h.bk.blk, h.bk.hb, own_same h.bk.rw (fun q e => hg.far q (h.bk.rw.lt q e).2 (fun e2 => (h.ub q (inu q e2)).2.2.1 e)), own_same h.bk.rl (fun q e => hg.far q (h.bk.rl.lt q e).2 (fun e2 => (h.ub q (inu q e2)).2.2.2 e)), fun k v l hv hl => ⟨?_, (h.bk.has k v l hv hl).2⟩, h.bk.ap, h.bk.aw, h.bk.al, h.bk.wl, fun q hq => Nat.lt_of_lt_of_le (h.bk.lt q hq) hg.size⟩, ⟨h.lb.len, fun k v l hv hl => ?_, h.lb.ap⟩, ⟨hg.os.trans h.fr.os, hg.tape.trans h.fr.tape, hg.output.trans h.fr.output, Nat.le_trans h.fr.size hg.size, fun q hq hn => (hg.far q (Nat.lt_of_lt_of_le hq h.fr.size) (fun e => hn (.inr (.inr (.inr (inu q e)))))).trans (h.fr.far q hq hn)⟩, h.nw, h.nl, h.ub, h.nv⟩
  · by_cases hq : ∃ q, v.ownBlock = some q ∧ u.ownBlock = some q
    · obtain ⟨q, e1, e2⟩ := hq
      obtain ⟨rfl, h2⟩ := on k v q hv e1 e2
      rw [h2 l hl]
      exact hg.vv.has
    · exact (h.bk.has k v l hv hl).1.stays hg.size (fun q e hlt => hg.far q hlt (fun e2 => hq ⟨q, e, e2⟩))
  · by_cases hk : k = i
    · subst hk
      obtain rfl := Option.some.inj (hv.symm.trans hi)
      obtain rfl := Option.some.inj (hl.symm.trans hx)
      exact hg.vv
    · exact own_same (h.lb.own k v l hv hl) (fun q e => hg.far q (World.ownsRow.lt (h.lb.own k v l hv hl) q e).2 (fun e2 => hk (h.lb.ap k i v u q hv hi e e2)))
theorem list_choose {α : Type} {P : Nat → α → Prop} : ∀ (n : Nat), (∀ i, i < n → ∃ a, P i a) → ∃ L : List α, L.length = n ∧ ∀ (i : Nat) (a : α), L[i]? = some a → P i a
  | 0, _ => ⟨[], rfl, fun i a h => by simp at h⟩
  | n + 1, h => by
    obtain ⟨L, h1, h2⟩ := list_choose n (fun i hi => h i (by omega))
    obtain ⟨a, ha⟩ := h n (by omega)
    refine ⟨L ++ [a], by simp [h1], fun i x hx => ?_⟩
    by_cases hi : i < L.length
    · rw [List.getElem?_append_left hi] at hx
      exact h2 i x hx
    · have := (List.getElem?_eq_some_iff.1 hx).1
      rw [List.length_append, List.length_singleton] at this
      obtain rfl : i = L.length := by omega
      rw [List.getElem?_append_right (Nat.le_refl _)] at hx
      simp at hx
      subst hx
      rw [h1]; exact ha
/-- Bytes that stay bytes can be read, whatever they are. -/
theorem HasB.byr {w w' : World} {v : Value} {l : List Nat} (h : HasB w v l) (hl : Byt l) (hr : ByR w w') (hs : w.heap.size ≤ w'.heap.size) : ∃ l', l'.length = l.length ∧ Byt l' ∧ HasB w' v l' := by
  obtain ⟨a, c, rfl, hm, h3⟩ := h
  by_cases hp : 0 < l.length
  · obtain ⟨g, off, rfl, hg, hc⟩ := h3 hp
    obtain ⟨l', h1, h2⟩ := list_choose (P := fun i (x : Nat) => x < 256 ∧ w'.cell? ⟨g, off + i, none⟩ = some (.int .u8 (x : Int))) l.length (fun i hi => hr g (off + i) ⟨_, hl.at (List.getElem?_eq_getElem hi), hc i _ (List.getElem?_eq_getElem hi)⟩)
    refine ⟨l', h1, fun x hx => ?_, _, c, by rw [h1], by rw [h1]; exact hm, fun _ => ⟨g, off, rfl, by omega, fun i x hx => (h2 i x hx).2⟩⟩
    obtain ⟨i, hi⟩ := List.mem_iff_getElem?.1 hx
    exact (h2 i x hi).1
  · obtain rfl : l = [] := List.eq_nil_of_length_eq_zero (by omega)
    exact ⟨[], rfl, hl, a, c, rfl, hm, fun hp => by simp at hp⟩
/-- The first lists are marked. -/
structure TkA (W : World) (B n : Nat) (us : List Value) (xs : List (List Nat)) (i : Nat) (w : World) (cs : List (List Nat)) : Prop where
  lb : Lb B w us cs
  fr : Fr W w (InB us)
  ln : ∀ j : Nat, (cs[j]?).map List.length = (xs[j]?).map List.length
  md : ∀ (j : Nat) (c : List Nat), j < i → cs[j]? = some c → c = mkL (n + j) c.length
theorem bytes_cell {B : Nat} {w : World} {g n c : Nat} {l : List Nat} (h : Bytes B w (.slice (some ⟨g, 0, none⟩) n c) l) {k x : Nat} (hx : l[k]? = some x) : w.cell? ⟨g, k, none⟩ = some (.int .u8 (x : Int)) ∧ w.frozen? ⟨g, k, none⟩ = false := by
  have := World.ownsRow.cells h (g := g) rfl k (.int .u8 (x : Int)) (by rw [nb_at, hx]; rfl)
  rw [Go.WideShapes.add_plain, Nat.zero_add] at this
  obtain ⟨h1, ⟨e, -⟩ | ⟨g', c', cur, e, h2, h3, h4⟩⟩ := id h
  · cases e
  · cases e
    exact ⟨this, World.ownsRow.frozenAt h k⟩
theorem bytes_set {B : Nat} {w : World} {g n c : Nat} {l : List Nat} (h : Bytes B w (.slice (some ⟨g, 0, none⟩) n c) l) (k x : Nat) : Bytes B (w.setCell ⟨g, k, none⟩ (.int .u8 (x : Int))) (.slice (some ⟨g, 0, none⟩) n c) (l.set k x) := by
  obtain ⟨h1, ⟨e, -⟩ | ⟨g', c', cur, e, h2, h3, h4, h5, h6, h7⟩⟩ := id h
  · cases e
  · cases e
    refine ⟨by simp, .inr ⟨g, c, _, ?_, h2, heap_setCell_same w g k _ _ _ h3, by rw [List.length_set]; exact h4, h5, by rw [Array.size_setIfInBounds]; exact h6, ?_⟩⟩
    · rw [List.length_set]
    · rw [List.length_set, Array.toList_setIfInBounds, List.take_set, h7]
      simp [nb, List.map_set]
theorem TkA.put {W : World} {B n : Nat} {us : List Value} {xs cs : List (List Nat)} {i k : Nat} {w : World} (h : TkA W B n us xs i w cs) {g m c : Nat} {l : List Nat} (hv : us[i]? = some (.slice (some ⟨g, 0, none⟩) m c)) (hb : cs[i]? = some l) (x : Nat) :
    TkA W B n us xs i (w.setCell ⟨g, k, none⟩ (.int .u8 (x : Int))) (cs.set i (l.set k x)) := by
  have hlt := (List.getElem?_eq_some_iff.1 hv).1
  have e : us.set i (.slice (some ⟨g, 0, none⟩) m c) = us := by
    apply List.ext_getElem?
    intro j
    by_cases hij : i = j
    · subst hij; rw [List.getElem?_set_self hlt, hv]
    · rw [List.getElem?_set_ne hij]
  have h1 := h.lb.set hv (bytes_set (h.lb.own i _ l hv hb) k x) (.inl rfl) (fun q _ hn => heap_setCell_other w ⟨g, k, none⟩ q _ (fun e => hn (by rw [show q = g from e]; rfl)))
  rw [e] at h1
  refine ⟨h1, h.fr.set (.inl ⟨i, _, hv, rfl⟩) k _, fun j => ?_, fun j d hj hd => ?_⟩
  · by_cases hij : i = j
    · subst hij
      rw [List.getElem?_set_self (by rw [h.lb.len]; exact hlt), ← h.ln, hb]
      simp
    · rw [List.getElem?_set_ne hij]; exact h.ln j
  · rw [List.getElem?_set_ne (by omega)] at hd
    exact h.md j d hj hd
theorem TkA.drew {W w : World} {B n i : Nat} {us : List Value} {xs cs : List (List Nat)} (h : TkA W B n us xs i w cs) : TkA W B n us xs i w.drew cs := ⟨h.lb.keep (fun _ _ _ => rfl), ⟨h.fr.os, h.fr.tape, h.fr.output, h.fr.size, h.fr.far⟩, h.ln, h.md⟩
theorem TkA.next {W w : World} {B n i : Nat} {us : List Value} {xs cs : List (List Nat)} {l : List Nat} {m : Nat} (h : TkA W B n us xs i w cs) (hb : cs[i]? = some l) (hl : l.length = m) (ht : l.take m = (mkL (n + i) m).take m) : TkA W B n us xs (i + 1) w cs := by
  refine ⟨h.lb, h.fr, h.ln, fun j d hj hd => ?_⟩
  by_cases e : j = i
  · subst e
    obtain rfl := Option.some.inj (hb.symm.trans hd)
    rw [← hl, List.take_length] at ht
    have : (mkL (n + j) l.length).take l.length = mkL (n + j) l.length := by rw [List.take_of_length_le (by rw [mkL_len]; exact Nat.le_refl _)]
    rw [this] at ht
    exact ht
  · exact h.md j d (by omega) hd
end Go.Proofs.YtlblllghgdfpoaaDoor
