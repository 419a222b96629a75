import Derived.Test.YtlblllghgdfpoaaDoorJ36

namespace Go.Proofs.YtlblllghgdfpoaaDoor
open Go.RowKit

/-- quiet's two rows, and the lists. -/
structure Qt (B : Nat) (W w : World) (vL vW : Value) (xs : List Value) (ls : List (List Nat)) : Prop where
  be : Below B W w
  bw : B ≤ w.heap.size
  rl : w.ownsRow B 29 1 vL xs.length xs
  rw : w.ownsRow B 9 1 vW ls.length (ls.map fun l => .string (ofN l))
  lb : Lb B w xs ls
  wl : ∀ q, vW.ownBlock = some q → vL.ownBlock ≠ some q
  ap : ∀ q, InB xs q → vL.ownBlock ≠ some q ∧ vW.ownBlock ≠ some q
  by_ : ∀ l ∈ ls, Byt l ∧ l.length ≤ 67108864
def QIn (vL vW : Value) (xs : List Value) (q : Nat) : Prop := vL.ownBlock = some q ∨ vW.ownBlock = some q ∨ InB xs q
theorem Qt.lt {B : Nat} {W w : World} {vL vW : Value} {xs : List Value} {ls : List (List Nat)} (h : Qt B W w vL vW xs ls) {q : Nat} (hq : QIn vL vW xs q) : B ≤ q ∧ q < w.heap.size := by
  rcases hq with e | e | e
  · exact h.rl.lt q e
  · exact h.rw.lt q e
  · exact h.lb.lt e
theorem Qt.keep {B : Nat} {W w w' : World} {vL vW : Value} {xs : List Value} {ls : List (List Nat)} (h : Qt B W w vL vW xs ls) (hb : Below w.heap.size w w') : Qt B W w' vL vW xs ls :=
  ⟨h.be.trans (hb.mono h.bw), Nat.le_trans h.bw hb.size, own_same h.rl (fun q e => hb.block q (h.rl.lt q e).2), own_same h.rw (fun q e => hb.block q (h.rw.lt q e).2), h.lb.keep (fun q hq _ => hb.block q hq), h.wl, h.ap, h.by_⟩
/-- quiet's state, and blocks that it does not hold. -/
def QK (B : Nat) (W : World) (K : Nat → Prop) (n : Nat) (w : World) (vL vW : Value) : Prop := ∃ xs ls, Qt B W w vL vW xs ls ∧ xs.length ≤ n ∧ ∀ q, K q → q < w.heap.size ∧ ¬ QIn vL vW xs q
theorem QK.start (W : World) : QK W.heap.size W (fun _ => False) 0 W (.slice none 0 0) (.slice none 0 0) :=
  ⟨[], [], ⟨Below.refl _ _, Nat.le_refl _, World.ownsRow_nil _ _ _ _, World.ownsRow_nil _ _ _ _, Lb.nil _ _, fun q e => (by cases e), fun q e => absurd e (inB_nil q), fun l hl => (by cases hl)⟩, Nat.le_refl _, fun q hq => hq.elim⟩
theorem QK.be {B : Nat} {W w : World} {K : Nat → Prop} {n : Nat} {vL vW : Value} (h : QK B W K n w vL vW) : Below B W w := by obtain ⟨_, _, h, -⟩ := h; exact h.be
theorem QK.le {B : Nat} {W w : World} {K : Nat → Prop} {n : Nat} {vL vW : Value} (h : QK B W K n w vL vW) : B ≤ w.heap.size := by obtain ⟨_, _, h, -⟩ := h; exact h.bw
theorem QK.weak {B : Nat} {W w : World} {K K' : Nat → Prop} {n n' : Nat} {vL vW : Value} (h : QK B W K n w vL vW) (hk : ∀ q, K' q → K q) (hn : n ≤ n') : QK B W K' n' w vL vW := by
  obtain ⟨xs, ls, h1, h2, h3⟩ := h
  exact ⟨xs, ls, h1, by omega, fun q hq => h3 q (hk q hq)⟩
theorem QK.up {B : Nat} {W w w' : World} {K : Nat → Prop} {n : Nat} {vL vW : Value} (h : QK B W K n w vL vW) (hb : Below w.heap.size w w') : QK B W (fun q => K q ∨ (w.heap.size ≤ q ∧ q < w'.heap.size)) n w' vL vW := by
  obtain ⟨xs, ls, h1, h2, h3⟩ := h
  refine ⟨xs, ls, h1.keep hb, h2, fun q hq => ?_⟩
  rcases hq with hq | hq
  · exact ⟨Nat.lt_of_lt_of_le (h3 q hq).1 hb.size, (h3 q hq).2⟩
  · exact ⟨hq.2, fun e => by have := (h1.lt e).2; omega⟩
theorem QK.twice {B : Nat} {W w : World} {K : Nat → Prop} {n : Nat} {vL vW a b is : Value} {li : List Nat} (h : QK B W K n w vL vW) (ha : Bytes B w a li) (hb : Bytes B w b li) (hl : Byt li) (hll : li.length ≤ 67108864) (hak : ∀ q, a.ownBlock = some q → K q) (hbk : ∀ q, b.ownBlock = some q → K q) (hab : ∀ q, a.ownBlock = some q → b.ownBlock ≠ some q) (hi : HasB w is li) (hik : 0 < li.length → ∀ q, is.ownBlock = some q → K q ∨ q < B) (hn : n ≤ 100000000) :
    Calls Tryd.prog 42 #[vL, vW, a, b, is] w fun e w' => ∃ vL' vW', e = .returned (.tuple #[vL', vW']) ∧ QK B W (fun q => K q ∧ a.ownBlock ≠ some q ∧ b.ownBlock ≠ some q) (n + 2) w' vL' vW' ∧ (∀ q, K q → w'.heap[q]? = w.heap[q]?) ∧ (∀ q, q < B → w'.heap[q]? = w.heap[q]?) ∧ w.heap.size ≤ w'.heap.size := by
  obtain ⟨xs, ls, h1, h2, h3⟩ := h
  have hln := h1.lb.len
  have hbw := h1.bw
  obtain ⟨aL, cL, rfl, -⟩ := own_form h1.rl
  obtain ⟨aW, cW, hvW, -⟩ := own_form h1.rw
  obtain ⟨ys, hys⟩ : ∃ ys : List Value, ys = ls.map fun l => .string (ofN l) := ⟨_, rfl⟩
  have hyl : ys.length = ls.length := by rw [hys, List.length_map]
  rw [← hyl] at hvW
  subst hvW
  obtain ⟨aA, cA, rfl, -⟩ := bytes_shape ha
  obtain ⟨aB, cB, rfl, -⟩ := bytes_shape hb
  obtain ⟨ai, ci, rfl, hi3⟩ := id hi
  have no : ∀ q, K q → (Value.slice aL xs.length cL).ownBlock ≠ some q ∧ (Value.slice aW ys.length cW).ownBlock ≠ some q := fun q hq => ⟨fun e => (h3 q hq).2 (.inl e), fun e => (h3 q hq).2 (.inr (.inl e))⟩
  have noB : ∀ q, q < B → (Value.slice aL xs.length cL).ownBlock ≠ some q ∧ (Value.slice aW ys.length cW).ownBlock ≠ some q := fun q hq => ⟨fun e => by have := (h1.lt (.inl e)).1; omega, fun e => by have := (h1.lt (.inr (.inl e))).1; omega⟩
  refine (twice_any (B := B) (aA := aA) (nA := li.length) (cA := cA) (aB := aB) (nB := li.length) (cB := cB) (xs := xs) (ys := ys) ⟨h1.rl, by have k := h1.rw; rw [← hyl, ← hys] at k; exact k, h1.wl, Fr.refl _ _, fun q e => .inl e, fun q e => .inl e, h1.bw⟩ hi hl (fun hp q e => (hik hp q e).elim (no q) (noB q)) (by omega) (by omega)).mono ?_
  rintro e w' ⟨a1, c1, n1, a2, c2, n2, rfl, t⟩
  have far : ∀ q, q < w.heap.size → (Value.slice aL xs.length cL).ownBlock ≠ some q → (Value.slice aW ys.length cW).ownBlock ≠ some q → w'.heap[q]? = w.heap[q]? := fun q hq e1 e2 => t.fr.far q hq (fun k => by rcases k with k | k; exact e1 k; exact e2 k)
  have hsz := t.fr.size
  have inx : ∀ q, InB (xs ++ [.slice aA li.length cA, .slice aB li.length cB]) q → InB xs q ∨ (Value.slice aA li.length cA).ownBlock = some q ∨ (Value.slice aB li.length cB).ownBlock = some q := fun q e => by
    rcases inB_apps e with e | e
    · exact .inl e
    · rcases inB_cons e with e | e
      · exact .inr (.inl e)
      · rcases inB_cons e with e | e
        · exact .inr (.inr e)
        · exact absurd e (inB_nil q)
  have old : ∀ q, q < w.heap.size → (Value.slice aL xs.length cL).ownBlock ≠ some q → (Value.slice aW ys.length cW).ownBlock ≠ some q → (Value.slice a1 n1 c1).ownBlock ≠ some q ∧ (Value.slice a2 n2 c2).ownBlock ≠ some q := fun q hq e1 e2 => ⟨fun e => (t.nl q e).elim e1 (fun k => by omega), fun e => (t.nw q e).elim e2 (fun k => by omega)⟩
  have apx : ∀ q, InB xs q ∨ K q → q < w.heap.size ∧ (Value.slice aL xs.length cL).ownBlock ≠ some q ∧ (Value.slice aW ys.length cW).ownBlock ≠ some q := fun q e => by
    rcases e with e | e
    · exact ⟨(h1.lb.lt e).2, h1.ap q e⟩
    · exact ⟨(h3 q e).1, no q e⟩
  have inK : ∀ q, InB (xs ++ [.slice aA li.length cA, .slice aB li.length cB]) q → InB xs q ∨ K q := fun q e => by
    rcases inx q e with e | e | e
    · exact .inl e
    · exact .inr (hak q e)
    · exact .inr (hbk q e)
  have hst : ∀ (v : Value), (∀ q, v.ownBlock = some q → K q) → Bytes B w v li → Bytes B w' v li := fun v hv hB => own_same hB (fun q e => far q (apx q (.inr (hv q e))).1 (apx q (.inr (hv q e))).2.1 (apx q (.inr (hv q e))).2.2)
  have hLb : Lb B w' (xs ++ [.slice aA li.length cA, .slice aB li.length cB]) (ls ++ [li, li]) := by
    have k1 := h1.lb.push (w' := w) ha (fun q e e2 => (h3 q (hak q e)).2 (.inr (.inr e2))) (fun _ _ _ => rfl)
    have k2 := k1.push (w' := w) hb (fun q e e2 => by
      rcases inB_app e2 with e2 | e2
      · exact (h3 q (hbk q e)).2 (.inr (.inr e2))
      · exact hab q e2 e) (fun _ _ _ => rfl)
    rw [List.append_assoc, List.append_assoc] at k2
    exact k2.keep (fun q hq e => far q hq (apx q (inK q e)).2.1 (apx q (inK q e)).2.2)
  have hrw := t.rw
  have hrl := t.rl
  rw [hys, List.length_append, List.length_map] at hrw
  refine ⟨_, _, rfl, ⟨xs ++ [.slice aA li.length cA, .slice aB li.length cB], ls ++ [li, li], ⟨⟨t.fr.os.trans h1.be.os, t.fr.tape.trans h1.be.tape, t.fr.output.trans h1.be.output, Nat.le_trans h1.be.size hsz, fun q hq => (far q (by omega) (noB q hq).1 (noB q hq).2).trans (h1.be.block q hq)⟩, by omega, hrl, ?_, hLb, t.wl, fun q e => old q (apx q (inK q e)).1 (apx q (inK q e)).2.1 (apx q (inK q e)).2.2, fun l hm => ?_⟩, by rw [List.length_append]; simp; omega, fun q hq => ⟨by have := (h3 q hq.1).1; omega, fun e => ?_⟩⟩, fun q hq => far q (h3 q hq).1 (no q hq).1 (no q hq).2, fun q hq => far q (by omega) (noB q hq).1 (noB q hq).2, hsz⟩
  · rw [List.map_append, List.length_append]; exact hrw
  · rcases List.mem_append.1 hm with hm | hm
    · exact h1.by_ l hm
    · have : l = li := by simpa using hm
      rw [this]; exact ⟨hl, hll⟩
  · rcases e with e | e | e
    · exact (old q (apx q (.inr hq.1)).1 (apx q (.inr hq.1)).2.1 (apx q (.inr hq.1)).2.2).1 e
    · exact (old q (apx q (.inr hq.1)).1 (apx q (.inr hq.1)).2.1 (apx q (.inr hq.1)).2.2).2 e
    · rcases inx q e with e | e | e
      · exact (h3 q hq.1).2 (.inr (.inr e))
      · exact hq.2.1 e
      · exact hq.2.2 e
theorem Bytes.upw2 {B : Nat} {w w' : World} {v : Value} {l : List Nat} (h : Bytes B w v l) (hb : Below w.heap.size w w') : Bytes B w' v l := own_same h (fun q e => hb.block q (World.ownsRow.lt h q e).2)
/-- Two lists that were made one behind the other are kept. -/
theorem QK.pair {B : Nat} {W w wa wb wc : World} {K : Nat → Prop} {n : Nat} {vL vW a b is : Value} {li : List Nat} (h : QK B W K n w vL vW) (hba : Below w.heap.size w wa) (hbb : Below wa.heap.size wa wb) (hbc : Below wb.heap.size wb wc) (ha : Bytes w.heap.size wa a li) (hb : Bytes wa.heap.size wb b li) (hl : Byt li) (hll : li.length ≤ 67108864) (hi : HasB wc is li) (hik : 0 < li.length → ∀ q, is.ownBlock = some q → K q ∨ q < B ∨ (wb.heap.size ≤ q ∧ q < wc.heap.size)) (hn : n ≤ 100000000) :
    Calls Tryd.prog 42 #[vL, vW, a, b, is] wc fun e w' => ∃ vL' vW', e = .returned (.tuple #[vL', vW']) ∧ QK B W K (n + 2) w' vL' vW' ∧ (∀ q, K q → w'.heap[q]? = w.heap[q]?) ∧ w.heap.size ≤ w'.heap.size := by
  have s1 := hba.size
  have s2 := hbb.size
  have s3 := hbc.size
  have hle := h.le
  have hac : Below wa.heap.size wa wc := hbb.trans (hbc.mono s2)
  have hwc : Below w.heap.size w wc := hba.trans (hac.mono s1)
  have kl : ∀ q, K q → q < w.heap.size := fun q hq => by obtain ⟨xs, ls, -, -, h3⟩ := h; exact (h3 q hq).1
  have ra : ∀ q, a.ownBlock = some q → w.heap.size ≤ q ∧ q < wa.heap.size := fun q e => World.ownsRow.lt ha q e
  have rb : ∀ q, b.ownBlock = some q → wa.heap.size ≤ q ∧ q < wb.heap.size := fun q e => World.ownsRow.lt hb q e
  refine ((h.up hwc).twice (own_lower (ha.upw2 hac) hle) (own_lower (hb.upw2 hbc) (by omega)) hl hll (fun q e => .inr (by have := ra q e; omega)) (fun q e => .inr (by have := rb q e; omega)) (fun q e e2 => by have := ra q e; have := rb q e2; omega) hi (fun hp q e => ?_) hn).mono ?_
  · rcases hik hp q e with k | k | k
    · exact .inl (.inl k)
    · exact .inr k
    · exact .inl (.inr (by omega))
  · rintro e w' ⟨vL', vW', rfl, h1, h2, -, h4⟩
    exact ⟨vL', vW', rfl, h1.weak (fun q hq => ⟨.inl hq, fun e => by have := ra q e; have := kl q hq; omega, fun e => by have := rb q e; have := kl q hq; omega⟩) (Nat.le_refl _), fun q hq => (h2 q (.inl hq)).trans (hwc.block q (kl q hq)), by omega⟩
/-- The blocks of two rows of lists from the k-th on. -/
def KL (K : Nat → Prop) (vc vd : Value) (us vs : List Value) (k q : Nat) : Prop := K q ∨ vc.ownBlock = some q ∨ vd.ownBlock = some q ∨ InB (us.drop k) q ∨ InB (vs.drop k) q
structure Two (K : Nat → Prop) (B : Nat) (w : World) (vc vd : Value) (us vs : List Value) (cs : List (List Nat)) : Prop where
  lu : Lb B w us cs
  lv : Lb B w vs cs
  d0 : ∀ q, K q → ¬ InB us q ∧ ¬ InB vs q
  d1 : ∀ q, (vc.ownBlock = some q ∨ vd.ownBlock = some q) → ¬ InB us q ∧ ¬ InB vs q
  d2 : ∀ q, InB us q → ¬ InB vs q
theorem inB_drop {us : List Value} {k q : Nat} (h : InB (us.drop k) q) : InB us q := by
  obtain ⟨i, x, hx, e⟩ := h
  rw [List.getElem?_drop] at hx
  exact ⟨k + i, x, hx, e⟩
theorem inB_at {us : List Value} {k q : Nat} {a : Value} (h : us[k]? = some a) (e : a.ownBlock = some q) : InB (us.drop k) q := ⟨0, a, by rw [List.getElem?_drop]; exact h, e⟩
theorem inB_next {us : List Value} {k q : Nat} (h : InB (us.drop (k + 1)) q) : InB (us.drop k) q := by
  obtain ⟨i, x, hx, e⟩ := h
  rw [List.getElem?_drop] at hx
  exact ⟨i + 1, x, by rw [List.getElem?_drop, show k + (i + 1) = k + 1 + i by omega]; exact hx, e⟩
theorem Lb.fresh {B : Nat} {w : World} {us : List Value} {cs : List (List Nat)} (h : Lb B w us cs) {k q : Nat} {a : Value} (hk : us[k]? = some a) (hq : InB (us.drop (k + 1)) q) : a.ownBlock ≠ some q := fun e => by
  obtain ⟨i, x, hx, ex⟩ := hq
  rw [List.getElem?_drop] at hx
  have := h.ap k (k + 1 + i) a x q hk hx e ex
  omega
theorem KL.next {K : Nat → Prop} {vc vd : Value} {us vs : List Value} {k q : Nat} (h : KL K vc vd us vs (k + 1) q) : KL K vc vd us vs k q := by
  rcases h with h | h | h | h | h
  · exact .inl h
  · exact .inr (.inl h)
  · exact .inr (.inr (.inl h))
  · exact .inr (.inr (.inr (.inl (inB_next h))))
  · exact .inr (.inr (.inr (.inr (inB_next h))))
theorem QK.two {K : Nat → Prop} {B : Nat} {W wp w : World} {vc vd vL vW a b is : Value} {us vs : List Value} {cs : List (List Nat)} {li : List Nat} {n k : Nat} (t : Two K B wp vc vd us vs cs) (h : QK B W (KL K vc vd us vs k) n w vL vW) (hf : ∀ q, KL K vc vd us vs k q → w.heap[q]? = wp.heap[q]?) (hu : us[k]? = some a) (hv : vs[k]? = some b) (hc : cs[k]? = some li) (hl : Byt li) (hll : li.length ≤ 67108864) (hi : HasB w is li) (hik : 0 < li.length → ∀ q, is.ownBlock = some q → KL K vc vd us vs k q ∨ q < B) (hn : n ≤ 100000000) :
    Calls Tryd.prog 42 #[vL, vW, a, b, is] w fun e w' => ∃ vL' vW', e = .returned (.tuple #[vL', vW']) ∧ QK B W (KL K vc vd us vs (k + 1)) (n + 2) w' vL' vW' ∧ (∀ q, KL K vc vd us vs (k + 1) q → w'.heap[q]? = wp.heap[q]?) ∧ (∀ q, K q ∨ vc.ownBlock = some q ∨ vd.ownBlock = some q → w'.heap[q]? = w.heap[q]?) ∧ (∀ q, q < B → w'.heap[q]? = w.heap[q]?) ∧ w.heap.size ≤ w'.heap.size := by
  have ka : ∀ q, a.ownBlock = some q → KL K vc vd us vs k q := fun q e => .inr (.inr (.inr (.inl (inB_at hu e))))
  have kb : ∀ q, b.ownBlock = some q → KL K vc vd us vs k q := fun q e => .inr (.inr (.inr (.inr (inB_at hv e))))
  have ia : ∀ q, a.ownBlock = some q → InB us q := fun q e => ⟨k, a, hu, e⟩
  have ib : ∀ q, b.ownBlock = some q → InB vs q := fun q e => ⟨k, b, hv, e⟩
  refine (h.twice (own_same (t.lu.own k a li hu hc) (fun q e => hf q (ka q e))) (own_same (t.lv.own k b li hv hc) (fun q e => hf q (kb q e))) hl hll ka kb (fun q e e2 => t.d2 q (ia q e) (ib q e2)) hi hik hn).mono ?_
  rintro e w' ⟨vL', vW', rfl, h1, h2, h3, h4⟩
  refine ⟨vL', vW', rfl, h1.weak (fun q hq => ⟨hq.next, ?_⟩) (Nat.le_refl _), fun q hq => (h2 q hq.next).trans (hf q hq.next), fun q hq => h2 q ?_, h3, h4⟩
  · rcases hq with k1 | k1 | k1 | k1 | k1
    · exact ⟨fun e => (t.d0 q k1).1 (ia q e), fun e => (t.d0 q k1).2 (ib q e)⟩
    · exact ⟨fun e => (t.d1 q (.inl k1)).1 (ia q e), fun e => (t.d1 q (.inl k1)).2 (ib q e)⟩
    · exact ⟨fun e => (t.d1 q (.inr k1)).1 (ia q e), fun e => (t.d1 q (.inr k1)).2 (ib q e)⟩
    · exact ⟨t.lu.fresh hu k1, fun e => t.d2 q (inB_drop k1) (ib q e)⟩
    · exact ⟨fun e => t.d2 q (ia q e) (inB_drop k1), t.lv.fresh hv k1⟩
  · rcases hq with k1 | k1 | k1
    · exact .inl k1
    · exact .inr (.inl k1)
    · exact .inr (.inr (.inl k1))
end Go.Proofs.YtlblllghgdfpoaaDoor
