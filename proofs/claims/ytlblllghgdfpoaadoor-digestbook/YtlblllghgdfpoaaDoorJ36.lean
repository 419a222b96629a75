import Derived.Test.YtlblllghgdfpoaaDoorEK
import Derived.Test.YtlblllghgdfpoaaDoorJ17
import Derived.Test.YtlblllghgdfpoaaDoorJ18
import Derived.Test.YtlblllghgdfpoaaDoorJ20
import Derived.Test.YtlblllghgdfpoaaDoorJ32
import Derived.Test.YtlblllghgdfpoaaDoorJ33
import Derived.Test.YtlblllghgdfpoaaDoorJ33
import Derived.Test.YtlblllghgdfpoaaDoorJ33
import Derived.Test.YtlblllghgdfpoaaDoorDPa
import Derived.Test.YtlblllghgdfpoaaDoorJ33

namespace Go.Proofs.YtlblllghgdfpoaaDoor
open Go.RowKit

theorem Tryd.infoBytess : (Tryd.prog.info? 22).map (fun i => (i.zero, i.size, i.bytes)) = some (some (.slice none 0 0), 1, 24) := by kernel_rfl
/-- The blocks of the Book and of the lists of lists. -/
def MbIn (b : Nat) (vW vL : Value) (vs : List Value) (vo : Value) (os : List Value) (q : Nat) : Prop := BkIn b vW vL vs q ∨ vo.ownBlock = some q ∨ InB os q
/-- Where DigestBook's loop stands. -/
structure Mb (B : Nat) (W w : World) (b : Nat) (vW vL : Value) (vs : List Value) (ls : List (List Nat)) (vo : Value) (os : List Value) (uss : List (List Value)) : Prop where
  bk : Bk B w b vs.length vW vL vs ls
  ln : ls.length = vs.length
  be : Below B W w
  ro : w.ownsRow B 22 1 vo os.length os
  lr : Lr B w os uss
  ao : ∀ q, vo.ownBlock = some q → ¬ BkIn b vW vL vs q ∧ ¬ InB os q
  ap : ∀ q, InB os q → ¬ BkIn b vW vL vs q
  lo : ∀ q, MbIn b vW vL vs vo os q → B ≤ q ∧ q < w.heap.size
theorem Mb.up {B : Nat} {W w w' : World} {b : Nat} {vW vL vo : Value} {vs os : List Value} {ls : List (List Nat)} {uss : List (List Value)} (h : Mb B W w b vW vL vs ls vo os uss) (hB : B ≤ w.heap.size) (hb : Below w.heap.size w w') : Mb B W w' b vW vL vs ls vo os uss :=
  ⟨h.bk.up hb, h.ln, h.be.trans (hb.mono hB), own_same h.ro (fun q e => hb.block q (h.ro.lt q e).2), h.lr.keep (fun q hq _ => hb.block q hq), h.ao, h.ap, fun q hq => ⟨(h.lo q hq).1, Nat.lt_of_lt_of_le (h.lo q hq).2 hb.size⟩⟩
/-- The Book has taken lists. -/
theorem Mb.take {B : Nat} {W w w' : World} {b N : Nat} {vW vL vW' vL' vo : Value} {vs vs' os us : List Value} {ls ls' ms : List (List Nat)} {uss : List (List Value)} (h : Mb B W w b vW vL vs ls vo os uss) (hu : ∀ q, InB us q → ¬ MbIn b vW vL vs vo os q ∧ B ≤ q) (t : TkS w B b N vW vL vs us ms w' vW' vL' vs' ls') (hN : vs'.length = N) (hl : ls'.length = vs'.length) (hB : B ≤ w.heap.size) :
    Mb B W w' b vW' vL' vs' ls' vo os uss ∧ (∀ q, MbIn b vW' vL' vs' vo os q → MbIn b vW vL vs vo os q ∨ InB us q ∨ w.heap.size ≤ q) ∧ (∀ q, q < w.heap.size → ¬ MbIn b vW vL vs vo os q → ¬ InB us q → w'.heap[q]? = w.heap[q]?) ∧ w.heap.size ≤ w'.heap.size := by
  have hin : ∀ q, BkIn b vW' vL' vs' q → BkIn b vW vL vs q ∨ InB us q ∨ w.heap.size ≤ q := fun q e => by
    rcases e with e | e | e | e
    · exact .inl (.inl e)
    · exact (t.nw q e).imp (fun k => .inr (.inl k)) (fun k => .inr k)
    · exact (t.nl q e).imp (fun k => .inr (.inr (.inl k))) (fun k => .inr k)
    · exact (t.nv q e).imp (fun k => .inr (.inr (.inr k))) (fun k => k)
  have far : ∀ q, q < w.heap.size → ¬ BkIn b vW vL vs q → ¬ InB us q → w'.heap[q]? = w.heap[q]? := fun q hq h1 h2 => t.fr.far q hq (fun e => by
    rcases e with e | e | e | e
    · exact h1 (.inl e)
    · exact h1 (.inr (.inl e))
    · exact h1 (.inr (.inr (.inl e)))
    · exact h2 e)
  have out : ∀ q, q < w.heap.size → (vo.ownBlock = some q ∨ InB os q) → ¬ BkIn b vW vL vs q → ¬ InB us q ∧ ¬ BkIn b vW' vL' vs' q := fun q hq hm hn => by
    have h1 : ¬ InB us q := fun e => (hu q e).1 (.inr hm)
    exact ⟨h1, fun e => by
      rcases hin q e with k | k | k
      · exact hn k
      · exact h1 k
      · omega⟩
  have lto : ∀ q, vo.ownBlock = some q → q < w.heap.size := fun q e => (h.ro.lt q e).2
  have lts : ∀ q, InB os q → q < w.heap.size := fun q e => (h.lr.lt e).2
  refine ⟨⟨by rw [hN]; exact t.bk, hl, ?_, own_same h.ro (fun q e => far q (lto q e) (h.ao q e).1 (out q (lto q e) (.inl e) (h.ao q e).1).1), h.lr.keep (fun q hq hi => far q hq (h.ap q hi) (out q hq (.inr hi) (h.ap q hi)).1), fun q e => ⟨(out q (lto q e) (.inl e) (h.ao q e).1).2, (h.ao q e).2⟩, fun q e => (out q (lts q e) (.inr e) (h.ap q e)).2, fun q e => ?_⟩, fun q e => ?_, fun q hq h1 h2 => far q hq (fun e => h1 (.inl e)) h2, t.fr.size⟩
  · refine ⟨t.fr.os.trans h.be.os, t.fr.tape.trans h.be.tape, t.fr.output.trans h.be.output, Nat.le_trans h.be.size t.fr.size, fun q hq => (far q (by omega) (fun e => ?_) (fun e => ?_)).trans (h.be.block q hq)⟩
    · have := (h.lo q (.inl e)).1; omega
    · have := (hu q e).2; omega
  · rcases e with e | e | e
    · have hlt : q < w'.heap.size := by
        rcases e with e | e | e | e
        · rw [e]; exact t.bk.bl
        · exact (t.bk.rw.lt q e).2
        · exact (t.bk.rl.lt q e).2
        · exact t.bk.lt q e
      refine ⟨?_, hlt⟩
      rcases hin q e with k | k | k
      · exact (h.lo q (.inl k)).1
      · exact (hu q k).2
      · omega
    · exact ⟨(h.lo q (.inr (.inl e))).1, Nat.lt_of_lt_of_le (lto q e) t.fr.size⟩
    · exact ⟨(h.lo q (.inr (.inr e))).1, Nat.lt_of_lt_of_le (lts q e) t.fr.size⟩
  · rcases e with e | e | e
    · exact (hin q e).imp .inl (fun k => k)
    · exact .inl (.inr (.inl e))
    · exact .inl (.inr (.inr e))
/-- One more row of lists is kept. -/
theorem Mb.pushO {B : Nat} {W w w2 : World} {b : Nat} {vW vL vo vo' x : Value} {vs os us : List Value} {ls : List (List Nat)} {uss : List (List Value)} {o1 : Obj} (h : Mb B W w b vW vL vs ls vo os uss) (hx : w.ownsRow B 29 1 x us.length us) (hn : ∀ q, x.ownBlock = some q → ¬ MbIn b vW vL vs vo os q) (r : w2.ownsRow B 22 1 vo' (os.length + 1) (os ++ [x])) (g : (w.alloc o1).grownBy w2 vo.ownBlock) (hat : vo'.ownBlock = vo.ownBlock ∨ vo'.ownBlock = some (w.alloc o1).heap.size) (hB : B ≤ w.heap.size) :
    Mb B W w2 b vW vL vs ls vo' (os ++ [x]) (uss ++ [us]) ∧ (∀ q, MbIn b vW vL vs vo' (os ++ [x]) q → MbIn b vW vL vs vo os q ∨ x.ownBlock = some q ∨ w.heap.size ≤ q) ∧ (∀ q, q < w.heap.size → ¬ MbIn b vW vL vs vo os q → w2.heap[q]? = w.heap[q]?) ∧ w.heap.size ≤ w2.heap.size := by
  have s2 := g.size
  rw [World.size_alloc] at s2 hat
  have key : ∀ q, q < w.heap.size → vo.ownBlock ≠ some q → w2.heap[q]? = w.heap[q]? := fun q hq hne => (g.block q (by rw [World.size_alloc]; omega) (fun e => hne e.symm)).trans (Below.heap_alloc w o1 q hq)
  have nvo : ∀ q, q < w.heap.size → vo.ownBlock ≠ some q → vo'.ownBlock ≠ some q := fun q hq hne e => by
    rcases hat with k | k
    · exact hne (k.symm.trans e)
    · have := Option.some.inj (k.symm.trans e); omega
  have bkn : ∀ q, BkIn b vW vL vs q → vo.ownBlock ≠ some q := fun q e e2 => (h.ao q e2).1 e
  have lx : ∀ q, x.ownBlock = some q → q < w.heap.size := fun q e => (hx.lt q e).2
  have hvx : ∀ q, x.ownBlock = some q → vo.ownBlock ≠ some q := fun q e e2 => hn q e (.inr (.inl e2))
  have blt : ∀ q, MbIn b vW vL vs vo os q → q < w.heap.size := fun q e => (h.lo q e).2
  refine ⟨⟨h.bk.keep (by omega) (fun q hq e => key q hq (bkn q e)), h.ln, ⟨g.os.trans h.be.os, g.tape.trans h.be.tape, g.output.trans h.be.output, Nat.le_trans h.be.size (by omega), fun q hq => (key q (by omega) (fun e => by have := (h.lo q (.inr (.inl e))).1; omega)).trans (h.be.block q hq)⟩, by rw [List.length_append]; exact r, ?_, fun q e => ⟨fun e2 => nvo q (blt q (.inl e2)) (bkn q e2) e, fun e2 => ?_⟩, fun q e e2 => ?_, fun q e => ?_⟩, fun q e => ?_, fun q hq hne => key q hq (fun e => hne (.inr (.inl e))), by omega⟩
  · have hlr := h.lr.keep (w' := w2) (fun q hq e => key q hq (fun e2 => (h.ao q e2).2 e))
    have hx2 := own_same hx (w := w2) (fun q e => key q (lx q e) (hvx q e))
    refine ⟨by rw [List.length_append, List.length_append, h.lr.len]; rfl, fun i v l hv hl => ?_, fun i j v u q hv hu e1 e2 => ?_⟩
    · by_cases hi : i < os.length
      · rw [List.getElem?_append_left hi] at hv
        rw [List.getElem?_append_left (by rw [h.lr.len]; exact hi)] at hl
        exact hlr.own i v l hv hl
      · have := (List.getElem?_eq_some_iff.1 hv).1
        rw [List.length_append, List.length_singleton] at this
        obtain rfl : i = os.length := by omega
        rw [List.getElem?_append_right (Nat.le_refl _)] at hv
        rw [← h.lr.len, List.getElem?_append_right (Nat.le_refl _)] at hl
        simp at hv hl
        subst hv hl
        exact hx2
    · have cas : ∀ (j : Nat) (y : Value), (os ++ [x])[j]? = some y → (j < os.length ∧ os[j]? = some y) ∨ (j = os.length ∧ y = x) := fun j y hy => by
        by_cases hj : j < os.length
        · rw [List.getElem?_append_left hj] at hy; exact .inl ⟨hj, hy⟩
        · have := (List.getElem?_eq_some_iff.1 hy).1
          rw [List.length_append, List.length_singleton] at this
          obtain rfl : j = os.length := by omega
          rw [List.getElem?_append_right (Nat.le_refl _)] at hy
          simp at hy
          exact .inr ⟨rfl, hy.symm⟩
      rcases cas i v hv with ⟨hi, hv'⟩ | ⟨rfl, rfl⟩
      · rcases cas j u hu with ⟨hj, hu'⟩ | ⟨rfl, rfl⟩
        · exact h.lr.ap i j v u q hv' hu' e1 e2
        · exact absurd (.inr (.inr ⟨i, v, hv', e1⟩)) (hn q e2)
      · rcases cas j u hu with ⟨hj, hu'⟩ | ⟨rfl, rfl⟩
        · exact absurd (.inr (.inr ⟨j, u, hu', e2⟩)) (hn q e1)
        · rfl
  · rcases inB_app e2 with k | k
    · exact nvo q (blt q (.inr (.inr k))) (fun e3 => (h.ao q e3).2 k) e
    · exact nvo q (lx q k) (hvx q k) e
  · rcases inB_app e with k | k
    · exact h.ap q k e2
    · exact hn q k (.inl e2)
  · rcases e with e | e | e
    · exact ⟨(h.lo q (.inl e)).1, by have := blt q (.inl e); omega⟩
    · exact ⟨(r.lt q e).1, (r.lt q e).2⟩
    · rcases inB_app e with k | k
      · exact ⟨(h.lo q (.inr (.inr k))).1, by have := blt q (.inr (.inr k)); omega⟩
      · exact ⟨(hx.lt q k).1, by have := lx q k; omega⟩
  · rcases e with e | e | e
    · exact .inl (.inl e)
    · rcases hat with k | k
      · exact .inl (.inr (.inl (k.symm.trans e)))
      · have := Option.some.inj (k.symm.trans e)
        exact .inr (.inr (by omega))
    · rcases inB_app e with k | k
      · exact .inl (.inr (.inr k))
      · exact .inr (.inl k)
end Go.Proofs.YtlblllghgdfpoaaDoor

namespace Go.Proofs.YtlblllghgdfpoaaDoor
open Go.RowKit

theorem inB_nil (q : Nat) : ¬ InB [] q := fun ⟨i, v, h, _⟩ => by simp at h
theorem inB_cons {v : Value} {vs : List Value} {q : Nat} (h : InB (v :: vs) q) : v.ownBlock = some q ∨ InB vs q := by
  obtain ⟨i, x, hx, e⟩ := h
  cases i with
  | zero => simp at hx; subst hx; exact .inl e
  | succ i => simp at hx; exact .inr ⟨i, x, hx, e⟩
theorem Lb.cons {B : Nat} {w : World} {v : Value} {l : List Nat} {vs : List Value} {ls : List (List Nat)} (hn : Bytes B w v l) (h : Lb B w vs ls) (hd : ∀ q, v.ownBlock = some q → ¬ InB vs q) : Lb B w (v :: vs) (l :: ls) := by
  refine ⟨by rw [List.length_cons, List.length_cons, h.len], fun i x c hx hc => ?_, fun i j x y q hx hy ex ey => ?_⟩
  · cases i with
    | zero => simp at hx hc; subst hx hc; exact hn
    | succ i => simp at hx hc; exact h.own i x c hx hc
  · cases i with
    | zero =>
      cases j with
      | zero => rfl
      | succ j => simp at hx hy; subst hx; exact absurd ⟨j, y, hy, ey⟩ (hd q ex)
    | succ i =>
      cases j with
      | zero => simp at hx hy; subst hy; exact absurd ⟨i, x, hx, ex⟩ (hd q ey)
      | succ j => simp at hx hy; rw [h.ap i j x y q hx hy ex ey]
theorem OwnBA.hd {B : Nat} {W : World} {v : Value} {us : List Value} {ls : List (List Nat)} (h : OwnBA B W v us ls) : HdB W v us := by
  have hl := h.bb.len
  obtain ⟨a, c, rfl, -, -, h3⟩ := own_form h.bb.row
  refine ⟨a, c, by rw [hl], fun hp => ?_⟩
  obtain ⟨g, rfl, hc⟩ := h3 (by omega)
  refine ⟨g, 0, rfl, (h.bb.row.lt g rfl).2, fun ⟨i, x, hx, ex⟩ => ?_, fun i x hx => by rw [Nat.zero_add]; exact hc i x hx⟩
  have hx2 := (List.getElem?_eq_some_iff.1 hx).1
  exact (h.bb.each i x _ hx (List.getElem?_eq_getElem (by rw [← hl]; exact hx2))).2 g ex |>.2.2 rfl
theorem hd_new (w : World) (us : List Value) (t : TypeId) (n : Nat) (hn : n = us.length) (hlt : ∀ q, InB us q → q < w.heap.size) : HdB (w.alloc (.cells us.toArray t)) (.slice (some ⟨w.heap.size, 0, none⟩) n n) us := by
  subst hn
  refine ⟨_, _, rfl, fun _ => ⟨w.heap.size, 0, rfl, by rw [World.size_alloc]; omega, fun e => by have := hlt _ e; omega, fun i v hv => ?_⟩⟩
  rw [Nat.zero_add]
  refine (cell_of_row _ _ _ _ _ _ (heap_new w _)).trans ?_
  simp [hv]
/-- The loop's state, and blocks that it does not hold. -/
def MK (b : Nat) (W : World) (K : Nat → Prop) (n m : Nat) (w : World) (vo : Value) : Prop :=
  ∃ vW vL vs ms os uss, Mb b W w b vW vL vs ms vo os uss ∧ vs.length ≤ n ∧ os.length ≤ m ∧ (∀ us ∈ uss, us.length ≤ 65536) ∧ ∀ q, K q → q < w.heap.size ∧ ¬ MbIn b vW vL vs vo os q
theorem MK.be {b : Nat} {W w : World} {K : Nat → Prop} {n m : Nat} {vo : Value} (h : MK b W K n m w vo) : Below b W w := by obtain ⟨_, _, _, _, _, _, hM, -⟩ := h; exact hM.be
theorem MK.le {b : Nat} {W w : World} {K : Nat → Prop} {n m : Nat} {vo : Value} (h : MK b W K n m w vo) : b ≤ w.heap.size := by obtain ⟨_, _, _, _, _, _, hM, -⟩ := h; have := hM.bk.bl; omega
theorem MK.weak {b : Nat} {W w : World} {K K' : Nat → Prop} {n m n' m' : Nat} {vo : Value} (h : MK b W K n m w vo) (hk : ∀ q, K' q → K q) (hn : n ≤ n') (hm : m ≤ m') : MK b W K' n' m' w vo := by
  obtain ⟨vW, vL, vs, ms, os, uss, hM, h1, h2, h3, h4⟩ := h
  exact ⟨vW, vL, vs, ms, os, uss, hM, by omega, by omega, h3, fun q hq => h4 q (hk q hq)⟩
theorem MK.up {b : Nat} {W w w' : World} {K : Nat → Prop} {n m : Nat} {vo : Value} (h : MK b W K n m w vo) (hb : Below w.heap.size w w') : MK b W (fun q => K q ∨ (w.heap.size ≤ q ∧ q < w'.heap.size)) n m w' vo := by
  have hl := h.le
  obtain ⟨vW, vL, vs, ms, os, uss, hM, h1, h2, h3, h4⟩ := h
  refine ⟨vW, vL, vs, ms, os, uss, hM.up hl hb, h1, h2, h3, fun q hq => ?_⟩
  rcases hq with hq | hq
  · exact ⟨Nat.lt_of_lt_of_le (h4 q hq).1 hb.size, (h4 q hq).2⟩
  · exact ⟨hq.2, fun e => by have := (hM.lo q e).2; omega⟩
theorem MK.still {b : Nat} {W w : World} {K : Nat → Prop} {n m : Nat} {vo : Value} (h : MK b W K n m w vo) (hn : n ≤ 1099511627776) : Calls Tryd.prog 7 #[.pointer (some ⟨b, 0, none⟩)] w fun e w' => e = .returned (.bool true) ∧ ∃ k, w' = w.drewN k := by
  obtain ⟨vW, vL, vs, ms, os, uss, hM, h1, -⟩ := h
  exact still_any hM.bk hM.ln (by omega)
theorem MK.take {b : Nat} {W w : World} {K : Nat → Prop} {n m : Nat} {vo va : Value} {us : List Value} {xs : List (List Nat)} (h : MK b W K n m w vo) (hlb : Lb b w us xs) (hd : HdB w va us) (hu : ∀ q, InB us q → K q) (hva : ∀ q, va.ownBlock = some q → K q) (hxs : ∀ x ∈ xs, x.length ≤ 1073741824) (hsz : n + 4 * us.length ≤ 1073741824) :
    Calls Tryd.prog 18 #[.pointer (some ⟨b, 0, none⟩), va] w fun e w' => e = .returned (.bool true) ∧ MK b W (fun q => K q ∧ ¬ InB us q) (n + 4 * us.length) m w' vo ∧ (∀ q, K q → ¬ InB us q → w'.heap[q]? = w.heap[q]?) ∧ w.heap.size ≤ w'.heap.size := by
  have hl := h.le
  obtain ⟨vW, vL, vs, ms, os, uss, hM, h1, h2, h3, h4⟩ := h
  refine (take_any hM.bk hM.ln hlb hd hl (fun q hq e => (h4 q (hu q hq)).2 (.inl e)) (fun q e e2 => (h4 q (hva q e)).2 (.inl e2)) hxs (by omega)).mono ?_
  rintro e w' ⟨rfl, vW', vL', vs', ls', ms', t, hN, hll⟩
  obtain ⟨k1, k2, k3, k4⟩ := hM.take (fun q hq => ⟨(h4 q (hu q hq)).2, (hlb.lt hq).1⟩) t hN hll hl
  refine ⟨rfl, ⟨vW', vL', vs', ls', os, uss, k1, by omega, h2, h3, fun q hq => ⟨Nat.lt_of_lt_of_le (h4 q hq.1).1 k4, fun e => ?_⟩⟩, fun q hq hn => k3 q (h4 q hq).1 (h4 q hq).2 hn, k4⟩
  rcases k2 q e with e | e | e
  · exact (h4 q hq.1).2 e
  · exact hq.2 e
  · have := (h4 q hq.1).1; omega
theorem MK.push {b : Nat} {W w : World} {K : Nat → Prop} {n m : Nat} {vo : Value} (h : MK b W K n m w vo) : ∃ os a c, vo = .slice a os.length c ∧ os.length ≤ m ∧ w.ownsRow b 22 1 vo os.length os ∧ ∀ (x : Value) (us : List Value) (o1 : Obj) (w2 : World) (vo' : Value), w.ownsRow b 29 1 x us.length us → us.length ≤ 65536 → (∀ q, x.ownBlock = some q → K q) → w2.ownsRow b 22 1 vo' (os.length + 1) (os ++ [x]) → (w.alloc o1).grownBy w2 vo.ownBlock → (vo'.ownBlock = vo.ownBlock ∨ vo'.ownBlock = some (w.alloc o1).heap.size) →
    MK b W (fun q => K q ∧ x.ownBlock ≠ some q) n (m + 1) w2 vo' ∧ (∀ q, K q → w2.heap[q]? = w.heap[q]?) ∧ w.heap.size ≤ w2.heap.size := by
  have hl := h.le
  obtain ⟨vW, vL, vs, ms, os, uss, hM, h1, h2, h3, h4⟩ := h
  obtain ⟨a, c, e, -⟩ := own_form hM.ro
  refine ⟨os, a, c, e, h2, hM.ro, fun x us o1 w2 vo' hx hus hxk r g hat => ?_⟩
  obtain ⟨k1, k2, k3, k4⟩ := hM.pushO hx (fun q e => (h4 q (hxk q e)).2) r g hat hl
  refine ⟨⟨vW, vL, vs, ms, _, _, k1, h1, by rw [List.length_append, List.length_singleton]; omega, fun u hu => ?_, fun q hq => ⟨Nat.lt_of_lt_of_le (h4 q hq.1).1 k4, fun e => ?_⟩⟩, fun q hq => k3 q (h4 q hq).1 (h4 q hq).2, k4⟩
  · rcases List.mem_append.1 hu with hu | hu
    · exact h3 u hu
    · rw [List.mem_singleton.1 hu]; exact hus
  · rcases k2 q e with e | e | e
    · exact (h4 q hq.1).2 e
    · exact hq.2 e
    · have := (h4 q hq.1).1; omega
/-- The end: all lists of lists are grown, the Book is as it was. -/
theorem MK.lists {b : Nat} {W w : World} {K : Nat → Prop} {n m : Nat} {vo : Value} (h : MK b W K n m w vo) (hn : n ≤ 1099511627776) (hm : m ≤ 1073741824) : Calls Tryd.prog 20 #[vo] w fun e w' => e = .returned (.bool true) ∧ Below b W w' ∧ Calls Tryd.prog 7 #[.pointer (some ⟨b, 0, none⟩)] w' fun e w2 => e = .returned (.bool true) ∧ ∃ k, w2 = w'.drewN k := by
  have hl := h.le
  obtain ⟨vW, vL, vs, ms, os, uss, hM, h1, h2, h3, h4⟩ := h
  have hd : HdB w vo os := by
    obtain ⟨a, c, rfl, -, -, k3⟩ := own_form hM.ro
    refine ⟨a, c, rfl, fun hp => ?_⟩
    obtain ⟨g, rfl, hc⟩ := k3 hp
    exact ⟨g, 0, rfl, (hM.ro.lt g rfl).2, fun e => (hM.ao g rfl).2 e, fun i v hv => by rw [Nat.zero_add]; exact hc i v hv⟩
  refine (grownLists_any hd hM.lr hl (fun us hu => by have := h3 us hu; omega) (by omega)).mono ?_
  rintro e w' ⟨rfl, hf⟩
  exact ⟨rfl, ⟨hf.os.trans hM.be.os, hf.tape.trans hM.be.tape, hf.output.trans hM.be.output, Nat.le_trans hM.be.size hf.size, fun q hq => (hf.far q (by omega) (fun e => by have := (hM.lr.lt e).1; omega)).trans (hM.be.block q hq)⟩, still_any (hM.bk.keep hf.size (fun q hq e => hf.far q hq (fun e2 => hM.ap q e2 e))) hM.ln (by omega)⟩
/-- The rounds' blocks. -/
theorem Mb.toMK {b : Nat} {W w : World} {S n m : Nat} {vW vL vo : Value} {vs os : List Value} {ms : List (List Nat)} {uss : List (List Value)} (h : Mb b W w b vW vL vs ms vo os uss) (h1 : vs.length ≤ n) (h2 : os.length ≤ m) (h3 : ∀ us ∈ uss, us.length ≤ 65536) (h4 : ∀ q, MbIn b vW vL vs vo os q → q < S) : MK b W (fun q => S ≤ q ∧ q < w.heap.size) n m w vo :=
  ⟨vW, vL, vs, ms, os, uss, h, h1, h2, h3, fun q hq => ⟨hq.2, fun e => by have := h4 q e; omega⟩⟩
/-- What lies in blocks of K stays. -/
theorem Bytes.far {B : Nat} {w w' : World} {v : Value} {l : List Nat} {K : Nat → Prop} (h : Bytes B w v l) (hk : ∀ q, K q → w'.heap[q]? = w.heap[q]?) (hv : ∀ q, v.ownBlock = some q → K q) : Bytes B w' v l := own_same h (fun q e => hk q (hv q e))
theorem OwnBA.far {B : Nat} {w w' : World} {v : Value} {us : List Value} {ls : List (List Nat)} {K : Nat → Prop} (h : OwnBA B w v us ls) (hs : w.heap.size ≤ w'.heap.size) (hk : ∀ q, K q → w'.heap[q]? = w.heap[q]?) (hv : ∀ q, v.ownBlock = some q → K q) (hu : ∀ q, InB us q → K q) : OwnBA B w' v us ls := by
  have hb := h.lb.keep (w' := w') (fun q _ e => hk q (hu q e))
  refine ⟨⟨own_same h.bb.row (fun q e => hk q (hv q e)), fun j u l hj hl => ⟨(hb.own j u l hj hl).has, fun q e => ?_⟩⟩, hb⟩
  obtain ⟨k1, k2, k3⟩ := (h.bb.each j u l hj hl).2 q e
  exact ⟨k1, Nat.lt_of_lt_of_le k2 hs, k3⟩
end Go.Proofs.YtlblllghgdfpoaaDoor
