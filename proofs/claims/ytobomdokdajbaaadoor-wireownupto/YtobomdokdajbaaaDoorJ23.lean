import Derived.Test.YtobomdokdajbaaaDoorJ21
import Derived.Test.YtobomdokdajbaaaDoorWSl

namespace Go.Proofs.YtobomdokdajbaaaDoor
open Go.RowKit

theorem KM.old_at {W : World} {B b wb t : Nat} {depth : Int} {num : Nat} {acc : List Rt} {stk : List (Nat × List Rt)} {iv ag : Value} {V : List Value} (h : KM W B b wb t depth num acc stk iv ag V) {v : Value} (hv : v ∈ V) : ∃ e, OwnL W B (Free B ag (V ++ [iv])) v e := by
  obtain ⟨i, hi, rfl⟩ := List.mem_iff_getElem.1 hv
  have hs : stk[i]? = some (stk[i]'(by rw [h.len]; exact hi)) := List.getElem?_eq_getElem _
  exact ⟨_, h.old i _ _ hs (List.getElem?_eq_getElem hi)⟩
theorem OwnL.lt {W : World} {B : Nat} {P : Nat → Prop} {v : Value} {ts : List Rt} (h : OwnL W B P v ts) : ∀ g, v.ownBlock = some g → B ≤ g ∧ g < W.heap.size := by
  obtain ⟨us, _, h2, _⟩ := h
  exact h2.lt
theorem OwnL.apart {W : World} {B n : Nat} {P : Nat → Prop} {v ag : Value} {ts : List Rt} {xs : List Value} (h : OwnL W B P v ts) (k : W.ownsRow B 80 2 ag n xs) : ∀ g, ag.ownBlock = some g → v.ownBlock ≠ some g := by
  obtain ⟨us, _, h2, _⟩ := h
  exact rows_apart k h2
theorem nd_swap {A I : List Nat} {o o' : Option Nat} (h : (A ++ (o.toList ++ I)).Nodup) (hb : o' = o ∨ ∃ g, o' = some g ∧ (∀ x ∈ A, x ≠ g) ∧ (∀ x ∈ I, x ≠ g)) : (A ++ (o'.toList ++ I)).Nodup := by
  rcases hb with rfl | ⟨g, rfl, h1, h2⟩
  · exact h
  · obtain ⟨a1, a2, a3⟩ := List.nodup_append.1 h
    obtain ⟨b1, b2, b3⟩ := List.nodup_append.1 a2
    refine List.nodup_append.2 ⟨a1, ?_, fun x hx y hy => ?_⟩
    · show (g :: I).Nodup
      exact List.nodup_cons.2 ⟨fun hg => h2 g hg rfl, b2⟩
    · rcases List.mem_append.1 hy with q | q
      · have : y = g := by simpa using q
        rw [this]; exact h1 x hx
      · exact a3 x hx y (List.mem_append_right _ q)
theorem group_rec {W : World} {B n g : Nat} {ag : Value} {xs : List Value} {cur : Array Value} (h : W.ownsRow B 80 2 ag n xs) (hg : W.heap[g]? = some (.cells cur 35 (0, 0))) : some g ≠ ag.ownBlock := by
  intro e
  obtain ⟨_, ⟨rfl, _⟩ | ⟨g1, c, cur1, rfl, _, h3, _⟩⟩ := h
  · cases e
  · obtain rfl : g = g1 := by simpa [Value.ownBlock] using e
    rw [hg] at h3
    simp at h3
/-- A record more in the row that is at hand. -/
theorem KM.push {W w : World} {B b wb t : Nat} {depth : Int} {num : Nat} {acc : List Rt} {stk : List (Nat × List Rt)} {iv ag v' : Value} {V us : List Value} {r : Rt} (h : KM W B b wb t depth num acc stk iv ag V) (hb : b < B) (hw : wb < B) (l1 : acc.length = us.length) (l2 : W.ownsRow B 35 5 iv acc.length (rowC acc us)) (l3 : ∀ (i : Nat) (t : Rt) (u : Value), acc[i]? = some t → us[i]? = some u → HasRt W (Free B ag (V ++ [iv])) u t.inner)
    (hwk : WkB w wb b (t : Int) depth true (num : Int) v' ag) (hrow : w.ownsRow B 35 5 v' (acc.length + 1) (rowC acc us ++ rcells r (.slice none 0 0))) (hF : Fr W w (fun q => q = b ∨ q = wb ∨ some q = iv.ownBlock)) (hblk : v'.ownBlock = iv.ownBlock ∨ ∃ g', v'.ownBlock = some g' ∧ W.heap.size ≤ g') (hin : r.inner = []) :
    KM w B b wb t depth num (acc ++ [r]) stk v' ag V := by
  have hap := List.pairwise_append.1 h.ap
  have hPQ : ∀ g, g < W.heap.size → Free B ag (V ++ [iv]) g → Free B ag (V ++ [v']) g ∧ w.heap[g]? = W.heap[g]? := by
    intro g hg hp
    have hiv : some g ≠ iv.ownBlock := hp.2.2 iv (by simp)
    refine ⟨⟨hp.1, hp.2.1, fun v hv => ?_⟩, hF.far g hg ?_⟩
    · rcases List.mem_append.1 hv with q | q
      · exact hp.2.2 v (by simp [q])
      · obtain rfl : v = v' := by simpa using q
        rcases hblk with q1 | ⟨g', q1, q2⟩
        · rw [q1]; exact hiv
        · rw [q1]; intro e; have := Option.some.inj e; omega
    · have := hp.1
      rintro (q | q | q)
      · omega
      · omega
      · exact hiv q
  refine ⟨hwk, h.len, row_keep h.row (fun q hq hn => hF.far q hq ?_), OwnL.push hPQ hF.size l1 l3 hrow (by rw [hin]; exact .nil none 0), fun i e v hs hv => (h.old i e v hs hv).mono (fun q hq hn => hF.far q hq ?_) hPQ hF.size, ?_, ?_⟩
  · have := (h.row.lt q hn).1
    rintro (p | p | p)
    · omega
    · omega
    · exact h.now.apart h.row q hn p.symm
  · have := ((h.old i e v hs hv).lt q hn).1
    rintro (p | p | p)
    · omega
    · omega
    · rcases hap.2.2 v (List.mem_of_getElem? hv) iv (by simp) with z | z
      · rw [z] at hn; cases hn
      · exact z (hn.trans p)
  · refine List.pairwise_append.2 ⟨hap.1, by simp, fun a ha x hx => ?_⟩
    obtain rfl : x = v' := by simpa using hx
    rcases hblk with q1 | ⟨g', q1, q2⟩
    · rcases hap.2.2 a ha iv (by simp) with z | z
      · exact .inl z
      · exact .inr (by rw [q1]; exact z)
    · right
      intro e
      obtain ⟨ts, ho⟩ := h.old_at ha
      have := (ho.lt g' (e.trans q1)).2
      omega
  · obtain ⟨L, hL, hnd⟩ := h.lin
    obtain ⟨L1, L2, rfl, hV, hI⟩ := LinR.split (by simp [h.len]) hL
    obtain ⟨n1, n2, n3⟩ := List.nodup_append.1 hnd
    obtain ⟨I, e, hnew⟩ := hI.one.push l1 l2 hrow n2 (fun g hg hne => hF.far g (hI.at g hg).2.1 (by
      have := (hI.at g hg).1
      rintro (p | p | p)
      · omega
      · omega
      · exact hne p.symm)) (show HasRo w B (.slice none 0 0) r.inner [] by rw [hin]; exact HasRo.nil _ _)
    rw [List.append_nil] at hnew
    refine ⟨_, (hV.mono (fun g hg => hF.far g (hV.at g hg).2.1 (by
      have := (hV.at g hg).1
      rintro (p | p | p)
      · omega
      · omega
      · exact n3 g hg g (by rw [e, ← p]; simp) rfl))).app (LinR.mk hnew), ?_⟩
    rw [e] at hnd
    refine nd_swap hnd (hblk.imp id (fun ⟨g', q1, q2⟩ => ⟨g', q1, fun x hx => ?_, fun x hx => ?_⟩))
    · have := (hV.at x hx).2.1; omega
    · have := (hI.at x (by rw [e]; exact List.mem_append_right _ hx)).2.1; omega
/-- A group begins. -/
theorem KM.begin {W w : World} {B b wb t n : Nat} {depth : Int} {num : Nat} {acc : List Rt} {stk : List (Nat × List Rt)} {iv ag ag' : Value} {V : List Value} (h : KM W B b wb t depth num acc stk iv ag V) (hw : wb < B)
    (hwk : WkB w wb b (t : Int) depth true (n : Int) (.slice none 0 0) ag') (hrow : w.ownsRow B 80 2 ag' (stk.length + 1) (gcT stk V ++ [.int .i64 (num : Int), iv])) (hF : Fr W w (fun q => q = wb ∨ some q = ag.ownBlock)) (hblk : ag'.ownBlock = ag.ownBlock ∨ ∃ g', ag'.ownBlock = some g' ∧ W.heap.size ≤ g') :
    KM w B b wb t depth n [] (stk ++ [(num, acc)]) (.slice none 0 0) ag' (V ++ [iv]) := by
  have hPQ : ∀ g, g < W.heap.size → Free B ag (V ++ [iv]) g → Free B ag' (V ++ [iv] ++ [.slice none 0 0]) g ∧ w.heap[g]? = W.heap[g]? := by
    intro g hg hp
    refine ⟨⟨hp.1, ?_, fun v hv => ?_⟩, hF.far g hg ?_⟩
    · rcases hblk with q1 | ⟨g', q1, q2⟩
      · rw [q1]; exact hp.2.1
      · rw [q1]; intro e; have := Option.some.inj e; omega
    · rcases List.mem_append.1 hv with q | q
      · exact hp.2.2 v q
      · obtain rfl : v = .slice none 0 0 := by simpa using q
        simp [Value.ownBlock]
    · have := hp.1
      rintro (q | q)
      · omega
      · exact hp.2.1 q
  have hst : ∀ (v : Value) (ts : List Rt), OwnL W B (Free B ag (V ++ [iv])) v ts → OwnL w B (Free B ag' (V ++ [iv] ++ [.slice none 0 0])) v ts := fun v ts ho => ho.mono (fun q hq hn => hF.far q hq (by
    have := (ho.lt q hn).1
    rintro (p | p)
    · omega
    · exact ho.apart h.row q p.symm hn)) hPQ hF.size
  refine ⟨hwk, by simp [h.len], ?_, OwnL.nil _ _ _, fun i e v hs hv => ?_, ?_, ?_⟩
  · rw [gcT_push h.len, List.length_append, List.length_singleton]
    exact hrow
  · by_cases hi : i < stk.length
    · rw [List.getElem?_append_left hi] at hs
      rw [List.getElem?_append_left (by rw [← h.len]; exact hi)] at hv
      exact hst v e.2 (h.old i e v hs hv)
    · have hlt := (List.getElem?_eq_some_iff.1 hs).1
      rw [List.length_append, List.length_singleton] at hlt
      obtain rfl : i = stk.length := by omega
      rw [List.getElem?_append_right (Nat.le_refl _)] at hs
      rw [List.getElem?_append_right (by rw [h.len]; exact Nat.le_refl _)] at hv
      simp [h.len] at hs hv
      subst hs hv
      exact hst _ _ h.now
  · refine List.pairwise_append.2 ⟨h.ap, by simp, fun a _ x hx => ?_⟩
    obtain rfl : x = .slice none 0 0 := by simpa using hx
    by_cases q : a.ownBlock = none
    · exact .inl q
    · exact .inr q
  · obtain ⟨L, hL, hnd⟩ := h.lin
    have hk := hL.mono (w := w) (fun g hg => hF.far g (hL.at g hg).2.1 (by
      have := (hL.at g hg).1
      obtain ⟨cur, hc⟩ := (hL.at g hg).2.2
      rintro (p | p)
      · omega
      · exact group_rec h.row hc p))
    have := hk.app (LinR.mk (HasRo.nil w B))
    rw [List.append_nil] at this
    exact ⟨L, by rw [List.map_append]; exact this, hnd⟩
/-- A group ends. -/
theorem KM.end {W w : World} {B b wb t n num1 : Nat} {depth : Int} {acc acc1 : List Rt} {stk : List (Nat × List Rt)} {iv ag ag' x v' : Value} {V us : List Value} (h : KM W B b wb t depth n acc (stk ++ [(num1, acc1)]) iv ag (V ++ [x])) (hw : wb < B) (hlen : stk.length = V.length) (l1 : acc1.length = us.length) (l2 : W.ownsRow B 35 5 x acc1.length (rowC acc1 us))
    (l3 : ∀ (i : Nat) (t : Rt) (u : Value), acc1[i]? = some t → us[i]? = some u → HasRt W (Free B ag (V ++ [x] ++ [iv])) u t.inner)
    (hwk : WkB w wb b (t : Int) depth true (num1 : Int) v' ag') (hag : ag'.ownBlock = ag.ownBlock) (hgr : w.ownsRow B 80 2 ag' stk.length (gcT stk V)) (hrow : w.ownsRow B 35 5 v' (acc1.length + 1) (rowC acc1 us ++ rcells (.mk n 3 0 .empty acc) iv)) (hF : Fr W w (fun q => q = wb ∨ some q = x.ownBlock)) (hblk : v'.ownBlock = x.ownBlock ∨ ∃ g', v'.ownBlock = some g' ∧ W.heap.size ≤ g') :
    KM w B b wb t depth num1 (acc1 ++ [.mk n 3 0 .empty acc]) stk v' ag' V := by
  have hap := List.pairwise_append.1 h.ap
  have hap2 := List.pairwise_append.1 hap.1
  have hPQ : ∀ g, g < W.heap.size → Free B ag (V ++ [x] ++ [iv]) g → Free B ag' (V ++ [v']) g ∧ w.heap[g]? = W.heap[g]? := by
    intro g hg hp
    have hx : some g ≠ x.ownBlock := hp.2.2 x (by simp)
    refine ⟨⟨hp.1, by rw [hag]; exact hp.2.1, fun v hv => ?_⟩, hF.far g hg ?_⟩
    · rcases List.mem_append.1 hv with q | q
      · exact hp.2.2 v (by simp [q])
      · obtain rfl : v = v' := by simpa using q
        rcases hblk with q1 | ⟨g', q1, q2⟩
        · rw [q1]; exact hx
        · rw [q1]; intro e; have := Option.some.inj e; omega
    · have := hp.1
      rintro (q | q)
      · omega
      · exact hx q
  have hxo : OwnL W B (Free B ag (V ++ [x] ++ [iv])) x acc1 := h.old stk.length (num1, acc1) x (by rw [List.getElem?_append_right (Nat.le_refl _)]; simp) (by rw [List.getElem?_append_right (by rw [hlen]; exact Nat.le_refl _), hlen]; simp)
  have hdone : HasRt w (Free B ag' (V ++ [v'])) iv acc := by
    have h1 : HasRt W (fun g => Free B ag (V ++ [x] ++ [iv]) g ∨ (iv.ownBlock = some g ∧ B ≤ g ∧ g < W.heap.size)) iv acc := h.now.done (fun g _ hp => .inl hp) (fun g q1 q2 q3 => .inr ⟨q1, q2, q3⟩)
    refine h1.mono (fun g hg hp => ?_) hF.size
    rcases hp with hp | ⟨p1, p2, p3⟩
    · exact hPQ g hg hp
    · have hxi : x.ownBlock ≠ some g := by
        rcases hap.2.2 x (by simp) iv (by simp) with z | z
        · rw [z]; simp
        · rw [← p1]; exact z
      refine ⟨⟨p2, ?_, fun v hv => ?_⟩, hF.far g hg ?_⟩
      · rw [hag]
        intro e
        exact h.now.apart h.row g e.symm p1
      · rcases List.mem_append.1 hv with q | q
        · rcases hap.2.2 v (by simp [q]) iv (by simp) with z | z
          · rw [z]; simp
          · rw [← p1]; exact fun e => z e.symm
        · obtain rfl : v = v' := by simpa using q
          rcases hblk with q1 | ⟨g', q1, q2⟩
          · rw [q1]; exact fun e => hxi e.symm
          · rw [q1]; intro e; have := Option.some.inj e; omega
      · rintro (q | q)
        · omega
        · exact hxi q.symm
  refine ⟨hwk, hlen, hgr, OwnL.push hPQ hF.size l1 l3 hrow hdone, fun i e v hs hv => ?_, ?_, ?_⟩
  · have hi := (List.getElem?_eq_some_iff.1 hs).1
    have ho := h.old i e v (by rw [List.getElem?_append_left hi]; exact hs) (by rw [List.getElem?_append_left (by rw [← hlen]; exact hi)]; exact hv)
    refine ho.mono (fun q hq hn => hF.far q hq ?_) hPQ hF.size
    have := (ho.lt q hn).1
    rintro (p | p)
    · omega
    · rcases hap2.2.2 v (List.mem_of_getElem? hv) x (by simp) with z | z
      · rw [z] at hn; cases hn
      · exact z (hn.trans p)
  · refine List.pairwise_append.2 ⟨hap2.1, by simp, fun a ha y hy => ?_⟩
    obtain rfl : y = v' := by simpa using hy
    rcases hblk with q1 | ⟨g', q1, q2⟩
    · rcases hap2.2.2 a ha x (by simp) with z | z
      · exact .inl z
      · exact .inr (by rw [q1]; exact z)
    · right
      intro e
      obtain ⟨ts, ho⟩ := h.old_at (v := a) (by simp [ha])
      have := (ho.lt g' (e.trans q1)).2
      omega
  · obtain ⟨L, hL, hnd⟩ := h.lin
    rw [List.map_append, List.append_assoc, List.append_assoc] at hL
    obtain ⟨L1, L2, rfl, hV, hI⟩ := LinR.split (by simp [hlen]) hL
    obtain ⟨L3, L4, rfl, hX, hJ⟩ := LinR.split (vs := [x]) (tss := [acc1]) rfl hI
    obtain ⟨n1, n2, n3⟩ := List.nodup_append.1 hnd
    obtain ⟨m1, m2, m3⟩ := List.nodup_append.1 n2
    have hj := hJ.one.mono (w := w) (fun g hg => hF.far g (hJ.at g hg).2.1 (by
      have := (hJ.at g hg).1
      rintro (p | p)
      · omega
      · obtain ⟨us', hb', -⟩ : ∃ I, L3 = x.ownBlock.toList ++ I ∧ True := by cases hX.one with | row => exact ⟨_, rfl, trivial⟩
        exact m3 g (by rw [hb', ← p]; simp) g hg rfl))
    obtain ⟨I, e, hnew⟩ := hX.one.push (r := .mk n 3 0 .empty acc) l1 l2 hrow m1 (fun g hg hne => hF.far g (hX.at g hg).2.1 (by
      have := (hX.at g hg).1
      rintro (p | p)
      · omega
      · exact hne p.symm)) (show HasRo w B iv (Rt.inner (.mk n 3 0 .empty acc)) L4 from hj)
    refine ⟨_, (hV.mono (w := w) (fun g hg => hF.far g (hV.at g hg).2.1 (by
      have := (hV.at g hg).1
      rintro (p | p)
      · omega
      · exact n3 g hg g (by rw [e, ← p]; simp) rfl))).app (LinR.mk hnew), ?_⟩
    rw [e, List.append_assoc] at hnd
    refine nd_swap hnd (hblk.imp id (fun ⟨g', q1, q2⟩ => ⟨g', q1, fun y hy => ?_, fun y hy => ?_⟩))
    · have := (hV.at y hy).2.1; omega
    · rcases List.mem_append.1 hy with z | z
      · have := (hX.at y (by rw [e]; exact List.mem_append_right _ z)).2.1; omega
      · have := (hJ.at y z).2.1; omega
end Go.Proofs.YtobomdokdajbaaaDoor

namespace Go.Proofs.YtobomdokdajbaaaDoor
open Go.RowKit
attribute [local go_sem ↓] Go.wp_at_zero Go.wp_at_succ

def RelT (m : Nat) (w : World) (u : Value) (q k2 : Nat) : (List Rt × Nat) ⊕ (Nat × Nat) → Prop
  | .inl (ts, k') => q = 0 ∧ k2 = k' ∧ HasRt w (fun g => m ≤ g) u ts
  | .inr (c, k') => q = c ∧ c ≠ 0 ∧ k2 = k'
def RelE (m : Nat) (w : World) (n kd : Nat) (x : Int) (t : ByteArray) (u : Value) (q k2 : Nat) : (Rt × Nat) ⊕ (Nat × Nat) → Prop
  | .inl (r, k') => q = 0 ∧ k2 = k' ∧ ∃ l, r = .mk n kd x t l ∧ HasRt w (fun g => m ≤ g) u l
  | .inr (c, k') => q = c ∧ c ≠ 0 ∧ k2 = k'
/-- What behind answers. -/
def BeT (W : World) (c : Nat) (v : Value) (s : ByteArray) (st : Bool) (n kd : Nat) (e : Ending) (w : World) (R : (Rt × Nat) ⊕ (Nat × Nat)) : Prop :=
  ∃ (x : Int) (t : ByteArray) (ua : Option Addr) (un uc q k2 : Nat), e = .returned (.tuple #[.agg #[.int .i64 (n : Int), .int .i64 (kd : Int), .int .i64 x, .string t, .slice ua un uc], .int .i64 (q : Int)]) ∧ Upd W c (cuO v s st k2) w ∧ RelE W.heap.size w n kd x t (.slice ua un uc) q k2 R
/-- What records answers. -/
def RcT (W : World) (c : Nat) (v : Value) (s : ByteArray) (st : Bool) (e : Ending) (w : World) (R : (List Rt × Nat) ⊕ (Nat × Nat)) : Prop :=
  ∃ (ua : Option Addr) (un uc q k2 : Nat), e = .returned (.tuple #[.slice ua un uc, .int .i64 (q : Int)]) ∧ Upd W c (cuO v s st k2) w ∧ RelT W.heap.size w (.slice ua un uc) q k2 R
theorem relE_of {m M : Nat} {w w' : World} {n : Nat} {u : Value} {q k2 : Nat} {R : (List Rt × Nat) ⊕ (Nat × Nat)} (h : RelT M w u q k2 R) (hF : Fr w w' (fun q => q = m ∨ q = m + 1)) (hM : M = m + 2) : RelE m w' n 3 0 ⟨#[]⟩ u q k2 (grpT n R) := by
  match R, h with
  | .inl (ts, k'), ⟨h1, h2, h3⟩ => exact ⟨h1, h2, ts, rfl, h3.mono (fun g hg hp => ⟨by omega, hF.far g hg (by omega)⟩) hF.size⟩
  | .inr (c, k'), h => exact h
theorem fr_boxes (w : World) (m : Nat) (a b c d e f : Value) : Fr w ((((((w.setCell ⟨m + 1, 4, none⟩ a).setCell ⟨m, 0, none⟩ b).setCell ⟨m, 1, none⟩ c).setCell ⟨m, 2, none⟩ d).setCell ⟨m, 3, none⟩ e).setCell ⟨m, 4, none⟩ f) (fun q => q = m ∨ q = m + 1) :=
  ((((((Fr.refl w _).set (.inr rfl) 4 a).set (.inl rfl) 0 b).set (.inl rfl) 1 c).set (.inl rfl) 2 d).set (.inl rfl) 3 e).set (.inl rfl) 4 f
set_option maxRecDepth 100000 in
set_option maxHeartbeats 1000000 in
theorem behind3T {W : World} {c : Nat} {v : Value} {s : ByteArray} {k n o : Nat} {st : Bool} {most : Int} {R : (List Rt × Nat) ⊕ (Nat × Nat)} (h : CuAt W c v s k st) (ho : o ≤ 1048577)
    (hrec : ∀ X, Below W.heap.size W X → CuAt X c v s k st → Calls Tryd.prog 67 #[.pointer (some ⟨c, 0, none⟩), .int .i64 (n : Int), .int .i64 ((o + 1 : Nat) : Int), .int .i64 most] X fun e w => RcT X c v s st e w R) :
    Calls Tryd.prog 69 #[.pointer (some ⟨c, 0, none⟩), .int .i64 (n : Int), .int .i64 3, .int .i64 (o : Int), .int .i64 most] W fun e w => BeT W c v s st n 3 e w (grpT n R) := by
  have hcl := (Array.getElem?_eq_some_iff.1 h).1
  obtain ⟨X1, hX1⟩ : ∃ X1, X1 = W.alloc (.cells #[.int .i64 0, .int .i64 0, .int .i64 0, .string ⟨#[]⟩, .slice none 0 0] 35) := ⟨_, rfl⟩
  obtain ⟨X, hX⟩ : ∃ X, X = X1.alloc (.cells #[.int .i64 (n : Int), .int .i64 3, .int .i64 0, .string ⟨#[]⟩, .slice none 0 0] 35) := ⟨_, rfl⟩
  have hz1 : X1.heap.size = W.heap.size + 1 := by rw [hX1]; exact World.size_alloc _ _
  have hB1 : Below W.heap.size W X1 := by rw [hX1]; exact (Below.refl _ _).alloc (Nat.le_refl _) _
  have hB12 : Below X1.heap.size X1 X := by rw [hX]; exact (Below.refl _ _).alloc (Nat.le_refl _) _
  have hXB : Below W.heap.size W X := hB1.trans (hB12.mono (by omega))
  have ha : X.heap[W.heap.size]? = some (.cells #[.int .i64 0, .int .i64 0, .int .i64 0, .string ⟨#[]⟩, .slice none 0 0] 35 (0, 0)) := (hB12.block _ (by omega)).trans (by rw [hX1]; exact heap_alloc_new _ _)
  have hb : X.heap[W.heap.size + 1]? = some (.cells #[.int .i64 (n : Int), .int .i64 3, .int .i64 0, .string ⟨#[]⟩, .slice none 0 0] 35 (0, 0)) := by rw [← hz1, hX]; exact heap_alloc_new _ _
  have hXs : X.heap.size = W.heap.size + 2 := by rw [hX, World.size_alloc, hz1]
  have hXc : CuAt X c v s k st := (hXB.block c hcl).trans h
  have hcall := hrec X hXB hXc
  have HX : Hid ((W.alloc (.cells #[.int .i64 0, .int .i64 0, .int .i64 0, .string ⟨#[]⟩, .slice none 0 0] 35)).alloc (.cells #[.int .i64 (n : Int), .int .i64 3, .int .i64 0, .string ⟨#[]⟩, .slice none 0 0] 35) = X) := by show _ = _; rw [← hX1, hX]
  obtain ⟨o1, ho1⟩ : ∃ o1, o + 1 = o1 := ⟨_, rfl⟩
  rw [ho1] at hcall
  have eo : (o : Int) + 1 = (o1 : Int) := by omega
  have eo2 : wrap64 (o1 : Int) = (o1 : Int) := wrap64_id (by omega) (by omega)
  have Hcall := hide hcall
  clear hX hX1 hz1 hB1 hB12 hcall hrec ho1 ho
  go_enter Tryd.func69, Tryd.ntmps69
  go_wp2_with fail
  rw [unhide HX]
  refine (unhide Hcall).mono ?_
  intro e w1 hq
  obtain ⟨ua, un, uc, q, k2, rfl, hU, hrel⟩ := hq
  have hw1s : W.heap.size + 2 ≤ w1.heap.size := by have := hU.size; omega
  have ha1 := (hU.far W.heap.size (by omega) (by omega)).trans ha
  have hb1 := (hU.far (W.heap.size + 1) (by omega) (by omega)).trans hb
  obtain ⟨a0, a1, a2, a3, a4, af0, af1, af2, af3, af4⟩ := cells5_of ha1
  obtain ⟨b0, b1, b2, b3, b4, bf0, bf1, bf2, bf3, bf4⟩ := cells5_of hb1
  have HU := hide hU
  have Hrel := hide hrel
  have HXB := hide hXB
  clear hU hrel Hcall HX ha hb ha1 hb1 hXc hXB
  go_wp2_with fail
  (try simp only [Exit.inBlock, Exit.then])
  refine bodyPost_ret (v := .tuple #[.agg #[.int .i64 (n : Int), .int .i64 3, .int .i64 0, .string ⟨#[]⟩, .slice ua un uc], .int .i64 (q : Int)]) (by rw [results_cell_tmp (p := 10) (u := 11) (ty := 35) rfl]; go_simp) rfl ?_
  exact ⟨0, ⟨#[]⟩, ua, un, uc, q, k2, rfl, upd_low (unhide HXB) (unhide HU) (((((((Below.refl W.heap.size w1).setCell (p := ⟨W.heap.size + 1, 4, none⟩) (Nat.le_succ _) _).setCell (p := ⟨W.heap.size, 0, none⟩) (Nat.le_refl _) _).setCell (p := ⟨W.heap.size, 1, none⟩) (Nat.le_refl _) _).setCell (p := ⟨W.heap.size, 2, none⟩) (Nat.le_refl _) _).setCell (p := ⟨W.heap.size, 3, none⟩) (Nat.le_refl _) _).setCell (p := ⟨W.heap.size, 4, none⟩) (Nat.le_refl _) _) hcl, relE_of (unhide Hrel) (fr_boxes w1 W.heap.size _ _ _ _ _ _) hXs⟩
theorem vGo_err (s : ByteArray) (st : Bool) : ∀ (f i k v c : Nat), vGo s st f i k v = .inr c → c ≠ 0 := by
  intro f
  induction f with
  | zero => intro i k v c h; unfold vGo at h; cases h; decide
  | succ f ih =>
    intro i k v c h
    rw [vGo] at h
    split at h
    · split at h
      · cases h; decide
      · split at h
        · exact ih _ _ _ _ h
        · split at h
          · cases h; decide
          · cases h
    · cases h; decide
theorem vAt_err {s : ByteArray} {st : Bool} {k c : Nat} (h : vAt s st k = .inr c) : c ≠ 0 := vGo_err s st _ _ _ _ _ h
theorem xAt_err {s : ByteArray} {k n c : Nat} (h : xAt s k n = .inr c) : c ≠ 0 := by
  unfold xAt at h
  split at h
  · cases h; decide
  · cases h
theorem tAt_err {s : ByteArray} {st : Bool} {k c : Nat} (h : tAt s st k = .inr c) : c ≠ 0 := by
  unfold tAt at h
  split at h
  · rename_i q hq
    cases h
    exact vAt_err hq
  · split at h
    · cases h; decide
    · cases h
theorem num_beT {W : World} {c : Nat} {v : Value} {s : ByteArray} {st : Bool} {k n kd : Nat} {r : (Nat × Nat) ⊕ Nat} (he : ∀ q, r = .inr q → q ≠ 0) {e : Ending} {w : World} {x : Int} {q k2 : Nat} (hf : fV k r = (x, q, k2)) (h1 : e = .returned (.tuple #[.agg #[.int .i64 (n : Int), .int .i64 (kd : Int), .int .i64 x, .string ⟨#[]⟩, .slice none 0 0], .int .i64 (q : Int)])) (h2 : Upd W c (cuO v s st k2) w) : BeT W c v s st n kd e w (plcT k (numT n kd r)) := by
  match r, hf with
  | .inl (u, k'), hf =>
    cases hf
    exact ⟨_, _, none, 0, 0, _, _, h1, h2, rfl, rfl, [], rfl, .nil _ _⟩
  | .inr p, hf =>
    cases hf
    exact ⟨_, _, none, 0, 0, _, _, h1, h2, rfl, he _ rfl, rfl⟩
theorem tex_beT {W : World} {c : Nat} {v : Value} {s : ByteArray} {st : Bool} {k n : Nat} {r : (ByteArray × Nat) ⊕ Nat} (he : ∀ q, r = .inr q → q ≠ 0) {e : Ending} {w : World} {x : ByteArray} {q k2 : Nat} (hf : fT k r = (x, q, k2)) (h1 : e = .returned (.tuple #[.agg #[.int .i64 (n : Int), .int .i64 2, .int .i64 0, .string x, .slice none 0 0], .int .i64 (q : Int)])) (h2 : Upd W c (cuO v s st k2) w) : BeT W c v s st n 2 e w (plcT k (texT n r)) := by
  match r, hf with
  | .inl (u, k'), hf =>
    cases hf
    exact ⟨_, _, none, 0, 0, _, _, h1, h2, rfl, rfl, [], rfl, .nil _ _⟩
  | .inr p, hf =>
    cases hf
    exact ⟨_, _, none, 0, 0, _, _, h1, h2, rfl, he _ rfl, rfl⟩
/-- Every kind that behind is called with. -/
theorem behind_T {W : World} {c : Nat} {v : Value} {s : ByteArray} {k n o kd : Nat} {st : Bool} {most : Int} {R : (List Rt × Nat) ⊕ (Nat × Nat)} (h : CuAt W c v s k st) (hB : Bs W v s) (hk : k ≤ s.size) (hs : s.size ≤ 1048576) (hne : ∀ a l cp, v = .slice (some a) l cp → 0 < s.size → a.block ≠ c ∧ cp ≤ 9223372036854775807) (ho : o ≤ 1048577) (hkd : kd ≤ 5) (h4 : kd ≠ 4)
    (hrec : kd = 3 → ∀ X, Below W.heap.size W X → CuAt X c v s k st → Calls Tryd.prog 67 #[.pointer (some ⟨c, 0, none⟩), .int .i64 (n : Int), .int .i64 ((o + 1 : Nat) : Int), .int .i64 most] X fun e w => RcT X c v s st e w R) :
    Calls Tryd.prog 69 #[.pointer (some ⟨c, 0, none⟩), .int .i64 (n : Int), .int .i64 (kd : Int), .int .i64 (o : Int), .int .i64 most] W fun e w => BeT W c v s st n kd e w (if kd = 3 then grpT n R else plcT k (bodyT s st n k kd)) := by
  obtain rfl | rfl | rfl | rfl | rfl : kd = 0 ∨ kd = 1 ∨ kd = 2 ∨ kd = 3 ∨ kd = 5 := by omega
  · exact (behind0T h hB hk hs rfl).mono fun e w hq => num_beT (fun q hq => vAt_err hq) rfl hq.1 hq.2
  · exact (behind1T h hB hk hs rfl).mono fun e w hq => num_beT (fun q hq => xAt_err hq) rfl hq.1 hq.2
  · exact (behind2T h hB hk hs hne rfl).mono fun e w hq => tex_beT (fun q hq => tAt_err hq) rfl hq.1 hq.2
  · exact behind3T h ho (hrec rfl)
  · exact (behind5T h hB hk hs rfl).mono fun e w hq => num_beT (fun q hq => xAt_err hq) rfl hq.1 hq.2
end Go.Proofs.YtobomdokdajbaaaDoor
