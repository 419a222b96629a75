import Derived.Test.YtobomdokdajbaaaDoorJ45
import Derived.Test.YtobomdokdajbaaaDoorJ42
import Derived.Test.YtobomdokdajbaaaDoorJ42
import Derived.Test.YtobomdokdajbaaaDoorJ26

namespace Go.Proofs.YtobomdokdajbaaaDoor
open Go.RowKit

/-- A row of records of one's own, by its cells. -/
def Rc (B : Nat) (w : World) (v : Value) (xs : List Value) : Prop := ∃ n, w.ownsRow B 35 5 v n xs
theorem Rc.same {B : Nat} {W w : World} {v : Value} {xs : List Value} (h : Rc B W v xs) (hb : ∀ b, v.ownBlock = some b → w.heap[b]? = W.heap[b]?) : Rc B w v xs := by
  obtain ⟨n, h⟩ := h
  exact ⟨n, own_same h hb⟩
theorem Rc.lt {B : Nat} {W : World} {v : Value} {xs : List Value} (h : Rc B W v xs) (b : Nat) (e : v.ownBlock = some b) : B ≤ b ∧ b < W.heap.size := by
  obtain ⟨n, h⟩ := h
  exact h.lt b e
/-- Lists of records that lie in blocks of their own, each in another. -/
structure Lg (B : Nat) (w : World) (vs : List Value) (bss : List (List Value)) : Prop where
  len : bss.length = vs.length
  own : ∀ (i : Nat) (v : Value) (bs : List Value), vs[i]? = some v → bss[i]? = some bs → Rc B w v bs
  ap : ∀ (i j : Nat) (v u : Value) (b : Nat), vs[i]? = some v → vs[j]? = some u → v.ownBlock = some b → u.ownBlock = some b → i = j
theorem Lg.nil (B : Nat) (w : World) : Lg B w [] [] := ⟨rfl, fun i v bs h => by simp at h, fun i j v u b h => by simp at h⟩
theorem Lg.at {B : Nat} {w : World} {vs : List Value} {bss : List (List Value)} (h : Lg B w vs bss) {i : Nat} (hi : i < vs.length) : ∃ v bs, vs[i]? = some v ∧ bss[i]? = some bs ∧ Rc B w v bs := by
  have h1 : bss[i]? = some (bss[i]'(by rw [h.len]; exact hi)) := List.getElem?_eq_getElem _
  exact ⟨_, _, List.getElem?_eq_getElem hi, h1, h.own i _ _ (List.getElem?_eq_getElem hi) h1⟩
theorem Lg.lt {B : Nat} {w : World} {vs : List Value} {bss : List (List Value)} (h : Lg B w vs bss) {g : Nat} (hg : InB vs g) : B ≤ g ∧ g < w.heap.size := by
  obtain ⟨i, v, h1, h2⟩ := hg
  obtain ⟨v', bs, h3, h4, h5⟩ := h.at (List.getElem?_eq_some_iff.1 h1).1
  obtain rfl := Option.some.inj (h1.symm.trans h3)
  exact h5.lt g h2
theorem Lg.keep {B : Nat} {w w' : World} {vs : List Value} {bss : List (List Value)} (h : Lg B w vs bss) (hf : ∀ g, g < w.heap.size → InB vs g → w'.heap[g]? = w.heap[g]?) : Lg B w' vs bss :=
  ⟨h.len, fun i v bs hv hb => (h.own i v bs hv hb).same (fun b e => hf b ((h.own i v bs hv hb).lt b e).2 ⟨i, v, hv, e⟩), h.ap⟩
/-- One of them is another. -/
theorem Lg.set {B : Nat} {w w' : World} {vs : List Value} {bss : List (List Value)} (h : Lg B w vs bss) {i : Nat} {v v' : Value} {bs' : List Value} (hi : vs[i]? = some v) (hn : Rc B w' v' bs') (hblk : v'.ownBlock = v.ownBlock ∨ ∃ g', v'.ownBlock = some g' ∧ w.heap.size ≤ g') (hf : ∀ q, q < w.heap.size → some q ≠ v.ownBlock → w'.heap[q]? = w.heap[q]?) : Lg B w' (vs.set i v') (bss.set i bs') := by
  have hlt := (List.getElem?_eq_some_iff.1 hi).1
  refine ⟨by rw [List.length_set, List.length_set]; exact h.len, fun j x bs hx hb => ?_, fun j k x y b hx hy ex ey => ?_⟩
  · by_cases hij : i = j
    · subst hij
      rw [List.getElem?_set_self hlt] at hx
      rw [List.getElem?_set_self (by rw [h.len]; exact hlt)] at hb
      obtain rfl := Option.some.inj hx
      obtain rfl := Option.some.inj hb
      exact hn
    · rw [List.getElem?_set_ne hij] at hx hb
      refine (h.own j x bs hx hb).same (fun b e => hf b ((h.own j x bs hx hb).lt b e).2 (fun e2 => hij (h.ap i j v x b hi hx e2.symm e)))
  · have old : ∀ (m : Nat) (z : Value), vs[m]? = some z → z.ownBlock = some b → b < w.heap.size := fun m z hz ez => (h.lt ⟨m, z, hz, ez⟩).2
    by_cases hij : i = j
    · by_cases hik : i = k
      · omega
      · subst hij
        rw [List.getElem?_set_self hlt] at hx
        rw [List.getElem?_set_ne hik] at hy
        obtain rfl := Option.some.inj hx
        rcases hblk with e | ⟨g', e, hg'⟩
        · exact h.ap i k v y b hi hy (e.symm.trans ex) ey
        · have := old k y hy ey
          have := Option.some.inj (e.symm.trans ex)
          omega
    · rw [List.getElem?_set_ne hij] at hx
      by_cases hik : i = k
      · subst hik
        rw [List.getElem?_set_self hlt] at hy
        obtain rfl := Option.some.inj hy
        rcases hblk with e | ⟨g', e, hg'⟩
        · exact h.ap j i x v b hx hi ex (e.symm.trans ey)
        · have := old j x hx ex
          have := Option.some.inj (e.symm.trans ey)
          omega
      · rw [List.getElem?_set_ne hik] at hy
        exact h.ap j k x y b hx hy ex ey
/-- Cells that can be read from a block's beginning on. -/
def OldC (w : World) (v : Value) (m : List Value) : Prop := ∃ a n c, v = .slice a n c ∧ m.length = n * 5 ∧ n ≤ maxLen ∧ (0 < n → ∃ g, a = some ⟨g, 0, none⟩ ∧ g < w.heap.size ∧ ∀ (k : Nat) (b : Value), m[k]? = some b → w.cell? ⟨g, k, none⟩ = some b)
theorem rc_cell {B : Nat} {w : World} {g n c : Nat} {xs : List Value} (h : Rc B w (.slice (some ⟨g, 0, none⟩) n c) xs) {k : Nat} {x : Value} (hx : xs[k]? = some x) : w.cell? ⟨g, k, none⟩ = some x ∧ w.frozen? ⟨g, k, none⟩ = false := by
  obtain ⟨m, h⟩ := h
  obtain ⟨a', c', e⟩ := own_shape h
  injection e with e1 e2 e3
  subst e2
  have := h.cells (g := g) rfl k x hx
  rw [Go.WideShapes.add_plain, Nat.zero_add] at this
  exact ⟨this, World.ownsRow.frozenAt h k⟩
theorem Rc.old {B : Nat} {w : World} {v : Value} {m : List Value} (h : Rc B w v m) : OldC w v m := by
  obtain ⟨n, h0⟩ := id h
  obtain ⟨h1, ⟨rfl, rfl⟩ | ⟨g, c, cur, rfl, h2, h3, h4, h5, h6⟩⟩ := id h0
  · exact ⟨none, 0, 0, rfl, h1, Nat.zero_le _, fun hp => by omega⟩
  · exact ⟨_, n, c, rfl, h1, Nat.le_trans h4 h5, fun _ => ⟨g, rfl, (h.lt g rfl).2, fun k b hb => (rc_cell h hb).1⟩⟩
/-- The longer lists, the lists as they were, and what is put behind them. -/
structure G5 (W : World) (B : Nat) (vs : List Value) (ms : List (List Value)) (w : World) (v5 : Value) (us : List Value) (cs : List (List Value)) : Prop where
  lb : Lg B w us cs
  ul : us.length = vs.length
  fr : Fr W w (InB vs)
  m5 : w.ownsRow W.heap.size 33 1 v5 vs.length us
  uv : ∀ b, InB us b → InB vs b ∨ W.heap.size ≤ b
  old : ∀ (j : Nat) (v : Value) (m : List Value), vs[j]? = some v → ms[j]? = some m → OldC w v m
  pre : ∀ (j : Nat) (m c : List Value), ms[j]? = some m → cs[j]? = some c → m <+: c
  rel : ∀ (j : Nat) (v u : Value) (b : Nat), vs[j]? = some v → us[j]? = some u → v.ownBlock = some b → u.ownBlock = some b ∨ ¬ InB us b
  u5 : ∀ b, v5.ownBlock = some b → ¬ InB us b
/-- One more behind one of them. -/
theorem G5.step {W : World} {B : Nat} {vs : List Value} {ms : List (List Value)} {w w2 : World} {u u' : Value} {us : List Value} {cs : List (List Value)} {o1 : Obj} {i g5 c5 : Nat} {ct nw : List Value} (h : G5 W B vs ms w (.slice (some ⟨g5, 0, none⟩) vs.length c5) us cs) (hI : ∀ g, InB vs g → g < W.heap.size)
    (hu : us[i]? = some u) (hc : cs[i]? = some ct) (hg : (w.alloc o1).grownBy w2 u.ownBlock) (hn : Rc B w2 u' (ct ++ nw)) (hk : Rc B w2 u ct) (hb : u'.ownBlock = u.ownBlock ∨ ∃ g', u'.ownBlock = some g' ∧ (w.alloc o1).heap.size ≤ g') :
    G5 W B vs ms (w2.setCell ⟨g5, i, none⟩ u') (.slice (some ⟨g5, 0, none⟩) vs.length c5) (us.set i u') (cs.set i (ct ++ nw)) := by
  have hil := (List.getElem?_eq_some_iff.1 hu).1
  have s0 := h.fr.size
  have s1 := hg.size
  rw [World.size_alloc] at s1
  have hb : u'.ownBlock = u.ownBlock ∨ ∃ g', u'.ownBlock = some g' ∧ w.heap.size ≤ g' := hb.imp id (fun ⟨g', q1, q2⟩ => ⟨g', q1, by rw [World.size_alloc] at q2; omega⟩)
  have l5 := h.m5.lt g5 rfl
  have k2 : ∀ g, g < w.heap.size → u.ownBlock ≠ some g → w2.heap[g]? = w.heap[g]? := fun g hg1 hn1 => (hg.block g (by rw [World.size_alloc]; omega) (fun e => hn1 e.symm)).trans (Below.heap_alloc w o1 g hg1)
  have ks : ∀ g, g ≠ g5 → (w2.setCell ⟨g5, i, none⟩ u').heap[g]? = w2.heap[g]? := fun g hne => heap_setCell_other w2 ⟨g5, i, none⟩ g u' hne
  have key : ∀ g, g < w.heap.size → u.ownBlock ≠ some g → g ≠ g5 → (w2.setCell ⟨g5, i, none⟩ u').heap[g]? = w.heap[g]? := fun g hg1 h1 h2 => (ks g h2).trans (k2 g hg1 h1)
  have hu5 : u.ownBlock ≠ some g5 := fun e => h.u5 g5 rfl ⟨i, u, hu, e⟩
  have hu5' : u'.ownBlock ≠ some g5 := fun e => by
    rcases hb with q | ⟨g', q, hq⟩
    · exact hu5 (q.symm.trans e)
    · have := Option.some.inj (q.symm.trans e); omega
  have lset : Lg B (w2.setCell ⟨g5, i, none⟩ u') (us.set i u') (cs.set i (ct ++ nw)) := by
    have hn' : Rc B (w2.setCell ⟨g5, i, none⟩ u') u' (ct ++ nw) := hn.same (fun b e => ks b (fun q => hu5' (by rw [← q]; exact e)))
    refine ⟨by rw [List.length_set, List.length_set]; exact h.lb.len, ?_, ?_⟩
    · intro j y bs hy hbs
      by_cases hij : i = j
      · subst hij
        rw [List.getElem?_set_self hil] at hy
        rw [List.getElem?_set_self (by rw [h.lb.len]; exact hil)] at hbs
        obtain rfl := Option.some.inj hy
        obtain rfl := Option.some.inj hbs
        exact hn'
      · rw [List.getElem?_set_ne hij] at hy hbs
        have ho := h.lb.own j y bs hy hbs
        refine ho.same (fun b e => key b (ho.lt b e).2 (fun e2 => hij (h.lb.ap i j u y b hu hy e2 e)) (fun q => h.u5 g5 rfl ⟨j, y, hy, by rw [e, q]⟩))
    · intro j k y z b hy hz ey ez
      have := h.lb.set (w' := w2) hu hn hb (fun q hq hne => k2 q hq (fun e => hne e.symm))
      exact this.ap j k y z b hy hz ey ez
  have nin : ∀ b, InB (us.set i u') b → b < w.heap.size → InB us b := fun b hi2 hlt => by
    rcases inB_set hi2 with q | ⟨j, y, -, q1, q2⟩
    · rcases hb with r | ⟨g', r, hr⟩
      · exact ⟨i, u, hu, r.symm.trans q⟩
      · have := Option.some.inj (r.symm.trans q); omega
    · exact ⟨j, y, q1, q2⟩
  refine ⟨lset, by rw [List.length_set]; exact h.ul, ?_, ?_, ?_, ?_, ?_, ?_, ?_⟩
  · refine ⟨hg.os.trans h.fr.os, hg.tape.trans h.fr.tape, hg.output.trans h.fr.output, by rw [World.size_setCell]; omega, fun q hq hnv => ?_⟩
    by_cases hqu : u.ownBlock = some q
    · exfalso
      rcases h.uv q ⟨i, u, hu, hqu⟩ with r | r
      · exact hnv r
      · omega
    · exact (key q (by omega) hqu (by omega)).trans (h.fr.far q hq hnv)
  · have := own_put (i := i) (y := u') (own_same h.m5 (w := w2) (fun b e => by obtain rfl := Option.some.inj e; exact k2 g5 l5.2 hu5))
    exact this
  · intro b hi2
    rcases inB_set hi2 with q | ⟨j, y, -, q1, q2⟩
    · rcases hb with r | ⟨g', r, hr⟩
      · exact h.uv b ⟨i, u, hu, r.symm.trans q⟩
      · have := Option.some.inj (r.symm.trans q); exact .inr (by omega)
    · exact h.uv b ⟨j, y, q1, q2⟩
  · intro j v m hv hm
    obtain ⟨a, n0, c, rfl, hml, hnm, ho⟩ := h.old j v m hv hm
    refine ⟨a, n0, c, rfl, hml, hnm, fun hp => ?_⟩
    obtain ⟨g, rfl, hgl, hcell⟩ := ho hp
    have hgW := hI g ⟨j, _, hv, rfl⟩
    refine ⟨g, rfl, by rw [World.size_setCell]; omega, fun k b hbk => ?_⟩
    have hne : g ≠ g5 := by omega
    rw [World.cell?_of_block (a := ⟨g, k, none⟩) (ks g hne)]
    by_cases hqu : u.ownBlock = some g
    · have hij : j = i := by
        obtain ⟨y, hy⟩ : ∃ y, us[j]? = some y := ⟨_, List.getElem?_eq_getElem (by rw [h.ul]; exact (List.getElem?_eq_some_iff.1 hv).1)⟩
        rcases h.rel j _ y g hv hy rfl with r | r
        · exact h.lb.ap j i y u g hy hu r hqu
        · exact (r ⟨i, u, hu, hqu⟩).elim
      subst hij
      obtain ⟨nk, hk0⟩ := id hk
      obtain ⟨h1, ⟨rfl, -⟩ | ⟨g', c', cur, rfl, -⟩⟩ := id hk0
      · cases hqu
      · obtain rfl : g' = g := by simpa [Value.ownBlock] using hqu
        obtain ⟨r, hr⟩ := h.pre j m ct hm hc
        exact (rc_cell hk (by rw [← hr, List.getElem?_append_left (List.getElem?_eq_some_iff.1 hbk).1]; exact hbk)).1
    · rw [World.cell?_of_block (a := ⟨g, k, none⟩) (k2 g hgl hqu)]
      exact hcell k b hbk
  · intro j m c hm hc2
    by_cases hij : i = j
    · subst hij
      rw [List.getElem?_set_self (by rw [h.lb.len]; exact hil)] at hc2
      obtain rfl := Option.some.inj hc2
      exact (h.pre i m ct hm hc).trans (List.prefix_append _ _)
    · rw [List.getElem?_set_ne hij] at hc2
      exact h.pre j m c hm hc2
  · intro j v y b hv hy e
    have hbW := hI b ⟨j, v, hv, e⟩
    by_cases hij : i = j
    · subst hij
      rw [List.getElem?_set_self hil] at hy
      obtain rfl := Option.some.inj hy
      rcases h.rel i v u b hv hu e with r | r
      · rcases hb with q | ⟨g', q, hq⟩
        · exact .inl (q.trans r)
        · refine .inr (fun hi2 => ?_)
          rcases inB_set hi2 with z | ⟨k, z, hk1, hk2, hk3⟩
          · have := Option.some.inj (q.symm.trans z); omega
          · exact hk1 (h.lb.ap k i z u b hk2 hu hk3 r)
      · exact .inr (fun hi2 => r (nin b hi2 (by omega)))
    · rw [List.getElem?_set_ne hij] at hy
      rcases h.rel j v y b hv hy e with r | r
      · exact .inl r
      · exact .inr (fun hi2 => r (nin b hi2 (by omega)))
  · intro b e hi2
    obtain rfl := Option.some.inj e
    exact h.u5 _ rfl (nin _ hi2 l5.2)
end Go.Proofs.YtobomdokdajbaaaDoor

namespace Go.Proofs.YtobomdokdajbaaaDoor
open Go.RowKit

/-- What a right record is, whatever its number. -/
theorem fk_parts {nb kd x : Int} {t : ByteArray} {li : List Ri} (h : fkR (.mk nb kd x t li) = 0) : nb.toNat ≤ 536870911 ∧ kd.toNat ≤ 5 ∧ fkL li = 0 := by
  rw [fkR] at h
  by_cases hA : nb < 1 ∨ 536870911 < nb
  · rw [if_pos hA] at h; cases h
  · rw [if_neg hA] at h
    by_cases hK : kd < 0 ∨ 5 < kd
    · rw [if_pos hK] at h; cases h
    · rw [if_neg hK] at h
      by_cases h4 : kd = 4
      · rw [if_pos h4] at h; cases h
      · rw [if_neg h4] at h
        by_cases hR : rightK kd.toNat x t li.length = true
        · rw [if_pos hR] at h
          exact ⟨by omega, by omega, h⟩
        · rw [if_neg hR] at h; cases h
mutual
theorem encR_bl : ∀ r : Ri, fkR r = 0 → blR r ≤ 1048576 → (encR (toT r)).length ≤ 20 * blR r
  | .mk nb kd x t li => fun h hb => by
    obtain ⟨h1, h2, h3⟩ := fk_parts h
    rw [blR] at hb ⊢
    have h4 := encL_bl li h3 (by omega)
    have hv : (vN (8 * nb.toNat + kd.toNat)).length ≤ 5 := tag_five (by omega)
    rw [toT, encR, List.length_append]
    have hb2 : (bodyN nb.toNat kd.toNat x t (encL (toTL li))).length ≤ 15 + t.size + 20 * blL li := by
      unfold bodyN
      split
      · have := (vN_len (un_lt x)).2; omega
      · split
        · rw [fN_len]; omega
        · split
          · rw [List.length_append, tN_len]
            have := (vN_len (u := t.size) (by omega)).2
            omega
          · split
            · rw [List.length_append]
              have : (vN (8 * nb.toNat + 4)).length ≤ 5 := tag_five (by omega)
              omega
            · rw [fN_len]; omega
    omega
theorem encL_bl : ∀ rs : List Ri, fkL rs = 0 → blL rs ≤ 1048576 → (encL (toTL rs)).length ≤ 20 * blL rs
  | [] => fun _ _ => by simp [toTL, encL]
  | r :: rs => fun h hb => by
    rw [fkL] at h
    by_cases hz : fkR r = 0
    · rw [if_pos hz] at h
      rw [blL] at hb ⊢
      have h1 := encR_bl r hz (by omega)
      have h2 := encL_bl rs h (by omega)
      rw [toTL, encL, List.length_append]
      omega
    · rw [if_neg hz] at h; exact absurd h hz
end
mutual
/-- Records that were read, as such that came in. -/
def ofT : Rt → Ri
  | .mk nb kd x t li => .mk (nb : Int) (kd : Int) x t (ofTL li)
def ofTL : List Rt → List Ri
  | [] => []
  | t :: ts => ofT t :: ofTL ts
end
theorem ofTL_len : ∀ ts, (ofTL ts).length = ts.length
  | [] => rfl
  | t :: ts => by show (ofTL ts).length + 1 = _; rw [ofTL_len ts]; rfl
theorem ofTL_get : ∀ (ts : List Rt) (i : Nat) (r : Ri), (ofTL ts)[i]? = some r → ∃ t, ts[i]? = some t ∧ r = ofT t
  | [], i, r, h => by simp [ofTL] at h
  | t :: ts, 0, r, h => ⟨t, rfl, by simp [ofTL] at h; exact h.symm⟩
  | t :: ts, i + 1, r, h => by
    have h' : (ofTL ts)[i]? = some r := h
    obtain ⟨q, h1, h2⟩ := ofTL_get ts i r h'
    exact ⟨q, h1, h2⟩
theorem HasRt.ri {W : World} {P : Nat → Prop} {v : Value} {ts : List Rt} (h : HasRt W P v ts) : WfL ts → HasRi W v (ofTL ts) := by
  induction h with
  | nil a c => intro _; exact .nil a c
  | row g n c ts us hp hn hm hg hc hi ih =>
    intro hw
    refine .row g 0 n c (ofTL ts) us (by rw [ofTL_len]; exact hn) hm hg (fun i nb kd x t li hr => ?_) (fun i r hr j x hx => ?_) (fun i r hr => ?_)
    · obtain ⟨⟨nb', kd', x', t', li'⟩, ht, e⟩ := ofTL_get ts i _ hr
      rw [ofT] at e
      obtain ⟨rfl, rfl, rfl, rfl, rfl⟩ := Ri.mk.inj e
      obtain ⟨hT, -⟩ := hw.at' ht
      have := hT.rg.num
      have := hT.rg.kind
      exact ⟨⟨by omega, by omega⟩, ⟨by omega, by omega⟩, hT.int⟩
    · obtain ⟨⟨nb', kd', x', t', li'⟩, ht, rfl⟩ := ofTL_get ts i _ hr
      rw [Nat.zero_add]
      exact hc i _ ht j x (by rw [ofT] at hx; exact hx)
    · obtain ⟨⟨nb', kd', x', t', li'⟩, ht, rfl⟩ := ofTL_get ts i _ hr
      have := ih i _ ht (hw.at' ht).2
      rw [ofT]
      exact this
/-- There is no more of the records than of their bytes. -/
theorem bl_enc : ∀ (N : Nat) (ts : List Rt), SizeOf.sizeOf ts ≤ N → WfL ts → (encL ts).length ≤ 1048576 → blL (ofTL ts) ≤ (encL ts).length := by
  intro N
  induction N with
  | zero =>
    intro ts hN
    cases ts with
    | nil => simp at hN
    | cons a b => simp at hN
  | succ N ih =>
    intro ts hN hw hl
    cases ts with
    | nil => exact Nat.le_refl _
    | cons r ts =>
      obtain ⟨nb, kd, x, t, li⟩ := r
      have hN1 : SizeOf.sizeOf li ≤ N := by simp at hN; omega
      have hN2 : SizeOf.sizeOf ts ≤ N := by simp at hN; omega
      obtain ⟨hT, hLi⟩ := hw.at' (i := 0) rfl
      rw [encL, encR, List.length_append, List.length_append] at hl ⊢
      have h2 := ih ts hN2 hw.tail (by omega)
      have hnum := hT.rg.num
      have hkk := hT.rg.kind
      have hv : 1 ≤ (vN (8 * nb + kd)).length := (vN_len (by omega)).1
      rw [ofTL, ofT, blL, blR]
      have hb : t.size + blL (ofTL li) ≤ (bodyN nb kd x t (encL li)).length := by
        by_cases k3 : kd = 3
        · subst k3
          have e : bodyN nb 3 x t (encL li) = encL li ++ vN (8 * nb + 4) := rfl
          rw [e, List.length_append] at hl ⊢
          have h1 := ih li hN1 hLi (by omega)
          have ht := hT.rg.text (by omega)
          subst ht
          have : (ByteArray.mk #[]).size = 0 := rfl
          omega
        · have hl0 := hT.rg.inner k3
          subst hl0
          have e0 : blL (ofTL []) = 0 := rfl
          rw [e0]
          by_cases k2 : kd = 2
          · subst k2
            have e : bodyN nb 2 x t (encL []) = vN t.size ++ tN t := rfl
            rw [e, List.length_append, tN_len]
            omega
          · have ht := hT.rg.text k2
            subst ht
            have : (ByteArray.mk #[]).size = 0 := rfl
            omega
      omega
theorem flat_cnt : ∀ (Ls : List (List Value)) (ts : List Rt), Ls.length = ts.length → (∀ (i : Nat) (L : List Value) (t : Rt), Ls[i]? = some L → ts[i]? = some t → L.length = cntL t.inner + 1) → Ls.flatten.length = cntL ts
  | [], [], _, _ => rfl
  | [], t :: ts, h, _ => by simp at h
  | L :: Ls, [], h, _ => by simp at h
  | L :: Ls, t :: ts, h, hi => by
    have h1 := hi 0 L t rfl rfl
    have h2 := flat_cnt Ls ts (by simpa using h) (fun i M u hM hu => hi (i + 1) M u (by simpa using hM) (by simpa using hu))
    obtain ⟨nb, kd, x, s, li⟩ := t
    rw [List.flatten_cons, List.length_append, h1, h2, cntL, cntR]
    show cntL li + 1 + cntL ts = _
    omega
theorem cnt_mem : ∀ {ts : List Rt} {i : Nat} {t : Rt}, ts[i]? = some t → cntL t.inner ≤ cntL ts
  | [], i, t, h => by simp at h
  | .mk nb kd x s li :: ts, 0, t, h => by
    obtain rfl : Rt.mk nb kd x s li = t := by simpa using h
    rw [cntL, cntR]
    show cntL li ≤ _
    omega
  | r :: ts, i + 1, t, h => by
    have := cnt_mem (ts := ts) (i := i) (t := t) (by simpa using h)
    rw [cntL]
    omega
theorem cnt_len : ∀ ts : List Rt, ts.length ≤ cntL ts
  | [] => Nat.le_refl _
  | .mk nb kd x s li :: ts => by
    have := cnt_len ts
    rw [cntL, cntR, List.length_cons]
    omega
/-- The lists, how many, how long. -/
theorem HasRo.fl2 {W : World} {B : Nat} {v : Value} {ts : List Rt} {bl : List Nat} (h : HasRo W B v ts bl) : ∃ L, FlV W B v L ∧ L.flatMap (fun u => u.ownBlock.toList) = bl ∧ L.length = cntL ts + 1 ∧ ∀ u ∈ L, ∃ xs, Rc B W u xs ∧ xs.length ≤ 5 * cntL ts := by
  induction h with
  | @row v ts us bls hl hb h hi ih =>
    obtain ⟨Ls, h1, h2⟩ := list_choose (P := fun i (L : List Value) => ∀ (t : Rt) (u : Value) (bl : List Nat), ts[i]? = some t → us[i]? = some u → bls[i]? = some bl → FlV W B u L ∧ L.flatMap (fun u => u.ownBlock.toList) = bl ∧ L.length = cntL t.inner + 1 ∧ ∀ u ∈ L, ∃ xs, Rc B W u xs ∧ xs.length ≤ 5 * cntL t.inner) us.length (fun i hi2 => by
      obtain ⟨L, q⟩ := ih i _ _ _ (List.getElem?_eq_getElem (by omega)) (List.getElem?_eq_getElem hi2) (List.getElem?_eq_getElem (by omega))
      refine ⟨L, fun t u bl ht hu hbl => ?_⟩
      obtain rfl := Option.some.inj ((List.getElem?_eq_getElem hi2).symm.trans hu)
      obtain rfl := Option.some.inj ((List.getElem?_eq_getElem (by omega)).symm.trans hbl)
      obtain rfl := Option.some.inj ((List.getElem?_eq_getElem (by omega)).symm.trans ht)
      exact q)
    have key : ∀ (i : Nat) (L : List Value), Ls[i]? = some L → ∀ (t : Rt) (u : Value) (bl : List Nat), ts[i]? = some t → us[i]? = some u → bls[i]? = some bl → FlV W B u L ∧ L.flatMap (fun u => u.ownBlock.toList) = bl ∧ L.length = cntL t.inner + 1 ∧ ∀ u ∈ L, ∃ xs, Rc B W u xs ∧ xs.length ≤ 5 * cntL t.inner := fun i L hL t u bl ht hu hbl => h2 i L hL t u bl ht hu hbl
    have key2 : ∀ (i : Nat) (L : List Value), Ls[i]? = some L → ∃ t u bl, ts[i]? = some t ∧ us[i]? = some u ∧ bls[i]? = some bl := fun i L hL => by
      have := (List.getElem?_eq_some_iff.1 hL).1
      exact ⟨_, _, _, List.getElem?_eq_getElem (by omega), List.getElem?_eq_getElem (by omega), List.getElem?_eq_getElem (by omega)⟩
    refine ⟨v :: Ls.flatten, FlV.row hl h1.symm h (fun i u L hu hL => ?_), ?_, ?_, fun u hu => ?_⟩
    · obtain ⟨t, u', bl, q1, q2, q3⟩ := key2 i L hL
      exact (key i L hL t u bl q1 hu q3).1
    · rw [List.flatMap_cons, flat_len_eq _ Ls bls (by omega) (fun i L bl hL hbl => ?_)]
      obtain ⟨t, u', bl', q1, q2, q3⟩ := key2 i L hL
      exact (key i L hL t u' bl q1 q2 hbl).2.1
    · rw [List.length_cons, flat_cnt Ls ts (by omega) (fun i L t hL ht => ?_)]
      obtain ⟨t', u', bl', q1, q2, q3⟩ := key2 i L hL
      exact (key i L hL t u' bl' ht q2 q3).2.2.1
    · rcases List.mem_cons.1 hu with rfl | hu
      · refine ⟨_, ⟨_, h⟩, ?_⟩
        have e : (rowC ts us).length = ts.length * 5 := h.1
        have := cnt_len ts
        omega
      · obtain ⟨i, L, hL, hm⟩ := flat_mem hu
        obtain ⟨t', u', bl', q1, q2, q3⟩ := key2 i L hL
        obtain ⟨xs, r1, r2⟩ := (key i L hL t' u' bl' q1 q2 q3).2.2.2 u hm
        have := cnt_mem q1
        exact ⟨xs, r1, by omega⟩
end Go.Proofs.YtobomdokdajbaaaDoor

namespace Go.Proofs.YtobomdokdajbaaaDoor
open Go.RowKit
attribute [local go_sem ↓] Go.wp_at_zero Go.wp_at_succ

/-- What Split answers, whichever it is. -/
def prT : (List Rt × Nat) ⊕ (Nat × Nat) → Int × Int × List Rt
  | .inl (ts, _) => (0, 0, ts)
  | .inr (c, p) => ((p : Int), (c : Int), [])
theorem SpT.form {n : Nat} {e : Ending} {w : World} {r : (List Rt × Nat) ⊕ (Nat × Nat)} (h : SpT n e w r) : ∃ a m c, e = .returned (.tuple #[.slice a m c, .int .i64 (prT r).1, .int .i64 (prT r).2.1]) ∧ HasRt w (fun g => n ≤ g) (.slice a m c) (prT r).2.2 := by
  match r, h with
  | .inl (ts, _), ⟨a, l, c, h1, h2⟩ => exact ⟨a, l, c, h1, h2⟩
  | .inr (_, _), ⟨h1, _⟩ => exact ⟨none, 0, 0, h1, .nil _ _⟩
/-- What Split answers to bytes. -/
def prS (l : List Nat) (st : Bool) : Int × Int × List Rt := prT (runT (sOf l) st 63 ((sOf l).size + 1) (.inl (0, 0, [], [])))
theorem split_bytes {B : Nat} {w : World} {g n c : Nat} {l : List Nat} (st : Bool) (h : Bytes B w (.slice (some ⟨g, 0, none⟩) n c) (byB l)) (hl : ∀ x ∈ l, x < 256) (hn : l.length = n) (hm : n ≤ 1048576) :
    Calls Tryd.prog 14 #[.slice (some ⟨g, 0, none⟩) n c, .bool st] w fun e W' => (∃ a m c, e = .returned (.tuple #[.slice a m c, .int .i64 (prS l st).1, .int .i64 (prS l st).2.1]) ∧ HasRt W' (fun g => w.heap.size ≤ g) (.slice a m c) (prS l st).2.2) ∧ Below w.heap.size w W' := by
  subst hn
  exact (split_any (g := g) (off := 0) (c := c) (fun i b hb => by rw [Nat.zero_add]; exact (bytes_cell h hb).1) hl hm).mono fun _ _ ⟨h1, h2⟩ => ⟨h1.form, h2⟩
/-- Where written's loop stands. -/
structure WrL (W : World) (B g n c : Nat) (w : World) (l : List Nat) : Prop where
  len : l.length = n
  by_ : ∀ x ∈ l, x < 256
  row : Bytes B w (.slice (some ⟨g, 0, none⟩) n c) (byB l)
  fr : Fr W w (fun q => q = g)
theorem WrL.up {W : World} {B g n c : Nat} {w w' : World} {l : List Nat} (h : WrL W B g n c w l) (hb : Below w.heap.size w w') : WrL W B g n c w' l :=
  ⟨h.len, h.by_, own_same h.row (fun b e => hb.block b (h.row.lt b e).2), ⟨hb.os.trans h.fr.os, hb.tape.trans h.fr.tape, hb.output.trans h.fr.output, Nat.le_trans h.fr.size hb.size, fun q hq hn => (hb.block q (Nat.lt_of_lt_of_le hq h.fr.size)).trans (h.fr.far q hq hn)⟩⟩
theorem WrL.put {W : World} {B g n c : Nat} {w : World} {l : List Nat} (h : WrL W B g n c w l) (i : Nat) {x : Nat} (hx : x < 256) : WrL W B g n c (w.setCell ⟨g, i, none⟩ (.int .u8 (x : Int))) (l.set i x) := by
  refine ⟨by rw [List.length_set]; exact h.len, fun y hy => ?_, ?_, ⟨h.fr.os, h.fr.tape, h.fr.output, by rw [World.size_setCell]; exact h.fr.size, fun q hq hn => (heap_setCell_other w ⟨g, i, none⟩ q _ hn).trans (h.fr.far q hq hn)⟩⟩
  · rcases List.mem_or_eq_of_mem_set hy with q | q
    · exact h.by_ y q
    · omega
  · have := bytes_set h.row i (x : Int)
    have e : (byB l).set i (x : Int) = byB (l.set i x) := by simp [byB, List.map_set]
    rwa [e] at this
theorem empty_own (w : World) (B : Nat) (hB : B ≤ w.heap.size) : (w.alloc (.cells #[] 5)).ownsRow B 5 1 (.slice (some ⟨w.heap.size, 0, none⟩) 0 0) 0 [] :=
  ⟨rfl, .inr ⟨_, 0, #[], rfl, hB, heap_alloc_new _ _, Nat.le_refl _, Nat.zero_le _, rfl, rfl⟩⟩
theorem app_all {w w' : World} {v : Value} {n : Nat} {l : List Nat} (hl : l.length = n) (hown : w'.ownsRow w.heap.size 5 1 v (0 + n) ([] ++ (byB l).map fun b => .int .u8 b)) (hg : (w.alloc (.cells #[] 5)).grownBy w' (Value.slice (some ⟨w.heap.size, 0, none⟩) 0 0).ownBlock) (hne : v = .slice none 0 0 ↔ Value.slice (some ⟨w.heap.size, 0, none⟩) 0 0 = .slice none 0 0 ∧ n = 0) :
    ∃ g' c', v = .slice (some ⟨g', 0, none⟩) n c' ∧ Bytes w.heap.size w' (.slice (some ⟨g', 0, none⟩) n c') (byB l) ∧ Below w.heap.size w w' := by
  rw [Nat.zero_add, List.nil_append] at hown
  obtain ⟨h1, ⟨h2, -⟩ | ⟨g', c', cur, rfl, -⟩⟩ := id hown
  · obtain ⟨q, -⟩ := hne.1 h2
    cases q
  · refine ⟨g', c', rfl, ?_, ⟨hg.os, hg.tape, hg.output, by have := hg.size; rw [World.size_alloc] at this; omega, fun b hb => (hg.block b (by rw [World.size_alloc]; omega) (fun e => ?_)).trans (Below.heap_alloc w _ b hb)⟩⟩
    · unfold Bytes
      have e : (byB l).length = n := by simp [byB, hl]
      rw [e]
      exact hown
    · have := Option.some.inj e
      have e2 : b = w.heap.size := this
      omega
end Go.Proofs.YtobomdokdajbaaaDoor
