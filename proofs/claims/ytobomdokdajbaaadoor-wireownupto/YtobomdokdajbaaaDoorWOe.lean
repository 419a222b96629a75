import Derived.Test.YtobomdokdajbaaaDoorJ42
import Derived.Laws.AppendOwnNone
import Derived.Deep.DeepAppendRoom

namespace Go.Proofs.YtobomdokdajbaaaDoor
open Go.RowKit

theorem ownsRow_take {W : World} {bs e size g n m c : Nat} {xs news : List Value} (h : W.ownsRow bs e size (.slice (some ⟨g, 0, none⟩) (n + m) c) (n + m) (xs ++ news)) (hx : xs.length = n * size) : W.ownsRow bs e size (.slice (some ⟨g, 0, none⟩) n c) n xs := by
  refine ⟨hx, ?_⟩
  rcases h.2 with ⟨e, _⟩ | ⟨g', cap, cur, e, hb1, h2, h3, h4, h5, h6⟩
  · cases e
  · cases e
    refine .inr ⟨g, c, cur, rfl, hb1, h2, by omega, h4, h5, ?_⟩
    have := congrArg (List.take (n * size)) h6
    rw [List.take_take, Nat.min_eq_left (Nat.mul_le_mul_right _ (Nat.le_add_right n m)), ← hx, List.take_left] at this
    rw [← hx]
    exact this
section
variable {P : Program}
/-- append onto an own row that is kept beside: what came out; the old row as it was; its block written on with the new cells at most. -/
theorem run_append_keeps (w : World) (t ty : TypeId) (base : Nat) (e : TypeId) (i : TypeInfo) (z : Value) (size bytes : Nat) (ht : P.underlying t = some (.slice e)) (hi : P.info? e = some i) (hz : i.zero = some z)
    (hsize : i.size = size) (hby : i.bytes = bytes) (hzs : z.cells.size = size) (hsz : 0 < size)
    (v : Value) (n : Nat) (xs : List Value) (hown : w.ownsRow base e size v n xs)
    (ad : Addr) (m c : Nat) (news : List Value) (hl : news.length = m * size) (hnews : ∀ j u, news[j]? = some u → w.cell? (ad.add j) = some u) (h1 : ∀ u ∈ news, u.oneCell' = true)
    (hm : 0 < m) (h63 : n + m ≤ maxLen) (hbytes : (n + m) * bytes ≤ 140737488355328) (hbase : base ≤ w.heap.size) :
    ∃ g' c' w', (Builtin.append_ #[t, t] ty #[v, .slice (some ad) m c]).run P w = .ok (.slice (some ⟨g', 0, none⟩) (n + m) c') w' ∧ w'.ownsRow base e size (.slice (some ⟨g', 0, none⟩) (n + m) c') (n + m) (xs ++ news) ∧ w'.ownsRow base e size v n xs ∧ w.grownBy w' v.ownBlock ∧
      (v.ownBlock = some g' ∨ w.heap.size ≤ g') ∧ ∀ g j, v.ownBlock = some g → w'.cell? ⟨g, j, none⟩ = w.cell? ⟨g, j, none⟩ ∨ ∃ u, (xs ++ news)[j]? = some u ∧ w'.cell? ⟨g, j, none⟩ = some u := by
  have hlen : xs.length = n * size := hown.1
  rcases id hown.2 with ⟨rfl, rfl⟩ | ⟨g, cap, cur, rfl, hbg, hg, hnc, hcm, hcs, htake⟩
  · obtain ⟨v', w', hr, ho, hgr, _⟩ := run_append_own (P := P) w base t ty e i z size bytes ht hi hz hsize hby hzs hsz (.slice none 0 0) 0 xs hown ad m c news hl hnews h1 h63 hbytes hbase
    have hgr' : w.grownBy w' none := hgr
    rcases id ho.2 with ⟨_, h0⟩ | ⟨g', c', _, rfl, hb', _⟩
    · omega
    · obtain rfl : xs = [] := List.eq_nil_of_length_eq_zero (by simpa using hlen)
      refine ⟨g', c', w', hr, ho, World.ownsRow_nil _ _ _ _, hgr, ?_, fun g j e => by cases e⟩
      by_cases h : w.heap.size ≤ g'
      · exact .inr h
      · exfalso
        obtain ⟨v2, w2, hr2, ho2, hgr2, _⟩ := run_append_own (P := P) w w.heap.size t ty e i z size bytes ht hi hz hsize hby hzs hsz (.slice none 0 0) 0 [] (World.ownsRow_nil w _ e size) ad m c news hl hnews h1 h63 hbytes (Nat.le_refl _)
        rw [hr] at hr2
        simp only [Result.ok.injEq] at hr2
        obtain ⟨rfl, rfl⟩ := hr2
        exact h (ho2.lt g' rfl).1
  · by_cases hroom : n + m ≤ cap
    · obtain ⟨w', hr, ho, hgr⟩ := run_append_own_spare (P := P) w base t ty e i size ht hi hsize g n cap xs hown ad m c news hl hnews h1 hroom
      have hin : ∀ j, j < news.length → (w.cell? ⟨g, 0 + n * i.size + j, none⟩).isSome = true := fun j hj => by
        rw [cell_of_row _ _ _ _ _ _ hg]
        have : n * size + news.length ≤ cur.size := by rw [hl, hcs, ← Nat.add_mul]; exact Nat.mul_le_mul_right _ hroom
        rw [hsize, Array.getElem?_eq_getElem (by omega)]
        rfl
      have hr2 := run_append_room_cells (P := P) w t ty e i ht hi g 0 n cap ad m c news (by rw [hsize]; exact hl) hnews h1 hroom hin (fun j _ => World.ownsRow.frozenAt hown _)
      rw [hr] at hr2
      simp only [Result.ok.injEq, true_and] at hr2
      refine ⟨g, cap, w', hr, ho, ownsRow_take ho hlen, hgr, .inl rfl, fun g1 j e => ?_⟩
      obtain rfl : g = g1 := by simpa [Value.ownBlock] using e
      by_cases hj : j < (n + m) * size
      · refine .inr ?_
        have hlx : (xs ++ news).length = (n + m) * size := ho.1
        refine ⟨(xs ++ news)[j]'(by omega), List.getElem?_eq_getElem _, ?_⟩
        rw [World.ownsRow.cellAt ho j hj, List.getElem?_eq_getElem]
      · refine .inl ?_
        rw [hr2]
        refine World.cell?_setCells_out _ _ _ _ _ fun _ _ => .inr ?_
        rw [hsize, hl, Nat.zero_add, ← Nat.add_mul]
        show (n + m) * size ≤ j
        omega
    · obtain ⟨v', w', hr, ho, hgr⟩ := run_append_arg_grows (P := P) w t ty e i z size bytes ht hi hz hsize hby hzs hsz ⟨g, 0, none⟩ n cap xs hlen (hown.cells (g := g) rfl) ad m c news hl hnews (by omega) h63 hbytes
      rcases id ho.2 with ⟨_, h0⟩ | ⟨g', c', _, rfl, hb', _⟩
      · omega
      · refine ⟨g', c', w', hr, own_lower ho hbase, World.ownsRow.kept hown hgr (.inr (by simp [Value.ownBlock])), ⟨hgr.os, hgr.tape, hgr.output, hgr.size, fun k hk _ => hgr.block k hk (by simp)⟩, .inr hb', fun g1 j e => .inl ?_⟩
        obtain rfl : g = g1 := by simpa [Value.ownBlock] using e
        exact World.cell?_of_block (hgr.block g (hown.lt g rfl).2 (by simp))
theorem step_append_keeps {w : World} {ops : Array Oper} {o : Oper} {a : Act} {K : Act → World → Prop} {Q : Exit → Act → World → Prop} {E : Prop} (x0 : Tmp) (hx0 : o.dst = some x0) (hgd : o.guard = none) (s x : Operand) (t : TypeId)
    (ho : o.op = .call { callee := .builtin .append, args := #[s, x], argTypes := #[t, t] })
    (base : Nat) (e : TypeId) (i : TypeInfo) (z : Value) (size bytes : Nat) (ht : P.underlying t = some (.slice e)) (hi : P.info? e = some i) (hz : i.zero = some z)
    (hsize : i.size = size) (hby : i.bytes = bytes) (hzs : z.cells.size = size) (hsz : 0 < size)
    (v : Value) (n : Nat) (xs : List Value) (hs : a.eval s = v) (hown : w.ownsRow base e size v n xs)
    (ad : Addr) (m c : Nat) (news : List Value) (hx : a.eval x = .slice (some ad) m c) (hl : news.length = m * size) (hnews : ∀ j u, news[j]? = some u → w.cell? (ad.add j) = some u) (h1 : ∀ u ∈ news, u.oneCell' = true)
    (hm : 0 < m) (h63 : n + m ≤ maxLen) (hbytes : (n + m) * bytes ≤ 140737488355328) (hbase : base ≤ w.heap.size)
    (h : ∀ g' c' w', w'.ownsRow base e size (.slice (some ⟨g', 0, none⟩) (n + m) c') (n + m) (xs ++ news) → w'.ownsRow base e size v n xs → w.grownBy w' v.ownBlock → (v.ownBlock = some g' ∨ w.heap.size ≤ g') → K (a.put (some x0) (.slice (some ⟨g', 0, none⟩) (n + m) c')) w') :
    if Region.wanted o (yielded ops a.tmps) = true then Oper.wp P o a w K Q else E := by
  rw [← hx0] at h
  have hw : Region.wanted o (yielded ops a.tmps) = true := by simp [Region.wanted, hgd]
  rw [if_pos hw]
  obtain ⟨g', c', w', hr, h2, h3, h4, h5, -⟩ := run_append_keeps (P := P) w t o.type base e i z size bytes ht hi hz hsize hby hzs hsz v n xs hown ad m c news hl hnews h1 hm h63 hbytes hbase
  unfold Oper.wp execOp
  simp only [ho, resolve, invoke, builtin, Sem.run_bind, Sem.run_pure, Result.andThen_ok, List.map_toArray, List.map_cons, List.map_nil, hs, hx, hr]
  exact h g' c' w' h2 h3 h4 h5
end
/-- A list that can be read from its block's beginning on. -/
def OldB (w : World) (v : Value) (m : List Int) : Prop := ∃ a c, v = .slice a m.length c ∧ m.length ≤ maxLen ∧ (0 < m.length → ∃ g, a = some ⟨g, 0, none⟩ ∧ g < w.heap.size ∧ ∀ (k : Nat) (b : Int), m[k]? = some b → w.cell? ⟨g, k, none⟩ = some (.int .u8 b))
theorem Bytes.old {B : Nat} {w : World} {v : Value} {m : List Int} (h : Bytes B w v m) : OldB w v m := by
  obtain ⟨h1, ⟨rfl, h2⟩ | ⟨g, c, cur, rfl, h2, h3, h4, h5, h6⟩⟩ := id h
  · exact ⟨none, 0, by rw [h2], by rw [h2]; exact Nat.zero_le _, fun hp => by omega⟩
  · exact ⟨_, c, rfl, Nat.le_trans h4 h5, fun _ => ⟨g, rfl, (h.lt g rfl).2, fun k b hb => (bytes_cell h hb).1⟩⟩
/-- The longer lists, the lists as they were, and what is put behind them. -/
structure G3 (W : World) (B : Nat) (vs : List Value) (ms : List (List Int)) (w : World) (v5 v6 : Value) (us : List Value) (cs : List (List Int)) (ts : List Value) : Prop where
  lb : Lb B w us cs
  ul : us.length = vs.length
  fr : Fr W w (InB vs)
  m5 : w.ownsRow W.heap.size 24 1 v5 vs.length us
  m6 : w.ownsRow W.heap.size 24 1 v6 vs.length ts
  tl : Lb W.heap.size w ts ((List.range vs.length).map tlB)
  uv : ∀ b, InB us b → InB vs b ∨ W.heap.size ≤ b
  old : ∀ (j : Nat) (v : Value) (m : List Int), vs[j]? = some v → ms[j]? = some m → OldB w v m
  pre : ∀ (j : Nat) (m c : List Int), ms[j]? = some m → cs[j]? = some c → m <+: c
  rel : ∀ (j : Nat) (v u : Value) (b : Nat), vs[j]? = some v → us[j]? = some u → v.ownBlock = some b → u.ownBlock = some b ∨ ¬ InB us b
  a56 : ∀ b, v5.ownBlock = some b → v6.ownBlock ≠ some b
  a5 : ∀ b, v5.ownBlock = some b → ¬ InB ts b
  a6 : ∀ b, v6.ownBlock = some b → ¬ InB ts b
  u5 : ∀ b, v5.ownBlock = some b → ¬ InB us b
  u6 : ∀ b, v6.ownBlock = some b → ¬ InB us b
  ut : ∀ b, InB us b → ¬ InB ts b
theorem inB_set {us : List Value} {i : Nat} {u' : Value} {g : Nat} (h : InB (us.set i u') g) : u'.ownBlock = some g ∨ ∃ (j : Nat) (x : Value), j ≠ i ∧ us[j]? = some x ∧ x.ownBlock = some g := by
  obtain ⟨j, x, hx, e⟩ := h
  by_cases hij : i = j
  · subst hij
    have hlt := (List.getElem?_eq_some_iff.1 hx).1
    rw [List.length_set] at hlt
    rw [List.getElem?_set_self hlt] at hx
    obtain rfl := Option.some.inj hx
    exact .inl e
  · rw [List.getElem?_set_ne hij] at hx
    exact .inr ⟨j, x, fun h => hij h.symm, hx, e⟩
theorem own_put {W : World} {bs e n i g c : Nat} {xs : List Value} {y : Value} (h : W.ownsRow bs e 1 (.slice (some ⟨g, 0, none⟩) n c) n xs) : (W.setCell ⟨g, i, none⟩ y).ownsRow bs e 1 (.slice (some ⟨g, 0, none⟩) n c) n (xs.set i y) := (World.ownsRow.stored h i y).1
/-- One more behind one of them. -/
theorem G3.step {W : World} {B : Nat} {vs : List Value} {ms : List (List Int)} {w w2 : World} {v6 u u' : Value} {us ts : List Value} {cs : List (List Int)} {o1 : Obj} {i g5 c5 : Nat} {ct : List Int} {x : Int} (h : G3 W B vs ms w (.slice (some ⟨g5, 0, none⟩) vs.length c5) v6 us cs ts) (hI : ∀ g, InB vs g → g < W.heap.size)
    (hu : us[i]? = some u) (hc : cs[i]? = some ct) (hg : (w.alloc o1).grownBy w2 u.ownBlock) (hn : Bytes B w2 u' (ct ++ [x])) (hk : Bytes B w2 u ct) (hb : u'.ownBlock = u.ownBlock ∨ ∃ g', u'.ownBlock = some g' ∧ (w.alloc o1).heap.size ≤ g') :
    G3 W B vs ms (w2.setCell ⟨g5, i, none⟩ u') (.slice (some ⟨g5, 0, none⟩) vs.length c5) v6 (us.set i u') (cs.set i (ct ++ [x])) ts := by
  have hil := (List.getElem?_eq_some_iff.1 hu).1
  have s0 := h.fr.size
  have s1 := hg.size
  rw [World.size_alloc] at s1
  have hb : u'.ownBlock = u.ownBlock ∨ ∃ g', u'.ownBlock = some g' ∧ w.heap.size ≤ g' := hb.imp id (fun ⟨g', q1, q2⟩ => ⟨g', q1, by rw [World.size_alloc] at q2; omega⟩)
  have l5 := h.m5.lt g5 rfl
  have k2 : ∀ g, g < w.heap.size → u.ownBlock ≠ some g → w2.heap[g]? = w.heap[g]? := fun g hg1 hn1 => (hg.block g (by rw [World.size_alloc]; omega) (fun e => hn1 e.symm)).trans (Below.heap_alloc w o1 g hg1)
  have ks : ∀ g, g ≠ g5 → (w2.setCell ⟨g5, i, none⟩ u').heap[g]? = w2.heap[g]? := fun g hne => heap_setCell_other w2 ⟨g5, i, none⟩ g u' hne
  have key : ∀ g, g < w.heap.size → u.ownBlock ≠ some g → g ≠ g5 → (w2.setCell ⟨g5, i, none⟩ u').heap[g]? = w.heap[g]? := fun g hg1 h1 h2 => (ks g h2).trans (k2 g hg1 h1)
  have hu5 : u.ownBlock ≠ some g5 := fun e => h.u5 g5 rfl ⟨i, u, hu, e⟩
  have hu5' : u'.ownBlock ≠ some g5 := fun e => by
    rcases hb with q | ⟨g', q, hq⟩
    · exact hu5 (q.symm.trans e)
    · have := Option.some.inj (q.symm.trans e); omega
  have lset : Lb B (w2.setCell ⟨g5, i, none⟩ u') (us.set i u') (cs.set i (ct ++ [x])) := by
    have hn' : Bytes B (w2.setCell ⟨g5, i, none⟩ u') u' (ct ++ [x]) := own_same hn (fun b e => ks b (fun q => hu5' (by rw [← q]; exact e)))
    refine ⟨by rw [List.length_set, List.length_set]; exact h.lb.len, ?_, ?_⟩
    · intro j y bs hy hbs
      by_cases hij : i = j
      · subst hij
        rw [List.getElem?_set_self hil] at hy
        rw [List.getElem?_set_self (by rw [h.lb.len]; exact hil)] at hbs
        obtain rfl := Option.some.inj hy
        obtain rfl := Option.some.inj hbs
        exact hn'
      · rw [List.getElem?_set_ne hij] at hy hbs
        have ho := h.lb.own j y bs hy hbs
        refine ho.same (fun b e => key b (ho.lt b e).2 (fun e2 => hij (h.lb.ap i j u y b hu hy e2 e)) (fun q => h.u5 g5 rfl ⟨j, y, hy, by rw [e, q]⟩))
    · intro j k y z b hy hz ey ez
      have := h.lb.set (w' := w2) hu hn hb (fun q hq hne => k2 q hq (fun e => hne e.symm))
      exact this.ap j k y z b hy hz ey ez
  have nin : ∀ b, InB (us.set i u') b → b < w.heap.size → InB us b := fun b hi2 hlt => by
    rcases inB_set hi2 with q | ⟨j, y, -, q1, q2⟩
    · rcases hb with r | ⟨g', r, hr⟩
      · exact ⟨i, u, hu, r.symm.trans q⟩
      · have := Option.some.inj (r.symm.trans q); omega
    · exact ⟨j, y, q1, q2⟩
  refine ⟨lset, by rw [List.length_set]; exact h.ul, ?_, ?_, ?_, ?_, ?_, ?_, ?_, ?_, h.a56, h.a5, h.a6, ?_, ?_, ?_⟩
  · refine ⟨hg.os.trans h.fr.os, hg.tape.trans h.fr.tape, hg.output.trans h.fr.output, by rw [World.size_setCell]; omega, fun q hq hnv => ?_⟩
    by_cases hqu : u.ownBlock = some q
    · exfalso
      rcases h.uv q ⟨i, u, hu, hqu⟩ with r | r
      · exact hnv r
      · omega
    · exact (key q (by omega) hqu (by omega)).trans (h.fr.far q hq hnv)
  · have := own_put (i := i) (y := u') (own_same h.m5 (w := w2) (fun b e => by obtain rfl := Option.some.inj e; exact k2 g5 l5.2 hu5))
    exact this
  · exact own_same h.m6 (fun b e => key b (h.m6.lt b e).2 (fun e2 => h.u6 b e ⟨i, u, hu, e2⟩) (fun q => h.a56 g5 rfl (by rw [e, q])))
  · exact h.tl.keep (fun g hg1 hi1 => key g hg1 (fun e => h.ut g ⟨i, u, hu, e⟩ hi1) (fun q => h.a5 g5 rfl (by rw [← q]; exact hi1)))
  · intro b hi2
    rcases inB_set hi2 with q | ⟨j, y, -, q1, q2⟩
    · rcases hb with r | ⟨g', r, hr⟩
      · exact h.uv b ⟨i, u, hu, r.symm.trans q⟩
      · have := Option.some.inj (r.symm.trans q); exact .inr (by omega)
    · exact h.uv b ⟨j, y, q1, q2⟩
  · intro j v m hv hm
    obtain ⟨a, c, rfl, hml, ho⟩ := h.old j v m hv hm
    refine ⟨a, c, rfl, hml, fun hp => ?_⟩
    obtain ⟨g, rfl, hgl, hcell⟩ := ho hp
    have hgW := hI g ⟨j, _, hv, rfl⟩
    refine ⟨g, rfl, by rw [World.size_setCell]; omega, fun k b hbk => ?_⟩
    have hne : g ≠ g5 := by omega
    rw [World.cell?_of_block (a := ⟨g, k, none⟩) (ks g hne)]
    by_cases hqu : u.ownBlock = some g
    · have hij : j = i := by
        obtain ⟨y, hy⟩ : ∃ y, us[j]? = some y := ⟨_, List.getElem?_eq_getElem (by rw [h.ul]; exact (List.getElem?_eq_some_iff.1 hv).1)⟩
        rcases h.rel j _ y g hv hy rfl with r | r
        · exact h.lb.ap j i y u g hy hu r hqu
        · exact (r ⟨i, u, hu, hqu⟩).elim
      subst hij
      obtain ⟨h1, ⟨rfl, -⟩ | ⟨g', c', cur, rfl, -⟩⟩ := id hk
      · cases hqu
      · obtain rfl : g' = g := by simpa [Value.ownBlock] using hqu
        obtain ⟨r, hr⟩ := h.pre j m ct hm hc
        exact (bytes_cell hk (by rw [← hr, List.getElem?_append_left (List.getElem?_eq_some_iff.1 hbk).1]; exact hbk)).1
    · rw [World.cell?_of_block (a := ⟨g, k, none⟩) (k2 g hgl hqu)]
      exact hcell k b hbk
  · intro j m c hm hc2
    by_cases hij : i = j
    · subst hij
      rw [List.getElem?_set_self (by rw [h.lb.len]; exact hil)] at hc2
      obtain rfl := Option.some.inj hc2
      exact (h.pre i m ct hm hc).trans (List.prefix_append _ _)
    · rw [List.getElem?_set_ne hij] at hc2
      exact h.pre j m c hm hc2
  · intro j v y b hv hy e
    have hbW := hI b ⟨j, v, hv, e⟩
    by_cases hij : i = j
    · subst hij
      rw [List.getElem?_set_self hil] at hy
      obtain rfl := Option.some.inj hy
      rcases h.rel i v u b hv hu e with r | r
      · rcases hb with q | ⟨g', q, hq⟩
        · exact .inl (q.trans r)
        · refine .inr (fun hi2 => ?_)
          rcases inB_set hi2 with z | ⟨k, z, hk1, hk2, hk3⟩
          · have := Option.some.inj (q.symm.trans z); omega
          · exact hk1 (h.lb.ap k i z u b hk2 hu hk3 r)
      · exact .inr (fun hi2 => r (nin b hi2 (by omega)))
    · rw [List.getElem?_set_ne hij] at hy
      rcases h.rel j v y b hv hy e with r | r
      · exact .inl r
      · exact .inr (fun hi2 => r (nin b hi2 (by omega)))
  · intro b e hi2
    obtain rfl := Option.some.inj e
    exact h.u5 _ rfl (nin _ hi2 l5.2)
  · intro b e hi2
    exact h.u6 b e (nin b hi2 (h.m6.lt b e).2)
  · intro b hi2 hit
    have := (h.tl.lt hit).2
    exact h.ut b (nin b hi2 this) hit
end Go.Proofs.YtobomdokdajbaaaDoor
