import Derived.Test.YtaadpiimcaabkaaGreatDoorJ21

namespace Go.Proofs.YtaadpiimcaabkaaGreatDoor
open Go.RowKit
attribute [local go_sem ↓] Go.wp_at_zero Go.wp_at_succ

/-- Groups of fields, in memory, made of the first i lists of one field each. -/
structure Jn (lo lo2 : Nat) (w0 w : World) (va v : Value) (l : List Fd) (gA : List Nat) (i : Nat) (gs : List (List Fd)) (us : List Value) : Prop where
  bel : Below lo w0 w
  siz : lo2 ≤ w.heap.size
  low : lo ≤ lo2
  alo : w.ownsRow lo 43 1 va l.length (gA.map oneS)
  abl : ∀ k, va.ownBlock = some k → k < lo2
  alen : gA.length = l.length
  alow : ∀ g ∈ gA, lo ≤ g ∧ g < lo2
  and : gA.Nodup
  blk : ∀ (j : Nat) (d : Fd) (g : Nat), i ≤ j → l[j]? = some d → gA[j]? = some g → w.heap[g]? = some (.cells d.cs.toArray 42 (0, 0))
  row : w.ownsRow lo2 43 1 v gs.length us
  len : us.length = gs.length
  grp : ∀ (k : Nat) (G : List Fd) (u : Value), gs[k]? = some G → us[k]? = some u → w.ownsRow lo 42 6 u G.length (fldC G)
  ne : ∀ G ∈ gs, 0 < G.length
  ap : ∀ (k k' : Nat) (u u' : Value) (b : Nat), k ≠ k' → us[k]? = some u → us[k']? = some u' → u.ownBlock = some b → u'.ownBlock ≠ some b
  apA : ∀ (k j : Nat) (u : Value) (b g : Nat), i ≤ j → us[k]? = some u → u.ownBlock = some b → gA[j]? = some g → b ≠ g
/-- A row of fields lies in a block of fields. -/
theorem fld_blk {lo n : Nat} {w : World} {u : Value} {xs : List Value} {t b : Nat} (h : w.ownsRow lo t 6 u n xs) (hb : u.ownBlock = some b) : ∃ cs, w.heap[b]? = some (.cells cs t (0, 0)) := by
  rcases h.2 with ⟨rfl, _⟩ | ⟨q, cap, cur, rfl, _, h4, _⟩
  · cases hb
  · obtain rfl : q = b := by simpa [Value.ownBlock] using hb
    exact ⟨_, h4⟩
theorem row_blk {lo n : Nat} {w : World} {u : Value} {xs : List Value} {t b : Nat} (h : w.ownsRow lo t 1 u n xs) (hb : u.ownBlock = some b) : ∃ cs, w.heap[b]? = some (.cells cs t (0, 0)) := by
  rcases h.2 with ⟨rfl, _⟩ | ⟨q, cap, cur, rfl, _, h4, _⟩
  · cases hb
  · obtain rfl : q = b := by simpa [Value.ownBlock] using hb
    exact ⟨_, h4⟩
theorem own_one {lo g : Nat} {w : World} {d : Fd} (hg : w.heap[g]? = some (.cells d.cs.toArray 42 (0, 0))) (hlo : lo ≤ g) : w.ownsRow lo 42 6 (oneS g) [d].length (fldC [d]) := by
  refine ⟨rfl, .inr ⟨g, 1, d.cs.toArray, rfl, hlo, hg, Nat.le_refl _, by unfold maxLen; omega, rfl, ?_⟩⟩
  unfold fldC
  simp [Fd.cs]
/-- A list of one more, by itself. -/
theorem Jn.app {lo lo2 : Nat} {w0 w w' : World} {va v v' : Value} {l : List Fd} {gA : List Nat} {i : Nat} {gs : List (List Fd)} {us : List Value} {d : Fd} {g : Nat} (h : Jn lo lo2 w0 w va v l gA i gs us) (hd : l[i]? = some d) (hg : gA[i]? = some g) (ho : w'.ownsRow lo2 43 1 v' (gs.length + 1) (us ++ [oneS g])) (hgr : w.grownBy w' v.ownBlock) : Jn lo lo2 w0 w' va v' l gA (i + 1) (gs ++ [([d])]) (us ++ [oneS g]) := by
  have hvl : ∀ k, v.ownBlock = some k → lo2 ≤ k := fun k e => (h.row.lt k e).1
  have keep : ∀ (b : Nat) (cs : Array Value), w.heap[b]? = some (.cells cs 42 (0, 0)) → w'.heap[b]? = some (.cells cs 42 (0, 0)) := by
    intro b cs hb
    refine (hgr.block b (Array.getElem?_eq_some_iff.1 hb).1 (fun e => ?_)).trans hb
    obtain ⟨cs2, h2⟩ := row_blk h.row e.symm
    rw [h2] at hb
    simp at hb
  have hgm : g ∈ gA := List.mem_of_getElem? hg
  have hgb := h.blk i d g (Nat.le_refl _) hd hg
  have hus : ∀ (k : Nat) (u : Value), (us ++ [oneS g])[k]? = some u → (us[k]? = some u ∧ k < us.length) ∨ (k = us.length ∧ u = oneS g) := by
    intro k u hk
    rcases Nat.lt_or_ge k us.length with q | q
    · rw [List.getElem?_append_left q] at hk; exact .inl ⟨hk, q⟩
    · rw [List.getElem?_append_right q] at hk
      obtain ⟨q2, _⟩ := List.getElem?_eq_some_iff.1 hk
      have q3 : k - us.length = 0 := by simp at q2; omega
      rw [q3] at hk
      exact .inr ⟨by omega, by simpa using hk.symm⟩
  refine ⟨h.bel.grown hgr (Nat.le_trans h.low h.siz) (fun k e => Nat.le_trans h.low (hvl k e)), Nat.le_trans h.siz hgr.size, h.low, h.alo.kept hgr ?_, h.abl, h.alen, h.alow, h.and, fun j d' g' hj h1 h2 => keep _ _ (h.blk j d' g' (by omega) h1 h2), ?_, ?_, ?_, ?_, ?_, ?_⟩
  · cases e : va.ownBlock with
    | none => exact .inl rfl
    | some k => exact .inr (fun q => by have := hvl k q.symm; have := h.abl k e; omega)
  · rw [List.length_append]; exact ho
  · rw [List.length_append, List.length_append, h.len]; rfl
  · intro k G u h1 h2
    rcases hus k u h2 with ⟨q1, q2⟩ | ⟨rfl, rfl⟩
    · rw [List.getElem?_append_left (by rw [← h.len]; exact q2)] at h1
      have hG := h.grp k G u h1 q1
      refine hG.kept hgr ?_
      cases e : u.ownBlock with
      | none => exact .inl rfl
      | some b =>
        refine .inr (fun q => ?_)
        obtain ⟨c1, e1⟩ := fld_blk hG e
        obtain ⟨c2, e2⟩ := row_blk h.row q.symm
        rw [e1] at e2
        simp at e2
    · rw [h.len, List.getElem?_append_right (Nat.le_refl _), Nat.sub_self] at h1
      obtain rfl : [d] = G := by simpa using h1
      exact own_one (keep _ _ hgb) (h.alow g hgm).1
  · intro G hG
    rcases List.mem_append.1 hG with q | q
    · exact h.ne G q
    · simp at q; subst q; exact Nat.one_pos
  · intro k k' u u' b hk h1 h2 h3
    rcases hus k u h1 with ⟨q1, q2⟩ | ⟨rfl, rfl⟩
    · rcases hus k' u' h2 with ⟨r1, r2⟩ | ⟨rfl, rfl⟩
      · exact h.ap k k' u u' b hk q1 r1 h3
      · intro e
        obtain rfl : g = b := by simpa [oneS, Value.ownBlock] using e
        exact h.apA k i u g g (Nat.le_refl _) q1 h3 hg rfl
    · rcases hus k' u' h2 with ⟨r1, r2⟩ | ⟨rfl, rfl⟩
      · obtain rfl : g = b := by simpa [oneS, Value.ownBlock] using h3
        intro e
        exact h.apA k' i u' g g (Nat.le_refl _) r1 e hg rfl
      · exact absurd rfl hk
  · intro k j u b g' hj h1 h2 h3
    rcases hus k u h1 with ⟨q1, q2⟩ | ⟨rfl, rfl⟩
    · exact h.apA k j u b g' (by omega) q1 h2 h3
    · obtain rfl : g = b := by simpa [oneS, Value.ownBlock] using h2
      intro e
      subst e
      obtain ⟨a1, a2⟩ := List.getElem?_eq_some_iff.1 hg
      obtain ⟨b1, b2⟩ := List.getElem?_eq_some_iff.1 h3
      exact (List.pairwise_iff_getElem.1 h.and) i j a1 b1 (by omega) (a2.trans b2.symm)
/-- The last group with one more. -/
theorem Jn.join {lo lo2 q c : Nat} {w0 w w1 : World} {va : Value} {l : List Fd} {gA : List Nat} {i m : Nat} {gs : List (List Fd)} {us : List Value} {G : List Fd} {u u' : Value} {d : Fd} (h : Jn lo lo2 w0 w va (.slice (some ⟨q, 0, none⟩) gs.length c) l gA i gs us) (hm : m + 1 = gs.length) (hG : gs[m]? = some G) (hu : us[m]? = some u)
    (ho : w1.ownsRow lo 42 6 u' (G.length + 1) (fldC (G ++ [d]))) (hgr : w.grownBy w1 u.ownBlock) (hat : u'.ownBlock = u.ownBlock ∨ u'.ownBlock = some w.heap.size) :
    Jn lo lo2 w0 (w1.setCell ⟨q, m, none⟩ u') va (.slice (some ⟨q, 0, none⟩) gs.length c) l gA (i + 1) (gs.set m (G ++ [d])) (us.set m u') := by
  have hGu := h.grp m G u hG hu
  have hul : ∀ k, u.ownBlock = some k → lo ≤ k := fun k e => (hGu.lt k e).1
  have ne1 : ∀ (t b : Nat) (cs : Array Value), w.heap[b]? = some (.cells cs t (0, 0)) → t ≠ 42 → w1.heap[b]? = some (.cells cs t (0, 0)) := by
    intro t b cs hb ht
    refine (hgr.block b (Array.getElem?_eq_some_iff.1 hb).1 (fun e => ?_)).trans hb
    obtain ⟨c2, e2⟩ := fld_blk hGu e.symm
    rw [e2] at hb
    simp at hb
    exact ht hb.2.symm
  have keepR : ∀ {B n : Nat} {x : Value} {xs : List Value}, w.ownsRow B 43 1 x n xs → w1.ownsRow B 43 1 x n xs := by
    intro B n x xs hx
    refine hx.kept hgr ?_
    cases e : x.ownBlock with
    | none => exact .inl rfl
    | some b =>
      refine .inr (fun z => ?_)
      obtain ⟨c1, e1⟩ := row_blk hx e
      obtain ⟨c2, e2⟩ := fld_blk hGu z.symm
      rw [e1] at e2
      simp at e2
  have hrow := keepR h.row
  obtain ⟨s1, s2⟩ := hrow.stored m u'
  have hql : lo2 ≤ q := (h.row.lt q rfl).1
  have keep2 : ∀ (b : Nat) (cs : Array Value), w1.heap[b]? = some (.cells cs 42 (0, 0)) → (w1.setCell ⟨q, m, none⟩ u').heap[b]? = some (.cells cs 42 (0, 0)) := by
    intro b cs hb
    refine (s2.block b (Array.getElem?_eq_some_iff.1 hb).1 (fun e => ?_)).trans hb
    obtain ⟨c2, e2⟩ := row_blk hrow e.symm
    rw [e2] at hb
    simp at hb
  have kp2 : ∀ {B n : Nat} {x : Value} {xs : List Value}, w1.ownsRow B 42 6 x n xs → (w1.setCell ⟨q, m, none⟩ u').ownsRow B 42 6 x n xs := by
    intro B n x xs hx
    refine hx.kept s2 ?_
    cases e : x.ownBlock with
    | none => exact .inl rfl
    | some b =>
      refine .inr (fun z => ?_)
      obtain ⟨c1, e1⟩ := fld_blk hx e
      obtain ⟨c2, e2⟩ := row_blk hrow z.symm
      rw [e1] at e2
      simp at e2
  have hset : ∀ (k : Nat) (x : Value), (us.set m u')[k]? = some x → (k = m ∧ x = u') ∨ (k ≠ m ∧ us[k]? = some x) := by
    intro k x hk
    rw [List.getElem?_set] at hk
    split at hk
    · rename_i e
      split at hk
      · exact .inl ⟨e.symm, (Option.some.inj hk).symm⟩
      · cases hk
    · rename_i e
      exact .inr ⟨fun z => e z.symm, hk⟩
  have fresh : ∀ b, u'.ownBlock = some b → u.ownBlock = some b ∨ b = w.heap.size := by
    intro b e
    rcases hat with z | z
    · exact .inl (z ▸ e)
    · exact .inr (by rw [z] at e; exact (Option.some.inj e).symm)
  have blkLt : ∀ (k : Nat) (x : Value) (b : Nat), us[k]? = some x → x.ownBlock = some b → b < w.heap.size := by
    intro k x b hx hb
    obtain ⟨hk, _⟩ := List.getElem?_eq_some_iff.1 hx
    have hgk := List.getElem?_eq_getElem (l := gs) (show k < gs.length by rw [← h.len]; exact hk)
    exact ((h.grp k _ x hgk hx).lt b hb).2
  refine ⟨(h.bel.grown hgr (Nat.le_trans h.low h.siz) (fun k e => hul k e)).grown s2 (Nat.le_trans (Nat.le_trans h.low h.siz) hgr.size) (fun k e => by obtain rfl := Option.some.inj e; exact Nat.le_trans h.low hql), Nat.le_trans (Nat.le_trans h.siz hgr.size) s2.size, h.low, (keepR h.alo).kept s2 ?_, h.abl, h.alen, h.alow, h.and, ?_, ?_, ?_, ?_, ?_, ?_, ?_⟩
  · cases e : va.ownBlock with
    | none => exact .inl rfl
    | some k => exact .inr (fun z => by have := h.abl k e; have := Option.some.inj z; omega)
  · intro j d' g' hj h1 h2
    have hb := h.blk j d' g' (by omega) h1 h2
    refine keep2 _ _ ((hgr.block g' (Array.getElem?_eq_some_iff.1 hb).1 (fun e => ?_)).trans hb)
    exact h.apA m j u g' g' (by omega) hu e.symm h2 rfl
  · rw [List.length_set]; exact s1
  · rw [List.length_set, List.length_set]; exact h.len
  · intro k G' x h1 h2
    rcases hset k x h2 with ⟨rfl, rfl⟩ | ⟨z1, z2⟩
    · rw [List.getElem?_set_self (by omega)] at h1
      obtain rfl := Option.some.inj h1
      rw [List.length_append]
      exact kp2 ho
    · rw [List.getElem?_set_ne (fun z => z1 z.symm)] at h1
      have hx := h.grp k G' x h1 z2
      refine kp2 (hx.kept hgr ?_)
      cases e : x.ownBlock with
      | none => exact .inl rfl
      | some b => exact .inr (fun z => h.ap k m x u b z1 z2 hu e z.symm)
  · intro G' hG'
    rcases List.mem_or_eq_of_mem_set hG' with z | rfl
    · exact h.ne G' z
    · rw [List.length_append]; simp
  · intro k k' x x' b hk h1 h2 h3
    rcases hset k x h1 with ⟨rfl, rfl⟩ | ⟨z1, z2⟩
    · rcases hset k' x' h2 with ⟨rfl, rfl⟩ | ⟨y1, y2⟩
      · exact absurd rfl hk
      · rcases fresh b h3 with e | rfl
        · exact h.ap k k' u x' b hk hu y2 e
        · intro e; have := blkLt k' x' _ y2 e; omega
    · rcases hset k' x' h2 with ⟨rfl, rfl⟩ | ⟨y1, y2⟩
      · intro e
        rcases fresh b e with e2 | rfl
        · exact h.ap k k' x u b hk z2 hu h3 e2
        · have := blkLt k x _ z2 h3; omega
      · exact h.ap k k' x x' b hk z2 y2 h3
  · intro k j x b g' hj h1 h2 h3
    rcases hset k x h1 with ⟨rfl, rfl⟩ | ⟨z1, z2⟩
    · rcases fresh b h2 with e | rfl
      · exact h.apA k j u b g' (by omega) hu e h3
      · have := (h.alow g' (List.mem_of_getElem? h3)).2
        have := h.siz
        omega
    · exact h.apA k j x b g' (by omega) z2 h2 h3
theorem Jn.up {lo lo2 : Nat} {w0 w w' : World} {va v : Value} {l : List Fd} {gA : List Nat} {i : Nat} {gs : List (List Fd)} {us : List Value} (h : Jn lo lo2 w0 w va v l gA i gs us) (hb : Below w.heap.size w w') : Jn lo lo2 w0 w' va v l gA i gs us :=
  ⟨h.bel.trans (hb.mono (Nat.le_trans h.low h.siz)), Nat.le_trans h.siz hb.size, h.low, own_up h.alo hb, h.abl, h.alen, h.alow, h.and, fun j d g hj h1 h2 => (hb.block _ (Array.getElem?_eq_some_iff.1 (h.blk j d g hj h1 h2)).1).trans (h.blk j d g hj h1 h2), own_up h.row hb, h.len, fun k G u h1 h2 => own_up (h.grp k G u h1 h2) hb, h.ne, h.ap, h.apA⟩
theorem Jn.keepRow {lo lo2 m : Nat} {w0 w w1 : World} {va v : Value} {l : List Fd} {gA : List Nat} {i : Nat} {gs : List (List Fd)} {us : List Value} {G : List Fd} {u : Value} (h : Jn lo lo2 w0 w va v l gA i gs us) (hG : gs[m]? = some G) (hu : us[m]? = some u) (hgr : w.grownBy w1 u.ownBlock) : w1.ownsRow lo2 43 1 v gs.length us := by
  have hGu := h.grp m G u hG hu
  refine h.row.kept hgr ?_
  cases e : v.ownBlock with
  | none => exact .inl rfl
  | some b =>
    refine .inr (fun z => ?_)
    obtain ⟨c1, e1⟩ := row_blk h.row e
    obtain ⟨c2, e2⟩ := fld_blk hGu z.symm
    rw [e1] at e2
    simp at e2
end Go.Proofs.YtaadpiimcaabkaaGreatDoor
