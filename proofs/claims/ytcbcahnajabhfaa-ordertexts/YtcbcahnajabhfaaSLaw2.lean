import Derived.Test.YtcbcahnajabhfaaSLaw1
namespace Go.Proofs.Ytcbcahnajabhfaa
open Go.RowKit Go.Shelf
attribute [local go_sem] kless_eq keq_eq kne_eq kgeq_eq
attribute [local go_sem ↓] Go.wp_at_zero Go.wp_at_succ

theorem Try.infoMapP : (Try.prog.info? 34).map (fun i => (i.zero, i.size, i.bytes)) = some (some (.pointer none), 1, 8) := by kernel_rfl
theorem Try.infoRef : (Try.prog.info? 44).map (fun i => (i.zero, i.size, i.bytes)) = some (some (.slice none 0 0), 1, 24) := by kernel_rfl

/-- A version: the map's block, the document's table, the entries. -/
structure Ver where
  bm : Nat
  rv : Value
  T : BT

/-- Blocks whose first cell holds a key, and b besides, lie as they lay. -/
def Keeps (W W' : World) : Prop := W.heap.size ≤ W'.heap.size ∧ ∀ k, (∃ e : KT, W.cell? ⟨k, 0, none⟩ = some (.string e)) → W'.heap[k]? = W.heap[k]?
theorem Keeps.cell {W W' : World} (h : Keeps W W') {k : Nat} {e : KT} (hk : W.cell? ⟨k, 0, none⟩ = some (.string e)) (o : Nat) : W'.cell? ⟨k, o, none⟩ = W.cell? ⟨k, o, none⟩ := by
  have := h.2 k ⟨e, hk⟩
  unfold World.cell?
  rw [this]
theorem Keeps.isT {W W' : World} (h : Keeps W W') {n₀ : Nat} : ∀ {p : Option Addr} {T : BT}, IsT n₀ W p T → IsT n₀ W' p T
  | _, .leaf, ht => ht
  | _, .node _ _ _, ⟨b, pl, pr, hp, hb, h0, h1, h2, h3, h4, hl, hr⟩ => ⟨b, pl, pr, hp, hb, (h.cell h0 0).trans h0, (h.cell h0 1).trans h1, (h.cell h0 2).trans h2, (h.cell h0 3).trans h3, (h.cell h0 4).trans h4, Keeps.isT h hl, Keeps.isT h hr⟩
theorem Keeps.isR0 {W W' : World} (h : Keeps W W') {v : Value} {l : List Ent} (hr : IsR0 W v l) : IsR0 W' v l := by
  obtain ⟨a, c, rfl, h1, h2, h3⟩ := hr
  refine ⟨a, c, rfl, h1, h2, fun hp => ?_⟩
  obtain ⟨g, rfl, hg, hc⟩ := h3 hp
  obtain ⟨x, hx⟩ : ∃ x, l[0]? = some x := ⟨_, List.getElem?_eq_getElem hp⟩
  have hk : W.cell? ⟨g, 0, none⟩ = some (.string x.1) := by simpa using (hc 0 x hx).1
  exact ⟨g, rfl, by have := h.1; omega, fun i y hy => ⟨(h.cell hk _).trans (hc i y hy).1, (h.cell hk _).trans (hc i y hy).2⟩⟩
theorem Keeps.isM {W W' : World} (h : Keeps W W') {bm : Nat} (hbm : W'.heap[bm]? = W.heap[bm]?) {T : BT} (hm : IsM W (some ⟨bm, 0, none⟩) T) : IsM W' (some ⟨bm, 0, none⟩) T := by
  obtain ⟨b, p, e, h1, h2, h3, h4⟩ := hm
  obtain rfl : bm = b := by simpa using e
  refine ⟨bm, p, rfl, by have := h.1; omega, ?_, (h.isT h3).mono h.1, h4⟩
  unfold World.cell? at h2 ⊢
  rw [hbm]
  exact h2
theorem Keeps.of_below {W W' : World} (h : Below W.heap.size W W') : Keeps W W' := ⟨h.size, fun k ⟨_, hk⟩ => h.block k (lt_of_cell hk)⟩
theorem Keeps.trans {A B C : World} (h : Keeps A B) (k : Keeps B C) : Keeps A C :=
  ⟨Nat.le_trans h.1 k.1, fun b ⟨e, hb⟩ => (k.2 b ⟨e, (h.cell hb 0).trans hb⟩).trans (h.2 b ⟨e, hb⟩)⟩

/-- The versions that there are. -/
def St (base : Nat) (W : World) (bw : Nat) (vs : List Ver) : Prop := ∃ vM vR, W.heap[bw]? = some (.cells #[vM, vR] 30 (0, 0)) ∧ base ≤ bw ∧
  W.ownsRow base 34 1 vM vs.length (vs.map fun x => .pointer (some ⟨x.bm, 0, none⟩)) ∧ W.ownsRow base 44 1 vR vs.length (vs.map (·.rv)) ∧ 0 < vs.length ∧
  ∀ x ∈ vs, x.bm ≠ bw ∧ some x.bm ≠ vM.ownBlock ∧ some x.bm ≠ vR.ownBlock ∧ IsM W (some ⟨x.bm, 0, none⟩) x.T ∧ IsR0 W x.rv x.T.io
theorem St.up {base bw : Nat} {W w : World} {vs : List Ver} (hb : Below W.heap.size W w) (h : St base W bw vs) : St base w bw vs := by
  obtain ⟨vM, vR, h1, h2, h3, h4, h5, h6⟩ := h
  refine ⟨vM, vR, (hb.block bw (Array.getElem?_eq_some_iff.1 h1).1).trans h1, h2, ownsRow_below h3 hb, ownsRow_below h4 hb, h5, fun x hx => ?_⟩
  obtain ⟨g1, g2, g3, g4, g5⟩ := h6 x hx
  exact ⟨g1, g2, g3, g4.up hb, g5.up hb⟩

theorem cells2_of {W : World} {b : Nat} {x y : Value} {t : TypeId} (h : W.heap[b]? = some (.cells #[x, y] t (0, 0))) : W.cell? ⟨b, 0, none⟩ = some x ∧ W.cell? ⟨b, 1, none⟩ = some y ∧ W.frozen? ⟨b, 0, none⟩ = false ∧ W.frozen? ⟨b, 1, none⟩ = false := by
  unfold World.cell? World.frozen?
  rw [h]
  exact ⟨rfl, rfl, rfl, rfl⟩

theorem ownsRow_same {W W' : World} {base e size n : Nat} {v : Value} {xs : List Value} (h : W.ownsRow base e size v n xs) (hs : ∀ b, v.ownBlock = some b → W'.heap[b]? = W.heap[b]?) : W'.ownsRow base e size v n xs := by
  obtain ⟨h1, h2 | ⟨g, c, cur, rfl, h2, h3, h4⟩⟩ := h
  · exact ⟨h1, .inl h2⟩
  · exact ⟨h1, .inr ⟨g, c, cur, rfl, h2, (hs g rfl).trans h3, h4⟩⟩
/-- The row's block is of its element's type. -/
theorem ownsRow_type {W : World} {base e size n : Nat} {v : Value} {xs : List Value} (h : W.ownsRow base e size v n xs) {b : Nat} (hb : v.ownBlock = some b) : ∃ cur, W.heap[b]? = some (.cells cur e (0, 0)) := by
  obtain ⟨h1, ⟨rfl, _⟩ | ⟨g, c, cur, rfl, h2, h3, h4⟩⟩ := h
  · cases hb
  · obtain rfl : g = b := by simpa [Value.ownBlock] using hb
    exact ⟨cur, h3⟩
theorem type_ne {W : World} {b : Nat} {c d : Array Value} {t e : TypeId} (h : W.heap[b]? = some (.cells c t (0, 0))) (h' : W.heap[b]? = some (.cells d e (0, 0))) : t = e := by
  rw [h] at h'
  simp at h'
  exact h'.2
theorem addRow {base bw : Nat} {W w1 : World} {cs : Array Value} {tw e : TypeId} {v v' : Value} {n o : Nat} {xs : List Value} {p : Value} {ob : Obj}
    (hbw : W.heap[bw]? = some (.cells cs tw (0, 0))) (hb0 : base ≤ bw) (hte : tw ≠ e) (hrow : W.ownsRow base e 1 v n xs) (hgrow : (W.alloc ob).grownBy w1 v.ownBlock) (hown : w1.ownsRow base e 1 v' (n + 1) (xs ++ [p])) :
    (w1.setCell ⟨bw, o, none⟩ v').heap[bw]? = some (.cells (cs.setIfInBounds o v') tw (0, 0)) ∧ (w1.setCell ⟨bw, o, none⟩ v').ownsRow base e 1 v' (n + 1) (xs ++ [p]) ∧
    (∀ b, b < W.heap.size → b ≠ bw → some b ≠ v.ownBlock → (w1.setCell ⟨bw, o, none⟩ v').heap[b]? = W.heap[b]?) ∧ W.heap.size ≤ (w1.setCell ⟨bw, o, none⟩ v').heap.size ∧ w1.heap[bw]? = W.heap[bw]? ∧ Below base W (w1.setCell ⟨bw, o, none⟩ v') := by
  have hlt : bw < W.heap.size := (Array.getElem?_eq_some_iff.1 hbw).1
  have hne : some bw ≠ v.ownBlock := fun e' => by
    obtain ⟨cur, hc⟩ := ownsRow_type hrow e'.symm
    exact hte (type_ne hbw hc)
  have e1 : ∀ b, b < W.heap.size → some b ≠ v.ownBlock → w1.heap[b]? = W.heap[b]? := fun b hb hn => (hgrow.block b (by rw [World.size_alloc]; omega) hn).trans (Below.heap_alloc W ob b hb)
  have ebw : w1.heap[bw]? = some (.cells cs tw (0, 0)) := (e1 bw hlt hne).trans hbw
  have hsz : W.heap.size ≤ w1.heap.size := by have := hgrow.size; rw [World.size_alloc] at this; omega
  refine ⟨?_, ownsRow_same hown fun b hb => ?_, fun b hb hnb hn => ?_, by rw [World.size_setCell]; exact hsz, e1 bw hlt hne, ?_⟩
  · obtain ⟨hl, hk⟩ := Array.getElem?_eq_some_iff.1 ebw
    show (w1.heap.modify bw _)[bw]? = _
    rw [Array.getElem?_eq_getElem (by rw [Array.size_modify]; exact hl), Array.getElem_modify_self, hk]
    rfl
  · refine Below.heap_setCell _ _ _ b fun e' => ?_
    obtain ⟨cur, hc⟩ := ownsRow_type hown hb
    exact hte (type_ne ebw (e' ▸ hc))
  · exact (Below.heap_setCell _ _ _ b hnb).trans (e1 b hb hn)
  · have hbs : base ≤ W.heap.size := by omega
    exact ((((Below.refl base W).alloc hbs ob).grown hgrow (by rw [World.size_alloc]; omega) (fun k e' => (hrow.lt k e').1))).setCell (p := ⟨bw, o, none⟩) hb0 v'
/-- A row that is not empty begins with its first value. -/
theorem ownsRow_first {W : World} {base e n : Nat} {v x : Value} {xs : List Value} (h : W.ownsRow base e 1 v n xs) (hx : xs[0]? = some x) {b : Nat} (hb : v.ownBlock = some b) : W.cell? ⟨b, 0, none⟩ = some x := by
  have := h.cells hb 0 x hx
  simpa [Addr.add] using this
theorem keeps_add {bw : Nat} {W W' : World} {vM x0 : Value} {cs : Array Value} {tw : TypeId} {base e n : Nat} {xs : List Value} {y0 : Value} (hbw : W.heap[bw]? = some (.cells cs tw (0, 0))) (hy : cs[0]? = some y0) (hyk : ∀ k : KT, y0 ≠ .string k) (hrow : W.ownsRow base e 1 vM n xs) (hx : xs[0]? = some x0) (hxk : ∀ k : KT, x0 ≠ .string k)
    (hsz : W.heap.size ≤ W'.heap.size) (hk : ∀ b, b < W.heap.size → b ≠ bw → some b ≠ vM.ownBlock → W'.heap[b]? = W.heap[b]?) : Keeps W W' := by
  refine ⟨hsz, fun k ⟨c, hc⟩ => hk k (lt_of_cell hc) (fun e' => ?_) (fun e' => ?_)⟩
  · subst e'
    unfold World.cell? at hc
    rw [hbw] at hc
    have : cs[0]? = some (.string c) := by simpa using hc
    rw [hy] at this
    exact hyk c (by simpa using this)
  · have := ownsRow_first hrow hx e'.symm
    rw [this] at hc
    exact hxk c (by simpa using hc)

theorem st_begin {W w3 : World} {bm1 : Nat} (hm : IsM w3 (some ⟨bm1, 0, none⟩) .leaf) (hlt : bm1 < w3.heap.size) (hB : Below W.heap.size W w3) :
    St W.heap.size (((w3.alloc (.cells #[.pointer (some ⟨bm1, 0, none⟩)] 34)).alloc (.cells #[.slice none 0 0] 44)).alloc (.cells #[.slice (some ⟨w3.heap.size, 0, none⟩) 1 1, .slice (some ⟨w3.heap.size + 1, 0, none⟩) 1 1] 30)) (w3.heap.size + 1 + 1) [⟨bm1, .slice none 0 0, .leaf⟩] ∧
    Below W.heap.size W (((w3.alloc (.cells #[.pointer (some ⟨bm1, 0, none⟩)] 34)).alloc (.cells #[.slice none 0 0] 44)).alloc (.cells #[.slice (some ⟨w3.heap.size, 0, none⟩) 1 1, .slice (some ⟨w3.heap.size + 1, 0, none⟩) 1 1] 30)) := by
  have a1 := World.alloc_heap_new w3 (.cells #[.pointer (some ⟨bm1, 0, none⟩)] 34)
  have s1 : (w3.alloc (.cells #[.pointer (some ⟨bm1, 0, none⟩)] 34)).heap.size = w3.heap.size + 1 := World.size_alloc _ _
  have b1 : Below w3.heap.size w3 (w3.alloc (.cells #[.pointer (some ⟨bm1, 0, none⟩)] 34)) := (Below.refl _ _).alloc (Nat.le_refl _) _
  generalize w3.alloc (.cells #[.pointer (some ⟨bm1, 0, none⟩)] 34) = w4 at *
  have a2 := World.alloc_heap_new w4 (.cells #[.slice none 0 0] 44)
  have s2 : (w4.alloc (.cells #[.slice none 0 0] 44)).heap.size = w4.heap.size + 1 := World.size_alloc _ _
  have b2 : Below w4.heap.size w4 (w4.alloc (.cells #[.slice none 0 0] 44)) := (Below.refl _ _).alloc (Nat.le_refl _) _
  generalize w4.alloc (.cells #[.slice none 0 0] 44) = w5 at *
  have a3 := World.alloc_heap_new w5 (.cells #[.slice (some ⟨w3.heap.size, 0, none⟩) 1 1, .slice (some ⟨w3.heap.size + 1, 0, none⟩) 1 1] 30)
  have b3 : Below w5.heap.size w5 (w5.alloc (.cells #[.slice (some ⟨w3.heap.size, 0, none⟩) 1 1, .slice (some ⟨w3.heap.size + 1, 0, none⟩) 1 1] 30)) := (Below.refl _ _).alloc (Nat.le_refl _) _
  generalize w5.alloc (.cells #[.slice (some ⟨w3.heap.size, 0, none⟩) 1 1, .slice (some ⟨w3.heap.size + 1, 0, none⟩) 1 1] 30) = w6 at *
  have hb := hB.size
  have e1 : w6.heap[w3.heap.size]? = some (.cells #[.pointer (some ⟨bm1, 0, none⟩)] 34 (0, 0)) := (b3.block _ (by omega)).trans ((b2.block _ (by omega)).trans a1)
  have e2 : w6.heap[w3.heap.size + 1]? = some (.cells #[.slice none 0 0] 44 (0, 0)) := (b3.block _ (by omega)).trans (by rw [← s1]; exact a2)
  have e3 : w6.heap[w3.heap.size + 1 + 1]? = some (.cells #[.slice (some ⟨w3.heap.size, 0, none⟩) 1 1, .slice (some ⟨w3.heap.size + 1, 0, none⟩) 1 1] 30 (0, 0)) := by
    have a3' := a3
    rw [s2, s1] at a3'
    exact a3'
  have b13 : Below w3.heap.size w3 w6 := b1.trans ((b2.trans (b3.mono b2.size)).mono b1.size)
  refine ⟨⟨_, _, e3, by omega, ⟨rfl, .inr ⟨_, _, _, rfl, hb, e1, Nat.le_refl _, by unfold maxLen; omega, rfl, rfl⟩⟩, ⟨rfl, .inr ⟨_, _, _, rfl, by omega, e2, Nat.le_refl _, by unfold maxLen; omega, rfl, rfl⟩⟩, by simp, fun x hx => ?_⟩, hB.trans (b13.mono hb)⟩
  obtain rfl : x = ⟨bm1, .slice none 0 0, .leaf⟩ := by simpa using hx
  exact ⟨by show bm1 ≠ _; omega, by simp [Value.ownBlock]; omega, by simp [Value.ownBlock]; omega, hm.up b13, ⟨none, 0, rfl, Nat.zero_le _, Nat.zero_le _, fun h => by simp [BT.io] at h⟩⟩

set_option maxRecDepth 100000 in
set_option maxHeartbeats 2000000 in
theorem begin_any (W : World) : Calls Try.prog 5 #[] W fun o W' => ∃ bw v, o = .returned (.pointer (some ⟨bw, 0, none⟩)) ∧ St W.heap.size W' bw [v] ∧ v.T = .leaf ∧ Below W.heap.size W W' := by
  have hpn : (0 : Int) ≤ 0 := by omega
  have hnf := func_not_nil
  go_enter Try.func5, Try.ntmps5
  go_wp2_with fail
  refine (new_any W).mono ?_
  rintro o w1 ⟨m1, rfl, hm1, hb1⟩
  have hm1' := hm1
  obtain ⟨bm1, _, rfl, hlt1, _⟩ := hm1'
  have hl0 : ((BT.leaf).io.length : Int) = 0 := rfl
  go_wp2_with fail
  refine (len_any hm1).mono ?_
  rintro o w' ⟨rfl, he⟩
  obtain rfl : w1 = w' := he.symm
  go_wp2_with fail
  refine (mput_any (T := .leaf) ((⟨#[120]⟩ : ByteArray), 7) hm1 (by simp [BT.io])).mono ?_
  rintro o w2 ⟨m2, T2, rfl, hm2, hin2, hb2, _⟩
  have hm2' := hm2
  obtain ⟨bm2, _, rfl, _, _, _, hs2⟩ := hm2'
  have hl2 : (T2.io.length : Int) = 1 := by rw [one_len hs2 hin2]; rfl
  have hm3 := hm1.up hb2
  clear hin2 hs2
  go_wp2_with fail
  refine (len_any hm2).mono ?_
  rintro o w' ⟨rfl, he⟩
  obtain rfl : w2 = w' := he.symm
  go_wp2_with fail
  refine (len_any hm3).mono ?_
  rintro o w' ⟨rfl, he⟩
  obtain rfl : w2 = w' := he.symm
  go_wp2_with fail
  refine (all_any hm2).mono ?_
  rintro o w2a ⟨lba, rfl, hba⟩
  have hm2a := hm2.up hba
  go_wp2_with fail
  refine (from_any ⟨#[120]⟩ hm2a).mono ?_
  rintro o w3 ⟨lbf, rfl, hbf⟩
  have hb3 : Below w2.heap.size w2 w3 := hba.trans (hbf.mono hba.size)
  clear hm2a hba hbf
  have hm4 := hm3.up hb3
  have hB3 : Below W.heap.size W w3 := (hb1.trans (hb2.mono hb1.size)).trans (hb3.mono (hb1.trans (hb2.mono hb1.size)).size)
  have hlt3 : bm1 < w3.heap.size := by have := hb2.size; have := hb3.size; omega
  clear hm1 hm2 hm3 hl2 hb1 hb2 hb3
  obtain ⟨hst, hbe⟩ := st_begin hm4 hlt3 hB3
  have Hst := hide hst
  have Hbe := hide hbe
  clear hst hbe hm4
  go_wp2
  go_ret
  exact ⟨_, _, rfl, unhide Hst, rfl, unhide Hbe⟩
end Go.Proofs.Ytcbcahnajabhfaa
