import Derived.Test.YtpmdfgoajffmeaaIMade

namespace Go.Proofs.Ytpmdfgoajffmeaa
open Go.RowKit Go.Shelf

/-- Blocks that begin with a key lie as they lay. -/
def Keeps (W W' : World) : Prop := W.heap.size ≤ W'.heap.size ∧ ∀ k, (∃ e : KT, W.cell? ⟨k, 0, none⟩ = some (.int .i64 e)) → W'.heap[k]? = W.heap[k]?
theorem Keeps.cell {W W' : World} (h : Keeps W W') {k : Nat} {e : KT} (hk : W.cell? ⟨k, 0, none⟩ = some (.int .i64 e)) (o : Nat) : W'.cell? ⟨k, o, none⟩ = W.cell? ⟨k, o, none⟩ := by
  have := h.2 k ⟨e, hk⟩
  unfold World.cell?
  rw [this]
theorem Keeps.isT {W W' : World} (h : Keeps W W') {n₀ : Nat} : ∀ {p : Option Addr} {T : BT}, IsT n₀ W p T → IsT n₀ W' p T
  | _, .leaf, ht => ht
  | _, .node _ _ _, ⟨b, pl, pr, hp, hb, h0, h1, h2, h3, h4, hl, hr⟩ => ⟨b, pl, pr, hp, hb, (h.cell h0 0).trans h0, (h.cell h0 1).trans h1, (h.cell h0 2).trans h2, (h.cell h0 3).trans h3, (h.cell h0 4).trans h4, Keeps.isT h hl, Keeps.isT h hr⟩
theorem Keeps.isM {W W' : World} (h : Keeps W W') {bm : Nat} (hbm : W'.heap[bm]? = W.heap[bm]?) {T : BT} (hm : IsM W (some ⟨bm, 0, none⟩) T) : IsM W' (some ⟨bm, 0, none⟩) T := by
  obtain ⟨b, p, e, h1, h2, h3, h4⟩ := hm
  obtain rfl : bm = b := by simpa using e
  refine ⟨bm, p, rfl, by have := h.1; omega, ?_, (h.isT h3).mono h.1, h4⟩
  unfold World.cell? at h2 ⊢
  rw [hbm]
  exact h2
theorem Keeps.of_below {W W' : World} (h : Below W.heap.size W W') : Keeps W W' := ⟨h.size, fun k ⟨_, hk⟩ => h.block k (lt_of_cell hk)⟩
theorem Keeps.trans {A B C : World} (h : Keeps A B) (k : Keeps B C) : Keeps A C :=
  ⟨Nat.le_trans h.1 k.1, fun b ⟨e, hb⟩ => (k.2 b ⟨e, (h.cell hb 0).trans hb⟩).trans (h.2 b ⟨e, hb⟩)⟩


theorem Keeps.isKs {W W' : World} (h : Keeps W W') {v : Value} {l : List KT} (hr : IsKs W v l) : IsKs W' v l := by
  obtain ⟨a, c, rfl, h1, h2, h3⟩ := hr
  refine ⟨a, c, rfl, h1, h2, fun hp => ?_⟩
  obtain ⟨g, rfl, h4, h5⟩ := h3 hp
  obtain ⟨k0, hk0⟩ : ∃ k, l[0]? = some k := ⟨_, List.getElem?_eq_getElem hp⟩
  exact ⟨g, rfl, Nat.lt_of_lt_of_le h4 h.1, fun i k hk => (h.cell (h5 0 k0 hk0) i).trans (h5 i k hk)⟩

/-- A version, with what it answered when it was made. -/
structure OV where
  bm : Nat
  vK : Value
  vV : Value
  T : BT
def OV.cells (x : OV) : List Value := [.pointer (some ⟨x.bm, 0, none⟩), x.vK, x.vV]
def OV.ok (W : World) (x : OV) : Prop := IsM W (some ⟨x.bm, 0, none⟩) x.T ∧ IsKs W x.vK (x.T.io.map (·.1)) ∧ IsKs W x.vV (x.T.io.map (·.2))
theorem OV.ok.up {W w : World} {x : OV} (h : x.ok W) (hb : Below W.heap.size W w) : x.ok w := ⟨h.1.up hb, h.2.1.up hb, h.2.2.up hb⟩
theorem flat_len (vs : List OV) : (vs.flatMap OV.cells).length = vs.length * 3 := by
  induction vs with
  | nil => rfl
  | cons x r ih => simp [OV.cells, ih]; omega
theorem flat_get (vs : List OV) : ∀ i x, vs[i]? = some x → (vs.flatMap OV.cells)[i * 3]? = some (.pointer (some ⟨x.bm, 0, none⟩)) ∧ (vs.flatMap OV.cells)[i * 3 + 1]? = some x.vK ∧ (vs.flatMap OV.cells)[i * 3 + 2]? = some x.vV := by
  induction vs with
  | nil => intro i x h; simp at h
  | cons y r ih =>
    intro i x h
    cases i with
    | zero => simp at h; subst h; simp [OV.cells]
    | succ i =>
      simp at h
      obtain ⟨h1, h2, h3⟩ := ih i x h
      have e : (i + 1) * 3 = i * 3 + 3 := by omega
      simp only [List.flatMap_cons, OV.cells, e]
      refine ⟨?_, ?_, ?_⟩
      · simpa using h1
      · simpa using h2
      · simpa using h3

/-- The versions that there are. -/
def Olds (base : Nat) (W : World) (v : Value) (vs : List OV) : Prop := W.ownsRow base 29 3 v vs.length (vs.flatMap OV.cells) ∧ 0 < vs.length ∧ ∀ x ∈ vs, some x.bm ≠ v.ownBlock ∧ x.ok W
theorem Olds.up {base : Nat} {W w : World} {v : Value} {vs : List OV} (h : Olds base W v vs) (hb : Below W.heap.size W w) : Olds base w v vs :=
  ⟨ownsRow_up h.1 hb, h.2.1, fun x hx => ⟨(h.2.2 x hx).1, (h.2.2 x hx).2.up hb⟩⟩
theorem Olds.reads {base : Nat} {W : World} {v : Value} {vs : List OV} (h : Olds base W v vs) : ∃ g c, v = .slice (some ⟨g, 0, none⟩) vs.length c ∧ g < W.heap.size ∧
    ∀ i x, vs[i]? = some x → W.cell? ⟨g, i * 3, none⟩ = some (.pointer (some ⟨x.bm, 0, none⟩)) ∧ W.cell? ⟨g, i * 3 + 1, none⟩ = some x.vK ∧ W.cell? ⟨g, i * 3 + 2, none⟩ = some x.vV := by
  obtain ⟨h1, h2, h3⟩ := h
  have h1' := h1
  obtain ⟨_, ⟨_, h0⟩ | ⟨g, c, cur, rfl, _⟩⟩ := h1
  · omega
  · refine ⟨g, c, rfl, (h1'.lt g rfl).2, fun i x hx => ?_⟩
    obtain ⟨f1, f2, f3⟩ := flat_get vs i x hx
    have e1 := h1'.cells (g := g) rfl _ _ f1
    have e2 := h1'.cells (g := g) rfl _ _ f2
    have e3 := h1'.cells (g := g) rfl _ _ f3
    simp only [Go.WideShapes.add_plain, Nat.zero_add] at e1 e2 e3
    exact ⟨e1, e2, e3⟩
/-- One more. -/
theorem Olds.add {base n : Nat} {W X w' : World} {v v' : Value} {vs : List OV} {nv : OV} (h : Olds base W v vs) (hb : Below W.heap.size W X) (hnv : nv.ok X) (hne : some nv.bm ≠ v.ownBlock)
    (hgrow : X.grownBy w' v.ownBlock) (hown : w'.ownsRow base 29 3 v' (vs.length + 1) (vs.flatMap OV.cells ++ nv.cells)) (hat : v'.ownBlock = v.ownBlock ∨ v'.ownBlock = some n) (hn : X.heap.size ≤ n) : Olds base w' v' (vs ++ [nv]) := by
  have hX := h.up hb
  obtain ⟨g, c, rfl, hg, hr⟩ := hX.reads
  obtain ⟨h1, h2, h3⟩ := hX
  obtain ⟨x0, hx0⟩ : ∃ x, vs[0]? = some x := ⟨_, List.getElem?_eq_getElem h2⟩
  have hsz : X.heap.size ≤ w'.heap.size := hgrow.size
  have kp : Keeps X w' := ⟨hsz, fun k ⟨e, hk⟩ => hgrow.block k (lt_of_cell hk) (fun e' => by
    obtain rfl : k = g := by simpa [Value.ownBlock] using e'
    have := (hr 0 x0 hx0).1
    rw [Nat.zero_mul] at this
    rw [this] at hk
    cases hk)⟩
  have hall : ∀ x ∈ vs ++ [nv], some x.bm ≠ (Value.slice (some ⟨g, 0, none⟩) vs.length c).ownBlock ∧ x.ok X := by
    intro x hx
    rcases List.mem_append.1 hx with hx | hx
    · exact h3 x hx
    · obtain rfl : x = nv := by simpa using hx
      exact ⟨hne, hnv⟩
  refine ⟨?_, by simp, fun x hx => ?_⟩
  · rw [List.length_append, List.flatMap_append]
    simpa using hown
  · obtain ⟨q1, q2, q3, q4⟩ := hall x hx
    have hbm : x.bm < X.heap.size := by
      obtain ⟨b, _, e, hb, _⟩ := q2
      obtain rfl : x.bm = b := by simpa using e
      exact hb
    refine ⟨?_, kp.isM (hgrow.block x.bm hbm q1) q2, kp.isKs q3, kp.isKs q4⟩
    rcases hat with e | e
    · rw [e]; exact q1
    · rw [e]; intro e'
      have : x.bm = n := by simpa using e'
      omega
end Go.Proofs.Ytpmdfgoajffmeaa
