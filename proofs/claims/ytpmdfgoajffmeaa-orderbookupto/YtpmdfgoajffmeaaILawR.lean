import Derived.Test.YtpmdfgoajffmeaaILawC

namespace Go.Proofs.Ytpmdfgoajffmeaa
open Go.RowKit Go.Shelf

theorem ownsRow_same {W W' : World} {base e size n : Nat} {v : Value} {xs : List Value} (h : W.ownsRow base e size v n xs) (hs : ∀ b, v.ownBlock = some b → W'.heap[b]? = W.heap[b]?) : W'.ownsRow base e size v n xs := by
  obtain ⟨h1, h2 | ⟨g, c, cur, rfl, h2, h3, h4⟩⟩ := h
  · exact ⟨h1, .inl h2⟩
  · exact ⟨h1, .inr ⟨g, c, cur, rfl, h2, (hs g rfl).trans h3, h4⟩⟩
/-- The row's block is of its element's type. -/
theorem ownsRow_type {W : World} {base e size n : Nat} {v : Value} {xs : List Value} (h : W.ownsRow base e size v n xs) {b : Nat} (hb : v.ownBlock = some b) : ∃ cur, W.heap[b]? = some (.cells cur e (0, 0)) := by
  obtain ⟨h1, ⟨rfl, _⟩ | ⟨g, c, cur, rfl, h2, h3, h4⟩⟩ := h
  · cases hb
  · obtain rfl : g = b := by simpa [Value.ownBlock] using hb
    exact ⟨cur, h3⟩
theorem type_ne {W : World} {b : Nat} {c d : Array Value} {t e : TypeId} (h : W.heap[b]? = some (.cells c t (0, 0))) (h' : W.heap[b]? = some (.cells d e (0, 0))) : t = e := by
  rw [h] at h'
  simp at h'
  exact h'.2
theorem addRow {base bw : Nat} {W w1 : World} {cs : Array Value} {tw e : TypeId} {v v' : Value} {n o : Nat} {xs : List Value} {p : Value} {ob : Obj}
    (hbw : W.heap[bw]? = some (.cells cs tw (0, 0))) (hb0 : base ≤ bw) (hte : tw ≠ e) (hrow : W.ownsRow base e 1 v n xs) (hgrow : (W.alloc ob).grownBy w1 v.ownBlock) (hown : w1.ownsRow base e 1 v' (n + 1) (xs ++ [p])) :
    (w1.setCell ⟨bw, o, none⟩ v').heap[bw]? = some (.cells (cs.setIfInBounds o v') tw (0, 0)) ∧ (w1.setCell ⟨bw, o, none⟩ v').ownsRow base e 1 v' (n + 1) (xs ++ [p]) ∧
    (∀ b, b < W.heap.size → b ≠ bw → some b ≠ v.ownBlock → (w1.setCell ⟨bw, o, none⟩ v').heap[b]? = W.heap[b]?) ∧ W.heap.size ≤ (w1.setCell ⟨bw, o, none⟩ v').heap.size ∧ w1.heap[bw]? = W.heap[bw]? ∧ Below base W (w1.setCell ⟨bw, o, none⟩ v') := by
  have hlt : bw < W.heap.size := (Array.getElem?_eq_some_iff.1 hbw).1
  have hne : some bw ≠ v.ownBlock := fun e' => by
    obtain ⟨cur, hc⟩ := ownsRow_type hrow e'.symm
    exact hte (type_ne hbw hc)
  have e1 : ∀ b, b < W.heap.size → some b ≠ v.ownBlock → w1.heap[b]? = W.heap[b]? := fun b hb hn => (hgrow.block b (by rw [World.size_alloc]; omega) hn).trans (Below.heap_alloc W ob b hb)
  have ebw : w1.heap[bw]? = some (.cells cs tw (0, 0)) := (e1 bw hlt hne).trans hbw
  have hsz : W.heap.size ≤ w1.heap.size := by have := hgrow.size; rw [World.size_alloc] at this; omega
  refine ⟨?_, ownsRow_same hown fun b hb => ?_, fun b hb hnb hn => ?_, by rw [World.size_setCell]; exact hsz, e1 bw hlt hne, ?_⟩
  · obtain ⟨hl, hk⟩ := Array.getElem?_eq_some_iff.1 ebw
    show (w1.heap.modify bw _)[bw]? = _
    rw [Array.getElem?_eq_getElem (by rw [Array.size_modify]; exact hl), Array.getElem_modify_self, hk]
    rfl
  · refine Below.heap_setCell _ _ _ b fun e' => ?_
    obtain ⟨cur, hc⟩ := ownsRow_type hown hb
    exact hte (type_ne ebw (e' ▸ hc))
  · exact (Below.heap_setCell _ _ _ b hnb).trans (e1 b hb hn)
  · have hbs : base ≤ W.heap.size := by omega
    exact ((((Below.refl base W).alloc hbs ob).grown hgrow (by rw [World.size_alloc]; omega) (fun k e' => (hrow.lt k e').1))).setCell (p := ⟨bw, o, none⟩) hb0 v'
end Go.Proofs.Ytpmdfgoajffmeaa
