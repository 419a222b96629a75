import Derived.Test.YtpmdfgoajffmeaaIRank

namespace Go.Proofs.Ytpmdfgoajffmeaa
theorem one_len {l : List Ent} {e : Ent} (hs : Srt l) (hm : ∀ x, x ∈ l ↔ x = e ∨ x ∈ ([] : List Ent) ∧ x.1 ≠ e.1) : l = [e] :=
  hs.ext (by simp [Srt]) fun x => by rw [hm x]; simp
theorem rk_at {l : List Ent} (hs : Srt l) {i : Nat} {x : Ent} (h : l[i]? = some x) : rk x.1 l = i := by
  induction l generalizing i with
  | nil => simp at h
  | cons y r ih =>
    obtain ⟨hr, hy⟩ := srt_cons.1 hs
    cases i with
    | zero =>
      obtain rfl : y = x := by simpa using h
      rw [rk_cons_not (fun e => klt_irrefl e), rk_none fun z hz e => klt_irrefl (klt_trans e (hy z hz))]
    | succ i =>
      have h' : r[i]? = some x := by simpa using h
      rw [rk_cons_lt (hy x (List.mem_of_getElem? h')), ih hr h']
theorem srt_at {l : List Ent} (hs : Srt l) {i : Nat} {x y : Ent} (h : l[i]? = some x) (h' : l[i + 1]? = some y) : x.1 < y.1 := by
  have h1 := List.getElem?_eq_some_iff.1 h
  have h2 := List.getElem?_eq_some_iff.1 h'
  obtain ⟨a, rfl⟩ := h1
  obtain ⟨b, rfl⟩ := h2
  exact List.pairwise_iff_getElem.1 hs i (i + 1) a b (by omega)

theorem lt_of_cell {w : World} {a : Addr} {v : Value} (h : w.cell? a = some v) : a.block < w.heap.size := by
  by_cases hl : a.block < w.heap.size
  · exact hl
  · have e : w.heap[a.block]? = none := Array.getElem?_eq_none (by omega)
    simp [World.cell?, e] at h
/-- What 'At' tells. -/
def AtSays (l : List Ent) (i : Int) (x : Ent) (f : Bool) : Prop := (f = true ∧ 0 ≤ i ∧ l[i.toNat]? = some x) ∨ (f = false ∧ x = (0, 0) ∧ ¬ (0 ≤ i ∧ i < l.length))
/-- What is not below a key. -/
def ge (k : KT) (l : List Ent) : List Ent := l.filter fun x => !decide (x.1 < k)
theorem ge_len (k : KT) (l : List Ent) : (ge k l).length ≤ l.length := List.length_filter_le _ _
end Go.Proofs.Ytpmdfgoajffmeaa
