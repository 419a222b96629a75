import Derived.Test.YtoclbmdnndaccaaDoorDW1
namespace Go.Proofs.YtoclbmdnndaccaaDoor
open Go.RowKit
attribute [local go_sem ↓] Go.wp_at_zero Go.wp_at_succ

theorem xor_mulpow (a b k : Nat) : (a ^^^ b) * 2 ^ k = a * 2 ^ k ^^^ b * 2 ^ k := by
  have := Nat.shiftLeft_xor_distrib (a := a) (b := b) (i := k)
  simpa [Nat.shiftLeft_eq] using this
/-- One bit turned over. -/
theorem numL_set : ∀ (l : List Nat) (k x : Nat), l[k / 8]? = some x → numL (l.set (k / 8) (x ^^^ 2 ^ (k % 8))) = numL l ^^^ 2 ^ k
  | [], k, x, h => by simp at h
  | c :: l, k, x, h => by
    by_cases hk : k < 8
    · have e0 : k / 8 = 0 := by omega
      have e1 : k % 8 = k := by omega
      rw [e0] at h ⊢
      rw [e1]
      obtain rfl : c = x := by simpa using h
      simp only [List.set_cons_zero, numL]
      ac_rfl
    · obtain ⟨m, rfl⟩ : ∃ m, k = m + 8 := ⟨k - 8, by omega⟩
      have e0 : (m + 8) / 8 = m / 8 + 1 := by omega
      have e1 : (m + 8) % 8 = m % 8 := by omega
      rw [e0] at h ⊢
      rw [e1]
      simp only [List.getElem?_cons_succ] at h
      simp only [List.set_cons_succ, numL]
      rw [numL_set l m x h, xor_mul256, Nat.pow_add, ← Nat.xor_assoc]
theorem xor_lt' {w i : Nat} (hw : w < 2 ^ i) : w ^^^ 2 ^ i < 2 ^ (i + 1) := Nat.xor_lt_two_pow (Nat.lt_of_lt_of_le hw (Nat.pow_le_pow_right (by decide) (Nat.le_succ i))) (Nat.pow_lt_pow_right (by decide) (Nat.lt_succ_self i))
theorem xor_ne {w i : Nat} (hw : w < 2 ^ i) : w ^^^ 2 ^ i ≠ 0 := by
  intro h
  have h2 := congrArg (· ^^^ 2 ^ i) h
  simp only [Nat.xor_assoc, Nat.xor_self, Nat.xor_zero, Nat.zero_xor] at h2
  omega

/-- A row that begins with these bytes. -/
def RowB (W : World) (g : Nat) (l : List Nat) : Prop := ∃ cur : Array Value, W.heap[g]? = some (.cells cur 5 (0, 0)) ∧ ∀ (i b : Nat), l[i]? = some b → cur[i]? = some (.int .u8 (b : Int))
theorem RowB.cell {W : World} {g : Nat} {l : List Nat} (h : RowB W g l) {i b : Nat} (hb : l[i]? = some b) : W.cell? ⟨g, i, none⟩ = some (.int .u8 (b : Int)) := by
  obtain ⟨cur, h1, h2⟩ := h
  rw [cell_of_row _ _ _ _ _ _ h1]
  exact h2 i b hb
theorem RowB.frozen {W : World} {g : Nat} {l : List Nat} (h : RowB W g l) (i : Nat) : W.frozen? ⟨g, i, none⟩ = false := by
  obtain ⟨cur, h1, _⟩ := h
  exact row_frozen i h1
theorem RowB.set {W : World} {g i : Nat} {l : List Nat} (h : RowB W g l) (hi : i < l.length) (b : Nat) : RowB (W.setCell ⟨g, i, none⟩ (.int .u8 (b : Int))) g (l.set i b) := by
  obtain ⟨cur, h1, h2⟩ := h
  refine ⟨_, heap_setCell_same _ g i _ _ _ h1, fun j c hj => ?_⟩
  rw [Array.getElem?_setIfInBounds]
  have hs : i < cur.size := by
    have := h2 i l[i] (List.getElem?_eq_getElem hi)
    exact (Array.getElem?_eq_some_iff.1 this).1
  rw [List.getElem?_set] at hj
  by_cases e : i = j
  · subst e
    simp [hi] at hj
    subst hj
    simp [hs]
  · rw [if_neg e] at hj
    rw [if_neg e]
    exact h2 j c hj
theorem RowB.has {W : World} {g n c : Nat} {l : List Nat} (h : RowB W g l) (hn : n = l.length) (hc : n ≤ c ∧ c ≤ maxLen) : HasB W (.slice (some ⟨g, 0, none⟩) n c) l := by
  subst hn
  have h' := h
  obtain ⟨cur, h1, _⟩ := h'
  refine ⟨_, _, rfl, ⟨hc.1, hc.2, nofun⟩, fun _ => ⟨g, 0, rfl, (Array.getElem?_eq_some_iff.1 h1).1, fun i b hb => ?_⟩⟩
  rw [Nat.zero_add]
  exact h.cell hb
theorem rowB_of {W : World} {base g n c : Nat} {l : List Nat} (h : W.ownsRow base 5 1 (.slice (some ⟨g, 0, none⟩) n c) n (nb l)) : RowB W g l ∧ n ≤ c ∧ c ≤ maxLen ∧ base ≤ g := by
  have h' := h
  obtain ⟨_, ⟨h0, _⟩ | ⟨g', c', cur, e, hbg, hg, hnc, hcm, hs, ht⟩⟩ := h'
  · simp at h0
  · simp only [Value.slice.injEq, Option.some.injEq, Addr.mk.injEq] at e
    obtain ⟨⟨rfl, _⟩, _, rfl⟩ := e
    refine ⟨⟨cur, hg, fun i b hb => ?_⟩, hnc, hcm, hbg⟩
    have h1 : (nb l)[i]? = some (.int .u8 (b : Int)) := by rw [nb_at, hb]; rfl
    rw [← ht, List.getElem?_take] at h1
    split at h1
    · simpa using h1
    · cases h1

end Go.Proofs.YtoclbmdnndaccaaDoor
