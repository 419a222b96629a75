/- Plain lists of entries, rising by their keys: no word of Go here. -/
namespace Go.Proofs.Ytpmdfgoajffmeaa
abbrev KT := Int
theorem klt_trans {a b c : KT} (h : a < b) (k : b < c) : a < c := Int.lt_trans h k
theorem klt_irrefl {a : KT} (h : a < a) : False := Int.lt_irrefl _ h
theorem keq_of {a b : KT} (h : ¬ a < b) (k : ¬ b < a) : a = b := Int.le_antisymm (Int.not_lt.1 k) (Int.not_lt.1 h)
theorem kle_lt {a b : KT} (h : a ≤ b) (k : b < a) : a < a := Int.lt_of_le_of_lt h k
theorem kle_of {a b : KT} (h : ¬ a < b) : b ≤ a := Int.not_lt.1 h
/-- A key with its value. -/
abbrev Ent := KT × Int
/-- Rising by the keys. -/
def Srt (l : List Ent) : Prop := l.Pairwise fun a b => a.1 < b.1
theorem Srt.nil : Srt [] := List.Pairwise.nil
theorem srt_mid {l r : List Ent} {e : Ent} : Srt (l ++ e :: r) ↔ Srt l ∧ Srt r ∧ (∀ x ∈ l, x.1 < e.1) ∧ (∀ x ∈ r, e.1 < x.1) := by
  unfold Srt
  rw [List.pairwise_append, List.pairwise_cons]
  constructor
  · rintro ⟨h1, ⟨h2, h3⟩, h4⟩
    exact ⟨h1, h3, fun x hx => h4 x hx e (List.mem_cons_self), h2⟩
  · rintro ⟨h1, h2, h3, h4⟩
    refine ⟨h1, ⟨h4, h2⟩, fun x hx y hy => ?_⟩
    rcases List.mem_cons.1 hy with rfl | hy
    · exact h3 x hx
    · exact klt_trans (h3 x hx) (h4 y hy)
theorem srt_app {l r : List Ent} : Srt (l ++ r) ↔ Srt l ∧ Srt r ∧ (∀ x ∈ l, ∀ y ∈ r, x.1 < y.1) := by
  unfold Srt
  rw [List.pairwise_append]
theorem srt_cons {r : List Ent} {e : Ent} : Srt (e :: r) ↔ Srt r ∧ (∀ x ∈ r, e.1 < x.1) := by
  unfold Srt
  rw [List.pairwise_cons]
  exact ⟨fun h => ⟨h.2, h.1⟩, fun h => ⟨h.2, h.1⟩⟩
/-- In a rising list a key stands once. -/
theorem Srt.inj {l : List Ent} (h : Srt l) {x y : Ent} (hx : x ∈ l) (hy : y ∈ l) (e : x.1 = y.1) : x = y := by
  induction l with
  | nil => cases hx
  | cons z r ih =>
    obtain ⟨hr, hz⟩ := srt_cons.1 h
    rcases List.mem_cons.1 hx with rfl | hx'
    · rcases List.mem_cons.1 hy with rfl | hy'
      · rfl
      · exact (klt_irrefl (e ▸ hz y hy')).elim
    · rcases List.mem_cons.1 hy with rfl | hy'
      · exact (klt_irrefl (e ▸ hz x hx')).elim
      · exact ih hr hx' hy'
/-- A rising list is fixed by what stands in it. -/
theorem Srt.ext {l r : List Ent} (hl : Srt l) (hr : Srt r) (h : ∀ x, x ∈ l ↔ x ∈ r) : l = r := by
  induction l generalizing r with
  | nil =>
    cases r with
    | nil => rfl
    | cons y r => exact absurd ((h y).2 List.mem_cons_self) (by simp)
  | cons x l ih =>
    cases r with
    | nil => exact absurd ((h x).1 List.mem_cons_self) (by simp)
    | cons y r =>
      obtain ⟨hl', hx⟩ := srt_cons.1 hl
      obtain ⟨hr', hy⟩ := srt_cons.1 hr
      have e : x = y := by
        rcases List.mem_cons.1 ((h x).1 List.mem_cons_self) with e | hxr
        · exact e
        · rcases List.mem_cons.1 ((h y).2 List.mem_cons_self) with e | hyl
          · exact e.symm
          · exact (klt_irrefl (klt_trans (hx y hyl) (hy x hxr))).elim
      subst e
      congr 1
      refine ih hl' hr' fun z => ?_
      constructor
      · intro hz
        rcases List.mem_cons.1 ((h z).1 (List.mem_cons_of_mem _ hz)) with rfl | hz'
        · exact (klt_irrefl (hx z hz)).elim
        · exact hz'
      · intro hz
        rcases List.mem_cons.1 ((h z).2 (List.mem_cons_of_mem _ hz)) with rfl | hz'
        · exact (klt_irrefl (hy z hz)).elim
        · exact hz'
/-- A rising list that lies within another list is no longer than it. -/
theorem Srt.len_le {l z : List Ent} (hl : Srt l) (h : ∀ x ∈ l, x ∈ z) : l.length ≤ z.length := by
  induction l generalizing z with
  | nil => simp
  | cons x l ih =>
    obtain ⟨hl', hx⟩ := srt_cons.1 hl
    have hxz := h x List.mem_cons_self
    have := ih hl' (z := z.erase x) fun y hy => by
      have hyx : y ≠ x := fun e => by subst e; exact klt_irrefl (hx y hy)
      exact (List.mem_erase_of_ne hyx).2 (h y (List.mem_cons_of_mem _ hy))
    rw [List.length_erase_of_mem hxz] at this
    have : 0 < z.length := List.length_pos_of_mem hxz
    simp only [List.length_cons]
    omega
end Go.Proofs.Ytpmdfgoajffmeaa
