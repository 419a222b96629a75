import Derived.Test.YtpmdfgoajffmeaaIDrop

namespace Go.Proofs.Ytpmdfgoajffmeaa
open Go.RowKit
attribute [local go_sem ↓] Go.wp_at_zero Go.wp_at_succ

/-- What lies below a key, what above. -/
def lo (k : KT) (l : List Ent) : List Ent := l.filter fun x => decide (x.1 < k)
def hi (k : KT) (l : List Ent) : List Ent := l.filter fun x => decide (k < x.1)
theorem mem_lo {k : KT} {l : List Ent} {x : Ent} : x ∈ lo k l ↔ x ∈ l ∧ x.1 < k := by simp [lo]
theorem mem_hi {k : KT} {l : List Ent} {x : Ent} : x ∈ hi k l ↔ x ∈ l ∧ k < x.1 := by simp [hi]
theorem lo_srt {k : KT} {l : List Ent} (h : Srt l) : Srt (lo k l) := List.Pairwise.sublist List.filter_sublist h
theorem hi_srt {k : KT} {l : List Ent} (h : Srt l) : Srt (hi k l) := List.Pairwise.sublist List.filter_sublist h
theorem lo_len (k : KT) (l : List Ent) : (lo k l).length ≤ l.length := List.length_filter_le _ _
theorem hi_len (k : KT) (l : List Ent) : (hi k l).length ≤ l.length := List.length_filter_le _ _
theorem lo_left {k : KT} {l r : List Ent} {x : Ent} (hs : Srt (l ++ x :: r)) (h : ¬ x.1 < k) : lo k (l ++ x :: r) = lo k l := by
  obtain ⟨h1, h2, h3, h4⟩ := srt_mid.1 hs
  unfold lo
  have e : r.filter (fun x => decide (x.1 < k)) = [] := List.filter_eq_nil_iff.2 fun y hy hy' => h (klt_trans (h4 y hy) (of_decide_eq_true hy'))
  rw [List.filter_append, List.filter_cons_of_neg (by simpa using h), e, List.append_nil]
theorem lo_right {k : KT} {l r : List Ent} {x : Ent} (hs : Srt (l ++ x :: r)) (h : x.1 < k) : lo k (l ++ x :: r) = l ++ x :: lo k r := by
  obtain ⟨h1, h2, h3, h4⟩ := srt_mid.1 hs
  unfold lo
  rw [List.filter_append, List.filter_cons_of_pos (by simpa using h), List.filter_eq_self.2]
  intro y hy
  exact decide_eq_true (klt_trans (h3 y hy) h)
theorem hi_left {k : KT} {l r : List Ent} {x : Ent} (hs : Srt (l ++ x :: r)) (h : k < x.1) : hi k (l ++ x :: r) = hi k l ++ x :: r := by
  obtain ⟨h1, h2, h3, h4⟩ := srt_mid.1 hs
  unfold hi
  have e : r.filter (fun x => decide (k < x.1)) = r := List.filter_eq_self.2 fun y hy => decide_eq_true (klt_trans h (h4 y hy))
  rw [List.filter_append, List.filter_cons_of_pos (by simpa using h), e]
theorem hi_right {k : KT} {l r : List Ent} {x : Ent} (hs : Srt (l ++ x :: r)) (h : ¬ k < x.1) : hi k (l ++ x :: r) = hi k r := by
  obtain ⟨h1, h2, h3, h4⟩ := srt_mid.1 hs
  unfold hi
  have e : l.filter (fun x => decide (k < x.1)) = [] := List.filter_eq_nil_iff.2 fun y hy hy' => h (klt_trans (of_decide_eq_true hy') (h3 y hy))
  rw [List.filter_append, List.filter_cons_of_neg (by simpa using h), e, List.nil_append]
theorem lo_here {k : KT} {l r : List Ent} {x : Ent} (hs : Srt (l ++ x :: r)) (h : x.1 = k) : lo k (l ++ x :: r) = l := by
  rw [lo_left hs (fun e => klt_irrefl (h ▸ e))]
  obtain ⟨h1, h2, h3, h4⟩ := srt_mid.1 hs
  unfold lo
  rw [List.filter_eq_self.2]
  intro y hy
  exact decide_eq_true (h ▸ h3 y hy)
theorem hi_here {k : KT} {l r : List Ent} {x : Ent} (hs : Srt (l ++ x :: r)) (h : x.1 = k) : hi k (l ++ x :: r) = r := by
  rw [hi_right hs (fun e => klt_irrefl (h ▸ e))]
  obtain ⟨h1, h2, h3, h4⟩ := srt_mid.1 hs
  unfold hi
  rw [List.filter_eq_self.2]
  intro y hy
  exact decide_eq_true (h ▸ h4 y hy)
theorem has_left {k : KT} {l r : List Ent} {x : Ent} (hs : Srt (l ++ x :: r)) (hlt : k < x.1) : HasKey (l ++ x :: r) k ↔ HasKey l k := by
  obtain ⟨h1, h2, h3, h4⟩ := srt_mid.1 hs
  constructor
  · rintro ⟨y, hy, e'⟩
    rcases List.mem_append.1 hy with h | h
    · exact ⟨y, h, e'⟩
    · rcases List.mem_cons.1 h with rfl | h
      · exact (klt_irrefl (e' ▸ hlt)).elim
      · exact (klt_irrefl (klt_trans (e' ▸ h4 y h) hlt)).elim
  · rintro ⟨y, hy, e'⟩; exact ⟨y, List.mem_append_left _ hy, e'⟩
theorem has_right {k : KT} {l r : List Ent} {x : Ent} (hs : Srt (l ++ x :: r)) (hgt : x.1 < k) : HasKey (l ++ x :: r) k ↔ HasKey r k := by
  obtain ⟨h1, h2, h3, h4⟩ := srt_mid.1 hs
  constructor
  · rintro ⟨y, hy, e'⟩
    rcases List.mem_append.1 hy with h | h
    · exact (klt_irrefl (klt_trans (e' ▸ h3 y h) hgt)).elim
    · rcases List.mem_cons.1 h with rfl | h
      · exact (klt_irrefl (e' ▸ hgt)).elim
      · exact ⟨y, h, e'⟩
  · rintro ⟨y, hy, e'⟩; exact ⟨y, List.mem_append_right _ (List.mem_cons_of_mem _ hy), e'⟩

/-- What 'split' answers. -/
def Splits (W : World) (k : KT) (l : List Ent) (o : Ending) (W' : World) : Prop := ∃ pb pa pc TB TC, o = .returned (.tuple #[.pointer pb, .pointer pa, .pointer pc]) ∧ IsT W'.heap.size W' pb TB ∧ IsT W'.heap.size W' pc TC ∧ TB.io = lo k l ∧ TC.io = hi k l ∧ (pa.isSome = true ↔ HasKey l k) ∧ Below W.heap.size W W'

end Go.Proofs.Ytpmdfgoajffmeaa
