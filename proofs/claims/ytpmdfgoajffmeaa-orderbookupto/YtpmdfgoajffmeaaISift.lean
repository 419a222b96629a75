import Derived.Test.YtpmdfgoajffmeaaIUnion

namespace Go.Proofs.Ytpmdfgoajffmeaa
open Go.RowKit
attribute [local go_sem ↓] Go.wp_at_zero Go.wp_at_succ

/-- What is kept of a: what b has a key for (sh), or what it has none for. -/
def InS (a b : List Ent) (sh : Bool) (x : Ent) : Prop := x ∈ a ∧ (HasKey b x.1 ↔ sh = true)
theorem sift_parts {b l r u v : List Ent} {e : Ent} {sh : Bool} (ha : Srt (l ++ e :: r))
    (mu : ∀ x, x ∈ u ↔ InS l (lo e.1 b) sh x) (mv : ∀ x, x ∈ v ↔ InS r (hi e.1 b) sh x) :
    (∀ x ∈ u, x.1 < e.1) ∧ (∀ x ∈ v, e.1 < x.1) ∧ (∀ x, x ∈ u ↔ x ∈ l ∧ (HasKey b x.1 ↔ sh = true)) ∧ (∀ x, x ∈ v ↔ x ∈ r ∧ (HasKey b x.1 ↔ sh = true)) := by
  obtain ⟨h1, h2, h3, h4⟩ := srt_mid.1 ha
  refine ⟨fun x hx => h3 x ((mu x).1 hx).1, fun x hx => h4 x ((mv x).1 hx).1, fun x => ?_, fun x => ?_⟩
  · rw [mu x]
    constructor
    · rintro ⟨hx, hk⟩; exact ⟨hx, (has_lo (h3 x hx)).symm.trans hk⟩
    · rintro ⟨hx, hk⟩; exact ⟨hx, (has_lo (h3 x hx)).trans hk⟩
  · rw [mv x]
    constructor
    · rintro ⟨hx, hk⟩; exact ⟨hx, (has_hi (h4 x hx)).symm.trans hk⟩
    · rintro ⟨hx, hk⟩; exact ⟨hx, (has_hi (h4 x hx)).trans hk⟩
theorem sift_with {b l r u v : List Ent} {e : Ent} {sh : Bool} (ha : Srt (l ++ e :: r)) (hu : Srt u) (hv : Srt v)
    (mu : ∀ x, x ∈ u ↔ InS l (lo e.1 b) sh x) (mv : ∀ x, x ∈ v ↔ InS r (hi e.1 b) sh x) (he : HasKey b e.1 ↔ sh = true) :
    Srt (u ++ e :: v) ∧ ∀ x, x ∈ u ++ e :: v ↔ InS (l ++ e :: r) b sh x := by
  obtain ⟨lu, gv, m1, m2⟩ := sift_parts ha mu mv
  refine ⟨srt_mid.2 ⟨hu, hv, lu, gv⟩, fun x => ?_⟩
  simp only [InS, List.mem_append, List.mem_cons, m1, m2]
  constructor
  · rintro (⟨hx, hk⟩ | rfl | ⟨hx, hk⟩)
    · exact ⟨.inl hx, hk⟩
    · exact ⟨.inr (.inl rfl), he⟩
    · exact ⟨.inr (.inr hx), hk⟩
  · rintro ⟨hx | rfl | hx, hk⟩
    · exact .inl ⟨hx, hk⟩
    · exact .inr (.inl rfl)
    · exact .inr (.inr ⟨hx, hk⟩)
theorem sift_less {b l r u v : List Ent} {e : Ent} {sh : Bool} (ha : Srt (l ++ e :: r)) (hu : Srt u) (hv : Srt v)
    (mu : ∀ x, x ∈ u ↔ InS l (lo e.1 b) sh x) (mv : ∀ x, x ∈ v ↔ InS r (hi e.1 b) sh x) (he : ¬ (HasKey b e.1 ↔ sh = true)) :
    Srt (u ++ v) ∧ ∀ x, x ∈ u ++ v ↔ InS (l ++ e :: r) b sh x := by
  obtain ⟨lu, gv, m1, m2⟩ := sift_parts ha mu mv
  refine ⟨srt_app.2 ⟨hu, hv, fun x hx y hy => klt_trans (lu x hx) (gv y hy)⟩, fun x => ?_⟩
  simp only [InS, List.mem_append, List.mem_cons, m1, m2]
  constructor
  · rintro (⟨hx, hk⟩ | ⟨hx, hk⟩)
    · exact ⟨.inl hx, hk⟩
    · exact ⟨.inr (.inr hx), hk⟩
  · rintro ⟨hx | rfl | hx, hk⟩
    · exact .inl ⟨hx, hk⟩
    · exact (he hk).elim
    · exact .inr ⟨hx, hk⟩
theorem sift_len {a b u : List Ent} {sh : Bool} (hu : Srt u) (mu : ∀ x, x ∈ u ↔ InS a b sh x) : u.length ≤ a.length := hu.len_le fun x hx => ((mu x).1 hx).1

end Go.Proofs.Ytpmdfgoajffmeaa
