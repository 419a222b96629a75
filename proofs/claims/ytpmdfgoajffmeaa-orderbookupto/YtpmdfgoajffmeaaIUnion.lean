import Derived.Test.YtpmdfgoajffmeaaISplit

namespace Go.Proofs.Ytpmdfgoajffmeaa
open Go.RowKit
attribute [local go_sem ↓] Go.wp_at_zero Go.wp_at_succ

theorem has_lo {k j : KT} {l : List Ent} (h : j < k) : HasKey (lo k l) j ↔ HasKey l j := by
  constructor
  · rintro ⟨x, hx, e⟩; exact ⟨x, (mem_lo.1 hx).1, e⟩
  · rintro ⟨x, hx, e⟩; exact ⟨x, mem_lo.2 ⟨hx, e ▸ h⟩, e⟩
theorem has_hi {k j : KT} {l : List Ent} (h : k < j) : HasKey (hi k l) j ↔ HasKey l j := by
  constructor
  · rintro ⟨x, hx, e⟩; exact ⟨x, (mem_hi.1 hx).1, e⟩
  · rintro ⟨x, hx, e⟩; exact ⟨x, mem_hi.2 ⟨hx, e ▸ h⟩, e⟩

/-- What stands in the union: all of b, and of a what b has no key for. -/
def InU (a b : List Ent) (x : Ent) : Prop := x ∈ b ∨ x ∈ a ∧ ¬ HasKey b x.1
theorem union_mid {a l r u v : List Ent} {e : Ent} (hb : Srt (l ++ e :: r)) (hu : Srt u) (hv : Srt v)
    (mu : ∀ x, x ∈ u ↔ InU (lo e.1 a) l x) (mv : ∀ x, x ∈ v ↔ InU (hi e.1 a) r x) :
    Srt (u ++ e :: v) ∧ ∀ x, x ∈ u ++ e :: v ↔ InU a (l ++ e :: r) x := by
  obtain ⟨h1, h2, h3, h4⟩ := srt_mid.1 hb
  have lu : ∀ x ∈ u, x.1 < e.1 := fun x hx => by
    rcases (mu x).1 hx with h | h
    · exact h3 x h
    · exact (mem_lo.1 h.1).2
  have gv : ∀ x ∈ v, e.1 < x.1 := fun x hx => by
    rcases (mv x).1 hx with h | h
    · exact h4 x h
    · exact (mem_hi.1 h.1).2
  refine ⟨srt_mid.2 ⟨hu, hv, lu, gv⟩, fun x => ?_⟩
  constructor
  · intro hx
    rcases List.mem_append.1 hx with h | h
    · rcases (mu x).1 h with h' | ⟨h', hn⟩
      · exact .inl (List.mem_append_left _ h')
      · exact .inr ⟨(mem_lo.1 h').1, fun hk => hn ((has_left hb (mem_lo.1 h').2).1 hk)⟩
    · rcases List.mem_cons.1 h with rfl | h
      · exact .inl (List.mem_append_right _ List.mem_cons_self)
      · rcases (mv x).1 h with h' | ⟨h', hn⟩
        · exact .inl (List.mem_append_right _ (List.mem_cons_of_mem _ h'))
        · exact .inr ⟨(mem_hi.1 h').1, fun hk => hn ((has_right hb (mem_hi.1 h').2).1 hk)⟩
  · rintro (hx | ⟨hx, hn⟩)
    · rcases List.mem_append.1 hx with h | h
      · exact List.mem_append_left _ ((mu x).2 (.inl h))
      · rcases List.mem_cons.1 h with rfl | h
        · exact List.mem_append_right _ List.mem_cons_self
        · exact List.mem_append_right _ (List.mem_cons_of_mem _ ((mv x).2 (.inl h)))
    · by_cases hl : x.1 < e.1
      · exact List.mem_append_left _ ((mu x).2 (.inr ⟨mem_lo.2 ⟨hx, hl⟩, fun hk => hn ((has_left hb hl).2 hk)⟩))
      · by_cases hg : e.1 < x.1
        · exact List.mem_append_right _ (List.mem_cons_of_mem _ ((mv x).2 (.inr ⟨mem_hi.2 ⟨hx, hg⟩, fun hk => hn ((has_right hb hg).2 hk)⟩)))
        · exact (hn ⟨e, List.mem_append_right _ List.mem_cons_self, keq_of hg hl⟩).elim
theorem union_len {a b u : List Ent} (hu : Srt u) (mu : ∀ x, x ∈ u ↔ InU a b x) : u.length ≤ a.length + b.length := by
  have := hu.len_le (z := a ++ b) fun x hx => by
    rcases (mu x).1 hx with h | h
    · exact List.mem_append_right _ h
    · exact List.mem_append_left _ h.1
  simpa using this

end Go.Proofs.Ytpmdfgoajffmeaa
