import Derived.Test.YtadmamfekodkaaaDoorDB

namespace Go.Proofs.YtadmamfekodkaaaDoor
open Go.RowKit

/-- Lists of bytes that can be read. -/
def HasBB (W : World) (v : Value) (ls : List (List Nat)) : Prop := ∃ a c, v = .slice a ls.length c ∧ (ls.length ≤ c ∧ c ≤ maxLen ∧ (a = none → c = 0)) ∧ (0 < ls.length → ∃ g off, a = some ⟨g, off, none⟩ ∧ g < W.heap.size ∧ ∀ (i : Nat) (l : List Nat), ls[i]? = some l → ∃ u, W.cell? ⟨g, off + i, none⟩ = some u ∧ HasB W u l)
theorem HasBB.up {W w : World} {v : Value} {ls : List (List Nat)} (h : HasBB W v ls) (hb : Below W.heap.size W w) : HasBB w v ls := by
  obtain ⟨a, c, rfl, hm, h3⟩ := h
  refine ⟨a, c, rfl, hm, fun hp => ?_⟩
  obtain ⟨g, off, rfl, h4, h5⟩ := h3 hp
  refine ⟨g, off, rfl, Nat.lt_of_lt_of_le h4 hb.size, fun i l hl => ?_⟩
  obtain ⟨u, hu, hB⟩ := h5 i l hl
  exact ⟨u, (hb.cell (p := ⟨g, off + i, none⟩) h4).trans hu, hB.up hb⟩
theorem hasBB_one {W : World} {v : Value} {l : List Nat} (h : HasB W v l) (t : TypeId) : HasBB (W.alloc (.cells #[v] t)) (.slice (some ⟨W.heap.size, 0, none⟩) 1 1) [l] := by
  refine ⟨_, _, rfl, ⟨Nat.le_refl _, by unfold maxLen; decide, nofun⟩, fun _ => ⟨W.heap.size, 0, rfl, by rw [World.size_alloc]; omega, fun i l' hl => ?_⟩⟩
  match i, hl with
  | 0, hl =>
    obtain rfl := Option.some.inj hl
    refine ⟨v, ?_, h.up ((Below.refl _ _).alloc (Nat.le_refl _) _)⟩
    rw [cell_of_row _ _ _ _ _ _ (heap_new W _)]
    rfl
  | i + 1, hl => simp at hl
end Go.Proofs.YtadmamfekodkaaaDoor
