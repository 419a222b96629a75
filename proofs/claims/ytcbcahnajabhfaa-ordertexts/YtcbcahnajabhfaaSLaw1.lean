import Derived.Test.YtcbcahnajabhfaaSRef4
import Derived.Test.YtcbcahnajabhfaaSLawC
namespace Go.Proofs.Ytcbcahnajabhfaa
open Go.RowKit Go.Shelf
attribute [local go_sem] kless_eq keq_eq kne_eq kgeq_eq
attribute [local go_sem ↓] Go.wp_at_zero Go.wp_at_succ

set_option maxRecDepth 100000 in
set_option maxHeartbeats 2000000 in
theorem rkeys_any {W : World} {v : Value} {l : List Ent} (h : IsR W v l) (hsz : l.length * 16 ≤ 140737488355328) :
    Calls Try.prog 22 #[v] W fun o W' => ∃ u, o = .returned u ∧ IsKs W' u (l.map (·.1)) ∧ Below W.heap.size W W' := by
  obtain ⟨i0, hi, hz0, hz1, hz2⟩ := info_parts Try.infoKey
  obtain ⟨a, c, rfl, h1, h2, h3⟩ := h
  unfold maxLen at h2
  have H3 := hide h3
  clear h3
  go_enter Try.func22, Try.ntmps22
  go_wp2
  go_loopg [3, 4] l.length (fun gk v3 v4 wr => ∃ (j : Nat), v4 = .int .i64 (j : Int) ∧ gk = l.length - j ∧ j ≤ l.length ∧ Below W.heap.size W wr ∧ wr.ownsRow W.heap.size 9 1 v3 ((l.take j).map (·.1)).length (((l.take j).map (·.1)).map fun k => .string k))
  case atStart => exact ⟨0, rfl, rfl, Nat.zero_le _, Below.refl _ _, World.ownsRow_nil _ _ _ _⟩
  case round =>
    obtain ⟨j, rfl, hgk, hj, hB, hown⟩ := hrel
    have Hgk := hide hgk
    clear hgk
    have hfl : ((l.take j).map (·.1)).length ≤ j := by simp; omega
    by_cases hlt : j < l.length
    · obtain ⟨g, o, rfl, hg, hc⟩ := unhide H3 (by omega)
      obtain ⟨x, hx⟩ : ∃ x, l[j]? = some x := ⟨_, List.getElem?_eq_getElem hlt⟩
      have c0 : wr.cell? ⟨g, o + j * 2, none⟩ = some (.string x.1) := (hB.cell (p := ⟨g, o + j * 2, none⟩) hg).trans (hc j x hx).1
      have hj0 : (0 : Int) ≤ (j : Int) := Int.natCast_nonneg _
      have hj1 : (j : Int) < (l.length : Int) := by omega
      have Hnext := hide (take_next hx)
      clear hx hc
      go_wp2_with (at_builtin; refine wpList_append_own _ rfl _ _ 50 rfl W.heap.size 9 i0 (.string ⟨#[]⟩) 1 16 Try.underlying50 hi hz0 hz1 hz2 rfl (by decide) _ _ _ rfl (hown.alloc _) ⟨wr.heap.size, 0, none⟩ 1 1 [.string x.1] rfl rfl (cell_one_new _ _ _) (by simp [Value.oneCell']) (by unfold maxLen; omega) (by omega) (by have := hB.size; simp; omega) ?_; intro v' w1 hown1 hgrow hdrop; clear hdrop; have hb1 : Below W.heap.size W w1 := (hB.alloc hB.size _).grown hgrow (hB.alloc hB.size _).size (fun k e => (hown.lt k e).1); clear hgrow)
      go_roundg (l.length - (j + 1))
      case measure => have := unhide Hgk; omega
      case rel => exact ⟨j + 1, by go_num, rfl, by omega, hb1, by rw [unhide Hnext, List.map_append, List.length_append, List.map_append]; exact hown1⟩
    · obtain rfl : j = l.length := by omega
      go_wp2
      go_ret
      rw [List.take_length] at hown
      exact ⟨_, rfl, isKs_own hown, hB⟩
end Go.Proofs.Ytcbcahnajabhfaa
