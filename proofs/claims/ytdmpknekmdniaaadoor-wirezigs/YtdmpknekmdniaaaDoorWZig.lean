import Derived.Test.YtdmpknekmdniaaaDoorWKw
namespace Go.Proofs.YtdmpknekmdniaaaDoor
open Go.RowKit
attribute [local go_sem ↓] Go.wp_at_zero Go.wp_at_succ

/-- Numbers that came in. -/
def HasI (W : World) (v : Value) (l : List Int) : Prop := ∃ a c, v = .slice a l.length c ∧ l.length ≤ maxLen ∧ (∀ x ∈ l, Rng x) ∧ (0 < l.length → ∃ g off, a = some ⟨g, off, none⟩ ∧ g < W.heap.size ∧ ∀ i x, l[i]? = some x → W.cell? ⟨g, off + i, none⟩ = some (.int .i64 x))

set_option maxRecDepth 100000 in
set_option maxHeartbeats 8000000 in
theorem zigs_any (hadd : AddNil) {W : World} (hF : HasF W) {v : Value} {l : List Int} (h : HasI W v l) : Calls Tryd.prog 3 #[v] W fun e W' => e = .returned (.bool true) ∧ Below W.heap.size W W' := by
  obtain ⟨a, c, rfl, hm, hr, h3⟩ := h
  have H3 := hide h3
  have Hr := hide hr
  unfold maxLen at hm
  clear h3 hr
  go_enter Tryd.func3, Tryd.ntmps3
  go_wp2_with fail
  refine (known_any hadd hF).mono ?_
  rintro e w1 ⟨rfl, hb1⟩
  go_wp2
  go_loopg [3] l.length (fun gk v3 wr => ∃ (i : Nat), v3 = .int .i64 (i : Int) ∧ gk = l.length - i ∧ i ≤ l.length ∧ wr = w1)
  case atStart => exact ⟨0, rfl, rfl, Nat.zero_le _, rfl⟩
  case round =>
    obtain ⟨i, rfl, hgk, hin, rfl⟩ := hrel
    have Hgk := hide hgk
    clear hgk
    by_cases hlt : i < l.length
    · obtain ⟨g, off, rfl, hg, hc⟩ := unhide H3 (by omega)
      obtain ⟨x, hx⟩ : ∃ x, l[i]? = some x := ⟨_, List.getElem?_eq_getElem hlt⟩
      have c0 := (hb1.cell (p := ⟨g, off + i, none⟩) hg).trans (hc i x hx)
      have hR := unhide Hr x (List.mem_of_getElem? hx)
      have hi0 : (0 : Int) ≤ (i : Int) := Int.natCast_nonneg _
      have hi1 : (i : Int) < (l.length : Int) := by omega
      have hR' := hR
      unfold Rng at hR'
      clear hc hx
      go_wp2_with fail
      refine (zig_any wr x hR).mono ?_
      rintro e w' ⟨rfl, he⟩
      obtain rfl : wr = w' := he.symm
      go_wp2_with fail
      refine (zag_any wr x).mono ?_
      rintro e w' ⟨rfl, he⟩
      obtain rfl : wr = w' := he.symm
      go_wp2_with fail
      refine (zag_any wr (zig x)).mono ?_
      rintro e w' ⟨rfl, he⟩
      obtain rfl : wr = w' := he.symm
      rw [zag_zig hR]
      have e0 : (x != x) = false := by simp
      go_wp2_with fail
      refine (zig_any wr (zag x) (zag_rng x)).mono ?_
      rintro e w' ⟨rfl, he⟩
      obtain rfl : wr = w' := he.symm
      rw [zig_zag hR]
      obtain hcase | ⟨h1, h2⟩ : (x < -2305843009213693952 ∨ 2305843009213693952 ≤ x) ∨ (-2305843009213693952 ≤ x ∧ x < 2305843009213693952) := by omega
      · rcases hcase with hc1 | hc1
        · have f1 : decide (-2305843009213693952 ≤ x) = false := by simp; omega
          clear hR'
          go_wp2
          go_roundg (l.length - (i + 1))
          case measure => have := unhide Hgk; omega
          case rel => exact ⟨i + 1, by go_num, rfl, by omega, rfl⟩
        · have f1 : -2305843009213693952 ≤ x := by omega
          have f2 : decide (x < 2305843009213693952) = false := by simp; omega
          clear hR'
          go_wp2
          go_roundg (l.length - (i + 1))
          case measure => have := unhide Hgk; omega
          case rel => exact ⟨i + 1, by go_num, rfl, by omega, rfl⟩
      · by_cases hneg : x < 0
        · have hz : zig x = -2 * x - 1 := by unfold zig; rw [if_pos hneg, wrap64_eq]; omega
          rw [hz]
          clear hR'
          go_wp2
          all_goals first
            | (go_roundg (l.length - (i + 1))
               case measure => have := unhide Hgk; omega
               case rel => exact ⟨i + 1, by go_num, rfl, by omega, rfl⟩)
            | (exfalso
               rename_i q
               rcases q with q | q
               · omega
               · simp at q
                 omega)
        · have hz : zig x = 2 * x := by unfold zig; rw [if_neg hneg, wrap64_eq]; omega
          rw [hz]
          clear hR'
          go_wp2
          all_goals first
            | (go_roundg (l.length - (i + 1))
               case measure => have := unhide Hgk; omega
               case rel => exact ⟨i + 1, by go_num, rfl, by omega, rfl⟩)
            | (exfalso
               rename_i q
               rcases q with q | q
               · omega
               · simp at q
                 omega)
    · obtain rfl : i = l.length := by omega
      go_wp2
      go_ret
      exact ⟨rfl, hb1⟩
end Go.Proofs.YtdmpknekmdniaaaDoor
