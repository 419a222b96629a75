import Derived.Test.YtcbcahnajabhfaaSRank
import Derived.Test.YtcbcahnajabhfaaSSplit
import Derived.WalkKit
import Derived.OwnWalk
import Derived.Below
import Derived.Deep.LoopGhost
import Derived.WalkSmall
import Derived.BigQuiet
import Derived.Deep.QuietTactic
namespace Go.Proofs.Ytcbcahnajabhfaa
open Go.RowKit
attribute [local go_sem] kless_eq keq_eq kne_eq kgeq_eq
attribute [local go_sem ↓] Go.wp_at_zero Go.wp_at_succ

theorem Try.infoPair : (Try.prog.info? 73).map (fun i => (i.zero, i.size, i.bytes)) = some (some (.agg #[.string ⟨#[]⟩, .int .i64 0]), 2, 24) := by kernel_rfl

/-- The cells of a list of entries, one behind the other. -/
def flat (l : List Ent) : List Value := l.flatMap fun x => [.string x.1, .int .i64 x.2]
theorem flat_app (l r : List Ent) : flat (l ++ r) = flat l ++ flat r := by simp [flat]
theorem flat_one (x : Ent) : flat [x] = [.string x.1, .int .i64 x.2] := rfl
theorem flat_len (l : List Ent) : (flat l).length = l.length * 2 := by
  induction l with
  | nil => rfl
  | cons x r ih => rw [show flat (x :: r) = [.string x.1, .int .i64 x.2] ++ flat r from rfl, List.length_append, ih, List.length_cons]; simp; omega
theorem flat_at {l : List Ent} {i : Nat} {x : Ent} (h : l[i]? = some x) : (flat l)[i * 2]? = some (.string x.1) ∧ (flat l)[i * 2 + 1]? = some (.int .i64 x.2) := by
  induction l generalizing i with
  | nil => simp at h
  | cons y r ih =>
    rw [show flat (y :: r) = .string y.1 :: .int .i64 y.2 :: flat r from rfl]
    cases i with
    | zero =>
      obtain rfl : y = x := by simpa using h
      exact ⟨rfl, rfl⟩
    | succ i =>
      have h' : r[i]? = some x := by simpa using h
      obtain ⟨h1, h2⟩ := ih h'
      rw [show (i + 1) * 2 = i * 2 + 1 + 1 by omega]
      exact ⟨by simpa using h1, by simpa using h2⟩

/-- The slice leads to these entries, in memory that is there. -/
def IsR (W : World) (v : Value) (l : List Ent) : Prop := ∃ a c, v = .slice a l.length c ∧ l.length ≤ c ∧ c ≤ maxLen ∧
  (0 < l.length → ∃ g o, a = some ⟨g, o, none⟩ ∧ g < W.heap.size ∧ ∀ i x, l[i]? = some x → W.cell? ⟨g, o + i * 2, none⟩ = some (.string x.1) ∧ W.cell? ⟨g, o + i * 2 + 1, none⟩ = some (.int .i64 x.2))
theorem IsR.up {W w : World} (hb : Below W.heap.size W w) {v : Value} {l : List Ent} (h : IsR W v l) : IsR w v l := by
  obtain ⟨a, c, rfl, h1, h2, h3⟩ := h
  refine ⟨a, c, rfl, h1, h2, fun hp => ?_⟩
  obtain ⟨g, o, rfl, hg, hc⟩ := h3 hp
  exact ⟨g, o, rfl, by have := hb.size; omega, fun i x hx => ⟨(hb.cell (p := ⟨g, o + i * 2, none⟩) hg).trans (hc i x hx).1, (hb.cell (p := ⟨g, o + i * 2 + 1, none⟩) hg).trans (hc i x hx).2⟩⟩
theorem ownsRow_below {W w : World} {base e size n : Nat} {v : Value} {xs : List Value} (h : W.ownsRow base e size v n xs) (hb : Below W.heap.size W w) : w.ownsRow base e size v n xs := by
  obtain ⟨h1, h2 | ⟨g, c, cur, hv, h2, h3, h4⟩⟩ := h
  · exact ⟨h1, .inl h2⟩
  · exact ⟨h1, .inr ⟨g, c, cur, hv, h2, (hb.block g (Array.getElem?_eq_some_iff.1 h3).1).trans h3, h4⟩⟩
/-- The same, from an array's begin on. -/
def IsR0 (W : World) (v : Value) (l : List Ent) : Prop := ∃ a c, v = .slice a l.length c ∧ l.length ≤ c ∧ c ≤ maxLen ∧
  (0 < l.length → ∃ g, a = some ⟨g, 0, none⟩ ∧ g < W.heap.size ∧ ∀ i x, l[i]? = some x → W.cell? ⟨g, 0 + i * 2, none⟩ = some (.string x.1) ∧ W.cell? ⟨g, 0 + i * 2 + 1, none⟩ = some (.int .i64 x.2))
theorem IsR0.r {W : World} {v : Value} {l : List Ent} (h : IsR0 W v l) : IsR W v l := by
  obtain ⟨a, c, h0, h1, h2, h3⟩ := h
  exact ⟨a, c, h0, h1, h2, fun hp => let ⟨g, h4, h5, h6⟩ := h3 hp; ⟨g, 0, h4, h5, h6⟩⟩
theorem IsR0.up {W w : World} (hb : Below W.heap.size W w) {v : Value} {l : List Ent} (h : IsR0 W v l) : IsR0 w v l := by
  obtain ⟨a, c, rfl, h1, h2, h3⟩ := h
  refine ⟨a, c, rfl, h1, h2, fun hp => ?_⟩
  obtain ⟨g, rfl, hg, hc⟩ := h3 hp
  exact ⟨g, rfl, by have := hb.size; omega, fun i x hx => ⟨(hb.cell (p := ⟨g, 0 + i * 2, none⟩) hg).trans (hc i x hx).1, (hb.cell (p := ⟨g, 0 + i * 2 + 1, none⟩) hg).trans (hc i x hx).2⟩⟩
theorem isR_own {W : World} {base : Nat} {v : Value} {l : List Ent} (h : W.ownsRow base 73 2 v l.length (flat l)) : IsR0 W v l := by
  obtain ⟨h1, ⟨rfl, h2⟩ | ⟨g, c, cur, rfl, h2, h3, h4, h5, h6, h7⟩⟩ := h
  · exact ⟨none, 0, by rw [h2], by omega, Nat.zero_le _, fun hp => by omega⟩
  · refine ⟨_, c, rfl, h4, h5, fun _ => ⟨g, rfl, (Array.getElem?_eq_some_iff.1 h3).1, fun i x hx => ?_⟩⟩
    obtain ⟨e1, e2⟩ := flat_at hx
    have cell : ∀ k u, (flat l)[k]? = some u → W.cell? ⟨g, k, none⟩ = some u := fun k u e => by
      rw [← h7, List.getElem?_take] at e
      split at e
      · unfold World.cell?
        rw [h3]
        simpa using e
      · cases e
    rw [Nat.zero_add]
    exact ⟨cell _ _ e1, cell _ _ e2⟩

set_option maxRecDepth 100000 in
set_option maxHeartbeats 2000000 in
theorem rdrop_any {W : World} {v : Value} {l : List Ent} (k : KT) (h : IsR W v l) (hsz : l.length ≤ 5864062014805) :
    Calls Try.prog 33 #[v, .string k] W fun o W' => ∃ u, o = .returned u ∧ IsR0 W' u (l.filter fun x => !decide (x.1 = k)) ∧ Below W.heap.size W W' := by
  obtain ⟨i0, hi, hz0, hz1, hz2⟩ := info_parts Try.infoPair
  obtain ⟨a, c, rfl, h1, h2, h3⟩ := h
  unfold maxLen at h2
  have H3 := hide h3
  clear h3
  go_enter Try.func33, Try.ntmps33
  go_wp2
  go_loopg [5, 6] l.length (fun gk v5 v6 wr => ∃ (j : Nat), v6 = .int .i64 (j : Int) ∧ gk = l.length - j ∧ j ≤ l.length ∧ Below W.heap.size W wr ∧ wr.ownsRow W.heap.size 73 2 v5 ((l.take j).filter fun x => !decide (x.1 = k)).length (flat ((l.take j).filter fun x => !decide (x.1 = k))))
  case atStart => exact ⟨0, rfl, rfl, Nat.zero_le _, Below.refl _ _, World.ownsRow_nil _ _ _ _⟩
  case round =>
    obtain ⟨j, rfl, hgk, hj, hB, hown⟩ := hrel
    have Hgk := hide hgk
    clear hgk
    by_cases hlt : j < l.length
    · obtain ⟨g, o, rfl, hg, hc⟩ := unhide H3 (by omega)
      obtain ⟨x, hx⟩ : ∃ x, l[j]? = some x := ⟨_, List.getElem?_eq_getElem hlt⟩
      have c0 : wr.cell? ⟨g, o + j * 2, none⟩ = some (.string x.1) := (hB.cell (p := ⟨g, o + j * 2, none⟩) hg).trans (hc j x hx).1
      have c1 : wr.cell? ⟨g, o + j * 2 + 1, none⟩ = some (.int .i64 x.2) := (hB.cell (p := ⟨g, o + j * 2 + 1, none⟩) hg).trans (hc j x hx).2
      have hj0 : (0 : Int) ≤ (j : Int) := Int.natCast_nonneg _
      have hj1 : (j : Int) < (l.length : Int) := by omega
      have Hx := hide hx
      clear hx hc
      have hfl : ((l.take j).filter fun x => !decide (x.1 = k)).length ≤ j := Nat.le_trans (List.length_filter_le _ _) (List.length_take_le _ _)
      by_cases hk : x.1 = k
      · have hb : (x.1 != k) = false := by simp [hk]
        have He : Hid ((l.take (j + 1)).filter (fun x => !decide (x.1 = k)) = (l.take j).filter fun x => !decide (x.1 = k)) := by
          show _ = _
          rw [List.take_add_one, unhide Hx]; simp [List.filter_append, hk]
        clear hk
        go_wp2
        go_roundg (l.length - (j + 1))
        case measure => have := unhide Hgk; omega
        case rel => exact ⟨j + 1, by go_num, rfl, by omega, hB, by rw [unhide He]; exact hown⟩
      · have hb : (x.1 != k) = true := by simp [hk]
        have He : Hid ((l.take (j + 1)).filter (fun x => !decide (x.1 = k)) = ((l.take j).filter fun x => !decide (x.1 = k)) ++ [x]) := by
          show _ = _
          rw [List.take_add_one, unhide Hx]; simp [List.filter_append, hk]
        clear hk
        go_wp2_with (at_builtin; refine wpList_append_own _ rfl _ _ 44 rfl W.heap.size 73 i0 (.agg #[.string ⟨#[]⟩, .int .i64 0]) 2 24 Try.underlying44 hi hz0 hz1 hz2 rfl (by decide) _ _ _ rfl (hown.alloc _) ⟨wr.heap.size, 0, none⟩ 1 1 [.string x.1, .int .i64 x.2] rfl rfl (cell_two_new _ _ _ _) (by simp [Value.oneCell']) (by unfold maxLen; omega) (szb (by omega)) (by have := hB.size; simp; omega) ?_; intro v' w1 hown' hgrow hdrop; clear hdrop; have hb1 : Below W.heap.size W w1 := (hB.alloc hB.size _).grown hgrow (hB.alloc hB.size _).size (fun k e => (hown.lt k e).1))
        go_roundg (l.length - (j + 1))
        case measure => have := unhide Hgk; omega
        case rel => exact ⟨j + 1, by go_num, rfl, by omega, hb1, by rw [unhide He, flat_app, flat_one, List.length_append]; exact hown'⟩
    · obtain rfl : j = l.length := by omega
      go_wp2
      go_ret
      rw [List.take_length] at hown
      exact ⟨_, rfl, isR_own hown, hB⟩
end Go.Proofs.Ytcbcahnajabhfaa
