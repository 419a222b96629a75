import Derived.Test.YtpmdfgoajffmeaaITurn

namespace Go.Proofs.Ytpmdfgoajffmeaa
open Go.RowKit
attribute [local go_sem ↓] Go.wp_at_zero Go.wp_at_succ

theorem Gives.of_fork {W : World} {L R : BT} {e : Ent} {o : Ending} {W' : World} (h : ∃ p', o = .returned (.pointer p') ∧ IsT W'.heap.size W' p' (.node L e R) ∧ Below W.heap.size W W') : Gives W (L.io ++ e :: R.io) o W' := by
  obtain ⟨p', h1, h2, h3⟩ := h
  exact ⟨p', _, h1, h2, by simp [BT.io], h3⟩
theorem Gives.after {W W0 : World} (hB : Below W.heap.size W W0) {xs : List Ent} {o : Ending} {W' : World} (h : Gives W0 xs o W') : Gives W xs o W' := by
  obtain ⟨p', T, h1, h2, h3, h4⟩ := h
  exact ⟨p', T, h1, h2, h3, hB.trans (h4.mono hB.size)⟩

set_option maxRecDepth 100000 in
set_option maxHeartbeats 2000000 in
theorem level_plain {W : World} {pl pr : Option Addr} {L R : BT} (e : Ent) (hl : IsT W.heap.size W pl L) (hr : IsT W.heap.size W pr R) (hsz : (L.io.length : Int) + 1 + (R.io.length : Int) ≤ 1152921504606846976)
    (h : (L.io.length : Int) + (R.io.length : Int) ≤ 1 ∨ ¬ (L.io.length : Int) + (R.io.length : Int) ≤ 1 ∧ ¬ 3 * (L.io.length : Int) < (R.io.length : Int) ∧ ¬ 3 * (R.io.length : Int) < (L.io.length : Int)) :
    Calls Try.prog 31 #[.pointer pl, .agg #[.int .i64 e.1, .int .i64 e.2], .pointer pr] W (Gives W (L.io ++ e :: R.io)) := by
  have hB0 : Below W.heap.size W (W.alloc (.cells #[.int .i64 e.1, .int .i64 e.2] 54)) := (Below.refl _ W).alloc (Nat.le_refl _) _; have hx := cell2_new W (.int .i64 e.1) (.int .i64 e.2) 54; have hs0 : (W.alloc (.cells #[.int .i64 e.1, .int .i64 e.2] 54)).heap.size = W.heap.size + 1 := World.size_alloc _ _
  rcases h with h | ⟨h, ha, hb⟩
  all_goals
    go_enter Try.func31, Try.ntmps31
    go_wp2_with fail
    generalize W.alloc (.cells #[.int .i64 e.1, .int .i64 e.2] 54) = W0 at *
    replace hl := hl.up hB0
    replace hr := hr.up hB0
    obtain ⟨hx0, hx1⟩ := hx
    refine (count_any (T := L) hl).mono ?_
    rintro o w' ⟨rfl, rfl⟩
    go_wp2_with (first | (go_at_call_of 20 (Value.pointer pr); refine (count_any (T := R) hr).mono ?_; rintro o w' ⟨rfl, rfl⟩) | (go_at_call 30; refine (fork_node e hl hr hsz).mono ?_; rintro o W1 ⟨p1, rfl, ht1, hb1⟩))
    go_ret
    exact ⟨_, _, rfl, ht1, by simp [BT.io], hB0.trans (hb1.mono hB0.size)⟩

set_option maxRecDepth 100000 in
set_option maxHeartbeats 2000000 in
theorem level_left {W : World} {pl pr : Option Addr} {L R : BT} (e : Ent) (hl : IsT W.heap.size W pl L) (hr : IsT W.heap.size W pr R) (hsz : (L.io.length : Int) + 1 + (R.io.length : Int) ≤ 1152921504606846976)
    (h : ¬ (L.io.length : Int) + (R.io.length : Int) ≤ 1) (ha : 3 * (L.io.length : Int) < (R.io.length : Int)) :
    Calls Try.prog 31 #[.pointer pl, .agg #[.int .i64 e.1, .int .i64 e.2], .pointer pr] W (Gives W (L.io ++ e :: R.io)) := by
  have hB0 : Below W.heap.size W (W.alloc (.cells #[.int .i64 e.1, .int .i64 e.2] 54)) := (Below.refl _ W).alloc (Nat.le_refl _) _; have hx := cell2_new W (.int .i64 e.1) (.int .i64 e.2) 54; have hs0 : (W.alloc (.cells #[.int .i64 e.1, .int .i64 e.2] 54)).heap.size = W.heap.size + 1 := World.size_alloc _ _
  cases R with
  | leaf => simp [BT.io] at ha; omega
  | node I re O =>
    go_enter Try.func31, Try.ntmps31
    go_wp2_with fail
    generalize W.alloc (.cells #[.int .i64 e.1, .int .i64 e.2] 54) = W0 at *
    replace hl := hl.up hB0
    replace hr := hr.up hB0
    obtain ⟨hx0, hx1⟩ := hx
    refine (count_any (T := L) hl).mono ?_
    rintro o w' ⟨rfl, rfl⟩
    go_wp2_with (first | (go_at_call_of 20 (Value.pointer pr); refine (count_any (T := (.node I re O)) hr).mono ?_; rintro o w' ⟨rfl, rfl⟩) | (go_at_call 34; refine (turnLeft_any e re hl hr hsz (by omega)).mono ?_; rintro o W1 ⟨p1, T1, rfl, ht1, hi1, hb1⟩))
    go_ret
    exact ⟨_, _, rfl, ht1, hi1, hB0.trans (hb1.mono hB0.size)⟩

set_option maxRecDepth 100000 in
set_option maxHeartbeats 2000000 in
theorem level_right {W : World} {pl pr : Option Addr} {L R : BT} (e : Ent) (hl : IsT W.heap.size W pl L) (hr : IsT W.heap.size W pr R) (hsz : (L.io.length : Int) + 1 + (R.io.length : Int) ≤ 1152921504606846976)
    (h : ¬ (L.io.length : Int) + (R.io.length : Int) ≤ 1) (ha : ¬ 3 * (L.io.length : Int) < (R.io.length : Int)) (hb : 3 * (R.io.length : Int) < (L.io.length : Int)) :
    Calls Try.prog 31 #[.pointer pl, .agg #[.int .i64 e.1, .int .i64 e.2], .pointer pr] W (Gives W (L.io ++ e :: R.io)) := by
  have hB0 : Below W.heap.size W (W.alloc (.cells #[.int .i64 e.1, .int .i64 e.2] 54)) := (Below.refl _ W).alloc (Nat.le_refl _) _; have hx := cell2_new W (.int .i64 e.1) (.int .i64 e.2) 54; have hs0 : (W.alloc (.cells #[.int .i64 e.1, .int .i64 e.2] 54)).heap.size = W.heap.size + 1 := World.size_alloc _ _
  cases L with
  | leaf => simp [BT.io] at hb; omega
  | node O le I =>
    go_enter Try.func31, Try.ntmps31
    go_wp2_with fail
    generalize W.alloc (.cells #[.int .i64 e.1, .int .i64 e.2] 54) = W0 at *
    replace hl := hl.up hB0
    replace hr := hr.up hB0
    obtain ⟨hx0, hx1⟩ := hx
    refine (count_any (T := .node O le I) hl).mono ?_
    rintro o w' ⟨rfl, rfl⟩
    go_wp2_with (first | (go_at_call_of 20 (Value.pointer pr); refine (count_any (T := R) hr).mono ?_; rintro o w' ⟨rfl, rfl⟩) | (go_at_call 35; refine (turnRight_any e le hl hr hsz (by omega)).mono ?_; rintro o W1 ⟨p1, T1, rfl, ht1, hi1, hb1⟩))
    go_ret
    exact ⟨_, _, rfl, ht1, hi1, hB0.trans (hb1.mono hB0.size)⟩

theorem level_any {W : World} {pl pr : Option Addr} {L R : BT} (e : Ent) (hl : IsT W.heap.size W pl L) (hr : IsT W.heap.size W pr R) (hsz : (L.io.length : Int) + 1 + (R.io.length : Int) ≤ 1152921504606846976) :
    Calls Try.prog 31 #[.pointer pl, .agg #[.int .i64 e.1, .int .i64 e.2], .pointer pr] W (Gives W (L.io ++ e :: R.io)) := by
  by_cases h : (L.io.length : Int) + (R.io.length : Int) ≤ 1
  · exact level_plain e hl hr hsz (.inl h)
  · by_cases ha : 3 * (L.io.length : Int) < (R.io.length : Int)
    · exact level_left e hl hr hsz h ha
    · by_cases hb : 3 * (R.io.length : Int) < (L.io.length : Int)
      · exact level_right e hl hr hsz h ha hb
      · exact level_plain e hl hr hsz (.inr ⟨h, ha, hb⟩)
end Go.Proofs.Ytpmdfgoajffmeaa
