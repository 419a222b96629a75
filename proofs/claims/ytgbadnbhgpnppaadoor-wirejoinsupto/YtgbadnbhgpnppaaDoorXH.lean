import Derived.Test.YtgbadnbhgpnppaaDoorWBJ
namespace Go.Proofs.YtgbadnbhgpnppaaDoor
open Go.RowKit
attribute [local go_sem ↓] Go.wp_at_zero Go.wp_at_succ

/-- A number's 64 bits, without a sign. -/
def un (x : Int) : Nat := (x % 18446744073709551616).toNat
theorem un_eq (x : Int) : ((un x : Nat) : Int) = x % 18446744073709551616 := by unfold un; omega
theorem un_lt (x : Int) : un x < 18446744073709551616 := by unfold un; omega
theorem un_wrap (x : Int) : IntKind.u64.wrap x = (un x : Int) := by rw [wrapu_eq, un_eq]

theorem ret2 {a b c d : Int} (h1 : a = c) (h2 : b = d) : Ending.returned (.tuple #[.int .i64 a, .int .i64 b]) = .returned (.tuple #[.int .i64 c, .int .i64 d]) := by rw [h1, h2]

set_option maxHeartbeats 1000000 in
theorem halves_any (W : World) (x : Int) (hx : Rng x) : Calls Tryd.prog 62 #[.int .i64 x] W fun e W' => e = .returned (.tuple #[.int .i64 ((un x / 128 : Nat) : Int), .int .i64 ((un x % 128 : Nat) : Int)]) ∧ W' = W := by
  have hu := un_eq x
  unfold Rng at hx
  generalize un x = u at *
  obtain ⟨q, hq⟩ : ∃ q : Nat, q = u / 128 := ⟨_, rfl⟩
  obtain ⟨r, hr⟩ : ∃ r : Nat, r = u % 128 := ⟨_, rfl⟩
  rw [← hq, ← hr]
  by_cases h0 : 0 ≤ x
  · have e1 : x.tmod 128 = (r : Int) := by rw [Int.tmod_eq_emod_of_nonneg h0]; omega
    have e2 : x.tdiv 128 = (q : Int) := by rw [Int.tdiv_eq_ediv_of_nonneg h0]; omega
    have e3 : decide (x < 0) = false := by simp; omega
    have e4 : wrap64 (q : Int) = (q : Int) := by rw [wrap64_eq]; omega
    clear hu hq hr h0 hx
    go_enter Tryd.func62, Tryd.ntmps62
    go_wp2
    go_ret2
    exact ⟨ret2 e4 rfl, rfl⟩
  · have hx0 : x < 0 := by omega
    obtain ⟨m, hm⟩ : ∃ m : Int, x = -m := ⟨-x, by omega⟩
    have t1 : x.tmod 128 = -(m % 128) := by rw [hm, Int.neg_tmod, Int.tmod_eq_emod_of_nonneg (by omega)]
    have t2 : x.tdiv 128 = -(m / 128) := by rw [hm, Int.neg_tdiv, Int.tdiv_eq_ediv_of_nonneg (by omega)]
    obtain ⟨s, hs⟩ : ∃ s : Int, s = -(m % 128) := ⟨_, rfl⟩
    obtain ⟨t, ht⟩ : ∃ t : Int, t = -(m / 128) := ⟨_, rfl⟩
    rw [← hs] at t1
    rw [← ht] at t2
    have tb : -72057594037927936 ≤ t ∧ t ≤ 0 := by omega
    by_cases hz : s = 0
    · have hr' : x.tmod 128 = (r : Int) := by rw [t1]; omega
      have e6 : wrap64 (t + 144115188075855872) = (q : Int) := by rw [wrap64_eq]; omega
      have e9 : wrap64 t = t := by rw [wrap64_eq]; omega
      clear hu hq hr hx hm hs ht h0 hz tb t1
      go_enter Tryd.func62, Tryd.ntmps62
      go_wp2
      go_ret2
      exact ⟨ret2 e6 rfl, rfl⟩
    · have hq' : t - 1 + 144115188075855872 = (q : Int) := by omega
      have hr' : s + 128 = (r : Int) := by omega
      have e4 : s < 0 := by omega
      have e5 : wrap64 (s + 128) = (r : Int) := by rw [wrap64_eq]; omega
      have e7 : wrap64 (t - 1) = t - 1 := by rw [wrap64_eq]; omega
      have e9 : wrap64 t = t := by rw [wrap64_eq]; omega
      have e8 : wrap64 (t - 1 + 144115188075855872) = (q : Int) := by rw [wrap64_eq]; omega
      have e10 : wrap64 (q : Int) = (q : Int) := by have h := e8; rw [hq'] at h; exact h
      clear hu hq hr hx hm hs ht h0 hz tb
      go_enter Tryd.func62, Tryd.ntmps62
      go_wp2
      go_ret2
      exact ⟨ret2 e10 rfl, rfl⟩
end Go.Proofs.YtgbadnbhgpnppaaDoor
