import Derived.Test.YtoojchjfmnbdpabDoorDSJ
namespace Go.Proofs.YtoojchjfmnbdpabDoor
open Go.RowKit
attribute [local go_sem ↓] Go.wp_at_zero Go.wp_at_succ

theorem i64_wrap_nat (n : Int) (h0 : 0 ≤ n) (h : n < 2 ^ 63) : IntKind.i64.wrap n = n := by rw [IntKind.wrap_i64]; omega
theorem i64_and_nat (a b : Nat) (ha : a < 9223372036854775808) (hb : b < 9223372036854775808) : bits .and .i64 (a : Int) (b : Int) = ((a &&& b : Nat) : Int) := (bits_nat .i64 63 (by decide) i64_wrap_nat a b (by omega) (by omega)).1
theorem i64_or_nat (a b : Nat) (ha : a < 9223372036854775808) (hb : b < 9223372036854775808) : bits .or .i64 (a : Int) (b : Int) = ((a ||| b : Nat) : Int) := (bits_nat .i64 63 (by decide) i64_wrap_nat a b (by omega) (by omega)).2
theorem i64_xor_nat (a b : Nat) (ha : a < 9223372036854775808) (hb : b < 9223372036854775808) : bits .xor .i64 (a : Int) (b : Int) = ((a ^^^ b : Nat) : Int) := by
  have hx : a ^^^ b < 2 ^ 63 := Nat.xor_lt_two_pow (by omega) (by omega)
  have e : ∀ n : Nat, n < 9223372036854775808 → (BitVec.ofInt 64 (n : Int)).toNat = n := fun n h => by
    rw [BitVec.ofInt_natCast, BitVec.toNat_ofNat]; exact Nat.mod_eq_of_lt (by omega)
  show IntKind.i64.wrap ((BitVec.ofInt 64 (a : Int) ^^^ BitVec.ofInt 64 (b : Int)).toNat : Int) = _
  rw [BitVec.toNat_xor, e a ha, e b hb]
  exact i64_wrap_nat _ (by omega) (by omega)
theorem mask32 (x : Nat) : x &&& 4294967295 = x % 4294967296 := Nat.and_two_pow_sub_one_eq_mod x 32
set_option maxRecDepth 100000 in
theorem xturned_2 (W : World) (x : Nat) (hx : x < 4294967296) : Calls Tryd.prog 61 #[.int .i64 (x : Int), .int .i64 2] W fun e W' => e = .returned (.int .i64 ((rotr x 2 : Nat) : Int)) ∧ ∃ m, W' = W.drewN m := by
  have h1 : bits .or .i64 ((x : Int) / 4) ((x : Int) * 1073741824) = ((x / 2 ^ 2 ||| x * 2 ^ (32 - 2) : Nat) : Int) := by
    rw [show (x : Int) / 4 = ((x / 2 ^ 2 : Nat) : Int) by omega, show (x : Int) * 1073741824 = ((x * 2 ^ (32 - 2) : Nat) : Int) by omega]
    exact i64_or_nat _ _ (by omega) (by omega)
  have h2 : bits .and .i64 ((x / 2 ^ 2 ||| x * 2 ^ (32 - 2) : Nat) : Int) 4294967295 = ((rotr x 2 : Nat) : Int) := by
    have hlt : x / 2 ^ 2 ||| x * 2 ^ (32 - 2) < 2 ^ 63 := Nat.or_lt_two_pow (by omega) (by omega)
    rw [show (4294967295 : Int) = ((4294967295 : Nat) : Int) from rfl, i64_and_nat _ _ (by omega) (by decide), mask32]
    rfl
  generalize x / 2 ^ 2 ||| x * 2 ^ (32 - 2) = y at *
  go_enter Tryd.func61, Tryd.ntmps61
  go_wp2_with fail
  go_quiet (fail)
  go_wp2
  go_ret
  exact ⟨rfl, _, rfl⟩
set_option maxRecDepth 100000 in
theorem xturned_6 (W : World) (x : Nat) (hx : x < 4294967296) : Calls Tryd.prog 61 #[.int .i64 (x : Int), .int .i64 6] W fun e W' => e = .returned (.int .i64 ((rotr x 6 : Nat) : Int)) ∧ ∃ m, W' = W.drewN m := by
  have h1 : bits .or .i64 ((x : Int) / 64) ((x : Int) * 67108864) = ((x / 2 ^ 6 ||| x * 2 ^ (32 - 6) : Nat) : Int) := by
    rw [show (x : Int) / 64 = ((x / 2 ^ 6 : Nat) : Int) by omega, show (x : Int) * 67108864 = ((x * 2 ^ (32 - 6) : Nat) : Int) by omega]
    exact i64_or_nat _ _ (by omega) (by omega)
  have h2 : bits .and .i64 ((x / 2 ^ 6 ||| x * 2 ^ (32 - 6) : Nat) : Int) 4294967295 = ((rotr x 6 : Nat) : Int) := by
    have hlt : x / 2 ^ 6 ||| x * 2 ^ (32 - 6) < 2 ^ 63 := Nat.or_lt_two_pow (by omega) (by omega)
    rw [show (4294967295 : Int) = ((4294967295 : Nat) : Int) from rfl, i64_and_nat _ _ (by omega) (by decide), mask32]
    rfl
  generalize x / 2 ^ 6 ||| x * 2 ^ (32 - 6) = y at *
  go_enter Tryd.func61, Tryd.ntmps61
  go_wp2_with fail
  go_quiet (fail)
  go_wp2
  go_ret
  exact ⟨rfl, _, rfl⟩
set_option maxRecDepth 100000 in
theorem xturned_7 (W : World) (x : Nat) (hx : x < 4294967296) : Calls Tryd.prog 61 #[.int .i64 (x : Int), .int .i64 7] W fun e W' => e = .returned (.int .i64 ((rotr x 7 : Nat) : Int)) ∧ ∃ m, W' = W.drewN m := by
  have h1 : bits .or .i64 ((x : Int) / 128) ((x : Int) * 33554432) = ((x / 2 ^ 7 ||| x * 2 ^ (32 - 7) : Nat) : Int) := by
    rw [show (x : Int) / 128 = ((x / 2 ^ 7 : Nat) : Int) by omega, show (x : Int) * 33554432 = ((x * 2 ^ (32 - 7) : Nat) : Int) by omega]
    exact i64_or_nat _ _ (by omega) (by omega)
  have h2 : bits .and .i64 ((x / 2 ^ 7 ||| x * 2 ^ (32 - 7) : Nat) : Int) 4294967295 = ((rotr x 7 : Nat) : Int) := by
    have hlt : x / 2 ^ 7 ||| x * 2 ^ (32 - 7) < 2 ^ 63 := Nat.or_lt_two_pow (by omega) (by omega)
    rw [show (4294967295 : Int) = ((4294967295 : Nat) : Int) from rfl, i64_and_nat _ _ (by omega) (by decide), mask32]
    rfl
  generalize x / 2 ^ 7 ||| x * 2 ^ (32 - 7) = y at *
  go_enter Tryd.func61, Tryd.ntmps61
  go_wp2_with fail
  go_quiet (fail)
  go_wp2
  go_ret
  exact ⟨rfl, _, rfl⟩
set_option maxRecDepth 100000 in
theorem xturned_11 (W : World) (x : Nat) (hx : x < 4294967296) : Calls Tryd.prog 61 #[.int .i64 (x : Int), .int .i64 11] W fun e W' => e = .returned (.int .i64 ((rotr x 11 : Nat) : Int)) ∧ ∃ m, W' = W.drewN m := by
  have h1 : bits .or .i64 ((x : Int) / 2048) ((x : Int) * 2097152) = ((x / 2 ^ 11 ||| x * 2 ^ (32 - 11) : Nat) : Int) := by
    rw [show (x : Int) / 2048 = ((x / 2 ^ 11 : Nat) : Int) by omega, show (x : Int) * 2097152 = ((x * 2 ^ (32 - 11) : Nat) : Int) by omega]
    exact i64_or_nat _ _ (by omega) (by omega)
  have h2 : bits .and .i64 ((x / 2 ^ 11 ||| x * 2 ^ (32 - 11) : Nat) : Int) 4294967295 = ((rotr x 11 : Nat) : Int) := by
    have hlt : x / 2 ^ 11 ||| x * 2 ^ (32 - 11) < 2 ^ 63 := Nat.or_lt_two_pow (by omega) (by omega)
    rw [show (4294967295 : Int) = ((4294967295 : Nat) : Int) from rfl, i64_and_nat _ _ (by omega) (by decide), mask32]
    rfl
  generalize x / 2 ^ 11 ||| x * 2 ^ (32 - 11) = y at *
  go_enter Tryd.func61, Tryd.ntmps61
  go_wp2_with fail
  go_quiet (fail)
  go_wp2
  go_ret
  exact ⟨rfl, _, rfl⟩
set_option maxRecDepth 100000 in
theorem xturned_13 (W : World) (x : Nat) (hx : x < 4294967296) : Calls Tryd.prog 61 #[.int .i64 (x : Int), .int .i64 13] W fun e W' => e = .returned (.int .i64 ((rotr x 13 : Nat) : Int)) ∧ ∃ m, W' = W.drewN m := by
  have h1 : bits .or .i64 ((x : Int) / 8192) ((x : Int) * 524288) = ((x / 2 ^ 13 ||| x * 2 ^ (32 - 13) : Nat) : Int) := by
    rw [show (x : Int) / 8192 = ((x / 2 ^ 13 : Nat) : Int) by omega, show (x : Int) * 524288 = ((x * 2 ^ (32 - 13) : Nat) : Int) by omega]
    exact i64_or_nat _ _ (by omega) (by omega)
  have h2 : bits .and .i64 ((x / 2 ^ 13 ||| x * 2 ^ (32 - 13) : Nat) : Int) 4294967295 = ((rotr x 13 : Nat) : Int) := by
    have hlt : x / 2 ^ 13 ||| x * 2 ^ (32 - 13) < 2 ^ 63 := Nat.or_lt_two_pow (by omega) (by omega)
    rw [show (4294967295 : Int) = ((4294967295 : Nat) : Int) from rfl, i64_and_nat _ _ (by omega) (by decide), mask32]
    rfl
  generalize x / 2 ^ 13 ||| x * 2 ^ (32 - 13) = y at *
  go_enter Tryd.func61, Tryd.ntmps61
  go_wp2_with fail
  go_quiet (fail)
  go_wp2
  go_ret
  exact ⟨rfl, _, rfl⟩
set_option maxRecDepth 100000 in
theorem xturned_17 (W : World) (x : Nat) (hx : x < 4294967296) : Calls Tryd.prog 61 #[.int .i64 (x : Int), .int .i64 17] W fun e W' => e = .returned (.int .i64 ((rotr x 17 : Nat) : Int)) ∧ ∃ m, W' = W.drewN m := by
  have h1 : bits .or .i64 ((x : Int) / 131072) ((x : Int) * 32768) = ((x / 2 ^ 17 ||| x * 2 ^ (32 - 17) : Nat) : Int) := by
    rw [show (x : Int) / 131072 = ((x / 2 ^ 17 : Nat) : Int) by omega, show (x : Int) * 32768 = ((x * 2 ^ (32 - 17) : Nat) : Int) by omega]
    exact i64_or_nat _ _ (by omega) (by omega)
  have h2 : bits .and .i64 ((x / 2 ^ 17 ||| x * 2 ^ (32 - 17) : Nat) : Int) 4294967295 = ((rotr x 17 : Nat) : Int) := by
    have hlt : x / 2 ^ 17 ||| x * 2 ^ (32 - 17) < 2 ^ 63 := Nat.or_lt_two_pow (by omega) (by omega)
    rw [show (4294967295 : Int) = ((4294967295 : Nat) : Int) from rfl, i64_and_nat _ _ (by omega) (by decide), mask32]
    rfl
  generalize x / 2 ^ 17 ||| x * 2 ^ (32 - 17) = y at *
  go_enter Tryd.func61, Tryd.ntmps61
  go_wp2_with fail
  go_quiet (fail)
  go_wp2
  go_ret
  exact ⟨rfl, _, rfl⟩
set_option maxRecDepth 100000 in
theorem xturned_18 (W : World) (x : Nat) (hx : x < 4294967296) : Calls Tryd.prog 61 #[.int .i64 (x : Int), .int .i64 18] W fun e W' => e = .returned (.int .i64 ((rotr x 18 : Nat) : Int)) ∧ ∃ m, W' = W.drewN m := by
  have h1 : bits .or .i64 ((x : Int) / 262144) ((x : Int) * 16384) = ((x / 2 ^ 18 ||| x * 2 ^ (32 - 18) : Nat) : Int) := by
    rw [show (x : Int) / 262144 = ((x / 2 ^ 18 : Nat) : Int) by omega, show (x : Int) * 16384 = ((x * 2 ^ (32 - 18) : Nat) : Int) by omega]
    exact i64_or_nat _ _ (by omega) (by omega)
  have h2 : bits .and .i64 ((x / 2 ^ 18 ||| x * 2 ^ (32 - 18) : Nat) : Int) 4294967295 = ((rotr x 18 : Nat) : Int) := by
    have hlt : x / 2 ^ 18 ||| x * 2 ^ (32 - 18) < 2 ^ 63 := Nat.or_lt_two_pow (by omega) (by omega)
    rw [show (4294967295 : Int) = ((4294967295 : Nat) : Int) from rfl, i64_and_nat _ _ (by omega) (by decide), mask32]
    rfl
  generalize x / 2 ^ 18 ||| x * 2 ^ (32 - 18) = y at *
  go_enter Tryd.func61, Tryd.ntmps61
  go_wp2_with fail
  go_quiet (fail)
  go_wp2
  go_ret
  exact ⟨rfl, _, rfl⟩
set_option maxRecDepth 100000 in
theorem xturned_19 (W : World) (x : Nat) (hx : x < 4294967296) : Calls Tryd.prog 61 #[.int .i64 (x : Int), .int .i64 19] W fun e W' => e = .returned (.int .i64 ((rotr x 19 : Nat) : Int)) ∧ ∃ m, W' = W.drewN m := by
  have h1 : bits .or .i64 ((x : Int) / 524288) ((x : Int) * 8192) = ((x / 2 ^ 19 ||| x * 2 ^ (32 - 19) : Nat) : Int) := by
    rw [show (x : Int) / 524288 = ((x / 2 ^ 19 : Nat) : Int) by omega, show (x : Int) * 8192 = ((x * 2 ^ (32 - 19) : Nat) : Int) by omega]
    exact i64_or_nat _ _ (by omega) (by omega)
  have h2 : bits .and .i64 ((x / 2 ^ 19 ||| x * 2 ^ (32 - 19) : Nat) : Int) 4294967295 = ((rotr x 19 : Nat) : Int) := by
    have hlt : x / 2 ^ 19 ||| x * 2 ^ (32 - 19) < 2 ^ 63 := Nat.or_lt_two_pow (by omega) (by omega)
    rw [show (4294967295 : Int) = ((4294967295 : Nat) : Int) from rfl, i64_and_nat _ _ (by omega) (by decide), mask32]
    rfl
  generalize x / 2 ^ 19 ||| x * 2 ^ (32 - 19) = y at *
  go_enter Tryd.func61, Tryd.ntmps61
  go_wp2_with fail
  go_quiet (fail)
  go_wp2
  go_ret
  exact ⟨rfl, _, rfl⟩
set_option maxRecDepth 100000 in
theorem xturned_22 (W : World) (x : Nat) (hx : x < 4294967296) : Calls Tryd.prog 61 #[.int .i64 (x : Int), .int .i64 22] W fun e W' => e = .returned (.int .i64 ((rotr x 22 : Nat) : Int)) ∧ ∃ m, W' = W.drewN m := by
  have h1 : bits .or .i64 ((x : Int) / 4194304) ((x : Int) * 1024) = ((x / 2 ^ 22 ||| x * 2 ^ (32 - 22) : Nat) : Int) := by
    rw [show (x : Int) / 4194304 = ((x / 2 ^ 22 : Nat) : Int) by omega, show (x : Int) * 1024 = ((x * 2 ^ (32 - 22) : Nat) : Int) by omega]
    exact i64_or_nat _ _ (by omega) (by omega)
  have h2 : bits .and .i64 ((x / 2 ^ 22 ||| x * 2 ^ (32 - 22) : Nat) : Int) 4294967295 = ((rotr x 22 : Nat) : Int) := by
    have hlt : x / 2 ^ 22 ||| x * 2 ^ (32 - 22) < 2 ^ 63 := Nat.or_lt_two_pow (by omega) (by omega)
    rw [show (4294967295 : Int) = ((4294967295 : Nat) : Int) from rfl, i64_and_nat _ _ (by omega) (by decide), mask32]
    rfl
  generalize x / 2 ^ 22 ||| x * 2 ^ (32 - 22) = y at *
  go_enter Tryd.func61, Tryd.ntmps61
  go_wp2_with fail
  go_quiet (fail)
  go_wp2
  go_ret
  exact ⟨rfl, _, rfl⟩
set_option maxRecDepth 100000 in
theorem xturned_25 (W : World) (x : Nat) (hx : x < 4294967296) : Calls Tryd.prog 61 #[.int .i64 (x : Int), .int .i64 25] W fun e W' => e = .returned (.int .i64 ((rotr x 25 : Nat) : Int)) ∧ ∃ m, W' = W.drewN m := by
  have h1 : bits .or .i64 ((x : Int) / 33554432) ((x : Int) * 128) = ((x / 2 ^ 25 ||| x * 2 ^ (32 - 25) : Nat) : Int) := by
    rw [show (x : Int) / 33554432 = ((x / 2 ^ 25 : Nat) : Int) by omega, show (x : Int) * 128 = ((x * 2 ^ (32 - 25) : Nat) : Int) by omega]
    exact i64_or_nat _ _ (by omega) (by omega)
  have h2 : bits .and .i64 ((x / 2 ^ 25 ||| x * 2 ^ (32 - 25) : Nat) : Int) 4294967295 = ((rotr x 25 : Nat) : Int) := by
    have hlt : x / 2 ^ 25 ||| x * 2 ^ (32 - 25) < 2 ^ 63 := Nat.or_lt_two_pow (by omega) (by omega)
    rw [show (4294967295 : Int) = ((4294967295 : Nat) : Int) from rfl, i64_and_nat _ _ (by omega) (by decide), mask32]
    rfl
  generalize x / 2 ^ 25 ||| x * 2 ^ (32 - 25) = y at *
  go_enter Tryd.func61, Tryd.ntmps61
  go_wp2_with fail
  go_quiet (fail)
  go_wp2
  go_ret
  exact ⟨rfl, _, rfl⟩
end Go.Proofs.YtoojchjfmnbdpabDoor
