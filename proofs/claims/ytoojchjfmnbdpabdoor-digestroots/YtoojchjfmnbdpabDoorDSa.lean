import Derived.Test.YtoojchjfmnbdpabDoorDSm
namespace Go.Proofs.YtoojchjfmnbdpabDoor
open Go.RowKit
attribute [local go_sem ↓] Go.wp_at_zero Go.wp_at_succ

theorem or_mod (a b : Nat) : (a ||| b) % 4294967296 = (a % 4294967296) ||| (b % 4294967296) := by
  have := Nat.or_mod_two_pow (a := a) (b := b) (n := 32)
  simpa using this
theorem rotr_lt (x n : Nat) : rotr x n < 4294967296 := Nat.mod_lt _ (by decide)
theorem rot_7 (W : World) (x : Nat) (hx : x < 4294967296) : Calls Tryd.prog 70 #[.int .u32 (x : Int), .int .i64 (-7)] W fun e W' => e = .returned (.int .u32 ((rotr x 7 : Nat) : Int)) ∧ W' = W := by
  have ha : bits .and .u64 (IntKind.u64.wrap (-7)) 31 = 25 := by decide +kernel
  have ho : bits .or .u32 ((x : Int) * 33554432 % 4294967296) ((x : Int) / 128) = ((rotr x 7 : Nat) : Int) := by
    rw [show (x : Int) * 33554432 % 4294967296 = ((x * 2 ^ 25 % 4294967296 : Nat) : Int) by omega, show (x : Int) / 128 = ((x / 2 ^ 7 : Nat) : Int) by omega, u32_or_nat _ _ (by omega) (by omega)]
    unfold rotr
    rw [or_mod, Nat.or_comm, show x / 2 ^ 7 % 4294967296 = x / 2 ^ 7 by omega]
  go_enter Tryd.func70, Tryd.ntmps70
  go_wp2
  go_ret
  exact ⟨by first | rfl | (refine congrArg Ending.returned (congrArg (Value.int .u32) ?_); exact ho), rfl⟩
theorem rot_2 (W : World) (x : Nat) (hx : x < 4294967296) : Calls Tryd.prog 70 #[.int .u32 (x : Int), .int .i64 (-2)] W fun e W' => e = .returned (.int .u32 ((rotr x 2 : Nat) : Int)) ∧ W' = W := by
  have ha : bits .and .u64 (IntKind.u64.wrap (-2)) 31 = 30 := by decide +kernel
  have ho : bits .or .u32 ((x : Int) * 1073741824 % 4294967296) ((x : Int) / 4) = ((rotr x 2 : Nat) : Int) := by
    rw [show (x : Int) * 1073741824 % 4294967296 = ((x * 2 ^ 30 % 4294967296 : Nat) : Int) by omega, show (x : Int) / 4 = ((x / 2 ^ 2 : Nat) : Int) by omega, u32_or_nat _ _ (by omega) (by omega)]
    unfold rotr
    rw [or_mod, Nat.or_comm, show x / 2 ^ 2 % 4294967296 = x / 2 ^ 2 by omega]
  go_enter Tryd.func70, Tryd.ntmps70
  go_wp2
  go_ret
  exact ⟨by first | rfl | (refine congrArg Ending.returned (congrArg (Value.int .u32) ?_); exact ho), rfl⟩
theorem rot_6 (W : World) (x : Nat) (hx : x < 4294967296) : Calls Tryd.prog 70 #[.int .u32 (x : Int), .int .i64 (-6)] W fun e W' => e = .returned (.int .u32 ((rotr x 6 : Nat) : Int)) ∧ W' = W := by
  have ha : bits .and .u64 (IntKind.u64.wrap (-6)) 31 = 26 := by decide +kernel
  have ho : bits .or .u32 ((x : Int) * 67108864 % 4294967296) ((x : Int) / 64) = ((rotr x 6 : Nat) : Int) := by
    rw [show (x : Int) * 67108864 % 4294967296 = ((x * 2 ^ 26 % 4294967296 : Nat) : Int) by omega, show (x : Int) / 64 = ((x / 2 ^ 6 : Nat) : Int) by omega, u32_or_nat _ _ (by omega) (by omega)]
    unfold rotr
    rw [or_mod, Nat.or_comm, show x / 2 ^ 6 % 4294967296 = x / 2 ^ 6 by omega]
  go_enter Tryd.func70, Tryd.ntmps70
  go_wp2
  go_ret
  exact ⟨by first | rfl | (refine congrArg Ending.returned (congrArg (Value.int .u32) ?_); exact ho), rfl⟩
theorem rot_11 (W : World) (x : Nat) (hx : x < 4294967296) : Calls Tryd.prog 70 #[.int .u32 (x : Int), .int .i64 (-11)] W fun e W' => e = .returned (.int .u32 ((rotr x 11 : Nat) : Int)) ∧ W' = W := by
  have ha : bits .and .u64 (IntKind.u64.wrap (-11)) 31 = 21 := by decide +kernel
  have ho : bits .or .u32 ((x : Int) * 2097152 % 4294967296) ((x : Int) / 2048) = ((rotr x 11 : Nat) : Int) := by
    rw [show (x : Int) * 2097152 % 4294967296 = ((x * 2 ^ 21 % 4294967296 : Nat) : Int) by omega, show (x : Int) / 2048 = ((x / 2 ^ 11 : Nat) : Int) by omega, u32_or_nat _ _ (by omega) (by omega)]
    unfold rotr
    rw [or_mod, Nat.or_comm, show x / 2 ^ 11 % 4294967296 = x / 2 ^ 11 by omega]
  go_enter Tryd.func70, Tryd.ntmps70
  go_wp2
  go_ret
  exact ⟨by first | rfl | (refine congrArg Ending.returned (congrArg (Value.int .u32) ?_); exact ho), rfl⟩
theorem rot_13 (W : World) (x : Nat) (hx : x < 4294967296) : Calls Tryd.prog 70 #[.int .u32 (x : Int), .int .i64 (-13)] W fun e W' => e = .returned (.int .u32 ((rotr x 13 : Nat) : Int)) ∧ W' = W := by
  have ha : bits .and .u64 (IntKind.u64.wrap (-13)) 31 = 19 := by decide +kernel
  have ho : bits .or .u32 ((x : Int) * 524288 % 4294967296) ((x : Int) / 8192) = ((rotr x 13 : Nat) : Int) := by
    rw [show (x : Int) * 524288 % 4294967296 = ((x * 2 ^ 19 % 4294967296 : Nat) : Int) by omega, show (x : Int) / 8192 = ((x / 2 ^ 13 : Nat) : Int) by omega, u32_or_nat _ _ (by omega) (by omega)]
    unfold rotr
    rw [or_mod, Nat.or_comm, show x / 2 ^ 13 % 4294967296 = x / 2 ^ 13 by omega]
  go_enter Tryd.func70, Tryd.ntmps70
  go_wp2
  go_ret
  exact ⟨by first | rfl | (refine congrArg Ending.returned (congrArg (Value.int .u32) ?_); exact ho), rfl⟩
theorem rot_17 (W : World) (x : Nat) (hx : x < 4294967296) : Calls Tryd.prog 70 #[.int .u32 (x : Int), .int .i64 (-17)] W fun e W' => e = .returned (.int .u32 ((rotr x 17 : Nat) : Int)) ∧ W' = W := by
  have ha : bits .and .u64 (IntKind.u64.wrap (-17)) 31 = 15 := by decide +kernel
  have ho : bits .or .u32 ((x : Int) * 32768 % 4294967296) ((x : Int) / 131072) = ((rotr x 17 : Nat) : Int) := by
    rw [show (x : Int) * 32768 % 4294967296 = ((x * 2 ^ 15 % 4294967296 : Nat) : Int) by omega, show (x : Int) / 131072 = ((x / 2 ^ 17 : Nat) : Int) by omega, u32_or_nat _ _ (by omega) (by omega)]
    unfold rotr
    rw [or_mod, Nat.or_comm, show x / 2 ^ 17 % 4294967296 = x / 2 ^ 17 by omega]
  go_enter Tryd.func70, Tryd.ntmps70
  go_wp2
  go_ret
  exact ⟨by first | rfl | (refine congrArg Ending.returned (congrArg (Value.int .u32) ?_); exact ho), rfl⟩
theorem rot_18 (W : World) (x : Nat) (hx : x < 4294967296) : Calls Tryd.prog 70 #[.int .u32 (x : Int), .int .i64 (-18)] W fun e W' => e = .returned (.int .u32 ((rotr x 18 : Nat) : Int)) ∧ W' = W := by
  have ha : bits .and .u64 (IntKind.u64.wrap (-18)) 31 = 14 := by decide +kernel
  have ho : bits .or .u32 ((x : Int) * 16384 % 4294967296) ((x : Int) / 262144) = ((rotr x 18 : Nat) : Int) := by
    rw [show (x : Int) * 16384 % 4294967296 = ((x * 2 ^ 14 % 4294967296 : Nat) : Int) by omega, show (x : Int) / 262144 = ((x / 2 ^ 18 : Nat) : Int) by omega, u32_or_nat _ _ (by omega) (by omega)]
    unfold rotr
    rw [or_mod, Nat.or_comm, show x / 2 ^ 18 % 4294967296 = x / 2 ^ 18 by omega]
  go_enter Tryd.func70, Tryd.ntmps70
  go_wp2
  go_ret
  exact ⟨by first | rfl | (refine congrArg Ending.returned (congrArg (Value.int .u32) ?_); exact ho), rfl⟩
theorem rot_19 (W : World) (x : Nat) (hx : x < 4294967296) : Calls Tryd.prog 70 #[.int .u32 (x : Int), .int .i64 (-19)] W fun e W' => e = .returned (.int .u32 ((rotr x 19 : Nat) : Int)) ∧ W' = W := by
  have ha : bits .and .u64 (IntKind.u64.wrap (-19)) 31 = 13 := by decide +kernel
  have ho : bits .or .u32 ((x : Int) * 8192 % 4294967296) ((x : Int) / 524288) = ((rotr x 19 : Nat) : Int) := by
    rw [show (x : Int) * 8192 % 4294967296 = ((x * 2 ^ 13 % 4294967296 : Nat) : Int) by omega, show (x : Int) / 524288 = ((x / 2 ^ 19 : Nat) : Int) by omega, u32_or_nat _ _ (by omega) (by omega)]
    unfold rotr
    rw [or_mod, Nat.or_comm, show x / 2 ^ 19 % 4294967296 = x / 2 ^ 19 by omega]
  go_enter Tryd.func70, Tryd.ntmps70
  go_wp2
  go_ret
  exact ⟨by first | rfl | (refine congrArg Ending.returned (congrArg (Value.int .u32) ?_); exact ho), rfl⟩
theorem rot_22 (W : World) (x : Nat) (hx : x < 4294967296) : Calls Tryd.prog 70 #[.int .u32 (x : Int), .int .i64 (-22)] W fun e W' => e = .returned (.int .u32 ((rotr x 22 : Nat) : Int)) ∧ W' = W := by
  have ha : bits .and .u64 (IntKind.u64.wrap (-22)) 31 = 10 := by decide +kernel
  have ho : bits .or .u32 ((x : Int) * 1024 % 4294967296) ((x : Int) / 4194304) = ((rotr x 22 : Nat) : Int) := by
    rw [show (x : Int) * 1024 % 4294967296 = ((x * 2 ^ 10 % 4294967296 : Nat) : Int) by omega, show (x : Int) / 4194304 = ((x / 2 ^ 22 : Nat) : Int) by omega, u32_or_nat _ _ (by omega) (by omega)]
    unfold rotr
    rw [or_mod, Nat.or_comm, show x / 2 ^ 22 % 4294967296 = x / 2 ^ 22 by omega]
  go_enter Tryd.func70, Tryd.ntmps70
  go_wp2
  go_ret
  exact ⟨by first | rfl | (refine congrArg Ending.returned (congrArg (Value.int .u32) ?_); exact ho), rfl⟩
theorem rot_25 (W : World) (x : Nat) (hx : x < 4294967296) : Calls Tryd.prog 70 #[.int .u32 (x : Int), .int .i64 (-25)] W fun e W' => e = .returned (.int .u32 ((rotr x 25 : Nat) : Int)) ∧ W' = W := by
  have ha : bits .and .u64 (IntKind.u64.wrap (-25)) 31 = 7 := by decide +kernel
  have ho : bits .or .u32 ((x : Int) * 128 % 4294967296) ((x : Int) / 33554432) = ((rotr x 25 : Nat) : Int) := by
    rw [show (x : Int) * 128 % 4294967296 = ((x * 2 ^ 7 % 4294967296 : Nat) : Int) by omega, show (x : Int) / 33554432 = ((x / 2 ^ 25 : Nat) : Int) by omega, u32_or_nat _ _ (by omega) (by omega)]
    unfold rotr
    rw [or_mod, Nat.or_comm, show x / 2 ^ 25 % 4294967296 = x / 2 ^ 25 by omega]
  go_enter Tryd.func70, Tryd.ntmps70
  go_wp2
  go_ret
  exact ⟨by first | rfl | (refine congrArg Ending.returned (congrArg (Value.int .u32) ?_); exact ho), rfl⟩
set_option maxHeartbeats 1000000 in
theorem turned_2 (W : World) (x : Nat) (hx : x < 4294967296) : Calls Tryd.prog 58 #[.int .u32 (x : Int), .int .i64 2] W fun e W' => e = .returned (.int .u32 ((rotr x 2 : Nat) : Int)) ∧ W' = W := by
  go_enter Tryd.func58, Tryd.ntmps58
  go_wp2_with fail
  refine (rot_2 W x hx).mono ?_
  rintro e w' ⟨rfl, he⟩
  obtain rfl : W = w' := he.symm
  go_wp2
  go_ret
  exact ⟨rfl, rfl⟩
set_option maxHeartbeats 1000000 in
theorem turned_6 (W : World) (x : Nat) (hx : x < 4294967296) : Calls Tryd.prog 58 #[.int .u32 (x : Int), .int .i64 6] W fun e W' => e = .returned (.int .u32 ((rotr x 6 : Nat) : Int)) ∧ W' = W := by
  go_enter Tryd.func58, Tryd.ntmps58
  go_wp2_with fail
  refine (rot_6 W x hx).mono ?_
  rintro e w' ⟨rfl, he⟩
  obtain rfl : W = w' := he.symm
  go_wp2
  go_ret
  exact ⟨rfl, rfl⟩
set_option maxHeartbeats 1000000 in
theorem turned_7 (W : World) (x : Nat) (hx : x < 4294967296) : Calls Tryd.prog 58 #[.int .u32 (x : Int), .int .i64 7] W fun e W' => e = .returned (.int .u32 ((rotr x 7 : Nat) : Int)) ∧ W' = W := by
  go_enter Tryd.func58, Tryd.ntmps58
  go_wp2_with fail
  refine (rot_7 W x hx).mono ?_
  rintro e w' ⟨rfl, he⟩
  obtain rfl : W = w' := he.symm
  go_wp2
  go_ret
  exact ⟨rfl, rfl⟩
set_option maxHeartbeats 1000000 in
theorem turned_11 (W : World) (x : Nat) (hx : x < 4294967296) : Calls Tryd.prog 58 #[.int .u32 (x : Int), .int .i64 11] W fun e W' => e = .returned (.int .u32 ((rotr x 11 : Nat) : Int)) ∧ W' = W := by
  go_enter Tryd.func58, Tryd.ntmps58
  go_wp2_with fail
  refine (rot_11 W x hx).mono ?_
  rintro e w' ⟨rfl, he⟩
  obtain rfl : W = w' := he.symm
  go_wp2
  go_ret
  exact ⟨rfl, rfl⟩
set_option maxHeartbeats 1000000 in
theorem turned_13 (W : World) (x : Nat) (hx : x < 4294967296) : Calls Tryd.prog 58 #[.int .u32 (x : Int), .int .i64 13] W fun e W' => e = .returned (.int .u32 ((rotr x 13 : Nat) : Int)) ∧ W' = W := by
  go_enter Tryd.func58, Tryd.ntmps58
  go_wp2_with fail
  refine (rot_13 W x hx).mono ?_
  rintro e w' ⟨rfl, he⟩
  obtain rfl : W = w' := he.symm
  go_wp2
  go_ret
  exact ⟨rfl, rfl⟩
set_option maxHeartbeats 1000000 in
theorem turned_17 (W : World) (x : Nat) (hx : x < 4294967296) : Calls Tryd.prog 58 #[.int .u32 (x : Int), .int .i64 17] W fun e W' => e = .returned (.int .u32 ((rotr x 17 : Nat) : Int)) ∧ W' = W := by
  go_enter Tryd.func58, Tryd.ntmps58
  go_wp2_with fail
  refine (rot_17 W x hx).mono ?_
  rintro e w' ⟨rfl, he⟩
  obtain rfl : W = w' := he.symm
  go_wp2
  go_ret
  exact ⟨rfl, rfl⟩
set_option maxHeartbeats 1000000 in
theorem turned_18 (W : World) (x : Nat) (hx : x < 4294967296) : Calls Tryd.prog 58 #[.int .u32 (x : Int), .int .i64 18] W fun e W' => e = .returned (.int .u32 ((rotr x 18 : Nat) : Int)) ∧ W' = W := by
  go_enter Tryd.func58, Tryd.ntmps58
  go_wp2_with fail
  refine (rot_18 W x hx).mono ?_
  rintro e w' ⟨rfl, he⟩
  obtain rfl : W = w' := he.symm
  go_wp2
  go_ret
  exact ⟨rfl, rfl⟩
set_option maxHeartbeats 1000000 in
theorem turned_19 (W : World) (x : Nat) (hx : x < 4294967296) : Calls Tryd.prog 58 #[.int .u32 (x : Int), .int .i64 19] W fun e W' => e = .returned (.int .u32 ((rotr x 19 : Nat) : Int)) ∧ W' = W := by
  go_enter Tryd.func58, Tryd.ntmps58
  go_wp2_with fail
  refine (rot_19 W x hx).mono ?_
  rintro e w' ⟨rfl, he⟩
  obtain rfl : W = w' := he.symm
  go_wp2
  go_ret
  exact ⟨rfl, rfl⟩
set_option maxHeartbeats 1000000 in
theorem turned_22 (W : World) (x : Nat) (hx : x < 4294967296) : Calls Tryd.prog 58 #[.int .u32 (x : Int), .int .i64 22] W fun e W' => e = .returned (.int .u32 ((rotr x 22 : Nat) : Int)) ∧ W' = W := by
  go_enter Tryd.func58, Tryd.ntmps58
  go_wp2_with fail
  refine (rot_22 W x hx).mono ?_
  rintro e w' ⟨rfl, he⟩
  obtain rfl : W = w' := he.symm
  go_wp2
  go_ret
  exact ⟨rfl, rfl⟩
set_option maxHeartbeats 1000000 in
theorem turned_25 (W : World) (x : Nat) (hx : x < 4294967296) : Calls Tryd.prog 58 #[.int .u32 (x : Int), .int .i64 25] W fun e W' => e = .returned (.int .u32 ((rotr x 25 : Nat) : Int)) ∧ W' = W := by
  go_enter Tryd.func58, Tryd.ntmps58
  go_wp2_with fail
  refine (rot_25 W x hx).mono ?_
  rintro e w' ⟨rfl, he⟩
  obtain rfl : W = w' := he.symm
  go_wp2
  go_ret
  exact ⟨rfl, rfl⟩
theorem and_lt32 {a b : Nat} (ha : a < 4294967296) : a &&& b < 4294967296 := Nat.lt_of_le_of_lt Nat.and_le_left ha
theorem or_lt32 {a b : Nat} (ha : a < 4294967296) (hb : b < 4294967296) : a ||| b < 4294967296 := Nat.or_lt_two_pow (n := 32) ha hb
theorem xor_lt32 {a b : Nat} (ha : a < 4294967296) (hb : b < 4294967296) : a ^^^ b < 4294967296 := Nat.xor_lt_two_pow (n := 32) ha hb
theorem ch_lt {e f g : Nat} (he : e < 4294967296) : ch e f g < 4294967296 := or_lt32 (and_lt32 he) (and_lt32 (xor_lt32 he (by decide)))
theorem maj_lt {a b c : Nat} (ha : a < 4294967296) (hb : b < 4294967296) : maj a b c < 4294967296 := or_lt32 (or_lt32 (and_lt32 ha) (and_lt32 ha)) (and_lt32 hb)
theorem choose_any (W : World) (e f g : Nat) (he : e < 4294967296) (hf : f < 4294967296) (hg : g < 4294967296) : Calls Tryd.prog 59 #[.int .u32 (e : Int), .int .u32 (f : Int), .int .u32 (g : Int)] W fun r W' => r = .returned (.int .u32 ((ch e f g : Nat) : Int)) ∧ W' = W := by
  have b1 : bits .and .u32 (e : Int) (f : Int) = ((e &&& f : Nat) : Int) := u32_and_nat e f he hf
  have b2 : bits .xor .u32 IntKind.u32.max (e : Int) = ((e ^^^ 4294967295 : Nat) : Int) := by rw [show IntKind.u32.max = ((4294967295 : Nat) : Int) from rfl, u32_xor_nat _ _ (by decide) he, Nat.xor_comm]
  have b3 : bits .and .u32 ((e ^^^ 4294967295 : Nat) : Int) (g : Int) = (((e ^^^ 4294967295) &&& g : Nat) : Int) := u32_and_nat _ _ (xor_lt32 he (by decide)) hg
  have b4 : bits .or .u32 ((e &&& f : Nat) : Int) (((e ^^^ 4294967295) &&& g : Nat) : Int) = ((ch e f g : Nat) : Int) := u32_or_nat _ _ (and_lt32 he) (and_lt32 (xor_lt32 he (by decide)))
  generalize ch e f g = r at *
  generalize (e ^^^ 4294967295) &&& g = r1 at *
  generalize e ^^^ 4294967295 = r2 at *
  generalize e &&& f = r3 at *
  clear he hf hg
  go_enter Tryd.func59, Tryd.ntmps59
  go_wp2
  go_ret
  exact ⟨rfl, rfl⟩
theorem most_any (W : World) (a b c : Nat) (ha : a < 4294967296) (hb : b < 4294967296) (hc : c < 4294967296) : Calls Tryd.prog 60 #[.int .u32 (a : Int), .int .u32 (b : Int), .int .u32 (c : Int)] W fun r W' => r = .returned (.int .u32 ((maj a b c : Nat) : Int)) ∧ W' = W := by
  have b1 : bits .and .u32 (a : Int) (b : Int) = ((a &&& b : Nat) : Int) := u32_and_nat a b ha hb
  have b2 : bits .and .u32 (a : Int) (c : Int) = ((a &&& c : Nat) : Int) := u32_and_nat a c ha hc
  have b3 : bits .and .u32 (b : Int) (c : Int) = ((b &&& c : Nat) : Int) := u32_and_nat b c hb hc
  have b4 : bits .or .u32 ((a &&& b : Nat) : Int) ((a &&& c : Nat) : Int) = ((a &&& b ||| a &&& c : Nat) : Int) := u32_or_nat _ _ (and_lt32 ha) (and_lt32 ha)
  have b5 : bits .or .u32 ((a &&& b ||| a &&& c : Nat) : Int) ((b &&& c : Nat) : Int) = ((maj a b c : Nat) : Int) := u32_or_nat _ _ (or_lt32 (and_lt32 ha) (and_lt32 ha)) (and_lt32 hb)
  generalize maj a b c = r at *
  generalize a &&& b ||| a &&& c = r1 at *
  generalize a &&& b = r2 at *
  generalize a &&& c = r3 at *
  generalize b &&& c = r4 at *
  clear ha hb hc
  go_enter Tryd.func60, Tryd.ntmps60
  go_wp2
  go_ret
  exact ⟨rfl, rfl⟩
end Go.Proofs.YtoojchjfmnbdpabDoor
