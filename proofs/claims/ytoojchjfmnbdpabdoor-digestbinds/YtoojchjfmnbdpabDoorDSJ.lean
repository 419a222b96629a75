import Derived.Test.YtoojchjfmnbdpabDoorDSm
import Derived.Deep.MidRow
import Derived.Laws.Rows
import Derived.Laws.Tables
namespace Go.Proofs.YtoojchjfmnbdpabDoor
open Go.RowKit
attribute [local go_sem ↓] Go.wp_at_zero Go.wp_at_succ

theorem or_mod (a b : Nat) : (a ||| b) % 4294967296 = (a % 4294967296) ||| (b % 4294967296) := by
  have := Nat.or_mod_two_pow (a := a) (b := b) (n := 32)
  simpa using this
theorem rotr_lt (x n : Nat) : rotr x n < 4294967296 := Nat.mod_lt _ (by decide)
theorem rot_7 (W : World) (x : Nat) (hx : x < 4294967296) : Calls Tryd.prog 70 #[.int .u32 (x : Int), .int .i64 (-7)] W fun e W' => e = .returned (.int .u32 ((rotr x 7 : Nat) : Int)) ∧ W' = W := by
  have ha : bits .and .u64 (IntKind.u64.wrap (-7)) 31 = 25 := by decide +kernel
  have ho : bits .or .u32 ((x : Int) * 33554432 % 4294967296) ((x : Int) / 128) = ((rotr x 7 : Nat) : Int) := by
    rw [show (x : Int) * 33554432 % 4294967296 = ((x * 2 ^ 25 % 4294967296 : Nat) : Int) by omega, show (x : Int) / 128 = ((x / 2 ^ 7 : Nat) : Int) by omega, u32_or_nat _ _ (by omega) (by omega)]
    unfold rotr
    rw [or_mod, Nat.or_comm, show x / 2 ^ 7 % 4294967296 = x / 2 ^ 7 by omega]
  go_enter Tryd.func70, Tryd.ntmps70
  go_wp2
  go_ret
  exact ⟨by first | rfl | (refine congrArg Ending.returned (congrArg (Value.int .u32) ?_); exact ho), rfl⟩
theorem rot_2 (W : World) (x : Nat) (hx : x < 4294967296) : Calls Tryd.prog 70 #[.int .u32 (x : Int), .int .i64 (-2)] W fun e W' => e = .returned (.int .u32 ((rotr x 2 : Nat) : Int)) ∧ W' = W := by
  have ha : bits .and .u64 (IntKind.u64.wrap (-2)) 31 = 30 := by decide +kernel
  have ho : bits .or .u32 ((x : Int) * 1073741824 % 4294967296) ((x : Int) / 4) = ((rotr x 2 : Nat) : Int) := by
    rw [show (x : Int) * 1073741824 % 4294967296 = ((x * 2 ^ 30 % 4294967296 : Nat) : Int) by omega, show (x : Int) / 4 = ((x / 2 ^ 2 : Nat) : Int) by omega, u32_or_nat _ _ (by omega) (by omega)]
    unfold rotr
    rw [or_mod, Nat.or_comm, show x / 2 ^ 2 % 4294967296 = x / 2 ^ 2 by omega]
  go_enter Tryd.func70, Tryd.ntmps70
  go_wp2
  go_ret
  exact ⟨by first | rfl | (refine congrArg Ending.returned (congrArg (Value.int .u32) ?_); exact ho), rfl⟩
theorem rot_6 (W : World) (x : Nat) (hx : x < 4294967296) : Calls Tryd.prog 70 #[.int .u32 (x : Int), .int .i64 (-6)] W fun e W' => e = .returned (.int .u32 ((rotr x 6 : Nat) : Int)) ∧ W' = W := by
  have ha : bits .and .u64 (IntKind.u64.wrap (-6)) 31 = 26 := by decide +kernel
  have ho : bits .or .u32 ((x : Int) * 67108864 % 4294967296) ((x : Int) / 64) = ((rotr x 6 : Nat) : Int) := by
    rw [show (x : Int) * 67108864 % 4294967296 = ((x * 2 ^ 26 % 4294967296 : Nat) : Int) by omega, show (x : Int) / 64 = ((x / 2 ^ 6 : Nat) : Int) by omega, u32_or_nat _ _ (by omega) (by omega)]
    unfold rotr
    rw [or_mod, Nat.or_comm, show x / 2 ^ 6 % 4294967296 = x / 2 ^ 6 by omega]
  go_enter Tryd.func70, Tryd.ntmps70
  go_wp2
  go_ret
  exact ⟨by first | rfl | (refine congrArg Ending.returned (congrArg (Value.int .u32) ?_); exact ho), rfl⟩
theorem rot_11 (W : World) (x : Nat) (hx : x < 4294967296) : Calls Tryd.prog 70 #[.int .u32 (x : Int), .int .i64 (-11)] W fun e W' => e = .returned (.int .u32 ((rotr x 11 : Nat) : Int)) ∧ W' = W := by
  have ha : bits .and .u64 (IntKind.u64.wrap (-11)) 31 = 21 := by decide +kernel
  have ho : bits .or .u32 ((x : Int) * 2097152 % 4294967296) ((x : Int) / 2048) = ((rotr x 11 : Nat) : Int) := by
    rw [show (x : Int) * 2097152 % 4294967296 = ((x * 2 ^ 21 % 4294967296 : Nat) : Int) by omega, show (x : Int) / 2048 = ((x / 2 ^ 11 : Nat) : Int) by omega, u32_or_nat _ _ (by omega) (by omega)]
    unfold rotr
    rw [or_mod, Nat.or_comm, show x / 2 ^ 11 % 4294967296 = x / 2 ^ 11 by omega]
  go_enter Tryd.func70, Tryd.ntmps70
  go_wp2
  go_ret
  exact ⟨by first | rfl | (refine congrArg Ending.returned (congrArg (Value.int .u32) ?_); exact ho), rfl⟩
theorem rot_13 (W : World) (x : Nat) (hx : x < 4294967296) : Calls Tryd.prog 70 #[.int .u32 (x : Int), .int .i64 (-13)] W fun e W' => e = .returned (.int .u32 ((rotr x 13 : Nat) : Int)) ∧ W' = W := by
  have ha : bits .and .u64 (IntKind.u64.wrap (-13)) 31 = 19 := by decide +kernel
  have ho : bits .or .u32 ((x : Int) * 524288 % 4294967296) ((x : Int) / 8192) = ((rotr x 13 : Nat) : Int) := by
    rw [show (x : Int) * 524288 % 4294967296 = ((x * 2 ^ 19 % 4294967296 : Nat) : Int) by omega, show (x : Int) / 8192 = ((x / 2 ^ 13 : Nat) : Int) by omega, u32_or_nat _ _ (by omega) (by omega)]
    unfold rotr
    rw [or_mod, Nat.or_comm, show x / 2 ^ 13 % 4294967296 = x / 2 ^ 13 by omega]
  go_enter Tryd.func70, Tryd.ntmps70
  go_wp2
  go_ret
  exact ⟨by first | rfl | (refine congrArg Ending.returned (congrArg (Value.int .u32) ?_); exact ho), rfl⟩
theorem rot_17 (W : World) (x : Nat) (hx : x < 4294967296) : Calls Tryd.prog 70 #[.int .u32 (x : Int), .int .i64 (-17)] W fun e W' => e = .returned (.int .u32 ((rotr x 17 : Nat) : Int)) ∧ W' = W := by
  have ha : bits .and .u64 (IntKind.u64.wrap (-17)) 31 = 15 := by decide +kernel
  have ho : bits .or .u32 ((x : Int) * 32768 % 4294967296) ((x : Int) / 131072) = ((rotr x 17 : Nat) : Int) := by
    rw [show (x : Int) * 32768 % 4294967296 = ((x * 2 ^ 15 % 4294967296 : Nat) : Int) by omega, show (x : Int) / 131072 = ((x / 2 ^ 17 : Nat) : Int) by omega, u32_or_nat _ _ (by omega) (by omega)]
    unfold rotr
    rw [or_mod, Nat.or_comm, show x / 2 ^ 17 % 4294967296 = x / 2 ^ 17 by omega]
  go_enter Tryd.func70, Tryd.ntmps70
  go_wp2
  go_ret
  exact ⟨by first | rfl | (refine congrArg Ending.returned (congrArg (Value.int .u32) ?_); exact ho), rfl⟩
theorem rot_18 (W : World) (x : Nat) (hx : x < 4294967296) : Calls Tryd.prog 70 #[.int .u32 (x : Int), .int .i64 (-18)] W fun e W' => e = .returned (.int .u32 ((rotr x 18 : Nat) : Int)) ∧ W' = W := by
  have ha : bits .and .u64 (IntKind.u64.wrap (-18)) 31 = 14 := by decide +kernel
  have ho : bits .or .u32 ((x : Int) * 16384 % 4294967296) ((x : Int) / 262144) = ((rotr x 18 : Nat) : Int) := by
    rw [show (x : Int) * 16384 % 4294967296 = ((x * 2 ^ 14 % 4294967296 : Nat) : Int) by omega, show (x : Int) / 262144 = ((x / 2 ^ 18 : Nat) : Int) by omega, u32_or_nat _ _ (by omega) (by omega)]
    unfold rotr
    rw [or_mod, Nat.or_comm, show x / 2 ^ 18 % 4294967296 = x / 2 ^ 18 by omega]
  go_enter Tryd.func70, Tryd.ntmps70
  go_wp2
  go_ret
  exact ⟨by first | rfl | (refine congrArg Ending.returned (congrArg (Value.int .u32) ?_); exact ho), rfl⟩
theorem rot_19 (W : World) (x : Nat) (hx : x < 4294967296) : Calls Tryd.prog 70 #[.int .u32 (x : Int), .int .i64 (-19)] W fun e W' => e = .returned (.int .u32 ((rotr x 19 : Nat) : Int)) ∧ W' = W := by
  have ha : bits .and .u64 (IntKind.u64.wrap (-19)) 31 = 13 := by decide +kernel
  have ho : bits .or .u32 ((x : Int) * 8192 % 4294967296) ((x : Int) / 524288) = ((rotr x 19 : Nat) : Int) := by
    rw [show (x : Int) * 8192 % 4294967296 = ((x * 2 ^ 13 % 4294967296 : Nat) : Int) by omega, show (x : Int) / 524288 = ((x / 2 ^ 19 : Nat) : Int) by omega, u32_or_nat _ _ (by omega) (by omega)]
    unfold rotr
    rw [or_mod, Nat.or_comm, show x / 2 ^ 19 % 4294967296 = x / 2 ^ 19 by omega]
  go_enter Tryd.func70, Tryd.ntmps70
  go_wp2
  go_ret
  exact ⟨by first | rfl | (refine congrArg Ending.returned (congrArg (Value.int .u32) ?_); exact ho), rfl⟩
theorem rot_22 (W : World) (x : Nat) (hx : x < 4294967296) : Calls Tryd.prog 70 #[.int .u32 (x : Int), .int .i64 (-22)] W fun e W' => e = .returned (.int .u32 ((rotr x 22 : Nat) : Int)) ∧ W' = W := by
  have ha : bits .and .u64 (IntKind.u64.wrap (-22)) 31 = 10 := by decide +kernel
  have ho : bits .or .u32 ((x : Int) * 1024 % 4294967296) ((x : Int) / 4194304) = ((rotr x 22 : Nat) : Int) := by
    rw [show (x : Int) * 1024 % 4294967296 = ((x * 2 ^ 10 % 4294967296 : Nat) : Int) by omega, show (x : Int) / 4194304 = ((x / 2 ^ 22 : Nat) : Int) by omega, u32_or_nat _ _ (by omega) (by omega)]
    unfold rotr
    rw [or_mod, Nat.or_comm, show x / 2 ^ 22 % 4294967296 = x / 2 ^ 22 by omega]
  go_enter Tryd.func70, Tryd.ntmps70
  go_wp2
  go_ret
  exact ⟨by first | rfl | (refine congrArg Ending.returned (congrArg (Value.int .u32) ?_); exact ho), rfl⟩
theorem rot_25 (W : World) (x : Nat) (hx : x < 4294967296) : Calls Tryd.prog 70 #[.int .u32 (x : Int), .int .i64 (-25)] W fun e W' => e = .returned (.int .u32 ((rotr x 25 : Nat) : Int)) ∧ W' = W := by
  have ha : bits .and .u64 (IntKind.u64.wrap (-25)) 31 = 7 := by decide +kernel
  have ho : bits .or .u32 ((x : Int) * 128 % 4294967296) ((x : Int) / 33554432) = ((rotr x 25 : Nat) : Int) := by
    rw [show (x : Int) * 128 % 4294967296 = ((x * 2 ^ 7 % 4294967296 : Nat) : Int) by omega, show (x : Int) / 33554432 = ((x / 2 ^ 25 : Nat) : Int) by omega, u32_or_nat _ _ (by omega) (by omega)]
    unfold rotr
    rw [or_mod, Nat.or_comm, show x / 2 ^ 25 % 4294967296 = x / 2 ^ 25 by omega]
  go_enter Tryd.func70, Tryd.ntmps70
  go_wp2
  go_ret
  exact ⟨by first | rfl | (refine congrArg Ending.returned (congrArg (Value.int .u32) ?_); exact ho), rfl⟩
set_option maxHeartbeats 1000000 in
theorem turned_2 (W : World) (x : Nat) (hx : x < 4294967296) : Calls Tryd.prog 58 #[.int .u32 (x : Int), .int .i64 2] W fun e W' => e = .returned (.int .u32 ((rotr x 2 : Nat) : Int)) ∧ W' = W := by
  go_enter Tryd.func58, Tryd.ntmps58
  go_wp2_with fail
  refine (rot_2 W x hx).mono ?_
  rintro e w' ⟨rfl, he⟩
  obtain rfl : W = w' := he.symm
  go_wp2
  go_ret
  exact ⟨rfl, rfl⟩
set_option maxHeartbeats 1000000 in
theorem turned_6 (W : World) (x : Nat) (hx : x < 4294967296) : Calls Tryd.prog 58 #[.int .u32 (x : Int), .int .i64 6] W fun e W' => e = .returned (.int .u32 ((rotr x 6 : Nat) : Int)) ∧ W' = W := by
  go_enter Tryd.func58, Tryd.ntmps58
  go_wp2_with fail
  refine (rot_6 W x hx).mono ?_
  rintro e w' ⟨rfl, he⟩
  obtain rfl : W = w' := he.symm
  go_wp2
  go_ret
  exact ⟨rfl, rfl⟩
set_option maxHeartbeats 1000000 in
theorem turned_7 (W : World) (x : Nat) (hx : x < 4294967296) : Calls Tryd.prog 58 #[.int .u32 (x : Int), .int .i64 7] W fun e W' => e = .returned (.int .u32 ((rotr x 7 : Nat) : Int)) ∧ W' = W := by
  go_enter Tryd.func58, Tryd.ntmps58
  go_wp2_with fail
  refine (rot_7 W x hx).mono ?_
  rintro e w' ⟨rfl, he⟩
  obtain rfl : W = w' := he.symm
  go_wp2
  go_ret
  exact ⟨rfl, rfl⟩
set_option maxHeartbeats 1000000 in
theorem turned_11 (W : World) (x : Nat) (hx : x < 4294967296) : Calls Tryd.prog 58 #[.int .u32 (x : Int), .int .i64 11] W fun e W' => e = .returned (.int .u32 ((rotr x 11 : Nat) : Int)) ∧ W' = W := by
  go_enter Tryd.func58, Tryd.ntmps58
  go_wp2_with fail
  refine (rot_11 W x hx).mono ?_
  rintro e w' ⟨rfl, he⟩
  obtain rfl : W = w' := he.symm
  go_wp2
  go_ret
  exact ⟨rfl, rfl⟩
set_option maxHeartbeats 1000000 in
theorem turned_13 (W : World) (x : Nat) (hx : x < 4294967296) : Calls Tryd.prog 58 #[.int .u32 (x : Int), .int .i64 13] W fun e W' => e = .returned (.int .u32 ((rotr x 13 : Nat) : Int)) ∧ W' = W := by
  go_enter Tryd.func58, Tryd.ntmps58
  go_wp2_with fail
  refine (rot_13 W x hx).mono ?_
  rintro e w' ⟨rfl, he⟩
  obtain rfl : W = w' := he.symm
  go_wp2
  go_ret
  exact ⟨rfl, rfl⟩
set_option maxHeartbeats 1000000 in
theorem turned_17 (W : World) (x : Nat) (hx : x < 4294967296) : Calls Tryd.prog 58 #[.int .u32 (x : Int), .int .i64 17] W fun e W' => e = .returned (.int .u32 ((rotr x 17 : Nat) : Int)) ∧ W' = W := by
  go_enter Tryd.func58, Tryd.ntmps58
  go_wp2_with fail
  refine (rot_17 W x hx).mono ?_
  rintro e w' ⟨rfl, he⟩
  obtain rfl : W = w' := he.symm
  go_wp2
  go_ret
  exact ⟨rfl, rfl⟩
set_option maxHeartbeats 1000000 in
theorem turned_18 (W : World) (x : Nat) (hx : x < 4294967296) : Calls Tryd.prog 58 #[.int .u32 (x : Int), .int .i64 18] W fun e W' => e = .returned (.int .u32 ((rotr x 18 : Nat) : Int)) ∧ W' = W := by
  go_enter Tryd.func58, Tryd.ntmps58
  go_wp2_with fail
  refine (rot_18 W x hx).mono ?_
  rintro e w' ⟨rfl, he⟩
  obtain rfl : W = w' := he.symm
  go_wp2
  go_ret
  exact ⟨rfl, rfl⟩
set_option maxHeartbeats 1000000 in
theorem turned_19 (W : World) (x : Nat) (hx : x < 4294967296) : Calls Tryd.prog 58 #[.int .u32 (x : Int), .int .i64 19] W fun e W' => e = .returned (.int .u32 ((rotr x 19 : Nat) : Int)) ∧ W' = W := by
  go_enter Tryd.func58, Tryd.ntmps58
  go_wp2_with fail
  refine (rot_19 W x hx).mono ?_
  rintro e w' ⟨rfl, he⟩
  obtain rfl : W = w' := he.symm
  go_wp2
  go_ret
  exact ⟨rfl, rfl⟩
set_option maxHeartbeats 1000000 in
theorem turned_22 (W : World) (x : Nat) (hx : x < 4294967296) : Calls Tryd.prog 58 #[.int .u32 (x : Int), .int .i64 22] W fun e W' => e = .returned (.int .u32 ((rotr x 22 : Nat) : Int)) ∧ W' = W := by
  go_enter Tryd.func58, Tryd.ntmps58
  go_wp2_with fail
  refine (rot_22 W x hx).mono ?_
  rintro e w' ⟨rfl, he⟩
  obtain rfl : W = w' := he.symm
  go_wp2
  go_ret
  exact ⟨rfl, rfl⟩
set_option maxHeartbeats 1000000 in
theorem turned_25 (W : World) (x : Nat) (hx : x < 4294967296) : Calls Tryd.prog 58 #[.int .u32 (x : Int), .int .i64 25] W fun e W' => e = .returned (.int .u32 ((rotr x 25 : Nat) : Int)) ∧ W' = W := by
  go_enter Tryd.func58, Tryd.ntmps58
  go_wp2_with fail
  refine (rot_25 W x hx).mono ?_
  rintro e w' ⟨rfl, he⟩
  obtain rfl : W = w' := he.symm
  go_wp2
  go_ret
  exact ⟨rfl, rfl⟩
theorem and_lt32 {a b : Nat} (ha : a < 4294967296) : a &&& b < 4294967296 := Nat.lt_of_le_of_lt Nat.and_le_left ha
theorem or_lt32 {a b : Nat} (ha : a < 4294967296) (hb : b < 4294967296) : a ||| b < 4294967296 := Nat.or_lt_two_pow (n := 32) ha hb
theorem xor_lt32 {a b : Nat} (ha : a < 4294967296) (hb : b < 4294967296) : a ^^^ b < 4294967296 := Nat.xor_lt_two_pow (n := 32) ha hb
theorem ch_lt {e f g : Nat} (he : e < 4294967296) : ch e f g < 4294967296 := or_lt32 (and_lt32 he) (and_lt32 (xor_lt32 he (by decide)))
theorem maj_lt {a b c : Nat} (ha : a < 4294967296) (hb : b < 4294967296) : maj a b c < 4294967296 := or_lt32 (or_lt32 (and_lt32 ha) (and_lt32 ha)) (and_lt32 hb)
theorem choose_any (W : World) (e f g : Nat) (he : e < 4294967296) (hf : f < 4294967296) (hg : g < 4294967296) : Calls Tryd.prog 59 #[.int .u32 (e : Int), .int .u32 (f : Int), .int .u32 (g : Int)] W fun r W' => r = .returned (.int .u32 ((ch e f g : Nat) : Int)) ∧ W' = W := by
  have b1 : bits .and .u32 (e : Int) (f : Int) = ((e &&& f : Nat) : Int) := u32_and_nat e f he hf
  have b2 : bits .xor .u32 IntKind.u32.max (e : Int) = ((e ^^^ 4294967295 : Nat) : Int) := by rw [show IntKind.u32.max = ((4294967295 : Nat) : Int) from rfl, u32_xor_nat _ _ (by decide) he, Nat.xor_comm]
  have b3 : bits .and .u32 ((e ^^^ 4294967295 : Nat) : Int) (g : Int) = (((e ^^^ 4294967295) &&& g : Nat) : Int) := u32_and_nat _ _ (xor_lt32 he (by decide)) hg
  have b4 : bits .or .u32 ((e &&& f : Nat) : Int) (((e ^^^ 4294967295) &&& g : Nat) : Int) = ((ch e f g : Nat) : Int) := u32_or_nat _ _ (and_lt32 he) (and_lt32 (xor_lt32 he (by decide)))
  generalize ch e f g = r at *
  generalize (e ^^^ 4294967295) &&& g = r1 at *
  generalize e ^^^ 4294967295 = r2 at *
  generalize e &&& f = r3 at *
  clear he hf hg
  go_enter Tryd.func59, Tryd.ntmps59
  go_wp2
  go_ret
  exact ⟨rfl, rfl⟩
theorem most_any (W : World) (a b c : Nat) (ha : a < 4294967296) (hb : b < 4294967296) (hc : c < 4294967296) : Calls Tryd.prog 60 #[.int .u32 (a : Int), .int .u32 (b : Int), .int .u32 (c : Int)] W fun r W' => r = .returned (.int .u32 ((maj a b c : Nat) : Int)) ∧ W' = W := by
  have b1 : bits .and .u32 (a : Int) (b : Int) = ((a &&& b : Nat) : Int) := u32_and_nat a b ha hb
  have b2 : bits .and .u32 (a : Int) (c : Int) = ((a &&& c : Nat) : Int) := u32_and_nat a c ha hc
  have b3 : bits .and .u32 (b : Int) (c : Int) = ((b &&& c : Nat) : Int) := u32_and_nat b c hb hc
  have b4 : bits .or .u32 ((a &&& b : Nat) : Int) ((a &&& c : Nat) : Int) = ((a &&& b ||| a &&& c : Nat) : Int) := u32_or_nat _ _ (and_lt32 ha) (and_lt32 ha)
  have b5 : bits .or .u32 ((a &&& b ||| a &&& c : Nat) : Int) ((b &&& c : Nat) : Int) = ((maj a b c : Nat) : Int) := u32_or_nat _ _ (or_lt32 (and_lt32 ha) (and_lt32 ha)) (and_lt32 hb)
  generalize maj a b c = r at *
  generalize a &&& b ||| a &&& c = r1 at *
  generalize a &&& b = r2 at *
  generalize a &&& c = r3 at *
  generalize b &&& c = r4 at *
  clear ha hb hc
  go_enter Tryd.func60, Tryd.ntmps60
  go_wp2
  go_ret
  exact ⟨rfl, rfl⟩
end Go.Proofs.YtoojchjfmnbdpabDoor
namespace Go.Proofs.YtoojchjfmnbdpabDoor
open Go.RowKit
attribute [local go_sem ↓] Go.wp_at_zero Go.wp_at_succ

/-- Words as cells. -/
def nw (l : List Nat) : List Value := l.map fun (b : Nat) => .int .u32 (b : Int)
theorem nw_at (l : List Nat) (i : Nat) : (nw l)[i]? = l[i]?.map fun (b : Nat) => .int .u32 (b : Int) := by simp [nw]
def W32 (l : List Nat) : Prop := ∀ x ∈ l, x < 4294967296
structure St.Ok (v : St) : Prop where
  a : v.a < 4294967296
  b : v.b < 4294967296
  c : v.c < 4294967296
  d : v.d < 4294967296
  e : v.e < 4294967296
  f : v.f < 4294967296
  g : v.g < 4294967296
  h : v.h < 4294967296
@[simp] theorem nw_len (l : List Nat) : (nw l).length = l.length := by simp [nw]
theorem nw_one (l : List Nat) : (nw l).toArray.all (·.oneCell') = true := all_oneCell_toArray fun v hv => by
  obtain ⟨b, _, rfl⟩ := List.mem_map.1 hv
  rfl
/-- An array of words in a block. -/
structure Arr (W : World) (b : Nat) (l : List Nat) : Prop where
  cells : W.rangeAt b 0 (nw l)
  there : W.there b 0 l.length
  lt : b < W.heap.size
theorem Arr.cell {W : World} {b : Nat} {l : List Nat} (h : Arr W b l) {i x : Nat} (hx : l[i]? = some x) : W.cell? ⟨b, i, none⟩ = some (.int .u32 (x : Int)) := by
  have := h.cells i (.int .u32 (x : Int)) (by rw [nw_at, hx]; rfl)
  rwa [Nat.zero_add] at this
theorem Arr.frozen {W : World} {b : Nat} {l : List Nat} (h : Arr W b l) {i : Nat} (hi : i < l.length) : W.frozen? ⟨b, i, none⟩ = false := by
  have := (h.there i hi).2
  rwa [Nat.zero_add] at this
/-- Nothing but one block has turned. -/
structure Only (W : World) (b : Nat) (W' : World) : Prop where
  os : W'.os = W.os
  tape : W'.tape = W.tape
  output : W'.output = W.output
  size : W.heap.size ≤ W'.heap.size
  far : ∀ k, k < W.heap.size → k ≠ b → W'.heap[k]? = W.heap[k]?
theorem Only.refl (W : World) (b : Nat) : Only W b W := ⟨rfl, rfl, rfl, Nat.le_refl _, fun _ _ _ => rfl⟩
theorem Only.trans {A B C : World} {b : Nat} (h : Only A b B) (k : Only B b C) : Only A b C :=
  ⟨k.os.trans h.os, k.tape.trans h.tape, k.output.trans h.output, Nat.le_trans h.size k.size, fun i hi hn => (k.far i (Nat.lt_of_lt_of_le hi h.size) hn).trans (h.far i hi hn)⟩
theorem Only.drewN {A B : World} {b : Nat} (h : Only A b B) (n : Nat) : Only A b (B.drewN n) := ⟨h.os, h.tape, h.output, h.size, h.far⟩
theorem Only.below {A B : World} {b n : Nat} (h : Only A b B) (hn : n ≤ A.heap.size) (hb : n ≤ b) : Below n A B := ⟨h.os, h.tape, h.output, h.size, fun k hk => h.far k (by omega) (by omega)⟩
theorem cell_heap {A B : World} {p : Addr} (h : B.heap[p.block]? = A.heap[p.block]?) : B.cell? p = A.cell? p := by unfold World.cell?; rw [h]
theorem frozen_heap {A B : World} {p : Addr} (h : B.heap[p.block]? = A.heap[p.block]?) : B.frozen? p = A.frozen? p := by unfold World.frozen?; rw [h]
theorem Arr.same {A B : World} {b : Nat} {l : List Nat} (h : Arr A b l) (hb : B.heap[b]? = A.heap[b]?) : Arr B b l := by
  refine ⟨fun j v hv => (cell_heap (p := ⟨b, 0 + j, none⟩) hb).trans (h.cells j v hv), fun j hj => ?_, ?_⟩
  · have := h.there j hj
    rw [cell_heap (p := ⟨b, 0 + j, none⟩) hb, frozen_heap (p := ⟨b, 0 + j, none⟩) hb]
    exact this
  · have h1 : A.heap[b]? = some (A.heap[b]'h.lt) := Array.getElem?_eq_getElem h.lt
    rw [h1] at hb
    exact (Array.getElem?_eq_some_iff.1 hb).1
theorem Arr.only {A B : World} {b k : Nat} {l : List Nat} (h : Arr A k l) (ho : Only A b B) (hk : k ≠ b) : Arr B k l := h.same (ho.far k h.lt hk)
theorem Arr.up {A B : World} {k : Nat} {l : List Nat} (h : Arr A k l) (hb : Below A.heap.size A B) : Arr B k l := h.same (hb.block k h.lt)
theorem Arr.upN {A B : World} {n k : Nat} {l : List Nat} (h : Arr A k l) (hb : Below n A B) (hk : k < n) : Arr B k l := h.same (hb.block k hk)
theorem only_setCells (b : Nat) : ∀ (vs : List Value) (o : Nat) (A w : World), Only A b w → Only A b (w.setCells b o vs)
  | [], _, _, _, h => h
  | v :: vs, o, A, w, h => only_setCells b vs (o + 1) A _ ⟨h.os, h.tape, h.output, by rw [World.size_setCell]; exact h.size, fun k hk hn => (heap_setCell_other w ⟨b, o, none⟩ k v (fun e => hn e)).trans (h.far k hk hn)⟩
theorem Arr.store {W : World} {b : Nat} {l r : List Nat} (h : Arr W b l) (hl : r.length = l.length) : Arr (W.setCells b 0 (nw r)) b r ∧ Only W b (W.setCells b 0 (nw r)) := by
  have ho := only_setCells b (nw r) 0 W W (Only.refl _ _)
  refine ⟨⟨W.rangeAt_setCells_same b 0 (nw r) (by rw [nw_len, hl]; exact h.there), by rw [hl]; exact World.there_setCells h.there b 0 _, Nat.lt_of_lt_of_le h.lt ho.size⟩, ho⟩
theorem Arr.set {W : World} {b : Nat} {l : List Nat} (h : Arr W b l) (i x : Nat) : Arr (W.setCell ⟨b, i, none⟩ (.int .u32 (x : Int))) b (l.set i x) ∧ Only W b (W.setCell ⟨b, i, none⟩ (.int .u32 (x : Int))) := by
  have ho : Only W b (W.setCell ⟨b, i, none⟩ (.int .u32 (x : Int))) := only_setCells b [.int .u32 (x : Int)] i W W (Only.refl _ _)
  refine ⟨⟨fun j v hv => ?_, by rw [List.length_set]; exact World.there_setCells h.there b i [.int .u32 (x : Int)], Nat.lt_of_lt_of_le h.lt ho.size⟩, ho⟩
  rw [nw_at, List.getElem?_set] at hv
  by_cases e : i = j
  · subst e
    by_cases hi : i < l.length
    · simp [hi] at hv
      subst hv
      rw [Nat.zero_add]
      have := W.rangeAt_setCells_same b i [.int .u32 (x : Int)] (fun k hk => by
        obtain rfl : k = 0 := by simpa using hk
        have := h.there i hi
        simpa using this)
      have h2 := this 0 _ rfl
      rw [Nat.add_zero] at h2
      exact h2
    · simp [hi] at hv
  · rw [if_neg e] at hv
    have h1 := h.cells j v (by rw [nw_at]; exact hv)
    have h2 := World.rangeAt_setCells_apart (w := W) (b' := b) (o' := j) (cs := [v]) (fun k u hu => by
      obtain rfl : k = 0 := by have := (List.getElem?_eq_some_iff.1 hu).1; simpa using this
      simp at hu
      subst hu
      simpa using h1) b i [.int .u32 (x : Int)] (by simp; omega)
    have h3 := h2 0 v rfl
    rw [Nat.add_zero] at h3
    rw [Nat.zero_add]
    exact h3
set_option maxRecDepth 100000 in
set_option maxHeartbeats 1000000 in
theorem round_any {W : World} {bn ba t k w : Nat} {v : St} (hn : Arr W bn v.list) (hv : v.Ok) (ht : t < 64)
    (hk : W.cell? ⟨1, t, none⟩ = some (.int .u32 (k : Int))) (ha : W.cell? ⟨ba, t, none⟩ = some (.int .u32 (w : Int))) :
    Calls Tryd.prog 57 #[.int .i64 (t : Int), .pointer (some ⟨bn, 0, none⟩), .pointer (some ⟨ba, 0, none⟩)] W fun e W' => e = .returned (.tuple #[]) ∧ Arr W' bn (rnd v k w).list ∧ Only W bn W' := by
  obtain ⟨a, b, c, d, e, f, g, h⟩ := v
  have c0 := hn.cell (i := 0) rfl
  have c1 := hn.cell (i := 1) rfl
  have c2 := hn.cell (i := 2) rfl
  have c3 := hn.cell (i := 3) rfl
  have c4 := hn.cell (i := 4) rfl
  have c5 := hn.cell (i := 5) rfl
  have c6 := hn.cell (i := 6) rfl
  have c7 := hn.cell (i := 7) rfl
  have Hn := hide hn
  have ht' : (t : Int) < 64 := by omega
  clear hn
  obtain ⟨la, lb, lc, ld, le, lf, lg, lh⟩ := hv
  simp only at la lb lc ld le lf lg lh c0 c1 c2 c3 c4 c5 c6 c7
  have x1 : bits .xor .u32 ((rotr e 6 : Nat) : Int) ((rotr e 11 : Nat) : Int) = ((rotr e 6 ^^^ rotr e 11 : Nat) : Int) := u32_xor_nat _ _ (rotr_lt _ _) (rotr_lt _ _)
  have x2 : bits .xor .u32 ((rotr e 6 ^^^ rotr e 11 : Nat) : Int) ((rotr e 25 : Nat) : Int) = ((big1 e : Nat) : Int) := u32_xor_nat _ _ (xor_lt32 (rotr_lt _ _) (rotr_lt _ _)) (rotr_lt _ _)
  have x3 : bits .xor .u32 ((rotr a 2 : Nat) : Int) ((rotr a 13 : Nat) : Int) = ((rotr a 2 ^^^ rotr a 13 : Nat) : Int) := u32_xor_nat _ _ (rotr_lt _ _) (rotr_lt _ _)
  have x4 : bits .xor .u32 ((rotr a 2 ^^^ rotr a 13 : Nat) : Int) ((rotr a 22 : Nat) : Int) = ((big0 a : Nat) : Int) := u32_xor_nat _ _ (xor_lt32 (rotr_lt _ _) (rotr_lt _ _)) (rotr_lt _ _)
  generalize rotr e 6 ^^^ rotr e 11 = y1 at *
  generalize rotr a 2 ^^^ rotr a 13 = y2 at *
  have hif : (Tryd.prog.info? 62).map (·.size) = some 8 := by kernel_rfl
  go_enter Tryd.func57, Tryd.ntmps57
  go_wp2_with fail
  go_quiet (fail)
  go_wp2_with fail
  obtain ⟨W1, hW1⟩ : ∃ w1, w1 = W.drewN nq := ⟨_, rfl⟩
  rw [← hW1]
  have hk1 : W1.cell? ⟨1, t, none⟩ = some (.int .u32 (k : Int)) := by rw [hW1]; exact hk
  have ha1 : W1.cell? ⟨ba, t, none⟩ = some (.int .u32 (w : Int)) := by rw [hW1]; exact ha
  have HW1 := hide hW1
  clear hk ha hW1 c0 c1 c2 c3 c4 c5 c6 c7
  go_quiet (first
    | (go_at_call 58; first | with_reducible exact Calls.quiet_of_same (turned_6 _ e le) | with_reducible exact Calls.quiet_of_same (turned_11 _ e le) | with_reducible exact Calls.quiet_of_same (turned_25 _ e le))
    | (go_at_call 59; exact Calls.quiet_of_same (choose_any _ e f g le lf lg)))
  obtain ⟨W2, hW2⟩ : ∃ w2, w2 = W1.drewN nq := ⟨_, rfl⟩
  rw [← hW2]
  have hW2' : Only W bn W2 := by rw [hW2, unhide HW1]; exact ((Only.refl _ _).drewN _).drewN _
  have Hn2 : Hid (Arr W2 bn (St.list ⟨a, b, c, d, e, f, g, h⟩)) := (unhide Hn).same (by rw [hW2, unhide HW1]; rfl)
  have HW2 := hide hW2'
  clear hk1 ha1 hW2 HW1 hW2' Hn
  go_wp2_with fail
  refine (turned_2 _ a la).mono ?_
  rintro o w' ⟨rfl, he⟩
  obtain rfl : _ = w' := he.symm
  go_wp2_with fail
  refine (turned_13 _ a la).mono ?_
  rintro o w' ⟨rfl, he⟩
  obtain rfl : _ = w' := he.symm
  go_wp2_with fail
  refine (turned_22 _ a la).mono ?_
  rintro o w' ⟨rfl, he⟩
  obtain rfl : _ = w' := he.symm
  go_wp2_with fail
  refine (most_any _ a b c la lb lc).mono ?_
  rintro o w' ⟨rfl, he⟩
  obtain rfl : _ = w' := he.symm
  have d0 := (unhide Hn2).cell (i := 0) rfl
  have f0 := (unhide Hn2).frozen (i := 0) (by show _ < 8; decide)
  have d1 := (unhide Hn2).cell (i := 1) rfl
  have f1 := (unhide Hn2).frozen (i := 1) (by show _ < 8; decide)
  have d2 := (unhide Hn2).cell (i := 2) rfl
  have f2 := (unhide Hn2).frozen (i := 2) (by show _ < 8; decide)
  have d3 := (unhide Hn2).cell (i := 3) rfl
  have f3 := (unhide Hn2).frozen (i := 3) (by show _ < 8; decide)
  have d4 := (unhide Hn2).cell (i := 4) rfl
  have f4 := (unhide Hn2).frozen (i := 4) (by show _ < 8; decide)
  have d5 := (unhide Hn2).cell (i := 5) rfl
  have f5 := (unhide Hn2).frozen (i := 5) (by show _ < 8; decide)
  have d6 := (unhide Hn2).cell (i := 6) rfl
  have f6 := (unhide Hn2).frozen (i := 6) (by show _ < 8; decide)
  have d7 := (unhide Hn2).cell (i := 7) rfl
  have f7 := (unhide Hn2).frozen (i := 7) (by show _ < 8; decide)
  simp only at d0 d1 d2 d3 d4 d5 d6 d7
  go_wp2
  go_end0
  have hs := (unhide Hn2).store (r := (rnd ⟨a, b, c, d, e, f, g, h⟩ k w).list) rfl
  refine ⟨rfl, ?_, ?_⟩
  · exact hs.1
  · exact (unhide HW2).trans hs.2
end Go.Proofs.YtoojchjfmnbdpabDoor
namespace Go.Proofs.YtoojchjfmnbdpabDoor
open Go.RowKit
attribute [local go_sem ↓] Go.wp_at_zero Go.wp_at_succ

/-- An array of words that is a block. -/
def ArrT (W : World) (b : Nat) (t : TypeId) (l : List Nat) : Prop := W.heap[b]? = some (.cells (nw l).toArray t (0, 0))
theorem ArrT.arr {W : World} {b : Nat} {t : TypeId} {l : List Nat} (h : ArrT W b t l) : Arr W b l := by
  refine ⟨fun j v hv => ?_, fun j hj => ⟨?_, ?_⟩, (Array.getElem?_eq_some_iff.1 h).1⟩
  · rw [Nat.zero_add, cell_of_row _ _ _ _ _ _ h, List.getElem?_toArray]; exact hv
  · rw [Nat.zero_add, cell_of_row _ _ _ _ _ _ h, List.getElem?_toArray, nw_at, List.getElem?_eq_getElem hj]; rfl
  · unfold World.frozen?
    rw [h]
    simp
theorem ArrT.set {W : World} {b : Nat} {t : TypeId} {l : List Nat} (h : ArrT W b t l) (i x : Nat) : ArrT (W.setCell ⟨b, i, none⟩ (.int .u32 (x : Int))) b t (l.set i x) := by
  unfold ArrT
  rw [heap_setCell_same _ b i _ t _ h]
  congr 2
  simp [nw, List.map_set]
theorem ArrT.same {A B : World} {b : Nat} {t : TypeId} {l : List Nat} (h : ArrT A b t l) (hb : B.heap[b]? = A.heap[b]?) : ArrT B b t l := hb.trans h
theorem ext_len : ∀ (k : Nat) (l : List Nat), (ext k l).length = l.length + k
  | 0, _ => rfl
  | k + 1, l => by simp only [ext]; rw [ext_len k]; simp; omega
theorem ext_more : ∀ (k : Nat) (l : List Nat), ext (k + 1) l = ext k l ++ [nextW (ext k l)]
  | 0, _ => rfl
  | k + 1, l => ext_more k (l ++ [nextW l])
theorem nextW_lt (l : List Nat) : nextW l < 4294967296 := Nat.mod_lt _ (by decide)
theorem ext_w32 : ∀ (k : Nat) (l : List Nat), W32 l → W32 (ext k l)
  | 0, _, h => h
  | k + 1, l, h => ext_w32 k _ (fun x hx => by
      rcases List.mem_append.1 hx with q | q
      · exact h x q
      · simp at q; rw [q]; exact nextW_lt l)

theorem z64_eq : (nw (List.replicate 64 0)).toArray = #[.int .u32 0, .int .u32 0, .int .u32 0, .int .u32 0, .int .u32 0, .int .u32 0, .int .u32 0, .int .u32 0, .int .u32 0, .int .u32 0, .int .u32 0, .int .u32 0, .int .u32 0, .int .u32 0, .int .u32 0, .int .u32 0, .int .u32 0, .int .u32 0, .int .u32 0, .int .u32 0, .int .u32 0, .int .u32 0, .int .u32 0, .int .u32 0, .int .u32 0, .int .u32 0, .int .u32 0, .int .u32 0, .int .u32 0, .int .u32 0, .int .u32 0, .int .u32 0, .int .u32 0, .int .u32 0, .int .u32 0, .int .u32 0, .int .u32 0, .int .u32 0, .int .u32 0, .int .u32 0, .int .u32 0, .int .u32 0, .int .u32 0, .int .u32 0, .int .u32 0, .int .u32 0, .int .u32 0, .int .u32 0, .int .u32 0, .int .u32 0, .int .u32 0, .int .u32 0, .int .u32 0, .int .u32 0, .int .u32 0, .int .u32 0, .int .u32 0, .int .u32 0, .int .u32 0, .int .u32 0, .int .u32 0, .int .u32 0, .int .u32 0, .int .u32 0] := by rfl
theorem splice_16 (w16 : List Nat) (hl : w16.length = 16) : splice (nw (List.replicate 64 0)) 0 (nw w16) = nw (w16 ++ List.replicate 48 0) := by
  unfold splice
  rw [List.take_zero, List.nil_append, nw_len, hl, Nat.zero_add]
  unfold nw
  rw [List.map_append]
  rfl
theorem sig_step {L : List Nat} {i p q r7 r16 : Nat} (hL : L.length = i) (hp : L[i - 2]? = some p) (h7 : L[i - 7]? = some r7) (hq : L[i - 15]? = some q) (h0 : L[i - 16]? = some r16) : nextW L = (sig1 p + r7 + sig0 q + r16) % 4294967296 := by
  unfold nextW
  rw [hL, List.getD_eq_getElem?_getD, List.getD_eq_getElem?_getD, List.getD_eq_getElem?_getD, List.getD_eq_getElem?_getD, hp, h7, hq, h0]
  rfl
theorem set_fill (L : List Nat) (i x : Nat) (hL : L.length = i) (hi : i < 64) : (L ++ List.replicate (64 - i) 0).set i x = (L ++ [x]) ++ List.replicate (64 - (i + 1)) 0 := by
  rw [List.set_append, if_neg (by omega), hL, Nat.sub_self, show 64 - i = (64 - (i + 1)) + 1 by omega, List.replicate_succ, List.set_cons_zero]
  simp

set_option maxRecDepth 100000 in
set_option maxHeartbeats 1000000 in
theorem spread_any (W : World) (w16 : List Nat) (hl : w16.length = 16) (hw : W32 w16) :
    Calls Tryd.prog 56 #[.agg (nw w16).toArray] W fun e W' => e = .returned (.agg (nw (ext 48 w16)).toArray) ∧ Below W.heap.size W W' := by
  obtain ⟨A, hA⟩ : ∃ A, (nw w16).toArray = A := ⟨_, rfl⟩
  have hAs : A.size = 16 := by rw [← hA]; simp [hl]
  have hszu : (Tryd.prog.info? 60).map (·.size) = some 1 := by kernel_rfl
  have hif : (Tryd.prog.info? 81).map (·.size) = some 64 := by kernel_rfl
  rw [hA]
  go_enter Tryd.func56, Tryd.ntmps56
  go_wp2
  obtain ⟨W3, hW3⟩ : ∃ w, w = ((W.alloc (.cells A 67)).alloc (.cells #[.int .u32 0, .int .u32 0, .int .u32 0, .int .u32 0, .int .u32 0, .int .u32 0, .int .u32 0, .int .u32 0, .int .u32 0, .int .u32 0, .int .u32 0, .int .u32 0, .int .u32 0, .int .u32 0, .int .u32 0, .int .u32 0, .int .u32 0, .int .u32 0, .int .u32 0, .int .u32 0, .int .u32 0, .int .u32 0, .int .u32 0, .int .u32 0, .int .u32 0, .int .u32 0, .int .u32 0, .int .u32 0, .int .u32 0, .int .u32 0, .int .u32 0, .int .u32 0, .int .u32 0, .int .u32 0, .int .u32 0, .int .u32 0, .int .u32 0, .int .u32 0, .int .u32 0, .int .u32 0, .int .u32 0, .int .u32 0, .int .u32 0, .int .u32 0, .int .u32 0, .int .u32 0, .int .u32 0, .int .u32 0, .int .u32 0, .int .u32 0, .int .u32 0, .int .u32 0, .int .u32 0, .int .u32 0, .int .u32 0, .int .u32 0, .int .u32 0, .int .u32 0, .int .u32 0, .int .u32 0, .int .u32 0, .int .u32 0, .int .u32 0, .int .u32 0] 81)).alloc (.cells #[.int .u32 0, .int .u32 0, .int .u32 0, .int .u32 0, .int .u32 0, .int .u32 0, .int .u32 0, .int .u32 0, .int .u32 0, .int .u32 0, .int .u32 0, .int .u32 0, .int .u32 0, .int .u32 0, .int .u32 0, .int .u32 0, .int .u32 0, .int .u32 0, .int .u32 0, .int .u32 0, .int .u32 0, .int .u32 0, .int .u32 0, .int .u32 0, .int .u32 0, .int .u32 0, .int .u32 0, .int .u32 0, .int .u32 0, .int .u32 0, .int .u32 0, .int .u32 0, .int .u32 0, .int .u32 0, .int .u32 0, .int .u32 0, .int .u32 0, .int .u32 0, .int .u32 0, .int .u32 0, .int .u32 0, .int .u32 0, .int .u32 0, .int .u32 0, .int .u32 0, .int .u32 0, .int .u32 0, .int .u32 0, .int .u32 0, .int .u32 0, .int .u32 0, .int .u32 0, .int .u32 0, .int .u32 0, .int .u32 0, .int .u32 0, .int .u32 0, .int .u32 0, .int .u32 0, .int .u32 0, .int .u32 0, .int .u32 0, .int .u32 0, .int .u32 0] 81) := ⟨_, rfl⟩
  rw [← hW3]
  have hsz3 : W3.heap.size = W.heap.size + 3 := by rw [hW3]; simp
  have hb3 : Below W.heap.size W W3 := by rw [hW3]; exact (((Below.refl _ _).alloc (Nat.le_refl _) _).alloc (by simp) _).alloc (by simp; omega) _
  have t0 : ArrT W3 W.heap.size 67 w16 := by
    unfold ArrT
    rw [hW3, hA, Below.heap_alloc _ _ _ (by simp; omega), Below.heap_alloc _ _ _ (by simp)]
    exact heap_new _ _
  have t1 : ArrT W3 (W.heap.size + 1) 81 (List.replicate 64 0) := by
    unfold ArrT
    rw [hW3, z64_eq, Below.heap_alloc _ _ _ (by simp)]
    exact heap_alloc2_new _ _ _
  have t2 : ArrT W3 (W.heap.size + 1 + 1) 81 (List.replicate 64 0) := by
    unfold ArrT
    rw [hW3, z64_eq]
    have := heap_alloc2_new (W.alloc (.cells A 67)) (.cells #[.int .u32 0, .int .u32 0, .int .u32 0, .int .u32 0, .int .u32 0, .int .u32 0, .int .u32 0, .int .u32 0, .int .u32 0, .int .u32 0, .int .u32 0, .int .u32 0, .int .u32 0, .int .u32 0, .int .u32 0, .int .u32 0, .int .u32 0, .int .u32 0, .int .u32 0, .int .u32 0, .int .u32 0, .int .u32 0, .int .u32 0, .int .u32 0, .int .u32 0, .int .u32 0, .int .u32 0, .int .u32 0, .int .u32 0, .int .u32 0, .int .u32 0, .int .u32 0, .int .u32 0, .int .u32 0, .int .u32 0, .int .u32 0, .int .u32 0, .int .u32 0, .int .u32 0, .int .u32 0, .int .u32 0, .int .u32 0, .int .u32 0, .int .u32 0, .int .u32 0, .int .u32 0, .int .u32 0, .int .u32 0, .int .u32 0, .int .u32 0, .int .u32 0, .int .u32 0, .int .u32 0, .int .u32 0, .int .u32 0, .int .u32 0, .int .u32 0, .int .u32 0, .int .u32 0, .int .u32 0, .int .u32 0, .int .u32 0, .int .u32 0, .int .u32 0] 81) (.cells #[.int .u32 0, .int .u32 0, .int .u32 0, .int .u32 0, .int .u32 0, .int .u32 0, .int .u32 0, .int .u32 0, .int .u32 0, .int .u32 0, .int .u32 0, .int .u32 0, .int .u32 0, .int .u32 0, .int .u32 0, .int .u32 0, .int .u32 0, .int .u32 0, .int .u32 0, .int .u32 0, .int .u32 0, .int .u32 0, .int .u32 0, .int .u32 0, .int .u32 0, .int .u32 0, .int .u32 0, .int .u32 0, .int .u32 0, .int .u32 0, .int .u32 0, .int .u32 0, .int .u32 0, .int .u32 0, .int .u32 0, .int .u32 0, .int .u32 0, .int .u32 0, .int .u32 0, .int .u32 0, .int .u32 0, .int .u32 0, .int .u32 0, .int .u32 0, .int .u32 0, .int .u32 0, .int .u32 0, .int .u32 0, .int .u32 0, .int .u32 0, .int .u32 0, .int .u32 0, .int .u32 0, .int .u32 0, .int .u32 0, .int .u32 0, .int .u32 0, .int .u32 0, .int .u32 0, .int .u32 0, .int .u32 0, .int .u32 0, .int .u32 0, .int .u32 0] 81)
    simpa using this
  clear hW3
  have hsrc : ∀ n j v, (nw w16)[j]? = some v → (W3.drewN n).cell? ((⟨W.heap.size, 0, none⟩ : Addr).add j) = some v := fun n j v hv => by
    rw [Go.WideShapes.add_plain]
    exact t0.arr.cells j v hv
  go_region_law (refine step_copy_splice rfl (.tmp 9) (.tmp 10) 93 93 rfl 60 Tryd.underlying93 hszu (some ⟨W.heap.size + 1 + 1, 0, none⟩) (some ⟨W.heap.size, 0, none⟩) 64 64 16 16 (by first | rfl | simp [Act.eval, Act.put]) (by first | rfl | simp [Act.eval, Act.put]) (W.heap.size + 1 + 1) 0 (nw (List.replicate 64 0)) 81 t2 (nw w16) (by rw [nw_len, hl]; rfl) (fun _ => ⟨rfl, _, rfl, hsrc _⟩) (by rw [nw_len, nw_len, hl]; decide) (fun v hv => by obtain ⟨b, _, rfl⟩ := List.mem_map.1 hv; rfl) (W.heap.size + 1 + 1) W3 (below_drewN (Below.refl _ _) _) (Nat.le_refl _) ?_; intro w4 hg4 hb4)
  have g2 : ArrT w4 (W.heap.size + 1 + 1) 81 (w16 ++ List.replicate 48 0) := by
    have : w4.heap[W.heap.size + 1 + 1]? = _ := hg4
    rw [splice_16 w16 hl] at this
    exact this
  have g1 : ArrT w4 (W.heap.size + 1) 81 (List.replicate 64 0) := t1.same (hb4.block _ (by omega))
  have hbw : Below W.heap.size W w4 := hb3.trans (hb4.mono (by omega))
  have hs4 : W.heap.size + 3 ≤ w4.heap.size := by have := hb4.size; omega
  clear hg4 hb4 t0 t1 t2 hsrc hsz3 hb3
  go_wp2
  go_loopg [4] 48 (fun gk v4 wr => ∃ (i : Nat), v4 = .int .i64 (i : Int) ∧ gk = 64 - i ∧ 16 ≤ i ∧ i ≤ 64 ∧ ArrT wr (W.heap.size + 1 + 1) 81 (ext (i - 16) w16 ++ List.replicate (64 - i) 0) ∧ ArrT wr (W.heap.size + 1) 81 (List.replicate 64 0) ∧ Below W.heap.size W wr)
  case atStart => exact ⟨16, rfl, rfl, by omega, by omega, g2, g1, hbw⟩
  case round =>
    clear g1 g2 hbw hs4
    obtain ⟨i, rfl, hgk, h16, h64, hR, hR1, hB⟩ := hrel
    have Hgk := hide hgk
    clear hgk
    have hL : (ext (i - 16) w16).length = i := by rw [ext_len]; omega
    have hLw : W32 (ext (i - 16) w16) := ext_w32 _ _ hw
    have hnext : ext (i + 1 - 16) w16 = ext (i - 16) w16 ++ [nextW (ext (i - 16) w16)] := by rw [show i + 1 - 16 = (i - 16) + 1 by omega, ext_more]
    have Hnext := hide hnext
    have Hlast : Hid (i = 64 → ext (i - 16) w16 = ext 48 w16) := fun e => by rw [e]
    clear hnext
    generalize ext (i - 16) w16 = L at *
    by_cases hlt : i < 64
    · obtain ⟨p, hp⟩ : ∃ p, L[i - 2]? = some p := ⟨_, List.getElem?_eq_getElem (by omega)⟩
      obtain ⟨q, hq⟩ : ∃ p, L[i - 15]? = some p := ⟨_, List.getElem?_eq_getElem (by omega)⟩
      obtain ⟨r7, hr7⟩ : ∃ p, L[i - 7]? = some p := ⟨_, List.getElem?_eq_getElem (by omega)⟩
      obtain ⟨r0, hr0⟩ : ∃ p, L[i - 16]? = some p := ⟨_, List.getElem?_eq_getElem (by omega)⟩
      have hnw := sig_step hL hp hr7 hq hr0
      have lp := hLw p (List.mem_of_getElem? hp)
      have lq := hLw q (List.mem_of_getElem? hq)
      have cc : ∀ (k x : Nat), L[k]? = some x → wr.cell? ⟨W.heap.size + 1 + 1, k, none⟩ = some (.int .u32 (x : Int)) := fun k x hk => hR.arr.cell (by rw [List.getElem?_append_left (List.getElem?_eq_some_iff.1 hk).1]; exact hk)
      have cp := cc _ _ hp
      have cq := cc _ _ hq
      have c7 := cc _ _ hr7
      have c0 := cc _ _ hr0
      have ci : wr.cell? ⟨W.heap.size + 1 + 1, i, none⟩ = some (.int .u32 ((0 : Nat) : Int)) := hR.arr.cell (by
        rw [List.getElem?_append_right (by omega), hL, Nat.sub_self, show 64 - i = (64 - (i + 1)) + 1 by omega, List.replicate_succ]
        rfl)
      have fi : wr.frozen? ⟨W.heap.size + 1 + 1, i, none⟩ = false := hR.arr.frozen (by simp; omega)
      obtain ⟨j2, e2⟩ : ∃ j, j = i - 2 := ⟨_, rfl⟩
      obtain ⟨j15, e15⟩ : ∃ j, j = i - 15 := ⟨_, rfl⟩
      obtain ⟨j7, e7⟩ : ∃ j, j = i - 7 := ⟨_, rfl⟩
      obtain ⟨j16, e16⟩ : ∃ j, j = i - 16 := ⟨_, rfl⟩
      rw [← e2] at cp
      rw [← e15] at cq
      rw [← e7] at c7
      rw [← e16] at c0
      have k2 : (i : Int) - 2 = (j2 : Int) := by omega
      have k15 : (i : Int) - 15 = (j15 : Int) := by omega
      have k7 : (i : Int) - 7 = (j7 : Int) := by omega
      have k16 : (i : Int) - 16 = (j16 : Int) := by omega
      have m2 : j2 < 64 := by omega
      have m15 : j15 < 64 := by omega
      have m7 : j7 < 64 := by omega
      have m16 : j16 < 64 := by omega
      have x1 : bits .xor .u32 ((rotr p 17 : Nat) : Int) ((rotr p 19 : Nat) : Int) = ((rotr p 17 ^^^ rotr p 19 : Nat) : Int) := u32_xor_nat _ _ (rotr_lt _ _) (rotr_lt _ _)
      have x2 : bits .xor .u32 ((rotr p 17 ^^^ rotr p 19 : Nat) : Int) ((p : Int) / 1024) = ((sig1 p : Nat) : Int) := by
        rw [show (p : Int) / 1024 = ((p / 1024 : Nat) : Int) by omega]
        exact u32_xor_nat _ _ (xor_lt32 (rotr_lt _ _) (rotr_lt _ _)) (by omega)
      have x3 : bits .xor .u32 ((rotr q 7 : Nat) : Int) ((rotr q 18 : Nat) : Int) = ((rotr q 7 ^^^ rotr q 18 : Nat) : Int) := u32_xor_nat _ _ (rotr_lt _ _) (rotr_lt _ _)
      have x4 : bits .xor .u32 ((rotr q 7 ^^^ rotr q 18 : Nat) : Int) ((q : Int) / 8) = ((sig0 q : Nat) : Int) := by
        rw [show (q : Int) / 8 = ((q / 8 : Nat) : Int) by omega]
        exact u32_xor_nat _ _ (xor_lt32 (rotr_lt _ _) (rotr_lt _ _)) (by omega)
      generalize rotr p 17 ^^^ rotr p 19 = y1 at *
      generalize rotr q 7 ^^^ rotr q 18 = y2 at *
      have hi' : (i : Int) < 64 := by omega
      have Hnw := hide hnw
      have HR := hide hR
      have HL := hide hL
      clear hp hq hr7 hr0 hnw cc e2 e15 e7 e16 hR hL
      go_wp2_with fail
      go_quiet (fail)
      obtain ⟨W1, hW1⟩ : ∃ w1, w1 = wr.drewN nq := ⟨_, rfl⟩
      rw [← hW1]
      have c7' : W1.cell? ⟨W.heap.size + 1 + 1, j7, none⟩ = some (.int .u32 (r7 : Int)) := by rw [hW1]; exact c7
      have c0' : W1.cell? ⟨W.heap.size + 1 + 1, j16, none⟩ = some (.int .u32 (r0 : Int)) := by rw [hW1]; exact c0
      have ci' : W1.cell? ⟨W.heap.size + 1 + 1, i, none⟩ = some (.int .u32 ((0 : Nat) : Int)) := by rw [hW1]; exact ci
      have fi' : W1.frozen? ⟨W.heap.size + 1 + 1, i, none⟩ = false := by rw [hW1]; exact fi
      have HR' : Hid (ArrT W1 (W.heap.size + 1 + 1) 81 (L ++ List.replicate (64 - i) 0)) := by rw [hW1]; exact unhide HR
      have hR1' : ArrT W1 (W.heap.size + 1) 81 (List.replicate 64 0) := by rw [hW1]; exact hR1
      have HR1 := hide hR1'
      have hB1 : Below W.heap.size W W1 := by rw [hW1]; exact below_drewN hB _
      clear c7 c0 ci fi cp cq HR hR1 hR1' hB hW1
      go_wp2_with fail
      refine (turned_17 _ p lp).mono ?_
      rintro o w' ⟨rfl, he⟩
      obtain rfl : _ = w' := he.symm
      go_wp2_with fail
      refine (turned_19 _ p lp).mono ?_
      rintro o w' ⟨rfl, he⟩
      obtain rfl : _ = w' := he.symm
      go_wp2_with fail
      refine (turned_7 _ q lq).mono ?_
      rintro o w' ⟨rfl, he⟩
      obtain rfl : _ = w' := he.symm
      go_wp2_with fail
      refine (turned_18 _ q lq).mono ?_
      rintro o w' ⟨rfl, he⟩
      obtain rfl : _ = w' := he.symm
      go_wp2_with fail
      go_region
      all_goals go_wp2
      all_goals go_roundg (64 - (i + 1))
      all_goals first
        | (have := unhide Hgk; omega)
        | (refine ⟨i + 1, by go_num, rfl, by omega, by omega, ?_, ?_, below_drewN (below_set hB1 (by omega) _ _) _⟩
           · have e := (unhide HR').set i (nextW L)
             rw [set_fill L i _ (unhide HL) hlt, ← unhide Hnext] at e
             rw [unhide Hnw] at e
             exact e
           · exact (unhide HR1).same (heap_setCell_other W1 ⟨W.heap.size + 1 + 1, i, none⟩ (W.heap.size + 1) _ (by simp)))
    · obtain rfl : i = 64 := by omega
      have hR' : ArrT wr (W.heap.size + 1 + 1) 81 (ext 48 w16) := by rw [unhide Hlast rfl] at hR; simpa using hR
      have hCl : (ext 48 w16).length = 64 := by rw [ext_len, hl]
      obtain ⟨C, hC⟩ : ∃ C, (nw (ext 48 w16)).toArray = C := ⟨_, rfl⟩
      have hCs : C.size = 64 := by rw [← hC]; simp [hCl]
      have hC1 : C.all (·.oneCell') = true := by rw [← hC]; exact nw_one _
      unfold ArrT at hR' hR1
      rw [hC] at hR'
      have HC := hide hC
      have hifC : (Tryd.prog.info? 81).map (·.size) = some C.size := by rw [hCs]; exact hif
      have hold : (nw (List.replicate 64 0)).toArray.size = C.size := by rw [hCs]; simp
      clear hR hCl hC Hnext Hlast hLw hL
      go_wp2_with (first
        | (refine wpList_load_row rfl 81 (.tmp 3) rfl (W.heap.size + 1 + 1) rfl 81 C (0, 0) _ hR' Tryd.underlying81 rfl hifC ?_)
        | (refine wpList_store_row rfl 81 (.tmp 2) (.tmp 55) rfl (W.heap.size + 1) C rfl rfl 81 _ hR1 hifC hold hC1 ?_))
      refine bodyPost_ret (results_cell_row rfl _ _ (W.heap.size + 1) 81 C (0, 0) _ rfl (setRow_heap wr _ _ _ _ _ hR1) Tryd.underlying81 rfl hifC) rfl ?_
      rw [unhide HC]
      exact ⟨rfl, below_setRow hB (by omega) _⟩
end Go.Proofs.YtoojchjfmnbdpabDoor
namespace Go.Proofs.YtoojchjfmnbdpabDoor
open Go.RowKit
attribute [local go_sem ↓] Go.wp_at_zero Go.wp_at_succ

/-- The round words, as they are laid. -/
def HasK (W : World) : Prop := 1 < W.heap.size ∧ ∀ (i k : Nat), kw[i]? = some k → W.cell? ⟨1, i, none⟩ = some (.int .u32 (k : Int))
theorem HasK.up {W w : World} (h : HasK W) (hb : Below W.heap.size W w) : HasK w := ⟨Nat.lt_of_lt_of_le h.1 hb.size, fun i t hi => (hb.cell (p := ⟨1, i, none⟩) h.1).trans (h.2 i t hi)⟩
theorem rnds_snoc : ∀ (ks ws : List Nat) (k w : Nat) (v : St), ks.length = ws.length → rnds (ks ++ [k]) (ws ++ [w]) v = rnd (rnds ks ws v) k w
  | [], [], _, _, _, _ => rfl
  | a :: ks, b :: ws, k, w, v, h => by
    simp only [List.cons_append, rnds]
    exact rnds_snoc ks ws k w _ (by simpa using h)
  | [], _ :: _, _, _, _, h => by simp at h
  | _ :: _, [], _, _, _, h => by simp at h
theorem rnd_ok {v : St} (h : v.Ok) (k w : Nat) : (rnd v k w).Ok := ⟨Nat.mod_lt _ (by decide), h.a, h.b, h.c, Nat.mod_lt _ (by decide), h.e, h.f, h.g⟩
theorem rnds_ok : ∀ (ks ws : List Nat) (v : St), v.Ok → (rnds ks ws v).Ok
  | [], _, _, h => h
  | _ :: _, [], _, h => h
  | k :: ks, w :: ws, _, h => rnds_ok ks ws _ (rnd_ok h k w)
def addL (a b : List Nat) : List Nat := List.zipWith (fun x y => (x + y) % 4294967296) a b
theorem add_list (s v : St) : (s.add v).list = addL s.list v.list := rfl
theorem z8_eq : (nw (List.replicate 8 0)).toArray = #[.int .u32 0, .int .u32 0, .int .u32 0, .int .u32 0, .int .u32 0, .int .u32 0, .int .u32 0, .int .u32 0] := by rfl
theorem kw_len : kw.length = 64 := rfl
theorem addL_step (a b : List Nat) (i x y : Nat) (ha : a[i]? = some x) (hb : b[i]? = some y) (hl : a.length = b.length) : (addL (a.take i) (b.take i) ++ a.drop i).set i ((x + y) % 4294967296) = addL (a.take (i + 1)) (b.take (i + 1)) ++ a.drop (i + 1) := by
  have hi : i < a.length := (List.getElem?_eq_some_iff.1 ha).1
  have h1 : (addL (a.take i) (b.take i)).length = i := by unfold addL; rw [List.length_zipWith, List.length_take, List.length_take]; omega
  have hd : a.drop i = x :: a.drop (i + 1) := by
    rw [List.drop_eq_getElem_cons hi]
    rw [List.getElem?_eq_getElem hi] at ha
    rw [Option.some.inj ha]
  rw [List.set_append, if_neg (by omega), h1, Nat.sub_self, hd, List.set_cons_zero, List.take_add_one, List.take_add_one, ha, hb]
  unfold addL
  rw [List.zipWith_append (by simp; omega)]
  simp

set_option maxRecDepth 100000 in
set_option maxHeartbeats 1000000 in
theorem after_any {W : World} (hK : HasK W) (v : St) (hv : v.Ok) (w16 : List Nat) (hl : w16.length = 16) (hw : W32 w16) :
    Calls Tryd.prog 36 #[.agg (nw v.list).toArray, .agg (nw w16).toArray] W fun e W' => e = .returned (.agg (nw (block v w16).list).toArray) ∧ Below W.heap.size W W' := by
  have hif8 : (Tryd.prog.info? 62).map (·.size) = some 8 := by kernel_rfl
  have hif16 : (Tryd.prog.info? 67).map (·.size) = some 16 := by kernel_rfl
  have hif64 : (Tryd.prog.info? 81).map (·.size) = some 64 := by kernel_rfl
  obtain ⟨S, hS⟩ : ∃ A, (nw v.list).toArray = A := ⟨_, rfl⟩
  obtain ⟨A, hA⟩ : ∃ A, (nw w16).toArray = A := ⟨_, rfl⟩
  have hAs : A.size = 16 := by rw [← hA]; simp [hl]
  have hSs : S.size = 8 := by rw [← hS]; rfl
  have hS1 : S.all (·.oneCell') = true := by rw [← hS]; exact nw_one _
  have hifA : (Tryd.prog.info? 67).map (·.size) = some A.size := by rw [hAs]; exact hif16
  have hifS : (Tryd.prog.info? 62).map (·.size) = some S.size := by rw [hSs]; exact hif8
  rw [hS, hA]
  have hz0 : ((W.alloc (.cells S 62)).alloc (.cells A 67)).heap[W.heap.size + 1]? = some (.cells A 67) := heap_alloc2_new _ _ _
  go_enter Tryd.func36, Tryd.ntmps36
  go_wp2_with (refine wpList_load_row rfl 67 (.tmp 3) rfl (W.heap.size + 1) rfl 67 A (0, 0) _ ?_ Tryd.underlying67 rfl hifA ?_; exact ((Below.heap_alloc _ _ _ (by simp)).trans hz0))
  obtain ⟨W3, hW3⟩ : ∃ w, w = ((W.alloc (.cells S 62)).alloc (.cells A 67)).alloc (.cells #[.int .u32 0, .int .u32 0, .int .u32 0, .int .u32 0, .int .u32 0, .int .u32 0, .int .u32 0, .int .u32 0] 62) := ⟨_, rfl⟩
  rw [← hW3]
  have hsz3 : W3.heap.size = W.heap.size + 3 := by rw [hW3]; simp
  have hb3 : Below W.heap.size W W3 := by rw [hW3]; exact (((Below.refl _ _).alloc (Nat.le_refl _) _).alloc (by simp) _).alloc (by simp; omega) _
  have t0 : ArrT W3 W.heap.size 62 v.list := by
    unfold ArrT
    rw [hW3, hS, Below.heap_alloc _ _ _ (by simp; omega), Below.heap_alloc _ _ _ (by simp)]
    exact heap_new _ _
  have t2 : ArrT W3 (W.heap.size + 1 + 1) 62 (List.replicate 8 0) := by
    unfold ArrT
    rw [hW3, z8_eq]
    have := heap_alloc2_new (W.alloc (.cells S 62)) (.cells A 67) (.cells #[.int .u32 0, .int .u32 0, .int .u32 0, .int .u32 0, .int .u32 0, .int .u32 0, .int .u32 0, .int .u32 0] 62)
    simpa using this
  have HS := hide hS
  clear hW3 hz0
  rw [← hA]
  refine (spread_any W3 w16 hl hw).mono ?_
  rintro o w1 ⟨rfl, hb1⟩
  obtain ⟨ws, hws⟩ : ∃ ws, ext 48 w16 = ws := ⟨_, rfl⟩
  have hwl : ws.length = 64 := by rw [← hws, ext_len, hl]
  have hww : W32 ws := by rw [← hws]; exact ext_w32 _ _ hw
  have hblk : block v w16 = v.add (rnds kw ws v) := by unfold block; rw [hws]
  have Hblk := hide hblk
  rw [hws]
  clear hws hblk
  obtain ⟨C, hC⟩ : ∃ C, (nw ws).toArray = C := ⟨_, rfl⟩
  rw [hC]
  have hCs : C.size = 64 := by rw [← hC]; simp [hwl]
  have hC1 : C.all (·.oneCell') = true := by rw [← hC]; exact nw_one _
  have hifC : (Tryd.prog.info? 81).map (·.size) = some C.size := by rw [hCs]; exact hif64
  have hsz1 := hb1.size
  obtain ⟨X, hX⟩ : ∃ X : World, X = w1.alloc (.cells #[.int .u32 0, .int .u32 0, .int .u32 0, .int .u32 0, .int .u32 0, .int .u32 0, .int .u32 0, .int .u32 0, .int .u32 0, .int .u32 0, .int .u32 0, .int .u32 0, .int .u32 0, .int .u32 0, .int .u32 0, .int .u32 0, .int .u32 0, .int .u32 0, .int .u32 0, .int .u32 0, .int .u32 0, .int .u32 0, .int .u32 0, .int .u32 0, .int .u32 0, .int .u32 0, .int .u32 0, .int .u32 0, .int .u32 0, .int .u32 0, .int .u32 0, .int .u32 0, .int .u32 0, .int .u32 0, .int .u32 0, .int .u32 0, .int .u32 0, .int .u32 0, .int .u32 0, .int .u32 0, .int .u32 0, .int .u32 0, .int .u32 0, .int .u32 0, .int .u32 0, .int .u32 0, .int .u32 0, .int .u32 0, .int .u32 0, .int .u32 0, .int .u32 0, .int .u32 0, .int .u32 0, .int .u32 0, .int .u32 0, .int .u32 0, .int .u32 0, .int .u32 0, .int .u32 0, .int .u32 0, .int .u32 0, .int .u32 0, .int .u32 0, .int .u32 0] 81) := ⟨_, rfl⟩
  have hXn : X.heap[w1.heap.size]? = some (.cells (nw (List.replicate 64 0)).toArray 81 (0, 0)) := by rw [hX, z64_eq]; exact heap_new _ _
  have hold : (nw (List.replicate 64 0)).toArray.size = C.size := by rw [hCs]; simp
  have hXb : Below w1.heap.size w1 X := by rw [hX]; exact (Below.refl _ _).alloc (Nat.le_refl _) _
  have hXs : X.heap.size = w1.heap.size + 1 := by rw [hX]; simp
  obtain ⟨Y, hY⟩ : ∃ Y : World, Y = X.setRow w1.heap.size C := ⟨_, rfl⟩
  have hYs : Y.heap.size = w1.heap.size + 1 := by rw [hY]; simp [World.setRow, hXs]
  have hYb : Below w1.heap.size w1 Y := by rw [hY]; exact below_setRow hXb (Nat.le_refl _) _
  have hbY : Below W3.heap.size W3 Y := hb1.trans (hYb.mono hsz1)
  have hYS : Y.heap[W.heap.size]? = some (.cells S 62 (0, 0)) := by
    have := t0.same (hbY.block _ (by omega))
    unfold ArrT at this
    rw [unhide HS] at this
    exact this
  obtain ⟨Y2, hY2⟩ : ∃ Y2 : World, Y2 = Y.alloc (.cells #[.int .u32 0, .int .u32 0, .int .u32 0, .int .u32 0, .int .u32 0, .int .u32 0, .int .u32 0, .int .u32 0] 62) := ⟨_, rfl⟩
  have hY2n : Y2.heap[w1.heap.size + 1]? = some (.cells (nw (List.replicate 8 0)).toArray 62 (0, 0)) := by rw [hY2, z8_eq, ← hYs]; exact heap_new _ _
  have hold2 : (nw (List.replicate 8 0)).toArray.size = S.size := by rw [hSs]; rfl
  have HX := hide hX
  have HY := hide hY
  have HY2 := hide hY2
  have hY2s : Y2.heap.size = w1.heap.size + 2 := by rw [hY2]; simp [hYs]
  have hbY2 : Below W.heap.size W (Y2.setRow (w1.heap.size + 1) S) := by
    have : Below Y.heap.size Y Y2 := by rw [hY2]; exact (Below.refl _ _).alloc (Nat.le_refl _) _
    exact below_setRow (hb3.trans ((hbY.mono (by omega)).trans (this.mono (by omega)))) (by omega) _
  have hnow : Arr (Y2.setRow (w1.heap.size + 1) S) (w1.heap.size + 1) v.list := by
    refine ArrT.arr (t := 62) ?_
    unfold ArrT
    rw [unhide HS]
    exact setRow_heap Y2 _ _ _ _ _ hY2n
  have hall : Arr (Y2.setRow (w1.heap.size + 1) S) w1.heap.size ws := by
    refine ArrT.arr (t := 81) ?_
    unfold ArrT
    rw [setRow_other _ _ _ _ (by omega), hY2, Below.heap_alloc _ _ _ (by omega), hY, hC]
    exact setRow_heap X _ _ _ _ _ hXn
  have hst : ArrT (Y2.setRow (w1.heap.size + 1) S) W.heap.size 62 v.list := by
    refine t0.same ?_
    rw [setRow_other _ _ _ _ (by omega), hY2, Below.heap_alloc _ _ _ (by omega)]
    exact hbY.block _ (by omega)
  have hres : ArrT (Y2.setRow (w1.heap.size + 1) S) (W.heap.size + 1 + 1) 62 (List.replicate 8 0) := by
    refine t2.same ?_
    rw [setRow_other _ _ _ _ (by omega), hY2, Below.heap_alloc _ _ _ (by omega)]
    exact hbY.block _ (by omega)
  have hs1 : W.heap.size + 3 ≤ w1.heap.size := by omega
  clear hX hY hY2 t0 t2 hb3 hb1 hbY hXb hYb hsz3 hsz1 hC hY2s
  go_wp2_with (first
    | (rw [← unhide HX]; refine wpList_store_row rfl 81 (.tmp 5) (.tmp 11) rfl w1.heap.size C rfl rfl 81 _ hXn hifC hold hC1 ?_; rw [← unhide HY])
    | (refine wpList_load_row rfl 62 (.tmp 2) rfl W.heap.size rfl 62 S (0, 0) _ hYS Tryd.underlying62 rfl hifS ?_)
    | (rw [← unhide HY2]; refine wpList_store_row rfl 62 (.tmp 6) (.tmp 12) rfl (w1.heap.size + 1) S rfl rfl 62 _ hY2n hifS hold2 hS1 ?_))
  clear HX HY HY2 hXn hXs hYs hYS hY2n hold hold2 hC1 hifC hCs
  generalize Y2.setRow (w1.heap.size + 1) S = V at *
  have Hnow := hide hnow
  have Hall := hide hall
  have Hst := hide hst
  have Hres := hide hres
  have HbV := hide hbY2
  have hg1 := hnow.lt
  clear hnow hall hst hres hbY2
  go_loopg [14] 64 (fun gk v14 wr => ∃ (t : Nat), v14 = .int .i64 (t : Int) ∧ gk = 64 - t ∧ t ≤ 64 ∧ Arr wr (w1.heap.size + 1) (rnds (kw.take t) (ws.take t) v).list ∧ Only V (w1.heap.size + 1) wr)
  case atStart => exact ⟨0, rfl, rfl, by omega, unhide Hnow, Only.refl _ _⟩
  case round =>
    obtain ⟨t, rfl, hgk, ht, hnow, hO⟩ := hrel
    have Hgk := hide hgk
    clear hgk Hnow
    by_cases hlt : t < 64
    · obtain ⟨k, hk⟩ : ∃ k, kw[t]? = some k := ⟨_, List.getElem?_eq_getElem (by rw [kw_len]; exact hlt)⟩
      obtain ⟨x, hx⟩ : ∃ x, ws[t]? = some x := ⟨_, List.getElem?_eq_getElem (by omega)⟩
      have hnx : rnds (kw.take (t + 1)) (ws.take (t + 1)) v = rnd (rnds (kw.take t) (ws.take t) v) k x := by
        rw [List.take_add_one, List.take_add_one, hk, hx]
        exact rnds_snoc _ _ _ _ _ (by rw [List.length_take, List.length_take, kw_len]; omega)
      have hbw : Below W.heap.size W wr := (unhide HbV).trans (hO.below (by have := (unhide HbV).size; omega) (by omega))
      have ck := (hK.up hbw).2 t k hk
      have ca := ((unhide Hall).only hO (by omega)).cell hx
      have hok := rnds_ok (kw.take t) (ws.take t) v hv
      have Hnx := hide hnx
      have Hn := hide hnow
      clear hnx hnow hbw hk hx
      go_wp2_with fail
      refine (round_any (unhide Hn) hok hlt ck ca).mono ?_
      rintro o w2 ⟨rfl, hA2, hO2⟩
      rw [← unhide Hnx] at hA2
      have HA2 := hide hA2
      have HO2 := hide (hO.trans hO2)
      clear hA2 hO2 ck ca hok Hn Hnx hO
      go_wp2
      go_roundg (64 - (t + 1))
      case measure => have := unhide Hgk; omega
      case rel => exact ⟨t + 1, by go_num, rfl, by omega, unhide HA2, unhide HO2⟩
    · obtain rfl : t = 64 := by omega
      rw [List.take_of_length_le (by rw [kw_len]; omega), List.take_of_length_le (by omega)] at hnow
      obtain ⟨n, hn⟩ : ∃ n, rnds kw ws v = n := ⟨_, rfl⟩
      have hok : n.Ok := by rw [← hn]; exact rnds_ok _ _ _ hv
      have Hblk' : Hid (block v w16 = v.add n) := by rw [← hn]; exact unhide Hblk
      rw [hn] at hnow
      have hstw := (unhide Hst).same (hO.far _ (by have := (unhide HbV).size; omega) (by omega))
      have hresw := (unhide Hres).same (hO.far _ (by omega) (by omega))
      have hbw : Below W.heap.size W wr := (unhide HbV).trans (hO.below (by have := (unhide HbV).size; omega) (by omega))
      have HN := hide hnow
      have HSt := hide hstw
      have HRe := hide hresw
      have HB := hide hbw
      clear hnow hstw hresw hbw hO Hall Hst Hres HbV hn Hblk hww
      go_wp2
      go_loopg [21] 8 (fun gk v21 wr => ∃ (i : Nat), v21 = .int .i64 (i : Int) ∧ gk = 8 - i ∧ i ≤ 8 ∧ ArrT wr W.heap.size 62 (addL (v.list.take i) (n.list.take i) ++ v.list.drop i) ∧ Arr wr (w1.heap.size + 1) n.list ∧ ArrT wr (W.heap.size + 1 + 1) 62 (List.replicate 8 0) ∧ Below W.heap.size W wr)
      case atStart => exact ⟨0, rfl, rfl, by omega, by simpa [addL] using unhide HSt, unhide HN, unhide HRe, unhide HB⟩
      case round =>
        clear HN HSt HRe HB
        obtain ⟨i, rfl, hgk2, hi8, hT, hN, hRe, hB⟩ := hrel
        have Hgk2 := hide hgk2
        clear hgk2
        have hvl : v.list.length = 8 := rfl
        have hnl : n.list.length = 8 := rfl
        by_cases hlt2 : i < 8
        · obtain ⟨x, hx⟩ : ∃ x, v.list[i]? = some x := ⟨_, List.getElem?_eq_getElem (by omega)⟩
          obtain ⟨y, hy⟩ : ∃ x, n.list[i]? = some x := ⟨_, List.getElem?_eq_getElem (by omega)⟩
          have hal : (addL (v.list.take i) (n.list.take i)).length = i := by unfold addL; rw [List.length_zipWith, List.length_take, List.length_take]; omega
          have hstep := addL_step v.list n.list i x y hx hy rfl
          have cs := hT.arr.cell (i := i) (x := x) (by rw [List.getElem?_append_right (by omega), hal, Nat.sub_self, List.getElem?_drop]; simpa using hx)
          have fs := hT.arr.frozen (i := i) (by rw [List.length_append, hal, List.length_drop]; omega)
          have cn := hN.cell hy
          have hi' : (i : Int) < 8 := by omega
          have HT := hide hT
          have HNn := hide hN
          have HRr := hide hRe
          have Hst := hide hstep
          clear hT hN hRe hx hy hal hstep
          go_wp2_with fail
          go_region
          all_goals go_wp2
          all_goals go_roundg (8 - (i + 1))
          all_goals first
            | (have := unhide Hgk2; omega)
            | (refine ⟨i + 1, by go_num, rfl, by omega, ?_, ?_, ?_, below_drewN (below_set hB (Nat.le_refl _) _ _) _⟩
               · have e := (unhide HT).set i ((x + y) % 4294967296)
                 rw [unhide Hst] at e
                 exact e
               · exact (unhide HNn).same (heap_setCell_other _ ⟨W.heap.size, i, none⟩ (w1.heap.size + 1) _ (by simp; omega))
               · exact (unhide HRr).same (heap_setCell_other _ ⟨W.heap.size, i, none⟩ (W.heap.size + 1 + 1) _ (by simp; omega)))
        · obtain rfl : i = 8 := by omega
          rw [List.take_of_length_le (by omega), List.take_of_length_le (by omega), List.drop_eq_nil_of_le (by omega), List.append_nil, ← add_list] at hT
          obtain ⟨R, hR⟩ : ∃ R, (nw (v.add n).list).toArray = R := ⟨_, rfl⟩
          have hRs : R.size = 8 := by rw [← hR]; rfl
          have hR1 : R.all (·.oneCell') = true := by rw [← hR]; exact nw_one _
          have hifR : (Tryd.prog.info? 62).map (·.size) = some R.size := by rw [hRs]; exact hif8
          have hold : (nw (List.replicate 8 0)).toArray.size = R.size := by rw [hRs]; rfl
          unfold ArrT at hT hRe
          rw [hR] at hT
          have HR := hide hR
          clear hR hN
          go_wp2_with (first
            | (refine wpList_load_row rfl 62 (.tmp 2) rfl W.heap.size rfl 62 R (0, 0) _ hT Tryd.underlying62 rfl hifR ?_)
            | (refine wpList_store_row rfl 62 (.tmp 4) (.tmp 33) rfl (W.heap.size + 1 + 1) R rfl rfl 62 _ hRe hifR hold hR1 ?_))
          refine bodyPost_ret (results_cell_row rfl _ _ (W.heap.size + 1 + 1) 62 R (0, 0) _ rfl (setRow_heap _ _ _ _ _ _ hRe) Tryd.underlying62 rfl hifR) rfl ?_
          rw [unhide Hblk', unhide HR]
          exact ⟨rfl, below_setRow hB (by omega) _⟩
end Go.Proofs.YtoojchjfmnbdpabDoor
namespace Go.Proofs.YtoojchjfmnbdpabDoor
open Go.RowKit
attribute [local go_sem ↓] Go.wp_at_zero Go.wp_at_succ

theorem nb_cell {W : World} {g i : Nat} {l : List Nat} {t : TypeId} {fr : Nat × Nat} (h : W.heap[g]? = some (.cells (nb l).toArray t fr)) {b : Nat} (hb : l[i]? = some b) : W.cell? ⟨g, i, none⟩ = some (.int .u8 (b : Int)) := by
  rw [cell_of_row _ _ _ _ _ _ h, List.getElem?_toArray, nb_at, hb]
  rfl
theorem z16_eq : (nw (List.replicate 16 0)).toArray = #[.int .u32 0, .int .u32 0, .int .u32 0, .int .u32 0, .int .u32 0, .int .u32 0, .int .u32 0, .int .u32 0, .int .u32 0, .int .u32 0, .int .u32 0, .int .u32 0, .int .u32 0, .int .u32 0, .int .u32 0, .int .u32 0] := by rfl
theorem word_snoc (l : List Nat) (x : Nat) : word (l ++ [x]) = 256 * word l + x := by
  cases l with
  | nil => simp [word]
  | cons a l => simp [word]
theorem fold_lt : ∀ (l : List Nat) (a k : Nat), Byt l → a < 256 ^ k → l.foldl (fun x y => 256 * x + y) a < 256 ^ (k + l.length)
  | [], _, _, _, h => h
  | y :: l, a, k, hb, h => by
    have hy := hb y (List.mem_cons_self)
    have := fold_lt l (256 * a + y) (k + 1) (fun z hz => hb z (List.mem_cons_of_mem _ hz)) (by rw [Nat.pow_succ]; omega)
    rw [List.foldl_cons, List.length_cons, show k + (l.length + 1) = k + 1 + l.length by omega]
    exact this
theorem word_lt (l : List Nat) (h : Byt l) : word l < 256 ^ l.length := by
  have := fold_lt l 0 0 h (by decide)
  rw [Nat.zero_add] at this
  cases l with
  | nil => exact this
  | cons a l => exact this
theorem wordsL_snoc : ∀ (n : Nat) (l : List Nat) (x : Nat), l.length < 4 * n → wordsL n (l ++ [x]) = (wordsL n l).set (l.length / 4) (256 * (wordsL n l).getD (l.length / 4) 0 + x)
  | 0, l, x, h => by omega
  | n + 1, l, x, h => by
    simp only [wordsL]
    by_cases h4 : l.length < 4
    · have d1 : (l ++ [x]).drop 4 = [] := List.drop_eq_nil_of_le (by rw [List.length_append, List.length_singleton]; omega)
      have d2 : l.drop 4 = [] := List.drop_eq_nil_of_le (by omega)
      have d3 : (l ++ [x]).take 4 = l ++ [x] := List.take_of_length_le (by rw [List.length_append, List.length_singleton]; omega)
      have d4 : l.take 4 = l := List.take_of_length_le (by omega)
      rw [show l.length / 4 = 0 by omega, d1, d2, d3, d4, word_snoc]
      rfl
    · have hd : (l ++ [x]).drop 4 = l.drop 4 ++ [x] := List.drop_append_of_le_length (by omega)
      have ht : (l ++ [x]).take 4 = l.take 4 := List.take_append_of_le_length (by omega)
      have hq : l.length / 4 = (l.drop 4).length / 4 + 1 := by rw [List.length_drop]; omega
      rw [hd, ht, hq, wordsL_snoc n (l.drop 4) x (by rw [List.length_drop]; omega)]
      rfl
theorem wordsL_w32 : ∀ (n : Nat) (l : List Nat), Byt l → W32 (wordsL n l)
  | 0, _, _ => fun x hx => by simp [wordsL] at hx
  | n + 1, l, h => fun x hx => by
    simp only [wordsL] at hx
    rcases List.mem_cons.1 hx with rfl | q
    · have h1 := word_lt (l.take 4) (fun y hy => h y (List.mem_of_mem_take hy))
      have h2 : (l.take 4).length ≤ 4 := by rw [List.length_take]; omega
      exact Nat.lt_of_lt_of_le h1 (Nat.le_trans (Nat.pow_le_pow_right (by decide) h2) (by decide))
    · exact wordsL_w32 n _ (fun y hy => h y (List.mem_of_mem_drop hy)) x q
theorem wordsL_at : ∀ (n : Nat) (l : List Nat) (j : Nat), j < n → (wordsL n l)[j]? = some (word ((l.drop (4 * j)).take 4))
  | 0, _, _, h => by omega
  | n + 1, l, 0, _ => by simp [wordsL]
  | n + 1, l, j + 1, h => by
    simp only [wordsL, List.getElem?_cons_succ]
    rw [wordsL_at n _ j (by omega), List.drop_drop, show 4 + 4 * j = 4 * (j + 1) by omega]

set_option maxRecDepth 100000 in
set_option maxHeartbeats 1000000 in
theorem wordsOf_any (W : World) (b : List Nat) (hb : b.length = 64) (hB : Byt b) :
    Calls Tryd.prog 37 #[.agg (nb b).toArray] W fun e W' => e = .returned (.agg (nw (wordsL 16 b)).toArray) ∧ Below W.heap.size W W' := by
  have hif : (Tryd.prog.info? 67).map (·.size) = some 16 := by kernel_rfl
  obtain ⟨A, hA⟩ : ∃ A, (nb b).toArray = A := ⟨_, rfl⟩
  rw [hA]
  go_enter Tryd.func37, Tryd.ntmps37
  go_wp2
  obtain ⟨W3, hW3⟩ : ∃ w, w = ((W.alloc (.cells A 63)).alloc (.cells #[.int .u32 0, .int .u32 0, .int .u32 0, .int .u32 0, .int .u32 0, .int .u32 0, .int .u32 0, .int .u32 0, .int .u32 0, .int .u32 0, .int .u32 0, .int .u32 0, .int .u32 0, .int .u32 0, .int .u32 0, .int .u32 0] 67)).alloc (.cells #[.int .u32 0, .int .u32 0, .int .u32 0, .int .u32 0, .int .u32 0, .int .u32 0, .int .u32 0, .int .u32 0, .int .u32 0, .int .u32 0, .int .u32 0, .int .u32 0, .int .u32 0, .int .u32 0, .int .u32 0, .int .u32 0] 67) := ⟨_, rfl⟩
  rw [← hW3]
  have hsz3 : W3.heap.size = W.heap.size + 3 := by rw [hW3]; simp
  have hb3 : Below W.heap.size W W3 := by rw [hW3]; exact (((Below.refl _ _).alloc (Nat.le_refl _) _).alloc (by simp) _).alloc (by simp; omega) _
  have t0 : W3.heap[W.heap.size]? = some (.cells (nb b).toArray 63 (0, 0)) := by
    rw [hW3, hA, Below.heap_alloc _ _ _ (by simp; omega), Below.heap_alloc _ _ _ (by simp)]
    exact heap_new _ _
  have t1 : ArrT W3 (W.heap.size + 1) 67 (List.replicate 16 0) := by
    unfold ArrT
    rw [hW3, z16_eq, Below.heap_alloc _ _ _ (by simp)]
    exact heap_alloc2_new _ _ _
  have t2 : ArrT W3 (W.heap.size + 1 + 1) 67 (List.replicate 16 0) := by
    unfold ArrT
    rw [hW3, z16_eq]
    have := heap_alloc2_new (W.alloc (.cells A 63)) (.cells #[.int .u32 0, .int .u32 0, .int .u32 0, .int .u32 0, .int .u32 0, .int .u32 0, .int .u32 0, .int .u32 0, .int .u32 0, .int .u32 0, .int .u32 0, .int .u32 0, .int .u32 0, .int .u32 0, .int .u32 0, .int .u32 0] 67) (.cells #[.int .u32 0, .int .u32 0, .int .u32 0, .int .u32 0, .int .u32 0, .int .u32 0, .int .u32 0, .int .u32 0, .int .u32 0, .int .u32 0, .int .u32 0, .int .u32 0, .int .u32 0, .int .u32 0, .int .u32 0, .int .u32 0] 67)
    simpa using this
  clear hW3
  go_loopg [5] 64 (fun gk v5 wr => ∃ (i : Nat), v5 = .int .i64 (i : Int) ∧ gk = 64 - i ∧ i ≤ 64 ∧ ArrT wr (W.heap.size + 1 + 1) 67 (wordsL 16 (b.take i)) ∧ wr.heap[W.heap.size]? = some (.cells (nb b).toArray 63 (0, 0)) ∧ ArrT wr (W.heap.size + 1) 67 (List.replicate 16 0) ∧ Below W.heap.size W wr)
  case atStart => exact ⟨0, rfl, rfl, by omega, t2, t0, t1, hb3⟩
  case round =>
    clear t0 t1 t2 hb3 hsz3
    obtain ⟨i, rfl, hgk, hk, hR, h0, h1, hBe⟩ := hrel
    have Hgk := hide hgk
    clear hgk
    by_cases hlt : i < 64
    · obtain ⟨x, hx⟩ : ∃ x, b[i]? = some x := ⟨_, List.getElem?_eq_getElem (by omega)⟩
      have hxb := hB.at hx
      have hbt : (b.take i).length = i := by rw [List.length_take]; omega
      obtain ⟨d, hd⟩ : ∃ d : Nat, d = i / 4 := ⟨_, rfl⟩
      have hat := wordsL_at 16 (b.take i) d (by omega)
      obtain ⟨o, ho⟩ : ∃ o, o = word (((b.take i).drop (4 * d)).take 4) := ⟨_, rfl⟩
      rw [← ho] at hat
      have hol : o < 16777216 := by
        rw [ho]
        have h2 := word_lt (((b.take i).drop (4 * d)).take 4) (fun y hy => hB y (List.mem_of_mem_take (List.mem_of_mem_drop (List.mem_of_mem_take hy))))
        refine Nat.lt_of_lt_of_le h2 (Nat.le_trans (Nat.pow_le_pow_right (by decide) (show _ ≤ 3 by rw [List.length_take, List.length_drop, hbt]; omega)) (by decide))
      have hnx : wordsL 16 (b.take (i + 1)) = (wordsL 16 (b.take i)).set d (256 * o + x) := by
        rw [List.take_add_one, hx]
        have := wordsL_snoc 16 (b.take i) x (by omega)
        rw [hbt, ← hd, List.getD_eq_getElem?_getD, hat] at this
        exact this
      have cw := hR.arr.cell hat
      have fw := hR.arr.frozen (i := d) (by rw [wordsL_len]; omega)
      have cb := nb_cell h0 hx
      have k1 : (i : Int).tdiv 4 = (d : Int) := by rw [Int.tdiv_eq_ediv_of_nonneg (by omega)]; omega
      have hor : bits .or .u32 ((o : Int) * 256) (x : Int) = ((256 * o + x : Nat) : Int) := by
        rw [show (o : Int) * 256 = ((o * 256 : Nat) : Int) by omega, u32_or_nat _ _ (by omega) (by omega), nat_join 8 (o * 256) x (by omega) (by omega)]
        congr 1
        omega
      have hd16 : d < 16 := by omega
      have hi' : (i : Int) < 64 := by omega
      have Hnx := hide hnx
      have HR := hide hR
      have H0 := hide h0
      have H1 := hide h1
      clear hnx hR h0 h1 hat ho hx hbt hd
      go_wp2_with fail
      go_region
      all_goals go_wp2
      all_goals go_roundg (64 - (i + 1))
      all_goals first
        | (have := unhide Hgk; omega)
        | (refine ⟨i + 1, by go_num, rfl, by omega, ?_, ?_, ?_, below_drewN (below_set hBe (by omega) _ _) _⟩
           · rw [unhide Hnx]
             exact (unhide HR).set d (256 * o + x)
           · exact (heap_setCell_other _ ⟨W.heap.size + 1 + 1, d, none⟩ W.heap.size _ (by simp; omega)).trans (unhide H0)
           · exact (unhide H1).same (heap_setCell_other _ ⟨W.heap.size + 1 + 1, d, none⟩ (W.heap.size + 1) _ (by simp)))
    · obtain rfl : i = 64 := by omega
      rw [List.take_of_length_le (by omega)] at hR
      obtain ⟨C, hC⟩ : ∃ C, (nw (wordsL 16 b)).toArray = C := ⟨_, rfl⟩
      have hCs : C.size = 16 := by rw [← hC]; simp [wordsL_len]
      have hC1 : C.all (·.oneCell') = true := by rw [← hC]; exact nw_one _
      have hifC : (Tryd.prog.info? 67).map (·.size) = some C.size := by rw [hCs]; exact hif
      have hold : (nw (List.replicate 16 0)).toArray.size = C.size := by rw [hCs]; rfl
      unfold ArrT at hR h1
      rw [hC] at hR
      have HC := hide hC
      clear hC h0
      go_wp2_with (first
        | (refine wpList_load_row rfl 67 (.tmp 3) rfl (W.heap.size + 1 + 1) rfl 67 C (0, 0) _ hR Tryd.underlying67 rfl hifC ?_)
        | (refine wpList_store_row rfl 67 (.tmp 2) (.tmp 22) rfl (W.heap.size + 1) C rfl rfl 67 _ h1 hifC hold hC1 ?_))
      refine bodyPost_ret (results_cell_row rfl _ _ (W.heap.size + 1) 67 C (0, 0) _ rfl (setRow_heap wr _ _ _ _ _ h1) Tryd.underlying67 rfl hifC) rfl ?_
      rw [unhide HC]
      exact ⟨rfl, below_setRow hBe (by omega) _⟩
end Go.Proofs.YtoojchjfmnbdpabDoor
namespace Go.Proofs.YtoojchjfmnbdpabDoor
open Go.RowKit
attribute [local go_sem ↓] Go.wp_at_zero Go.wp_at_succ

theorem idx_state (w : World) (l : List Nat) (hl : l.length = 8) (i x : Nat) (hx : l[i]? = some x) : (Instr.index 62 (.agg (nw l).toArray) (.int .i64 (i : Int))).run Tryd.prog w = .ok (.int .u32 (x : Int)) w := by
  have hi : i < 8 := by rw [← hl]; exact (List.getElem?_eq_some_iff.1 hx).1
  have hat : (nw l).toArray[i]? = some (.int .u32 (x : Int)) := by rw [List.getElem?_toArray, nw_at, hx]; rfl
  simp [Instr.index, asIntOf, run_underlying Tryd.underlying62, hi]
  simp [part, isAgg, run_underlying Tryd.underlying60]
  rw [nw_at, hx]
  rfl
theorem St.bytes_eq (v : St) : v.bytes = v.list.flatMap be4 := by
  unfold St.bytes St.list
  simp
theorem be4_byt (x : Nat) : Byt (be4 x) := by
  intro y hy
  simp [be4] at hy
  omega
theorem bytes_byt (v : St) : Byt v.bytes := by
  rw [St.bytes_eq]
  intro y hy
  obtain ⟨x, _, h⟩ := List.mem_flatMap.1 hy
  exact be4_byt x y h
theorem flat4_len : ∀ (l : List Nat), (l.flatMap be4).length = 4 * l.length
  | [] => rfl
  | x :: l => by rw [List.flatMap_cons, List.length_append, flat4_len l]; simp [be4]; omega
theorem bytes_len (v : St) : v.bytes.length = 32 := by rw [St.bytes_eq, flat4_len]; rfl

set_option maxRecDepth 100000 in
set_option maxHeartbeats 1000000 in
theorem bytesOf_any (W : World) (v : St) (hv : v.Ok) :
    Calls Tryd.prog 39 #[.agg (nw v.list).toArray] W fun e W' => ∃ v', e = .returned v' ∧ Bytes W.heap.size W' v' v.bytes ∧ Below W.heap.size W W' := by
  obtain ⟨i0, hi, hz0, hz1, hz2⟩ := info_parts Tryd.infoByte
  have hif8 : (Tryd.prog.info? 62).map (·.size) = some 8 := by kernel_rfl
  have hvl : ∀ x ∈ v.list, x < 4294967296 := by
    intro x hx
    obtain ⟨a, b, c, d, e, f, g, h⟩ := hv
    simp [St.list] at hx
    omega
  obtain ⟨L, hL⟩ : ∃ L, v.list = L := ⟨_, rfl⟩
  have hLl : L.length = 8 := by rw [← hL]; rfl
  have hbe : v.bytes = L.flatMap be4 := by rw [St.bytes_eq, hL]
  rw [hL] at hvl ⊢
  rw [hbe]
  obtain ⟨S, hS⟩ : ∃ A, (nw L).toArray = A := ⟨_, rfl⟩
  have hSs : S.size = 8 := by rw [← hS]; simp [hLl]
  have hifS : (Tryd.prog.info? 62).map (·.size) = some S.size := by rw [hSs]; exact hif8
  have hix : ∀ w (i x : Nat), L[i]? = some x → (Instr.index 62 (.agg S) (.int .i64 (i : Int))).run Tryd.prog w = .ok (.int .u32 (x : Int)) w := by rw [← hS]; exact fun w i x hx => idx_state w L hLl i x hx
  have Hix := hide hix
  rw [hS]
  clear hix hL hbe hS hif8 hSs hv
  obtain ⟨X, hX⟩ : ∃ X : World, X = W.alloc (.cells S 62) := ⟨_, rfl⟩
  have hXs : X.heap.size = W.heap.size + 1 := by rw [hX]; simp
  have hXn : X.heap[W.heap.size]? = some (.cells S 62 (0, 0)) := by rw [hX]; exact heap_new _ _
  have hXb : Below W.heap.size W X := by rw [hX]; exact (Below.refl _ _).alloc (Nat.le_refl _) _
  have HX := hide hX
  clear hX
  go_enter Tryd.func39, Tryd.ntmps39
  go_wp2_with (first
    | (at_make; rw [← unhide HX]; refine wpList_make_own _ rfl _ _ 28 rfl W.heap.size 5 i0 (.int .u8 0) 1 Tryd.underlying28 hi hz0 hz1 .i64 .i64 _ 32 rfl rfl rfl (by rw [hz2]; decide) (by decide) (by omega) ?_; intro w5 hown5 hgrow5; have Hr := hide hown5; have hXn5 : w5.heap[W.heap.size]? = some (.cells S 62 (0, 0)) := (hgrow5.block W.heap.size (by omega) (by simp)).trans hXn; have Hb : Hid (Below W.heap.size W w5) := hXb.trans ⟨hgrow5.os, hgrow5.tape, hgrow5.output, by have := hgrow5.size; omega, fun b hb => hgrow5.block b (by omega) (by simp)⟩; clear hown5 hgrow5)
    | (refine wpList_load_row rfl 62 (.tmp 1) rfl W.heap.size rfl 62 S (0, 0) _ hXn5 Tryd.underlying62 rfl hifS ?_))
  go_loopg [3, 8] 8 (fun gk v3 v8 wr => ∃ (i : Nat), v8 = .int .i64 (i : Int) ∧ v3 = .slice (some ⟨W.heap.size + 1, 0, none⟩) (4 * i) 32 ∧ gk = 8 - i ∧ i ≤ 8 ∧ wr.ownsRow W.heap.size 5 1 (.slice (some ⟨W.heap.size + 1, 0, none⟩) (4 * i) 32) (4 * i) (nb ((L.take i).flatMap be4)) ∧ Below W.heap.size W wr)
  case atStart => exact ⟨0, rfl, rfl, rfl, by omega, by have := unhide Hr; rw [hXs] at this; exact this, unhide Hb⟩
  case round =>
    clear Hr Hb hXn5
    obtain ⟨i, rfl, rfl, hgk, hk, hY, hB⟩ := hrel
    have Hgk := hide hgk
    clear hgk
    by_cases hlt : i < 8
    · obtain ⟨x, hx⟩ : ∃ x, L[i]? = some x := ⟨_, List.getElem?_eq_getElem (by omega)⟩
      have hxl := hvl x (List.mem_of_getElem? hx)
      have ix : ∀ w, (Instr.index 62 (.agg S) (.int .i64 (i : Int))).run Tryd.prog w = .ok (.int .u32 (x : Int)) w := fun w => unhide Hix w i x hx
      have hnx : (L.take (i + 1)).flatMap be4 = (L.take i).flatMap be4 ++ be4 x := by rw [List.take_add_one, hx, List.flatMap_append]; simp
      have Hnx := hide hnx
      have HY := hide hY
      have hi' : (i : Int) < 8 := by omega
      obtain ⟨B1, hB1⟩ : ∃ B1, B1 = x / 16777216 % 256 := ⟨_, rfl⟩
      obtain ⟨B2, hB2⟩ : ∃ B1, B1 = x / 65536 % 256 := ⟨_, rfl⟩
      obtain ⟨B3, hB3⟩ : ∃ B1, B1 = x / 256 % 256 := ⟨_, rfl⟩
      obtain ⟨B4, hB4⟩ : ∃ B1, B1 = x % 256 := ⟨_, rfl⟩
      have hbx : be4 x = [B1, B2, B3, B4] := by rw [hB1, hB2, hB3, hB4]; rfl
      have m1 : (x : Int) / 16777216 = (B1 : Int) := by omega
      have m2 : (x : Int) / 65536 % 256 = (B2 : Int) := by omega
      have m3 : (x : Int) / 256 % 256 = (B3 : Int) := by omega
      have m4 : (x : Int) % 256 = (B4 : Int) := by omega
      have l1 : B1 < 256 := by omega
      rw [hbx] at Hnx
      clear hB1 hB2 hB3 hB4 hbx
      clear hnx hY hx
      go_wp2_with (at_builtin; refine wpList_append_fits _ rfl _ _ 28 rfl W.heap.size 5 i0 1 Tryd.underlying28 hi hz1 (W.heap.size + 1) (4 * i) 32 (nb ((L.take i).flatMap be4)) rfl ((unhide HY).alloc _) ⟨wr.heap.size, 0, none⟩ 4 4 [.int .u8 (B1 : Int), .int .u8 (B2 : Int), .int .u8 (B3 : Int), .int .u8 (B4 : Int)] rfl rfl (World.news_of_block (cs := #[.int .u8 (B1 : Int), .int .u8 (B2 : Int), .int .u8 (B3 : Int), .int .u8 (B4 : Int)]) (heap_new _ _)) (by simp [Value.oneCell']) (by omega) ?_; intro w4 hown4 hgrow4; have Hown := hide hown4; have Hgrow := hide hgrow4; clear hown4 hgrow4)
      go_roundg (8 - (i + 1))
      case measure => have := unhide Hgk; omega
      case rel =>
        refine ⟨i + 1, by go_num, rfl, rfl, by omega, ?_, below_grow0 (u := .slice (some ⟨W.heap.size + 1, 0, none⟩) 0 0) hB hB.size (unhide Hgrow) (fun b hb => by have e : W.heap.size + 1 = b := Option.some.inj hb; omega)⟩
        rw [unhide Hnx, nb_append]
        exact unhide Hown
    · obtain rfl : i = 8 := by omega
      rw [List.take_of_length_le (by omega)] at hY
      have hb : Bytes W.heap.size wr (.slice (some ⟨W.heap.size + 1, 0, none⟩) (4 * 8) 32) (L.flatMap be4) := by unfold Bytes; rw [flat4_len, hLl]; exact hY
      have Hh := hide hb
      clear hb hY
      go_wp2
      go_ret
      exact ⟨_, rfl, unhide Hh, hB⟩

theorem be8_len (n : Nat) : (be8 n).length = 8 := rfl
theorem be8_byt (n : Nat) : Byt (be8 n) := by
  intro y hy
  simp [be8] at hy
  omega
theorem be8_at (n j : Nat) (h : j < 8) : (be8 n)[j]? = some (n / 2 ^ (56 - 8 * j) % 256) := by
  match j, h with
  | 0, _ => rfl
  | 1, _ => rfl
  | 2, _ => rfl
  | 3, _ => rfl
  | 4, _ => rfl
  | 5, _ => rfl
  | 6, _ => rfl
  | 7, _ => simp [be8]
theorem shr_cast (n sf : Nat) : 8 * (n : Int) / (2 : Int) ^ sf % 256 = ((8 * n / 2 ^ sf % 256 : Nat) : Int) := by
  have e1 : ((8 * n : Nat) : Int) = 8 * (n : Int) := by omega
  rw [Int.natCast_emod, Int.natCast_ediv, e1, Int.natCast_pow]
  rfl
theorem padding_byt (n : Nat) : Byt (padding n) := by
  intro y hy
  unfold padding at hy
  rcases List.mem_cons.1 hy with rfl | hy
  · decide
  · rcases List.mem_append.1 hy with hy | hy
    · rw [List.mem_replicate] at hy; omega
    · exact be8_byt _ y hy
theorem padding_len (n : Nat) : (padding n).length = 9 + zeros n := by unfold padding; simp [be8_len]; omega
theorem padded_mod (n : Nat) : (n + (padding n).length) % 64 = 0 := by rw [padding_len]; unfold zeros; omega
theorem zeros_lt (n : Nat) : zeros n < 64 := by unfold zeros; omega

set_option maxRecDepth 100000 in
set_option maxHeartbeats 1000000 in
theorem padding_any (W : World) (n : Nat) (hn : n ≤ 1125899906842624) :
    Calls Tryd.prog 38 #[.int .i64 (n : Int)] W fun e W' => ∃ v', e = .returned v' ∧ Bytes W.heap.size W' v' (padding n) ∧ Below W.heap.size W W' := by
  obtain ⟨i0, hi, hz0, hz1, hz2⟩ := info_parts Tryd.infoByte
  have hzl := zeros_lt n
  have hown0 : (W.alloc (.cells #[.int .u8 128] 5)).ownsRow W.heap.size 5 1 (.slice (some ⟨W.heap.size, 0, none⟩) 1 1) 1 (nb [128]) := ⟨rfl, .inr ⟨W.heap.size, 1, #[.int .u8 128], rfl, Nat.le_refl _, heap_new _ _, Nat.le_refl _, by decide, rfl, rfl⟩⟩
  have hb0 : Below W.heap.size W (W.alloc (.cells #[.int .u8 128] 5)) := (Below.refl _ _).alloc (Nat.le_refl _) _
  have H0 := hide hown0
  have HB0 := hide hb0
  clear hown0 hb0
  go_enter Tryd.func38, Tryd.ntmps38
  go_wp2
  go_loopg [3] (zeros n) (fun gk v3 wr => ∃ (k c : Nat) (a : Option Addr), v3 = .slice a (k + 1) c ∧ gk = zeros n - k ∧ k ≤ zeros n ∧ wr.ownsRow W.heap.size 5 1 v3 (k + 1) (nb (128 :: List.replicate k 0)) ∧ Below W.heap.size W wr)
  case atStart => exact ⟨0, 1, _, rfl, rfl, by omega, unhide H0, unhide HB0⟩
  case round =>
    clear H0 HB0
    obtain ⟨k, c, a, rfl, hgk, hk, hY, hB⟩ := hrel
    have Hgk := hide hgk
    have HY := hide hY
    have hsz := hB.size
    clear hgk hY
    obtain ⟨r, hr⟩ : ∃ r : Nat, r = (n + (k + 1)) % 64 := ⟨_, rfl⟩
    have htm : ((n : Int) + ((k : Int) + 1)).tmod 64 = (r : Int) := by rw [Int.tmod_eq_emod_of_nonneg (by omega)]; omega
    by_cases hlt : k < zeros n
    · have hne : ((r : Int) != 56) = true := by
        have : r ≠ 56 := by unfold zeros at hlt hk; omega
        simp; omega
      have o1 : k + 1 + 1 ≤ maxLen := by unfold maxLen; omega
      have o2 : (k + 1 + 1) * 1 ≤ 140737488355328 := by omega
      clear hr
      go_wp2_with (at_builtin; refine wpList_append_own_at _ rfl _ _ 28 rfl W.heap.size 5 i0 (.int .u8 0) 1 1 Tryd.underlying28 hi hz0 hz1 hz2 rfl (by decide) _ _ _ rfl ((unhide HY).alloc _) ⟨wr.heap.size, 0, none⟩ 1 1 [.int .u8 0] rfl rfl (cell_one_new _ _ _) (by simp [Value.oneCell']) o1 o2 (by rw [World.size_alloc]; exact Nat.le_succ_of_le hsz) ?_; intro v4 w4 hown4 hgrow4 _ hat4; have Hown := hide hown4; have Hgrow := hide hgrow4; clear hown4 hgrow4 hat4)
      go_roundg (zeros n - (k + 1))
      case measure => have := unhide Hgk; omega
      case rel =>
        obtain ⟨a4, c4, hv4, _⟩ := (show HasB w4 v4 (128 :: List.replicate (k + 1) 0) from Bytes.has (base := W.heap.size) (by
          unfold Bytes
          rw [List.length_cons, List.length_replicate, List.replicate_succ', ← List.cons_append, nb_append]
          exact unhide Hown))
        refine ⟨k + 1, c4, a4, by rw [hv4]; simp, rfl, by omega, ?_, below_grow0 hB hsz (unhide Hgrow) (fun b hb => ((unhide HY).lt b hb).1)⟩
        rw [List.replicate_succ', ← List.cons_append, nb_append]
        exact unhide Hown
    · obtain rfl : k = zeros n := by omega
      have h56 : r = 56 := by unfold zeros at hr; omega
      subst h56
      clear hr
      obtain ⟨z, hz⟩ : ∃ z, z = zeros n := ⟨_, rfl⟩
      have Hz := hide hz
      rw [← hz] at hzl htm HY ⊢
      clear hz Hgk hk hlt
      go_wp2
      go_loopg [3, 5] 8 (fun gk v3 v5 wr => ∃ (j : Nat), v5 = .int .i64 (56 - 8 * (j : Int)) ∧ gk = 8 - j ∧ j ≤ 8 ∧ wr.ownsRow W.heap.size 5 1 v3 (z + 1 + j) (nb (128 :: List.replicate z 0 ++ (be8 (8 * n)).take j)) ∧ Below W.heap.size W wr)
      case atStart => exact ⟨0, rfl, rfl, by omega, by simpa using unhide HY, hB⟩
      case round =>
        clear HY hB hsz
        obtain ⟨j, rfl, hgk, hj, hY, hB⟩ := hrel
        have Hgk := hide hgk
        have HY := hide hY
        have hsz := hB.size
        clear hgk hY
        by_cases hlt : j < 8
        · obtain ⟨sf, hsf⟩ : ∃ sf : Nat, sf = 56 - 8 * j := ⟨_, rfl⟩
          have hsfi : 56 - 8 * (j : Int) = (sf : Int) := by omega
          have hat := be8_at (8 * n) j hlt
          rw [← hsf] at hat
          obtain ⟨y, hy⟩ : ∃ y : Nat, y = 8 * n / 2 ^ sf % 256 := ⟨_, rfl⟩
          rw [← hy] at hat
          have hval : 8 * (n : Int) / (2 : Int) ^ sf % 256 = (y : Int) := by rw [hy]; exact shr_cast n sf
          have hnx : (be8 (8 * n)).take (j + 1) = (be8 (8 * n)).take j ++ [y] := by rw [List.take_add_one, hat]; rfl
          have Hnx := hide hnx
          have o1 : z + 1 + j + 1 ≤ maxLen := by unfold maxLen; omega
          have o2 : (z + 1 + j + 1) * 1 ≤ 140737488355328 := by omega
          have hs56 : sf ≤ 56 := by omega
          have hnext : (sf : Int) - 8 = 56 - 8 * ((j + 1 : Nat) : Int) := by omega
          have Hnext := hide hnext
          clear hat hy hnx hsf hnext
          have Hval := hide hval
          clear hval
          go_wp2_with (at_builtin; refine wpList_append_own_at _ rfl _ _ 28 rfl W.heap.size 5 i0 (.int .u8 0) 1 1 Tryd.underlying28 hi hz0 hz1 hz2 rfl (by decide) _ _ _ rfl ((unhide HY).alloc _) ⟨wr.heap.size, 0, none⟩ 1 1 [.int .u8 (8 * (n : Int) / 2 ^ sf % 256)] rfl rfl (cell_one_new _ _ _) (by simp [Value.oneCell']) o1 o2 (by rw [World.size_alloc]; exact Nat.le_succ_of_le hsz) ?_; intro v4 w4 hown4 hgrow4 _ hat4; have Hown := hide hown4; have Hgrow := hide hgrow4; clear hown4 hgrow4 hat4)
          go_roundg (8 - (j + 1))
          case measure => have := unhide Hgk; omega
          case rel =>
            refine ⟨j + 1, by have := unhide Hnext; rw [← this, ← hsfi], rfl, by omega, ?_, below_grow0 hB hsz (unhide Hgrow) (fun b hb => ((unhide HY).lt b hb).1)⟩
            have e := unhide Hown
            rw [unhide Hval] at e
            rw [unhide Hnx, ← List.append_assoc, nb_append]
            exact e
        · obtain rfl : j = 8 := by omega
          have hY := unhide HY
          rw [List.take_of_length_le (by rw [be8_len]; omega)] at hY
          have hb : Bytes W.heap.size wr u3 (padding n) := by
            unfold Bytes
            rw [padding_len, ← unhide Hz, show 9 + z = z + 1 + 8 by omega]
            unfold padding
            rw [← unhide Hz]
            exact hY
          have Hh := hide hb
          clear hb hY HY
          go_wp2
          go_ret
          exact ⟨_, rfl, unhide Hh, hB⟩
end Go.Proofs.YtoojchjfmnbdpabDoor
