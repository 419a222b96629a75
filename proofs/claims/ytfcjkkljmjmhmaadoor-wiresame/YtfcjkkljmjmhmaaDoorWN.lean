import Derived.Test.YtfcjkkljmjmhmaaDoorWV
namespace Go.Proofs.YtfcjkkljmjmhmaaDoor
open Go.RowKit
attribute [local go_sem ↓] Go.wp_at_zero Go.wp_at_succ

def Rng (x : Int) : Prop := -9223372036854775808 ≤ x ∧ x ≤ 9223372036854775807
def zig (x : Int) : Int := if x < 0 then -(wrap64 (x * 2)) - 1 else wrap64 (x * 2)
def zag (x : Int) : Int := if x % 2 = 0 then IntKind.u64.wrap x / 2 else -(IntKind.u64.wrap x / 2) - 1

theorem xor_zero (a : Int) (h : Rng a) : bits BinOp.xor IntKind.i64 a 0 = a := by
  unfold Rng at h
  have key : (BitVec.ofInt 64 a ^^^ BitVec.ofInt 64 0).toNat = (a % ((2 ^ 64 : Nat) : Int)).toNat := by
    rw [show BitVec.ofInt 64 0 = 0#64 from rfl, BitVec.xor_zero, BitVec.toNat_ofInt]
  show IntKind.i64.wrap ((BitVec.ofInt 64 a ^^^ BitVec.ofInt 64 0).toNat : Nat) = a
  rw [key, IntKind.wrap_i64]
  omega
theorem xor_ones (a : Int) (h : Rng a) : bits BinOp.xor IntKind.i64 a (-1) = -a - 1 := by
  unfold Rng at h
  have key : (BitVec.ofInt 64 a ^^^ BitVec.ofInt 64 (-1)).toNat = 2 ^ 64 - 1 - (a % ((2 ^ 64 : Nat) : Int)).toNat := by
    rw [show BitVec.ofInt 64 (-1) = BitVec.allOnes 64 from rfl, BitVec.xor_allOnes, BitVec.toNat_not, BitVec.toNat_ofInt]
  show IntKind.i64.wrap ((BitVec.ofInt 64 a ^^^ BitVec.ofInt 64 (-1)).toNat : Nat) = -a - 1
  rw [key, IntKind.wrap_i64]
  omega
theorem and_one (n : Int) : bits BinOp.and IntKind.i64 n 1 = n % 2 := by
  have h1 : (BitVec.ofInt 64 1).toNat = 2 ^ 1 - 1 := by decide
  have key : (BitVec.ofInt 64 n &&& BitVec.ofInt 64 1).toNat = (n % ((2 ^ 64 : Nat) : Int)).toNat % 2 ^ 1 := by
    rw [BitVec.toNat_and, BitVec.toNat_ofInt, h1, Nat.and_two_pow_sub_one_eq_mod]
  show IntKind.i64.wrap ((BitVec.ofInt 64 n &&& BitVec.ofInt 64 1).toNat : Nat) = n % 2
  rw [key, IntKind.wrap_i64]
  omega
theorem wrap64_eq (n : Int) : wrap64 n = (n + 9223372036854775808) % 18446744073709551616 - 9223372036854775808 := by
  first | rfl | (unfold wrap64; omega) | (simp [wrap64]; omega)
theorem wrapu_eq (n : Int) : IntKind.u64.wrap n = n % 18446744073709551616 := by simp [IntKind.wrap, IntKind.bits, IntKind.signed]

theorem zig_any (W : World) (x : Int) (hx : Rng x) : Calls Tryd.prog 41 #[.int .i64 x] W fun e W' => e = .returned (.int .i64 (zig x)) ∧ W' = W := by
  have h : bits BinOp.xor IntKind.i64 (wrap64 (x * 2)) (x / 9223372036854775808) = zig x := by
    have hr : Rng (wrap64 (x * 2)) := by rw [wrap64_eq]; unfold Rng; omega
    unfold Rng at hx
    unfold zig
    by_cases hn : x < 0
    · rw [if_pos hn, show x / 9223372036854775808 = -1 by omega, xor_ones _ hr]
    · rw [if_neg hn, show x / 9223372036854775808 = 0 by omega, xor_zero _ hr]
  go_enter Tryd.func41, Tryd.ntmps41
  go_wp2
  go_ret
  exact ⟨rfl, rfl⟩
theorem zag_any (W : World) (x : Int) : Calls Tryd.prog 42 #[.int .i64 x] W fun e W' => e = .returned (.int .i64 (zag x)) ∧ W' = W := by
  have h1 := and_one x
  have h : bits BinOp.xor IntKind.i64 (wrap64 (IntKind.u64.wrap x / 2)) (-(x % 2)) = zag x := by
    have hw : wrap64 (IntKind.u64.wrap x / 2) = IntKind.u64.wrap x / 2 := by rw [wrap64_eq, wrapu_eq]; omega
    have hr : Rng (IntKind.u64.wrap x / 2) := by rw [wrapu_eq]; unfold Rng; omega
    unfold zag
    rw [hw]
    by_cases hn : x % 2 = 0
    · rw [if_pos hn, show -(x % 2) = 0 by omega, xor_zero _ hr]
    · rw [if_neg hn, show -(x % 2) = -1 by omega, xor_ones _ hr]
  go_enter Tryd.func42, Tryd.ntmps42
  go_wp2
  go_ret
  exact ⟨rfl, rfl⟩
theorem zig_rng (x : Int) : Rng (zig x) := by
  unfold zig Rng
  rw [wrap64_eq]
  split <;> omega
theorem zag_rng (x : Int) : Rng (zag x) := by
  unfold zag Rng
  rw [wrapu_eq]
  split <;> omega
theorem zag_zig {x : Int} (h : Rng x) : zag (zig x) = x := by
  unfold zig zag Rng at *
  rw [wrapu_eq, wrap64_eq]
  repeat' split
  all_goals omega
theorem zig_zag {x : Int} (h : Rng x) : zig (zag x) = x := by
  unfold zig zag Rng at *
  rw [wrapu_eq]
  repeat' split
  all_goals (rw [wrap64_eq]; omega)
theorem tag_any (W : World) (x y : Int) : Calls Tryd.prog 37 #[.int .i64 x, .int .i64 y] W fun e W' => e = .returned (.int .i64 (if x < 1 ∨ 536870911 < x then 24 else if y < 0 ∨ 5 < y then 23 else 0)) ∧ W' = W := by
  go_enter Tryd.func37, Tryd.ntmps37
  go_wp2
  all_goals go_ret
  all_goals refine ⟨?_, rfl⟩
  all_goals congr 2
  all_goals (repeat' split) <;> omega
theorem word_any (W : World) (x : Int) : Calls Tryd.prog 57 #[.int .i64 x] W fun e W' => e = .returned (.bool (decide (0 ≤ x ∧ x ≤ 4294967295))) ∧ W' = W := by
  by_cases h0 : 0 ≤ x
  · go_enter Tryd.func57, Tryd.ntmps57
    go_wp2
    go_ret
    exact ⟨by simp [h0], rfl⟩
  · have h1 : decide (0 ≤ x) = false := by simp [h0]
    have h2 : x < 0 := by omega
    clear h0
    go_enter Tryd.func57, Tryd.ntmps57
    go_wp2
    go_ret
    exact ⟨by simp; omega, rfl⟩

theorem or_low {n k : Nat} (hn : n < 1152921504606846976) (hk : k < 8) : bits BinOp.or IntKind.i64 ((n : Int) * 8) (k : Int) = ((8 * n + k : Nat) : Int) := by
  have h := bits_join .i64 63 (by decide) (fun n h0 h1 => by rw [IntKind.wrap_i64]; omega) 3 ((n : Int) * 8) (k : Int) (by omega) (by omega) (by omega) (by omega) (by omega) (by omega)
  rw [h]
  omega

set_option maxRecDepth 100000 in
set_option maxHeartbeats 2000000 in
theorem putTag_any {W : World} {base : Nat} {v : Value} {bs : List Int} (h : Bytes base W v bs) (hb : base ≤ W.heap.size) (hl : bs.length ≤ 1099511627776) (n k : Nat) (hn : n ≤ 536870911) (hk : k < 8) :
    Calls Tryd.prog 38 #[v, .int .i64 (n : Int), .int .i64 (k : Int)] W fun e W' => ∃ v', e = .returned v' ∧ Bytes base W' v' (bs ++ vint (8 * n + k)) ∧ Ext W v W' v' := by
  have h1 := or_low (n := n) (k := k) (by omega) hk
  have h2 : wrap64 ((n : Int) * 8) = (n : Int) * 8 := by rw [wrap64_eq]; omega
  go_enter Tryd.func38, Tryd.ntmps38
  go_wp2_with fail
  refine (putVarint_any h hb hl _ (8 * n + k) (by rw [wrapu_eq]; omega) (by omega)).mono ?_
  rintro e W' ⟨v', rfl, hB, hE⟩
  go_wp2
  go_ret
  exact ⟨_, rfl, hB, hE⟩
end Go.Proofs.YtfcjkkljmjmhmaaDoor
