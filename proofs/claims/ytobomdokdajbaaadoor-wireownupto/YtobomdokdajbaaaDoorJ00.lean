import Derived.Test.YtobomdokdajbaaaDoorChecked
import Derived.WalkKit
import Derived.WalkSpells
import Derived.StillTactics
import Derived.OwnWalk
import Derived.Below
import Derived.Deep.LoopGhost
import Derived.Deep.AppendLies
import Derived.Maps.AppendAt
import Derived.Deep.RegionHeld3
import Derived.KernelRfl
import Derived.Laws.BitsLemmas
import Derived.Laws.BitsAllLaws
import Derived.Deep.DrawnRows
import Derived.BigQuiet
import Derived.Deep.QuietTactic
import Derived.RangeFuncLeaves
import Derived.Deep.MidRow
import Derived.Laws.Rows

namespace Go.Proofs.YtobomdokdajbaaaDoor
open Go.RowKit

def Hid (p : Prop) : Prop := p
theorem hide {p : Prop} (h : p) : Hid p := h
theorem unhide {p : Prop} (h : Hid p) : p := h

theorem Tryd.infoByte : (Tryd.prog.info? 5).map (fun i => (i.zero, i.size, i.bytes)) = some (some (.int .u8 0), 1, 1) := by kernel_rfl

/-- A slice of the call's own was written on: what else there was lies as it lay. -/
structure Ext (W : World) (v : Value) (W' : World) (v' : Value) : Prop where
  os : W'.os = W.os
  tape : W'.tape = W.tape
  output : W'.output = W.output
  size : W.heap.size ≤ W'.heap.size
  far : ∀ b, b < W.heap.size → some b ≠ v.ownBlock → W'.heap[b]? = W.heap[b]?
  own : v'.ownBlock = v.ownBlock ∨ ∃ g, v'.ownBlock = some g ∧ W.heap.size ≤ g
theorem Ext.refl (W : World) (v : Value) : Ext W v W v := ⟨rfl, rfl, rfl, Nat.le_refl _, fun _ _ _ => rfl, .inl rfl⟩
theorem Ext.trans {A B C : World} {x y z : Value} (h : Ext A x B y) (k : Ext B y C z) : Ext A x C z := by
  refine ⟨k.os.trans h.os, k.tape.trans h.tape, k.output.trans h.output, Nat.le_trans h.size k.size, fun b hb hn => ?_, ?_⟩
  · refine (k.far b (Nat.lt_of_lt_of_le hb h.size) (fun e => ?_)).trans (h.far b hb hn)
    rcases h.own with o | ⟨g, o, hg⟩
    · exact hn (e.trans o)
    · rw [o] at e
      have : b = g := by simpa using e
      omega
  · rcases k.own with o | ⟨g, o, hg⟩
    · rw [o]; exact h.own
    · exact .inr ⟨g, o, Nat.le_trans h.size hg⟩
theorem Ext.below {A B : World} {x y : Value} (h : Ext A x B y) {n : Nat} (hn : n ≤ A.heap.size) (hx : ∀ b, x.ownBlock = some b → n ≤ b) : Below n A B :=
  ⟨h.os, h.tape, h.output, h.size, fun b hb => h.far b (Nat.lt_of_lt_of_le hb hn) (fun e => by have := hx b e.symm; omega)⟩
theorem Ext.of_below {A B : World} (h : Below A.heap.size A B) (v : Value) : Ext A v B v := ⟨h.os, h.tape, h.output, h.size, fun b hb _ => h.block b hb, .inl rfl⟩

theorem Ext.grown {W w' : World} {v v' : Value} {ob : Obj} (h : (W.alloc ob).grownBy w' v.ownBlock) (hat : v'.ownBlock = v.ownBlock ∨ v'.ownBlock = some (W.alloc ob).heap.size) : Ext W v w' v' :=
  ⟨h.os, h.tape, h.output, by have := h.size; rw [World.size_alloc] at this; omega, fun b hb hn => (h.block b (by rw [World.size_alloc]; omega) hn).trans (Below.heap_alloc W ob b hb), hat.imp id fun e => ⟨_, e, by rw [World.size_alloc]; omega⟩⟩
theorem Ext.grown0 {W w' : World} {v v' : Value} (h : W.grownBy w' v.ownBlock) (hat : v'.ownBlock = v.ownBlock ∨ v'.ownBlock = some W.heap.size) : Ext W v w' v' :=
  ⟨h.os, h.tape, h.output, h.size, fun b hb hn => h.block b hb hn, hat.imp id fun e => ⟨_, e, Nat.le_refl _⟩⟩

/-- The bytes of a slice of the call's own. -/
def Bytes (base : Nat) (W : World) (v : Value) (bs : List Int) : Prop := W.ownsRow base 5 1 v bs.length (bs.map fun b => .int .u8 b)
end Go.Proofs.YtobomdokdajbaaaDoor

namespace Go.Proofs.YtobomdokdajbaaaDoor
open Go.RowKit
attribute [local go_sem ↓] Go.wp_at_zero Go.wp_at_succ

/-- A varint's bytes: seven bits a byte, the lowest first. -/
def vint (u : Nat) : List Int := if u ≤ 127 then [(u : Int)] else ((u % 128 + 128 : Nat) : Int) :: vint (u / 128)
termination_by u
decreasing_by omega

theorem or128 (t : Nat) : bits BinOp.or IntKind.u8 ((t : Int) % 256) 128 = ((t % 128 + 128 : Nat) : Int) := by
  have key : ∀ n : Fin 256, bits BinOp.or IntKind.u8 (n.val : Int) 128 = ((n.val % 128 + 128 : Nat) : Int) := by decide +kernel
  have h := key ⟨t % 256, Nat.mod_lt _ (by decide)⟩
  have e : ((t % 256 : Nat) : Int) = (t : Int) % 256 := by omega
  simp only [e] at h
  rw [h]
  omega
theorem vint_len : ∀ (k u : Nat), u < 128 ^ (k + 1) → 1 ≤ (vint u).length ∧ (vint u).length ≤ k + 1
  | 0, u, h => by
    have : u ≤ 127 := by simp at h; omega
    rw [vint, if_pos this]
    simp
  | k + 1, u, h => by
    rw [vint]
    split
    · simp
    · have := vint_len k (u / 128) (by rw [Nat.div_lt_iff_lt_mul (by decide), ← Nat.pow_succ]; exact h)
      simp
      omega
theorem vint_ten {u : Nat} (h : u < 18446744073709551616) : 1 ≤ (vint u).length ∧ (vint u).length ≤ 10 := vint_len 9 u (by omega)

set_option maxRecDepth 100000 in
set_option maxHeartbeats 2000000 in
theorem putVarint_any {W : World} {base : Nat} {v : Value} {bs : List Int} (h : Bytes base W v bs) (hb : base ≤ W.heap.size) (hn : bs.length ≤ 1099511627776) (x : Int) (u : Nat) (hu : IntKind.u64.wrap x = (u : Int)) (hu2 : u < 18446744073709551616) :
    Calls Tryd.prog 31 #[v, .int .i64 x] W fun e W' => ∃ v', e = .returned v' ∧ Bytes base W' v' (bs ++ vint u) ∧ Ext W v W' v' := by
  obtain ⟨i0, hi, hz0, hz1, hz2⟩ := info_parts Tryd.infoByte
  go_enter Tryd.func31, Tryd.ntmps31
  go_wp2
  go_loopg [0, 5] u (fun gk v0 v5 wr => ∃ (cs : List Int) (t : Nat), v5 = .int .u64 (t : Int) ∧ gk = t ∧ t < 18446744073709551616 ∧ cs ++ vint t = vint u ∧ Bytes base wr v0 (bs ++ cs) ∧ Ext W v wr v0)
  case atStart => exact ⟨[], u, rfl, rfl, hu2, rfl, by simpa using h, Ext.refl _ _⟩
  case round =>
    obtain ⟨cs, t, rfl, hgk, ht, hcs, hB, hE⟩ := hrel
    have hlen : cs.length ≤ 10 := by
      have h1 := congrArg List.length hcs
      have h2 := vint_ten hu2
      rw [List.length_append] at h1
      omega
    have hL : (bs ++ cs).length ≤ 1099511627786 := by rw [List.length_append]; omega
    have Hgk := hide hgk
    have Hcs := hide hcs
    clear hgk hcs
    by_cases hlt : 127 < t
    · have hlt' : (127 : Int) < (t : Int) := by omega
      have hor := or128 t
      unfold Bytes at hB
      go_wp2_with (at_builtin; refine wpList_append_own_at _ rfl _ _ 24 rfl base 5 i0 (.int .u8 0) 1 1 Tryd.underlying24 hi hz0 hz1 hz2 rfl (by decide) _ _ _ rfl (hB.alloc _) ⟨wr.heap.size, 0, none⟩ 1 1 [.int .u8 ((t % 128 + 128 : Nat) : Int)] rfl rfl (cell_one_new _ _ _) (by simp [Value.oneCell']) (by unfold maxLen; omega) (by omega) (by have := hE.size; simp; omega) ?_; intro v4 w4 hown4 hgrow4 _ hat4; have Hown := hide hown4; have Hgrow := hide hgrow4; have Hat := hide hat4; clear hown4 hgrow4 hat4)
      go_roundg (t / 128)
      case measure => have := unhide Hgk; omega
      case rel =>
        refine ⟨cs ++ [((t % 128 + 128 : Nat) : Int)], t / 128, by simp, rfl, by omega, ?_, ?_, hE.trans (Ext.grown (unhide Hgrow) (unhide Hat))⟩
        · have hv : vint t = ((t % 128 + 128 : Nat) : Int) :: vint (t / 128) := by rw [vint, if_neg (by omega : ¬ t ≤ 127)]
          rw [← unhide Hcs, hv]
          simp
        · have := unhide Hown
          unfold Bytes
          simpa [List.append_assoc, Nat.add_assoc] using this
    · have hlt' : decide ((127 : Int) < (t : Int)) = false := by simp; omega
      have hm : (t : Int) % 256 = (t : Int) := by omega
      unfold Bytes at hB
      go_wp2_with (at_builtin; refine wpList_append_own_at _ rfl _ _ 24 rfl base 5 i0 (.int .u8 0) 1 1 Tryd.underlying24 hi hz0 hz1 hz2 rfl (by decide) _ _ _ rfl (hB.alloc _) ⟨wr.heap.size, 0, none⟩ 1 1 [.int .u8 (t : Int)] rfl rfl (cell_one_new _ _ _) (by simp [Value.oneCell']) (by unfold maxLen; omega) (by omega) (by have := hE.size; simp; omega) ?_; intro v4 w4 hown4 hgrow4 _ hat4; have Hown := hide hown4; have Hgrow := hide hgrow4; have Hat := hide hat4; clear hown4 hgrow4 hat4)
      go_ret
      refine ⟨_, rfl, ?_, hE.trans (Ext.grown (unhide Hgrow) (unhide Hat))⟩
      have hv : vint t = [(t : Int)] := by rw [vint, if_pos (by omega : t ≤ 127)]
      rw [← unhide Hcs, hv]
      have := unhide Hown
      unfold Bytes
      simpa [List.append_assoc, Nat.add_assoc] using this
end Go.Proofs.YtobomdokdajbaaaDoor

namespace Go.Proofs.YtobomdokdajbaaaDoor
open Go.RowKit
attribute [local go_sem ↓] Go.wp_at_zero Go.wp_at_succ

def Rng (x : Int) : Prop := -9223372036854775808 ≤ x ∧ x ≤ 9223372036854775807
def zig (x : Int) : Int := if x < 0 then -(wrap64 (x * 2)) - 1 else wrap64 (x * 2)
def zag (x : Int) : Int := if x % 2 = 0 then IntKind.u64.wrap x / 2 else -(IntKind.u64.wrap x / 2) - 1

theorem xor_zero (a : Int) (h : Rng a) : bits BinOp.xor IntKind.i64 a 0 = a := by
  unfold Rng at h
  have key : (BitVec.ofInt 64 a ^^^ BitVec.ofInt 64 0).toNat = (a % ((2 ^ 64 : Nat) : Int)).toNat := by
    rw [show BitVec.ofInt 64 0 = 0#64 from rfl, BitVec.xor_zero, BitVec.toNat_ofInt]
  show IntKind.i64.wrap ((BitVec.ofInt 64 a ^^^ BitVec.ofInt 64 0).toNat : Nat) = a
  rw [key, IntKind.wrap_i64]
  omega
theorem xor_ones (a : Int) (h : Rng a) : bits BinOp.xor IntKind.i64 a (-1) = -a - 1 := by
  unfold Rng at h
  have key : (BitVec.ofInt 64 a ^^^ BitVec.ofInt 64 (-1)).toNat = 2 ^ 64 - 1 - (a % ((2 ^ 64 : Nat) : Int)).toNat := by
    rw [show BitVec.ofInt 64 (-1) = BitVec.allOnes 64 from rfl, BitVec.xor_allOnes, BitVec.toNat_not, BitVec.toNat_ofInt]
  show IntKind.i64.wrap ((BitVec.ofInt 64 a ^^^ BitVec.ofInt 64 (-1)).toNat : Nat) = -a - 1
  rw [key, IntKind.wrap_i64]
  omega
theorem and_one (n : Int) : bits BinOp.and IntKind.i64 n 1 = n % 2 := by
  have h1 : (BitVec.ofInt 64 1).toNat = 2 ^ 1 - 1 := by decide
  have key : (BitVec.ofInt 64 n &&& BitVec.ofInt 64 1).toNat = (n % ((2 ^ 64 : Nat) : Int)).toNat % 2 ^ 1 := by
    rw [BitVec.toNat_and, BitVec.toNat_ofInt, h1, Nat.and_two_pow_sub_one_eq_mod]
  show IntKind.i64.wrap ((BitVec.ofInt 64 n &&& BitVec.ofInt 64 1).toNat : Nat) = n % 2
  rw [key, IntKind.wrap_i64]
  omega
theorem wrap64_eq (n : Int) : wrap64 n = (n + 9223372036854775808) % 18446744073709551616 - 9223372036854775808 := by
  first | rfl | (unfold wrap64; omega) | (simp [wrap64]; omega)
theorem wrapu_eq (n : Int) : IntKind.u64.wrap n = n % 18446744073709551616 := by simp [IntKind.wrap, IntKind.bits, IntKind.signed]

theorem zig_any (W : World) (x : Int) (hx : Rng x) : Calls Tryd.prog 28 #[.int .i64 x] W fun e W' => e = .returned (.int .i64 (zig x)) ∧ W' = W := by
  have h : bits BinOp.xor IntKind.i64 (wrap64 (x * 2)) (x / 9223372036854775808) = zig x := by
    have hr : Rng (wrap64 (x * 2)) := by rw [wrap64_eq]; unfold Rng; omega
    unfold Rng at hx
    unfold zig
    by_cases hn : x < 0
    · rw [if_pos hn, show x / 9223372036854775808 = -1 by omega, xor_ones _ hr]
    · rw [if_neg hn, show x / 9223372036854775808 = 0 by omega, xor_zero _ hr]
  go_enter Tryd.func28, Tryd.ntmps28
  go_wp2
  go_ret
  exact ⟨rfl, rfl⟩
theorem zag_any (W : World) (x : Int) : Calls Tryd.prog 29 #[.int .i64 x] W fun e W' => e = .returned (.int .i64 (zag x)) ∧ W' = W := by
  have h1 := and_one x
  have h : bits BinOp.xor IntKind.i64 (wrap64 (IntKind.u64.wrap x / 2)) (-(x % 2)) = zag x := by
    have hw : wrap64 (IntKind.u64.wrap x / 2) = IntKind.u64.wrap x / 2 := by rw [wrap64_eq, wrapu_eq]; omega
    have hr : Rng (IntKind.u64.wrap x / 2) := by rw [wrapu_eq]; unfold Rng; omega
    unfold zag
    rw [hw]
    by_cases hn : x % 2 = 0
    · rw [if_pos hn, show -(x % 2) = 0 by omega, xor_zero _ hr]
    · rw [if_neg hn, show -(x % 2) = -1 by omega, xor_ones _ hr]
  go_enter Tryd.func29, Tryd.ntmps29
  go_wp2
  go_ret
  exact ⟨rfl, rfl⟩
theorem zig_rng (x : Int) : Rng (zig x) := by
  unfold zig Rng
  rw [wrap64_eq]
  split <;> omega
theorem zag_rng (x : Int) : Rng (zag x) := by
  unfold zag Rng
  rw [wrapu_eq]
  split <;> omega
theorem zag_zig {x : Int} (h : Rng x) : zag (zig x) = x := by
  unfold zig zag Rng at *
  rw [wrapu_eq, wrap64_eq]
  repeat' split
  all_goals omega
theorem zig_zag {x : Int} (h : Rng x) : zig (zag x) = x := by
  unfold zig zag Rng at *
  rw [wrapu_eq]
  repeat' split
  all_goals (rw [wrap64_eq]; omega)
theorem tag_any (W : World) (x y : Int) : Calls Tryd.prog 34 #[.int .i64 x, .int .i64 y] W fun e W' => e = .returned (.int .i64 (if x < 1 ∨ 536870911 < x then 24 else if y < 0 ∨ 5 < y then 23 else 0)) ∧ W' = W := by
  go_enter Tryd.func34, Tryd.ntmps34
  go_wp2
  all_goals go_ret
  all_goals refine ⟨?_, rfl⟩
  all_goals congr 2
  all_goals (repeat' split) <;> omega
theorem word_any (W : World) (x : Int) : Calls Tryd.prog 32 #[.int .i64 x] W fun e W' => e = .returned (.bool (decide (0 ≤ x ∧ x ≤ 4294967295))) ∧ W' = W := by
  by_cases h0 : 0 ≤ x
  · go_enter Tryd.func32, Tryd.ntmps32
    go_wp2
    go_ret
    exact ⟨by simp [h0], rfl⟩
  · have h1 : decide (0 ≤ x) = false := by simp [h0]
    have h2 : x < 0 := by omega
    clear h0
    go_enter Tryd.func32, Tryd.ntmps32
    go_wp2
    go_ret
    exact ⟨by simp; omega, rfl⟩

theorem or_low {n k : Nat} (hn : n < 1152921504606846976) (hk : k < 8) : bits BinOp.or IntKind.i64 ((n : Int) * 8) (k : Int) = ((8 * n + k : Nat) : Int) := by
  have h := bits_join .i64 63 (by decide) (fun n h0 h1 => by rw [IntKind.wrap_i64]; omega) 3 ((n : Int) * 8) (k : Int) (by omega) (by omega) (by omega) (by omega) (by omega) (by omega)
  rw [h]
  omega

set_option maxRecDepth 100000 in
set_option maxHeartbeats 2000000 in
theorem putTag_any {W : World} {base : Nat} {v : Value} {bs : List Int} (h : Bytes base W v bs) (hb : base ≤ W.heap.size) (hl : bs.length ≤ 1099511627776) (n k : Nat) (hn : n ≤ 536870911) (hk : k < 8) :
    Calls Tryd.prog 35 #[v, .int .i64 (n : Int), .int .i64 (k : Int)] W fun e W' => ∃ v', e = .returned v' ∧ Bytes base W' v' (bs ++ vint (8 * n + k)) ∧ Ext W v W' v' := by
  have h1 := or_low (n := n) (k := k) (by omega) hk
  have h2 : wrap64 ((n : Int) * 8) = (n : Int) * 8 := by rw [wrap64_eq]; omega
  go_enter Tryd.func35, Tryd.ntmps35
  go_wp2_with fail
  refine (putVarint_any h hb hl _ (8 * n + k) (by rw [wrapu_eq]; omega) (by omega)).mono ?_
  rintro e W' ⟨v', rfl, hB, hE⟩
  go_wp2
  go_ret
  exact ⟨_, rfl, hB, hE⟩
end Go.Proofs.YtobomdokdajbaaaDoor

namespace Go.Proofs.YtobomdokdajbaaaDoor
open Go.RowKit
attribute [local go_sem ↓] Go.wp_at_zero Go.wp_at_succ

/-- The lowest bytes of a number. -/
def lows (x : Int) (n : Nat) : List Int := (List.range n).map fun i => x / 2 ^ (8 * i) % 256

set_option maxRecDepth 100000 in
set_option maxHeartbeats 2000000 in
theorem putFixed_any {W : World} {base : Nat} {v : Value} {bs : List Int} (h : Bytes base W v bs) (hb : base ≤ W.heap.size) (hl : bs.length ≤ 1099511627776) (x : Int) (n : Nat) (hn : n ≤ 8) :
    Calls Tryd.prog 33 #[v, .int .i64 x, .int .i64 (n : Int)] W fun e W' => ∃ v', e = .returned v' ∧ Bytes base W' v' (bs ++ lows x n) ∧ Ext W v W' v' := by
  obtain ⟨i0, hi, hz0, hz1, hz2⟩ := info_parts Tryd.infoByte
  go_enter Tryd.func33, Tryd.ntmps33
  go_wp2
  go_loopg [0, 9] n (fun gk v0 v9 wr => ∃ (i : Nat), v9 = .int .i64 (i : Int) ∧ gk = n - i ∧ i ≤ n ∧ Bytes base wr v0 (bs ++ lows x i) ∧ Ext W v wr v0)
  case atStart => exact ⟨0, rfl, rfl, Nat.zero_le _, by simpa [lows] using h, Ext.refl _ _⟩
  case round =>
    obtain ⟨i, rfl, hgk, hin, hB, hE⟩ := hrel
    have hL : (bs ++ lows x i).length ≤ 1099511627786 := by rw [List.length_append]; simp [lows]; omega
    have Hgk := hide hgk
    clear hgk
    by_cases hlt : i < n
    · have hi1 : (i : Int) < (n : Int) := by omega
      have hi0 : (0 : Int) ≤ (i : Int) := Int.natCast_nonneg _
      unfold Bytes at hB
      go_wp2_with (at_builtin; refine wpList_append_own_at _ rfl _ _ 24 rfl base 5 i0 (.int .u8 0) 1 1 Tryd.underlying24 hi hz0 hz1 hz2 rfl (by decide) _ _ _ rfl (hB.alloc _) ⟨wr.heap.size, 0, none⟩ 1 1 [.int .u8 (x / 2 ^ (8 * i) % 256)] rfl rfl (cell_one_new _ _ _) (by simp [Value.oneCell']) (by unfold maxLen; omega) (by omega) (by have := hE.size; simp; omega) ?_; intro v4 w4 hown4 hgrow4 _ hat4; have Hown := hide hown4; have Hgrow := hide hgrow4; have Hat := hide hat4; clear hown4 hgrow4 hat4)
      go_roundg (n - (i + 1))
      case measure => have := unhide Hgk; omega
      case rel =>
        refine ⟨i + 1, by go_num, rfl, by omega, ?_, hE.trans (Ext.grown (unhide Hgrow) (unhide Hat))⟩
        have := unhide Hown
        have e : lows x (i + 1) = lows x i ++ [x / 2 ^ (8 * i) % 256] := by simp [lows, List.range_succ]
        unfold Bytes
        rw [e]
        simpa [List.append_assoc, Nat.add_assoc] using this
    · obtain rfl : i = n := by omega
      go_wp2
      go_ret
      exact ⟨_, rfl, hB, hE⟩

theorem bytes_nil (base : Nat) (W : World) : Bytes base W (.slice none 0 0) [] := ⟨rfl, .inl ⟨rfl, rfl⟩⟩
theorem Ext.fresh {A B : World} {y : Value} (h : Ext A (.slice none 0 0) B y) : Below A.heap.size A B := h.below (Nat.le_refl _) (fun b e => by cases e)

set_option maxHeartbeats 2000000 in
theorem varint_any (W : World) (x : Int) (u : Nat) (hu : IntKind.u64.wrap x = (u : Int)) (hu2 : u < 18446744073709551616) :
    Calls Tryd.prog 7 #[.int .i64 x] W fun e W' => ∃ v', e = .returned v' ∧ Bytes W.heap.size W' v' (vint u) ∧ Below W.heap.size W W' := by
  go_enter Tryd.func7, Tryd.ntmps7
  go_wp2_with fail
  refine (putVarint_any (bytes_nil W.heap.size W) (Nat.le_refl _) (by simp) x u hu hu2).mono ?_
  rintro e W' ⟨v', rfl, hB, hE⟩
  go_wp2
  go_ret
  exact ⟨_, rfl, by simpa using hB, hE.fresh⟩

set_option maxHeartbeats 2000000 in
theorem fixed_any (W : World) (x : Int) (n : Nat) (hn : n = 4 ∧ 0 ≤ x ∧ x ≤ 4294967295 ∨ n = 8) :
    Calls Tryd.prog 8 #[.int .i64 x, .int .i64 (n : Int)] W fun e W' => ∃ v', e = .returned (.tuple #[v', .int .i64 0]) ∧ Bytes W.heap.size W' v' (lows x n) ∧ Below W.heap.size W W' := by
  rcases hn with ⟨rfl, h1, h2⟩ | rfl
  · go_enter Tryd.func8, Tryd.ntmps8
    go_wp2_with fail
    refine (word_any W x).mono ?_
    rintro e w' ⟨rfl, he⟩
    obtain rfl : W = w' := he.symm
    go_wp2_with fail
    refine (putFixed_any (bytes_nil W.heap.size W) (Nat.le_refl _) (by simp) x 4 (by decide)).mono ?_
    rintro e W' ⟨v', rfl, hB, hE⟩
    go_wp2
    go_ret2
    exact ⟨_, rfl, by simpa using hB, hE.fresh⟩
  · go_enter Tryd.func8, Tryd.ntmps8
    go_wp2_with fail
    refine (putFixed_any (bytes_nil W.heap.size W) (Nat.le_refl _) (by simp) x 8 (by decide)).mono ?_
    rintro e W' ⟨v', rfl, hB, hE⟩
    go_wp2
    go_ret2
    exact ⟨_, rfl, by simpa using hB, hE.fresh⟩

set_option maxHeartbeats 2000000 in
theorem tagW_any (W : World) (n k : Nat) (hn : 1 ≤ n ∧ n ≤ 536870911) (hk : k ≤ 5) :
    Calls Tryd.prog 9 #[.int .i64 (n : Int), .int .i64 (k : Int)] W fun e W' => ∃ v', e = .returned (.tuple #[v', .int .i64 0]) ∧ Bytes W.heap.size W' v' (vint (8 * n + k)) ∧ Below W.heap.size W W' := by
  go_enter Tryd.func9, Tryd.ntmps9
  go_wp2_with fail
  refine (tag_any W n k).mono ?_
  rintro e w' ⟨rfl, he⟩
  obtain rfl : W = w' := he.symm
  rw [if_neg (by omega), if_neg (by omega)]
  go_wp2_with fail
  refine (putTag_any (bytes_nil W.heap.size W) (Nat.le_refl _) (by simp) n k hn.2 (by omega)).mono ?_
  rintro e W' ⟨v', rfl, hB, hE⟩
  go_wp2
  go_ret2
  exact ⟨_, rfl, by simpa using hB, hE.fresh⟩

/-- Bytes that can be read. -/
def HasB (W : World) (v : Value) (bs : List Int) : Prop := ∃ a c, v = .slice a bs.length c ∧ bs.length ≤ maxLen ∧ (0 < bs.length → ∃ g off, a = some ⟨g, off, none⟩ ∧ g < W.heap.size ∧ ∀ i b, bs[i]? = some b → W.cell? ⟨g, off + i, none⟩ = some (.int .u8 b))
theorem Bytes.has {base : Nat} {W : World} {v : Value} {bs : List Int} (h : Bytes base W v bs) : HasB W v bs := by
  unfold Bytes at h
  have h' := h
  obtain ⟨_, ⟨rfl, h0⟩ | ⟨g, c, cur, rfl, _, _, hc1, hc2, _⟩⟩ := h
  · exact ⟨none, 0, by rw [h0], by rw [h0]; exact Nat.zero_le _, fun hp => by omega⟩
  · refine ⟨some ⟨g, 0, none⟩, c, rfl, by omega, fun _ => ⟨g, 0, rfl, (h'.lt g rfl).2, fun i b hb => ?_⟩⟩
    have := h'.cells (g := g) rfl i (.int .u8 b) (by simp [hb])
    rwa [Go.WideShapes.add_plain] at this
theorem HasB.up {W w : World} {v : Value} {bs : List Int} (h : HasB W v bs) (hb : Below W.heap.size W w) : HasB w v bs := by
  obtain ⟨a, c, rfl, hm, h3⟩ := h
  refine ⟨a, c, rfl, hm, fun hp => ?_⟩
  obtain ⟨g, off, rfl, h4, h5⟩ := h3 hp
  exact ⟨g, off, rfl, Nat.lt_of_lt_of_le h4 hb.size, fun i k hk => (hb.cell (p := ⟨g, off + i, none⟩) h4).trans (h5 i k hk)⟩

set_option maxRecDepth 100000 in
set_option maxHeartbeats 2000000 in
theorem same_any {W : World} {v u : Value} {l : List Int} (h : HasB W v l) (h' : HasB W u l) :
    Calls Tryd.prog 27 #[v, u] W fun o W' => o = .returned (.bool true) ∧ Below W.heap.size W W' := by
  obtain ⟨a, c, rfl, hm, h3⟩ := h
  obtain ⟨a', c', rfl, _, h3'⟩ := h'
  unfold maxLen at hm
  have H3 := hide h3
  have H3' := hide h3'
  clear h3 h3'
  have d0 : ((l.length : Int) != (l.length : Int)) = false := by simp
  go_enter Tryd.func27, Tryd.ntmps27
  go_wp2
  go_loopg [5] l.length (fun gk v5 wr => ∃ (i : Nat), v5 = .int .i64 (i : Int) ∧ gk = l.length - i ∧ i ≤ l.length ∧ Below W.heap.size W wr)
  case atStart => exact ⟨0, rfl, rfl, Nat.zero_le _, Below.refl _ _⟩
  case round =>
    obtain ⟨i, rfl, hgk, hin, hB⟩ := hrel
    have Hgk := hide hgk
    clear hgk
    by_cases hlt : i < l.length
    · obtain ⟨g, off, rfl, hg, hc⟩ := unhide H3 (by omega)
      obtain ⟨g', off', rfl, hg', hc'⟩ := unhide H3' (by omega)
      obtain ⟨x, hx⟩ : ∃ x, l[i]? = some x := ⟨_, List.getElem?_eq_getElem hlt⟩
      have c0 := (hB.cell (p := ⟨g, off + i, none⟩) hg).trans (hc i x hx)
      have c1 := (hB.cell (p := ⟨g', off' + i, none⟩) hg').trans (hc' i x hx)
      have hi0 : (0 : Int) ≤ (i : Int) := Int.natCast_nonneg _
      have hi1 : (i : Int) < (l.length : Int) := by omega
      have e1 : (x != x) = false := by simp
      clear hc hc' hx
      go_wp2_with fail
      go_quiet (fail)
      go_wp2
      go_roundg (l.length - (i + 1))
      case measure => have := unhide Hgk; omega
      case rel => exact ⟨i + 1, by go_num, rfl, by omega, ⟨hB.os, hB.tape, hB.output, hB.size, hB.block⟩⟩
    · obtain rfl : i = l.length := by omega
      go_wp2
      go_ret
      exact ⟨rfl, hB⟩
end Go.Proofs.YtobomdokdajbaaaDoor

namespace Go.Proofs.YtobomdokdajbaaaDoor
open Go.RowKit
attribute [local go_sem ↓] Go.wp_at_zero Go.wp_at_succ

/-- A block that is written from a place on. -/
def written : Array Value → Nat → List Value → Array Value
  | cs, _, [] => cs
  | cs, o, v :: vs => written (cs.setIfInBounds o v) (o + 1) vs
theorem heap_setCells {t : TypeId} {g : Nat} : ∀ (vs : List Value) (o : Nat) (w : World) (cs : Array Value), w.heap[g]? = some (.cells cs t (0, 0)) → (w.setCells g o vs).heap[g]? = some (.cells (written cs o vs) t (0, 0)) ∧ (∀ b, b ≠ g → (w.setCells g o vs).heap[b]? = w.heap[b]?)
  | [], _, _, _, h => ⟨h, fun _ _ => rfl⟩
  | v :: vs, o, w, cs, h => by
    obtain ⟨h1, h2⟩ := heap_setCells vs (o + 1) (w.setCell ⟨g, o, none⟩ v) (cs.setIfInBounds o v) (heap_setCell_same w g o cs t v h)
    exact ⟨h1, fun b hb => (h2 b hb).trans (heap_setCell_other w _ b v hb)⟩

theorem below_setCells {n g : Nat} {A : World} (hg : n ≤ g) : ∀ (vs : List Value) (o : Nat) (w : World), Below n A w → Below n A (w.setCells g o vs)
  | [], _, _, h => h
  | v :: vs, o, _, h => below_setCells hg vs (o + 1) _ (h.setCell (p := ⟨g, o, none⟩) hg v)

/-- The table of what is done, by wire kind. -/
def actCells : List Value := [.func (.func 71) #[] #[], .func (.func 72) #[] #[], .func (.func 73) #[] #[], .func (.func 74) #[] #[], .func (.func 76) #[] #[], .func (.func 77) #[] #[], .func (.func 78) #[] #[], .func (.func 79) #[] #[], .func (.func 80) #[] #[], .func (.func 81) #[] #[], .func (.func 82) #[] #[], .func (.func 83) #[] #[], .func (.func 84) #[] #[], .func (.func 85) #[] #[], .func (.func 86) #[] #[], .func (.func 87) #[] #[], .nilFunc, .nilFunc, .nilFunc, .func (.func 88) #[] #[], .func (.func 89) #[] #[], .func (.func 90) #[] #[], .func (.func 91) #[] #[], .func (.func 92) #[] #[]]
theorem Tryd.infoActs : (Tryd.prog.info? 113).map (·.size) = some actCells.toArray.size := by kernel_rfl

theorem actOne : actCells.toArray.all (·.oneCell') = true := by decide +kernel

set_option maxRecDepth 100000 in
set_option maxHeartbeats 2000000 in
theorem acts_any (W : World) : Calls Tryd.prog 63 #[] W fun e W' => e = .returned (.agg actCells.toArray) ∧ Below W.heap.size W W' := by
  have hth : (W.alloc (.cells #[.nilFunc, .nilFunc, .nilFunc, .nilFunc, .nilFunc, .nilFunc, .nilFunc, .nilFunc, .nilFunc, .nilFunc, .nilFunc, .nilFunc, .nilFunc, .nilFunc, .nilFunc, .nilFunc, .nilFunc, .nilFunc, .nilFunc, .nilFunc, .nilFunc, .nilFunc, .nilFunc, .nilFunc] 113)).there W.heap.size 0 actCells.toArray.size := by
    intro j hj
    have hb := heap_alloc_new W (.cells #[.nilFunc, .nilFunc, .nilFunc, .nilFunc, .nilFunc, .nilFunc, .nilFunc, .nilFunc, .nilFunc, .nilFunc, .nilFunc, .nilFunc, .nilFunc, .nilFunc, .nilFunc, .nilFunc, .nilFunc, .nilFunc, .nilFunc, .nilFunc, .nilFunc, .nilFunc, .nilFunc, .nilFunc] 113)
    refine ⟨?_, frozen_of_row _ _ _ _ _ hb⟩
    rw [Nat.zero_add, cell_of_row _ _ _ _ _ _ hb]
    have hj' : j < 24 := hj
    simp
    omega
  go_enter Tryd.func63, Tryd.ntmps63
  go_wp2_with (refine wpList_store_mid rfl 113 (.tmp 0) (.tmp 7) rfl W.heap.size 0 actCells.toArray rfl rfl hth Tryd.infoActs actOne ?_)
  obtain ⟨hw1, hw2⟩ := heap_setCells (t := 113) (g := W.heap.size) actCells 0 (W.alloc (.cells #[.nilFunc, .nilFunc, .nilFunc, .nilFunc, .nilFunc, .nilFunc, .nilFunc, .nilFunc, .nilFunc, .nilFunc, .nilFunc, .nilFunc, .nilFunc, .nilFunc, .nilFunc, .nilFunc, .nilFunc, .nilFunc, .nilFunc, .nilFunc, .nilFunc, .nilFunc, .nilFunc, .nilFunc] 113)) #[.nilFunc, .nilFunc, .nilFunc, .nilFunc, .nilFunc, .nilFunc, .nilFunc, .nilFunc, .nilFunc, .nilFunc, .nilFunc, .nilFunc, .nilFunc, .nilFunc, .nilFunc, .nilFunc, .nilFunc, .nilFunc, .nilFunc, .nilFunc, .nilFunc, .nilFunc, .nilFunc, .nilFunc] (heap_alloc_new W _)
  have hw3 : written #[.nilFunc, .nilFunc, .nilFunc, .nilFunc, .nilFunc, .nilFunc, .nilFunc, .nilFunc, .nilFunc, .nilFunc, .nilFunc, .nilFunc, .nilFunc, .nilFunc, .nilFunc, .nilFunc, .nilFunc, .nilFunc, .nilFunc, .nilFunc, .nilFunc, .nilFunc, .nilFunc, .nilFunc] 0 actCells = actCells.toArray := by rfl
  rw [hw3] at hw1
  have hB : Below W.heap.size W ((W.alloc (.cells #[.nilFunc, .nilFunc, .nilFunc, .nilFunc, .nilFunc, .nilFunc, .nilFunc, .nilFunc, .nilFunc, .nilFunc, .nilFunc, .nilFunc, .nilFunc, .nilFunc, .nilFunc, .nilFunc, .nilFunc, .nilFunc, .nilFunc, .nilFunc, .nilFunc, .nilFunc, .nilFunc, .nilFunc] 113)).setCells W.heap.size 0 actCells) := by
    exact below_setCells (Nat.le_refl _) _ _ _ ((Below.refl _ W).alloc (Nat.le_refl _) _)
  refine bodyPost_ret (v := .agg actCells.toArray) (results_cell_row rfl _ _ W.heap.size 113 actCells.toArray (0, 0) _ rfl hw1 Tryd.underlying113 rfl Tryd.infoActs) rfl ⟨rfl, hB⟩
end Go.Proofs.YtobomdokdajbaaaDoor

namespace Go.Proofs.YtobomdokdajbaaaDoor
open Go.RowKit
attribute [local go_sem ↓] Go.wp_at_zero Go.wp_at_succ

/-- A record without others in it. -/
structure Rec where
  number : Nat
  kind : Nat
  num : Int
  text : ByteArray
  ia : Option Addr
  ic : Nat
def Rec.val (r : Rec) : Value := .agg #[.int .i64 (r.number : Int), .int .i64 (r.kind : Int), .int .i64 r.num, .string r.text, .slice r.ia 0 r.ic]
/-- Records that can be read. -/
def HasR (W : World) (v : Value) (rs : List Rec) : Prop := ∃ a c, v = .slice a rs.length c ∧ rs.length ≤ 1048576 ∧ (0 < rs.length → ∃ g off, a = some ⟨g, off, none⟩ ∧ g < W.heap.size ∧ ∀ i r, rs[i]? = some r →
  W.cell? ⟨g, off + i * 5, none⟩ = some (.int .i64 (r.number : Int)) ∧ W.cell? ⟨g, off + i * 5 + 1, none⟩ = some (.int .i64 (r.kind : Int)) ∧ W.cell? ⟨g, off + i * 5 + 2, none⟩ = some (.int .i64 r.num) ∧ W.cell? ⟨g, off + i * 5 + 3, none⟩ = some (.string r.text) ∧ W.cell? ⟨g, off + i * 5 + 4, none⟩ = some (.slice r.ia 0 r.ic))
theorem HasR.up {W w : World} {v : Value} {rs : List Rec} (h : HasR W v rs) (hb : Below W.heap.size W w) : HasR w v rs := by
  obtain ⟨a, c, rfl, hm, h3⟩ := h
  refine ⟨a, c, rfl, hm, fun hp => ?_⟩
  obtain ⟨g, off, rfl, h4, h5⟩ := h3 hp
  refine ⟨g, off, rfl, Nat.lt_of_lt_of_le h4 hb.size, fun i k hk => ?_⟩
  obtain ⟨q0, q1, q2, q3, q4⟩ := h5 i k hk
  exact ⟨(hb.cell (p := ⟨g, off + i * 5, none⟩) h4).trans q0, (hb.cell (p := ⟨g, off + i * 5 + 1, none⟩) h4).trans q1, (hb.cell (p := ⟨g, off + i * 5 + 2, none⟩) h4).trans q2, (hb.cell (p := ⟨g, off + i * 5 + 3, none⟩) h4).trans q3, (hb.cell (p := ⟨g, off + i * 5 + 4, none⟩) h4).trans q4⟩

set_option maxRecDepth 100000 in
set_option maxHeartbeats 2000000 in
theorem tooDeep_flat {W : World} {v : Value} {rs : List Rec} (h : HasR W v rs) (hk : ∀ r ∈ rs, r.kind ≠ 3) (d : Int) :
    Calls Tryd.prog 37 #[v, .int .i64 d] W fun e W' => e = .returned (.bool false) ∧ Below W.heap.size W W' := by
  obtain ⟨a, c, rfl, hm, h3⟩ := h
  have H3 := hide h3
  clear h3
  go_enter Tryd.func37, Tryd.ntmps37
  go_wp2
  go_loopg [9] rs.length (fun gk v9 wr => ∃ (i : Nat), v9 = .int .i64 (i : Int) ∧ gk = rs.length - i ∧ i ≤ rs.length ∧ Below W.heap.size W wr)
  case atStart => exact ⟨0, rfl, rfl, Nat.zero_le _, Below.refl _ _⟩
  case round =>
    obtain ⟨i, rfl, hgk, hin, hB⟩ := hrel
    have Hgk := hide hgk
    clear hgk
    by_cases hlt : i < rs.length
    · obtain ⟨g, off, rfl, hg, hc⟩ := unhide H3 (by omega)
      obtain ⟨r, hr⟩ : ∃ r, rs[i]? = some r := ⟨_, List.getElem?_eq_getElem hlt⟩
      obtain ⟨q0, q1, q2, q3, q4⟩ := hc i r hr
      have d0 := (hB.cell (p := ⟨g, off + i * 5, none⟩) hg).trans q0
      have d1 := (hB.cell (p := ⟨g, off + i * 5 + 1, none⟩) hg).trans q1
      have d2 := (hB.cell (p := ⟨g, off + i * 5 + 2, none⟩) hg).trans q2
      have d3 := (hB.cell (p := ⟨g, off + i * 5 + 3, none⟩) hg).trans q3
      have d4 := (hB.cell (p := ⟨g, off + i * 5 + 4, none⟩) hg).trans q4
      have hi0 : (0 : Int) ≤ (i : Int) := Int.natCast_nonneg _
      have hi1 : (i : Int) < (rs.length : Int) := by omega
      have hk3 : ((r.kind : Int) != 3) = true := by have := hk r (List.mem_of_getElem? hr); simp; omega
      clear q0 q1 q2 q3 q4 hc hr hk
      go_wp2
      go_roundg (rs.length - (i + 1))
      case measure => have := unhide Hgk; omega
      case rel => exact ⟨i + 1, by go_num, rfl, by omega, hB.alloc hB.size _⟩
    · obtain rfl : i = rs.length := by omega
      go_wp2
      go_ret
      exact ⟨rfl, hB⟩

set_option maxRecDepth 100000 in
set_option maxHeartbeats 4000000 in
theorem tooMany_flat {W : World} {v : Value} {rs : List Rec} (h : HasR W v rs) :
    Calls Tryd.prog 36 #[v] W fun e W' => e = .returned (.bool false) ∧ Below W.heap.size W W' := by
  have HR := hide h
  obtain ⟨a, c, rfl, hm, h3⟩ := h
  have hn := heap_alloc_new W (.cells #[.slice a rs.length c] 33)
  have hB0 : Below W.heap.size W (W.alloc (.cells #[.slice a rs.length c] 33)) := (Below.refl _ _).alloc (Nat.le_refl _) _
  have hc0 : (W.alloc (.cells #[.slice a rs.length c] 33)).cell? ⟨W.heap.size, 0, none⟩ = some (.slice a rs.length c) := by
    unfold World.cell?
    rw [hn]
    rfl
  have H3 := hide h3
  clear h3 hn
  go_enter Tryd.func36, Tryd.ntmps36
  go_wp2
  generalize W.alloc (.cells #[.slice a rs.length c] 33) = V at *
  go_loopg [3, 4] 1 (fun gk v3 v4 wr => Below W.heap.size W wr ∧ (gk = 1 ∧ v3 = .int .i64 0 ∧ v4 = .slice (some ⟨W.heap.size, 0, none⟩) 1 1 ∧ wr.cell? ⟨W.heap.size, 0, none⟩ = some (.slice a rs.length c) ∨ gk = 0 ∧ v4 = .slice (some ⟨W.heap.size, 0, none⟩) 0 1))
  case atStart => exact ⟨hB0, .inl ⟨rfl, rfl, rfl, hc0⟩⟩
  case round =>
    obtain ⟨hB, ⟨hgk, rfl, rfl, hc⟩ | ⟨hgk, rfl⟩⟩ := hrel
    · have Hgk := hide hgk
      clear hgk
      have hm' : decide ((1048576 : Int) < (rs.length : Int)) = false := by simp; omega
      go_wp2
      clear hc hB0 hc0
      go_loopg [4, 32] rs.length (fun gk v4 v32 wx => ∃ (i : Nat), v4 = .slice (some ⟨W.heap.size, 0, none⟩) 0 1 ∧ v32 = .int .i64 (i : Int) ∧ gk = rs.length - i ∧ i ≤ rs.length ∧ Below W.heap.size W wx)
      case atStart => exact ⟨0, rfl, rfl, rfl, Nat.zero_le _, hB⟩
      case round =>
        clear hB
        obtain ⟨i, rfl, rfl, hgk, hin, hB⟩ := hrel
        have Hgk2 := hide hgk
        clear hgk
        by_cases hlt : i < rs.length
        · skip
          obtain ⟨g, off, rfl, hg, hc⟩ := unhide H3 (by omega)
          obtain ⟨r, hr⟩ : ∃ r, rs[i]? = some r := ⟨_, List.getElem?_eq_getElem hlt⟩
          obtain ⟨q0, q1, q2, q3, q4⟩ := hc i r hr
          have d0 := (hB.cell (p := ⟨g, off + i * 5, none⟩) hg).trans q0
          have d1 := (hB.cell (p := ⟨g, off + i * 5 + 1, none⟩) hg).trans q1
          have d2 := (hB.cell (p := ⟨g, off + i * 5 + 2, none⟩) hg).trans q2
          have d3 := (hB.cell (p := ⟨g, off + i * 5 + 3, none⟩) hg).trans q3
          have d4 := (hB.cell (p := ⟨g, off + i * 5 + 4, none⟩) hg).trans q4
          have hi0 : (0 : Int) ≤ (i : Int) := Int.natCast_nonneg _
          have hi1 : (i : Int) < (rs.length : Int) := by omega
          clear q0 q1 q2 q3 q4 hc hr
          go_wp2
          go_roundg (rs.length - (i + 1))
          case measure => have := unhide Hgk2; omega
          case rel => exact ⟨i + 1, rfl, by go_num, rfl, by omega, hB.alloc hB.size _⟩
        · obtain rfl : i = rs.length := by omega
          go_wp2
          go_roundg 0
          case measure => have := unhide Hgk; omega
          case rel => exact ⟨hB, .inr ⟨rfl, rfl⟩⟩
    · go_wp2
      go_ret
      exact ⟨rfl, hB⟩
end Go.Proofs.YtobomdokdajbaaaDoor
