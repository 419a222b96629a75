import Derived.Test.YthodjkeppobcmaaDoorDB
import Derived.Laws.Externs
import Derived.Laws.StandIn
import Derived.Lib.ConvBytes
import Derived.Lib.AtoiErrMem

namespace Go.Proofs.YthodjkeppobcmaaDoor
open Go.RowKit

/-- A text's bytes. -/
def strN (s : ByteArray) : List Nat := s.data.toList.map UInt8.toNat
theorem strN_len (s : ByteArray) : (strN s).length = s.size := by simp [strN]
theorem strN_byt (s : ByteArray) : Byt (strN s) := by
  intro x hx
  obtain ⟨b, _, rfl⟩ := List.mem_map.1 hx
  exact b.toNat_lt
end Go.Proofs.YthodjkeppobcmaaDoor

namespace Go.Proofs.YthodjkeppobcmaaDoor
open Go.RowKit
attribute [local go_sem ↓] Go.wp_at_zero Go.wp_at_succ

theorem strN_get (s : ByteArray) (n x : Nat) (h : (strN s)[n]? = some x) (hn : n < s.size) : (s[n]'hn).toNat = x := by
  unfold strN at h
  rw [List.getElem?_map] at h
  obtain ⟨b, hb, rfl⟩ := Option.map_eq_some_iff.1 h
  have hd : n < s.data.toList.length := by simpa using hn
  rw [List.getElem?_eq_getElem hd] at hb
  rw [← Option.some.inj hb]
  rfl
theorem strN_ex (s : ByteArray) (n : Nat) (hn : n < s.size) : ∃ x, (strN s)[n]? = some x ∧ x < 256 ∧ (s[n]'hn).toNat = x := by
  have hl : n < (strN s).length := by rw [strN_len]; exact hn
  have h := List.getElem?_eq_getElem hl
  exact ⟨_, h, (strN_byt s).at h, strN_get s n _ h hn⟩

theorem leF {c : Nat} {k : Int} (h : k < (c : Int)) : decide ((c : Int) ≤ k) = false := by simp; omega
theorem leT {c : Nat} {k : Int} (h : (c : Int) ≤ k) : decide ((c : Int) ≤ k) = true := by simp; omega
theorem geF {c : Nat} {k : Int} (h : (c : Int) < k) : decide (k ≤ (c : Int)) = false := by simp; omega
theorem geT {c : Nat} {k : Int} (h : k ≤ (c : Int)) : decide (k ≤ (c : Int)) = true := by simp; omega
theorem eqF {c : Nat} {k : Int} (h : ¬ ((c : Int) = k)) : ((c : Int) == k) = false := by simp; omega
theorem ltF {a : Nat} {k : Int} (h : (a : Int) ≤ k) : decide (k < (a : Int)) = false := by simp; omega
theorem ltT {a : Nat} {k : Int} (h : k < (a : Int)) : decide (k < (a : Int)) = true := by simp; omega
theorem isEmptyF {s : ByteArray} (h : ¬ s.size = 0) : s.toList.isEmpty = false := by
  rw [ByteArray.toList_eq]
  cases hd : s.data.toList with
  | nil => exact absurd (by have := congrArg List.length hd; simpa using this) h
  | cons a r => rfl
theorem isEmptyT {s : ByteArray} (h : s.size = 0) : s = ⟨#[]⟩ := by
  cases s with | mk d => cases d with | mk l => cases l with | nil => rfl | cons a r => simp [ByteArray.size] at h


def isLet (c : Nat) : Prop := (65 ≤ c ∧ c ≤ 90) ∨ (97 ≤ c ∧ c ≤ 122) ∨ c = 95
def isDig (c : Nat) : Prop := 48 ≤ c ∧ c ≤ 57
def isSgn (c : Nat) : Prop := c ∈ [123, 125, 91, 93, 40, 41, 60, 62, 59, 44, 61, 46, 45]
instance (c : Nat) : Decidable (isLet c) := by unfold isLet; infer_instance
instance (c : Nat) : Decidable (isDig c) := by unfold isDig; infer_instance
instance (c : Nat) : Decidable (isSgn c) := by unfold isSgn; infer_instance
/-- The class of a byte. -/
def cls (c : Nat) : Nat := if (9 ≤ c ∧ c ≤ 13) ∨ c = 32 then 1 else if isLet c then 2 else if isDig c then 3 else if c = 39 ∨ c = 34 then 4 else if isSgn c then 5 else if c = 47 then 6 else 0
theorem cls_let {c : Nat} : cls c = 2 ↔ isLet c := by
  unfold cls
  constructor
  · intro h
    repeat' split at h
    all_goals first | assumption | omega
  · intro h
    rw [if_neg (by unfold isLet at h; omega), if_pos h]
theorem cls_dig {c : Nat} : cls c = 3 ↔ isDig c := by
  unfold cls
  constructor
  · intro h
    repeat' split at h
    all_goals first | assumption | omega
  · intro h
    rw [if_neg (by unfold isDig at h; omega), if_neg (by unfold isDig at h; unfold isLet; omega), if_pos h]

theorem sgn_idx {c : Nat} (hc : c < 256) : (0 ≤ firstIdx ⟨#[123, 125, 91, 93, 40, 41, 60, 62, 59, 44, 61, 46, 45]⟩ (Nat.toUInt8 c)) ↔ isSgn c := by
  have key : ∀ k : Fin 256, (0 ≤ firstIdx ⟨#[123, 125, 91, 93, 40, 41, 60, 62, 59, 44, 61, 46, 45]⟩ (Nat.toUInt8 k.val)) ↔ isSgn k.val := by decide +kernel
  exact key ⟨c, hc⟩
set_option maxRecDepth 100000 in
theorem idx_any (W : World) (s : ByteArray) (c : Int) :
    Calls Tryd.prog 59 #[.string s, .int .u8 c] W fun e w => e = .returned (.int .i64 (firstIdx s c.toNat.toUInt8)) ∧ w = W := by
  go_enter Tryd.func59, Tryd.ntmps59
  go_wp2
  rw [run_callFunc_indexByte Tryd.func63 (by kernel_rfl) (by kernel_rfl) (by kernel_rfl) (by kernel_rfl), run_indexByte_string]
  simp only [Result.andThen]
  go_wp2
  go_ret
  exact ⟨rfl, rfl⟩
end Go.Proofs.YthodjkeppobcmaaDoor

namespace Go.Proofs.YthodjkeppobcmaaDoor
open Go.RowKit
attribute [local go_sem ↓] Go.wp_at_zero Go.wp_at_succ

/-- The worth of a digit, letters too. -/
def dgv (x : Nat) : Option Nat := if 48 ≤ x ∧ x ≤ 57 then some (x - 48) else if 65 ≤ x ∧ x ≤ 90 then some (x - 55) else if 97 ≤ x ∧ x ≤ 122 then some (x - 87) else none
/-- The worth of digits to a base, up to M. -/
def nval (B M : Nat) : List Nat → Nat → Option Nat
  | [], n => some n
  | c :: r, n => match dgv c with
    | none => none
    | some d => if d < B ∧ n * B + d ≤ M then nval B M r (n * B + d) else none
def low (x : Nat) : Nat := x ||| 32
theorem low_lt {x : Nat} (h : x < 256) : low x < 256 := by
  have key : ∀ k : Fin 256, low k.val < 256 := by decide +kernel
  exact key ⟨x, h⟩
theorem low_up {x : Nat} (h1 : 65 ≤ x) (h2 : x ≤ 90) : low x = x + 32 := by
  have key : ∀ k : Fin 256, 65 ≤ k.val → k.val ≤ 90 → low k.val = k.val + 32 := by decide +kernel
  exact key ⟨x, by omega⟩ h1 h2
theorem low_down {x : Nat} (h1 : 97 ≤ x) (h2 : x ≤ 122) : low x = x := by
  have key : ∀ k : Fin 256, 97 ≤ k.val → k.val ≤ 122 → low k.val = k.val := by decide +kernel
  exact key ⟨x, by omega⟩ h1 h2
theorem low_none {x : Nat} (h : x < 256) (h1 : ¬ (65 ≤ x ∧ x ≤ 90)) (h2 : ¬ (97 ≤ x ∧ x ≤ 122)) : low x < 97 ∨ 122 < low x := by
  have key : ∀ k : Fin 256, ¬ (65 ≤ k.val ∧ k.val ≤ 90) → ¬ (97 ≤ k.val ∧ k.val ≤ 122) → low k.val < 97 ∨ 122 < low k.val := by decide +kernel
  exact key ⟨x, h⟩ h1 h2
theorem low_bits {x : Nat} (h : x < 256) : bits .or .u8 (x : Int) 32 = ((low x : Nat) : Int) := by
  have key : ∀ k : Fin 256, bits .or .u8 ((k.val : Nat) : Int) 32 = ((low k.val : Nat) : Int) := by decide +kernel
  exact key ⟨x, h⟩
set_option maxRecDepth 100000 in
theorem lower_any (W : World) (x : Nat) (hx : x < 256) : Calls Tryd.prog 67 #[.int .u8 (x : Int)] W fun e w => e = .returned (.int .u8 ((low x : Nat) : Int)) ∧ w = W := by
  have hb := low_bits hx
  go_enter Tryd.func67, Tryd.ntmps67
  go_wp2
  go_ret
  exact ⟨rfl, rfl⟩

/-- What internal/strconv.ParseUint answers. -/
def PU (W : World) (B M : Nat) (s : ByteArray) (e : Ending) (w : World) : Prop := Below W.heap.size W w ∧
  ((∃ u : Nat, e = .returned (.tuple #[.int .u64 (u : Int), .nilIface]) ∧ 0 < s.size ∧ nval B M (strN s) 0 = some u) ∨
   (∃ u c : Int, e = .returned (.tuple #[.int .u64 u, .iface 95 (.int .i64 c)]) ∧ (c = 1 ∨ c = 2) ∧ (s.size = 0 ∨ nval B M (strN s) 0 = none)))
theorem PU.bad {W w : World} {B M : Nat} {s : ByteArray} (u c : Int) (hb : Below W.heap.size W w) (hc : c = 1 ∨ c = 2) (h : s.size = 0 ∨ nval B M (strN s) 0 = none) :
    PU W B M s (.returned (.tuple #[.int .u64 u, .iface 95 (.int .i64 c)])) w := ⟨hb, .inr ⟨u, c, rfl, hc, h⟩⟩
theorem PU.good {W w : World} {B M : Nat} {s : ByteArray} (u : Nat) (hb : Below W.heap.size W w) (h0 : 0 < s.size) (h : nval B M (strN s) 0 = some u) :
    PU W B M s (.returned (.tuple #[.int .u64 (u : Int), .nilIface])) w := ⟨hb, .inl ⟨u, rfl, h0, h⟩⟩
theorem strN_getD (s : ByteArray) (j x : Nat) (h : (strN s)[j]? = some x) : (s.data.toList.getD j 0).toNat = x := by
  unfold strN at h
  rw [List.getElem?_map] at h
  obtain ⟨b, hb, rfl⟩ := Option.map_eq_some_iff.1 h
  rw [List.getD_eq_getElem?_getD, hb]
  rfl
theorem infoSerr : (Tryd.prog.info? 95).isSome = true := by kernel_rfl
end Go.Proofs.YthodjkeppobcmaaDoor
