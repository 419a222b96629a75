import Derived.Test.YtadmamfekodkaaaDoorSB
import Derived.Lib.ConvBytes
import Derived.Lib.AtoiErrMem

namespace Go.Proofs.YtadmamfekodkaaaDoor
open Go.RowKit
attribute [local go_sem ↓] Go.wp_at_zero Go.wp_at_succ

/-- The worth of a digit, letters too. -/
def dgv (x : Nat) : Option Nat := if 48 ≤ x ∧ x ≤ 57 then some (x - 48) else if 65 ≤ x ∧ x ≤ 90 then some (x - 55) else if 97 ≤ x ∧ x ≤ 122 then some (x - 87) else none
/-- The worth of digits to a base, up to M. -/
def nval (B M : Nat) : List Nat → Nat → Option Nat
  | [], n => some n
  | c :: r, n => match dgv c with
    | none => none
    | some d => if d < B ∧ n * B + d ≤ M then nval B M r (n * B + d) else none
def low (x : Nat) : Nat := x ||| 32
theorem low_lt {x : Nat} (h : x < 256) : low x < 256 := by
  have key : ∀ k : Fin 256, low k.val < 256 := by decide +kernel
  exact key ⟨x, h⟩
theorem low_up {x : Nat} (h1 : 65 ≤ x) (h2 : x ≤ 90) : low x = x + 32 := by
  have key : ∀ k : Fin 256, 65 ≤ k.val → k.val ≤ 90 → low k.val = k.val + 32 := by decide +kernel
  exact key ⟨x, by omega⟩ h1 h2
theorem low_down {x : Nat} (h1 : 97 ≤ x) (h2 : x ≤ 122) : low x = x := by
  have key : ∀ k : Fin 256, 97 ≤ k.val → k.val ≤ 122 → low k.val = k.val := by decide +kernel
  exact key ⟨x, by omega⟩ h1 h2
theorem low_none {x : Nat} (h : x < 256) (h1 : ¬ (65 ≤ x ∧ x ≤ 90)) (h2 : ¬ (97 ≤ x ∧ x ≤ 122)) : low x < 97 ∨ 122 < low x := by
  have key : ∀ k : Fin 256, ¬ (65 ≤ k.val ∧ k.val ≤ 90) → ¬ (97 ≤ k.val ∧ k.val ≤ 122) → low k.val < 97 ∨ 122 < low k.val := by decide +kernel
  exact key ⟨x, h⟩ h1 h2
theorem low_bits {x : Nat} (h : x < 256) : bits .or .u8 (x : Int) 32 = ((low x : Nat) : Int) := by
  have key : ∀ k : Fin 256, bits .or .u8 ((k.val : Nat) : Int) 32 = ((low k.val : Nat) : Int) := by decide +kernel
  exact key ⟨x, h⟩
set_option maxRecDepth 100000 in
theorem lower_any (W : World) (x : Nat) (hx : x < 256) : Calls Tryd.prog 44 #[.int .u8 (x : Int)] W fun e w => e = .returned (.int .u8 ((low x : Nat) : Int)) ∧ w = W := by
  have hb := low_bits hx
  go_enter Tryd.func44, Tryd.ntmps44
  go_wp2
  go_ret
  exact ⟨rfl, rfl⟩

/-- What internal/strconv.ParseUint answers. -/
def PU (W : World) (B M : Nat) (s : ByteArray) (e : Ending) (w : World) : Prop := Below W.heap.size W w ∧
  ((∃ u : Nat, e = .returned (.tuple #[.int .u64 (u : Int), .nilIface]) ∧ 0 < s.size ∧ nval B M (strN s) 0 = some u) ∨
   (∃ u c : Int, e = .returned (.tuple #[.int .u64 u, .iface 70 (.int .i64 c)]) ∧ (c = 1 ∨ c = 2) ∧ (s.size = 0 ∨ nval B M (strN s) 0 = none)))
theorem PU.bad {W w : World} {B M : Nat} {s : ByteArray} (u c : Int) (hb : Below W.heap.size W w) (hc : c = 1 ∨ c = 2) (h : s.size = 0 ∨ nval B M (strN s) 0 = none) :
    PU W B M s (.returned (.tuple #[.int .u64 u, .iface 70 (.int .i64 c)])) w := ⟨hb, .inr ⟨u, c, rfl, hc, h⟩⟩
theorem PU.good {W w : World} {B M : Nat} {s : ByteArray} (u : Nat) (hb : Below W.heap.size W w) (h0 : 0 < s.size) (h : nval B M (strN s) 0 = some u) :
    PU W B M s (.returned (.tuple #[.int .u64 (u : Int), .nilIface])) w := ⟨hb, .inl ⟨u, rfl, h0, h⟩⟩
theorem strN_getD (s : ByteArray) (j x : Nat) (h : (strN s)[j]? = some x) : (s.data.toList.getD j 0).toNat = x := by
  unfold strN at h
  rw [List.getElem?_map] at h
  obtain ⟨b, hb, rfl⟩ := Option.map_eq_some_iff.1 h
  rw [List.getD_eq_getElem?_getD, hb]
  rfl
theorem infoSerr : (Tryd.prog.info? 70).isSome = true := by kernel_rfl
end Go.Proofs.YtadmamfekodkaaaDoor
