import Derived.Test.YtadmamfekodkaaaDoorSB1
import Derived.Laws.Externs
import Derived.Laws.StandIn

namespace Go.Proofs.YtadmamfekodkaaaDoor
open Go.RowKit
attribute [local go_sem ↓] Go.wp_at_zero Go.wp_at_succ

theorem strN_get (s : ByteArray) (n x : Nat) (h : (strN s)[n]? = some x) (hn : n < s.size) : (s[n]'hn).toNat = x := by
  unfold strN at h
  rw [List.getElem?_map] at h
  obtain ⟨b, hb, rfl⟩ := Option.map_eq_some_iff.1 h
  have hd : n < s.data.toList.length := by simpa using hn
  rw [List.getElem?_eq_getElem hd] at hb
  rw [← Option.some.inj hb]
  rfl
theorem strN_ex (s : ByteArray) (n : Nat) (hn : n < s.size) : ∃ x, (strN s)[n]? = some x ∧ x < 256 ∧ (s[n]'hn).toNat = x := by
  have hl : n < (strN s).length := by rw [strN_len]; exact hn
  have h := List.getElem?_eq_getElem hl
  exact ⟨_, h, (strN_byt s).at h, strN_get s n _ h hn⟩

theorem leF {c : Nat} {k : Int} (h : k < (c : Int)) : decide ((c : Int) ≤ k) = false := by simp; omega
theorem leT {c : Nat} {k : Int} (h : (c : Int) ≤ k) : decide ((c : Int) ≤ k) = true := by simp; omega
theorem geF {c : Nat} {k : Int} (h : (c : Int) < k) : decide (k ≤ (c : Int)) = false := by simp; omega
theorem geT {c : Nat} {k : Int} (h : k ≤ (c : Int)) : decide (k ≤ (c : Int)) = true := by simp; omega
theorem eqF {c : Nat} {k : Int} (h : ¬ ((c : Int) = k)) : ((c : Int) == k) = false := by simp; omega
theorem ltF {a : Nat} {k : Int} (h : (a : Int) ≤ k) : decide (k < (a : Int)) = false := by simp; omega
theorem ltT {a : Nat} {k : Int} (h : k < (a : Int)) : decide (k < (a : Int)) = true := by simp; omega
theorem isEmptyF {s : ByteArray} (h : ¬ s.size = 0) : s.toList.isEmpty = false := by
  rw [ByteArray.toList_eq]
  cases hd : s.data.toList with
  | nil => exact absurd (by have := congrArg List.length hd; simpa using this) h
  | cons a r => rfl
theorem isEmptyT {s : ByteArray} (h : s.size = 0) : s = ⟨#[]⟩ := by
  cases s with | mk d => cases d with | mk l => cases l with | nil => rfl | cons a r => simp [ByteArray.size] at h


def isLet (c : Nat) : Prop := (65 ≤ c ∧ c ≤ 90) ∨ (97 ≤ c ∧ c ≤ 122) ∨ c = 95
def isDig (c : Nat) : Prop := 48 ≤ c ∧ c ≤ 57
def isSgn (c : Nat) : Prop := c ∈ [123, 125, 91, 93, 40, 41, 60, 62, 59, 44, 61, 46, 45]
instance (c : Nat) : Decidable (isLet c) := by unfold isLet; infer_instance
instance (c : Nat) : Decidable (isDig c) := by unfold isDig; infer_instance
instance (c : Nat) : Decidable (isSgn c) := by unfold isSgn; infer_instance
/-- The class of a byte. -/
def cls (c : Nat) : Nat := if (9 ≤ c ∧ c ≤ 13) ∨ c = 32 then 1 else if isLet c then 2 else if isDig c then 3 else if c = 39 ∨ c = 34 then 4 else if isSgn c then 5 else if c = 47 then 6 else 0
theorem cls_let {c : Nat} : cls c = 2 ↔ isLet c := by
  unfold cls
  constructor
  · intro h
    repeat' split at h
    all_goals first | assumption | omega
  · intro h
    rw [if_neg (by unfold isLet at h; omega), if_pos h]
theorem cls_dig {c : Nat} : cls c = 3 ↔ isDig c := by
  unfold cls
  constructor
  · intro h
    repeat' split at h
    all_goals first | assumption | omega
  · intro h
    rw [if_neg (by unfold isDig at h; omega), if_neg (by unfold isDig at h; unfold isLet; omega), if_pos h]

theorem sgn_idx {c : Nat} (hc : c < 256) : (0 ≤ firstIdx ⟨#[123, 125, 91, 93, 40, 41, 60, 62, 59, 44, 61, 46, 45]⟩ (Nat.toUInt8 c)) ↔ isSgn c := by
  have key : ∀ k : Fin 256, (0 ≤ firstIdx ⟨#[123, 125, 91, 93, 40, 41, 60, 62, 59, 44, 61, 46, 45]⟩ (Nat.toUInt8 k.val)) ↔ isSgn k.val := by decide +kernel
  exact key ⟨c, hc⟩
end Go.Proofs.YtadmamfekodkaaaDoor
