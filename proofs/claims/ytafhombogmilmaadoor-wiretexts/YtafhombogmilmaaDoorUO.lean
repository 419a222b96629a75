import Derived.Test.YtafhombogmilmaaDoorUM
import Derived.Deep.CutBlock
namespace Go.Proofs.YtafhombogmilmaaDoor
open Go.RowKit
attribute [local go_sem ↓] Go.wp_at_zero Go.wp_at_succ

theorem zleF {c : Nat} {k : Int} (h : k < (c : Int)) : decide ((c : Int) ≤ k) = false := by simp; omega
theorem zleT {c : Nat} {k : Int} (h : (c : Int) ≤ k) : decide ((c : Int) ≤ k) = true := by simp; omega
theorem zgeF {c : Nat} {k : Int} (h : (c : Int) < k) : decide (k ≤ (c : Int)) = false := by simp; omega
theorem zgeT {c : Nat} {k : Int} (h : k ≤ (c : Int)) : decide (k ≤ (c : Int)) = true := by simp; omega
theorem zltF {c : Nat} {k : Int} (h : k ≤ (c : Int)) : decide ((c : Int) < k) = false := by simp; omega
theorem zltT {c : Nat} {k : Int} (h : (c : Int) < k) : decide ((c : Int) < k) = true := by simp; omega
theorem zgtF {c : Nat} {k : Int} (h : (c : Int) ≤ k) : decide (k < (c : Int)) = false := by simp; omega
theorem zgtT {c : Nat} {k : Int} (h : k < (c : Int)) : decide (k < (c : Int)) = true := by simp; omega

/-- What the reference makes of a first byte. -/
def OneCase (x w0 n least : Nat) : Prop := (192 ≤ x ∧ x ≤ 223 ∧ w0 = x - 192 ∧ n = 2 ∧ least = 128) ∨ (224 ≤ x ∧ x ≤ 239 ∧ w0 = x - 224 ∧ n = 3 ∧ least = 2048) ∨ (240 ≤ x ∧ x ≤ 247 ∧ w0 = x - 240 ∧ n = 4 ∧ least = 65536)
def wk (s : ByteArray) (k w0 : Nat) : Nat → Nat
  | 0 => w0
  | i + 1 => 64 * wk s k w0 i + (byteAt s (k + (i + 1)) - 128)
/-- The code point of the whole says right. -/
def Right (w least : Nat) : Prop := least ≤ w ∧ w ≤ 1114111 ∧ (w < 55296 ∨ 57344 ≤ w)
theorem frm2 {x : Nat} (h1 : 194 ≤ x) (h2 : x ≤ 223) : frm x = some (1, 128, 191) := by unfold frm; rw [if_neg (by omega), if_neg (by omega), if_pos (by omega)]
theorem frm2n {x : Nat} (h1 : 128 ≤ x) (h2 : x ≤ 193) : frm x = none := by unfold frm; rw [if_neg (by omega), if_pos (by omega)]
theorem frm3 {x : Nat} (h1 : 224 ≤ x) (h2 : x ≤ 239) : frm x = some (2, if x = 224 then 160 else 128, if x = 237 then 159 else 191) := by
  unfold frm
  rw [if_neg (by omega), if_neg (by omega), if_neg (by omega)]
  by_cases a : x = 224
  · subst a; rfl
  · rw [if_neg a, if_neg a]
    by_cases b : x = 237
    · subst b; rfl
    · rw [if_neg b, if_neg b]
      by_cases c : x < 237
      · rw [if_pos c]
      · rw [if_neg c, if_pos (by omega)]
theorem frm4 {x : Nat} (h1 : 240 ≤ x) (h2 : x ≤ 244) : frm x = some (3, if x = 240 then 144 else 128, if x = 244 then 143 else 191) := by
  unfold frm
  rw [if_neg (by omega), if_neg (by omega), if_neg (by omega), if_neg (by omega), if_neg (by omega), if_neg (by omega), if_neg (by omega)]
  by_cases a : x = 240
  · subst a; rfl
  · rw [if_neg a, if_neg a]
    by_cases b : x = 244
    · subst b; rfl
    · rw [if_pos (by omega), if_neg b]
theorem frm4n {x : Nat} (h1 : 245 ≤ x) : frm x = none := by
  unfold frm
  rw [if_neg (by omega), if_neg (by omega), if_neg (by omega), if_neg (by omega), if_neg (by omega), if_neg (by omega), if_neg (by omega), if_neg (by omega), if_neg (by omega), if_neg (by omega)]
theorem one_frm {x w0 n least : Nat} (h : OneCase x w0 n least) : frm x = none ∨ ∃ d e, frm x = some (n - 1, d, e) ∧ 128 ≤ d ∧ e ≤ 191 := by
  rcases h with ⟨h1, h2, _, rfl, _⟩ | ⟨h1, h2, _, rfl, _⟩ | ⟨h1, h2, _, rfl, _⟩
  · by_cases h : 194 ≤ x
    · exact .inr ⟨_, _, frm2 h h2, by omega, by omega⟩
    · exact .inl (frm2n (by omega) (by omega))
  · exact .inr ⟨_, _, frm3 h1 h2, by split <;> omega, by split <;> omega⟩
  · by_cases h : x ≤ 244
    · exact .inr ⟨_, _, frm4 h1 h, by split <;> omega, by split <;> omega⟩
    · exact .inl (frm4n (by omega))
theorem one_zero {s : ByteArray} {k x w0 n least : Nat} (hb : byteAt s k = x) (h : OneCase x w0 n least) (hz : s.size < k + n ∨ ∃ j, 1 ≤ j ∧ j < n ∧ (byteAt s (k + j) < 128 ∨ 192 ≤ byteAt s (k + j))) : chAt s k = 0 := by
  have hn : 2 ≤ n := by rcases h with h | h | h <;> omega
  rcases one_frm h with hf | ⟨d, e, hf, hd, he⟩
  · exact chAt_none (by rw [hb]; exact hf)
  · refine chAt_no (by rw [hb]; exact hf) (fun q => ?_)
    rcases hz with hz | ⟨j, j1, j2, hj⟩
    · have := q.1; omega
    · have q1 := q.2 j j1 (by omega)
      by_cases h1 : j = 1
      · rw [if_pos h1, if_pos h1] at q1; omega
      · rw [if_neg h1, if_neg h1] at q1; omega
theorem len_all {s : ByteArray} {k c d e : Nat} (hz : k + 1 + c ≤ s.size) (h1 : d ≤ byteAt s (k + 1)) (h2 : byteAt s (k + 1) ≤ e) (hall : ∀ j, 1 ≤ j → j < 1 + c → 128 ≤ byteAt s (k + j) ∧ byteAt s (k + j) ≤ 191) : LenOkAt s k c d e := by
  refine ⟨hz, fun j j1 j2 => ?_⟩
  by_cases h : j = 1
  · subst h; rw [if_pos rfl, if_pos rfl]; exact ⟨h1, h2⟩
  · rw [if_neg h, if_neg h]; exact hall j j1 j2
theorem len_not {s : ByteArray} {k c d e : Nat} (hc : 1 ≤ c) (h : byteAt s (k + 1) < d ∨ e < byteAt s (k + 1)) : ¬ LenOkAt s k c d e := fun q => by
  have := q.2 1 (by omega) (by omega)
  rw [if_pos rfl, if_pos rfl] at this
  omega
set_option maxRecDepth 100000 in
theorem one_final {s : ByteArray} {k x w0 n least : Nat} (hb : byteAt s k = x) (h : OneCase x w0 n least) (hz : k + n ≤ s.size) (hall : ∀ j, 1 ≤ j → j < n → 128 ≤ byteAt s (k + j) ∧ byteAt s (k + j) ≤ 191) :
    (Right (wk s k w0 (n - 1)) least → chAt s k = n) ∧ (¬ Right (wk s k w0 (n - 1)) least → chAt s k = 0) := by
  unfold Right
  rcases h with ⟨h1, h2, rfl, rfl, rfl⟩ | ⟨h1, h2, rfl, rfl, rfl⟩ | ⟨h1, h2, rfl, rfl, rfl⟩
  · have a1 := hall 1 (by omega) (by omega)
    have hw : wk s k (x - 192) (2 - 1) = 64 * (x - 192) + (byteAt s (k + 1) - 128) := rfl
    rw [hw]
    by_cases h : 194 ≤ x
    · have hc := chAt_ok (by rw [hb]; exact frm2 h h2) (len_all (by omega) a1.1 a1.2 (fun j j1 j2 => hall j j1 (by omega)))
      exact ⟨fun _ => by omega, fun q => absurd (by omega) q⟩
    · have hc : chAt s k = 0 := chAt_none (by rw [hb]; exact frm2n (by omega) (by omega))
      exact ⟨fun q => by omega, fun _ => hc⟩
  · have a1 := hall 1 (by omega) (by omega)
    have a2 := hall 2 (by omega) (by omega)
    have hw : wk s k (x - 224) (3 - 1) = 64 * (64 * (x - 224) + (byteAt s (k + 1) - 128)) + (byteAt s (k + 2) - 128) := rfl
    rw [hw]
    have hf : frm (byteAt s k) = some (2, if x = 224 then 160 else 128, if x = 237 then 159 else 191) := by rw [hb]; exact frm3 h1 h2
    by_cases hg : (if x = 224 then 160 else 128) ≤ byteAt s (k + 1) ∧ byteAt s (k + 1) ≤ (if x = 237 then 159 else 191)
    · have hc := chAt_ok hf (len_all (by omega) hg.1 hg.2 (fun j j1 j2 => hall j j1 (by omega)))
      obtain ⟨g1, g2⟩ := hg
      refine ⟨fun _ => by omega, fun q => absurd ?_ q⟩
      split at g1 <;> split at g2 <;> omega
    · have hc : chAt s k = 0 := chAt_no hf (len_not (by omega) (by omega))
      refine ⟨fun q => ?_, fun _ => hc⟩
      exfalso
      apply hg
      constructor <;> split <;> omega
  · have a1 := hall 1 (by omega) (by omega)
    have a2 := hall 2 (by omega) (by omega)
    have a3 := hall 3 (by omega) (by omega)
    have hw : wk s k (x - 240) (4 - 1) = 64 * (64 * (64 * (x - 240) + (byteAt s (k + 1) - 128)) + (byteAt s (k + 2) - 128)) + (byteAt s (k + 3) - 128) := rfl
    rw [hw]
    by_cases h : x ≤ 244
    · have hf : frm (byteAt s k) = some (3, if x = 240 then 144 else 128, if x = 244 then 143 else 191) := by rw [hb]; exact frm4 h1 h
      by_cases hg : (if x = 240 then 144 else 128) ≤ byteAt s (k + 1) ∧ byteAt s (k + 1) ≤ (if x = 244 then 143 else 191)
      · have hc := chAt_ok hf (len_all (by omega) hg.1 hg.2 (fun j j1 j2 => hall j j1 (by omega)))
        obtain ⟨g1, g2⟩ := hg
        refine ⟨fun _ => by omega, fun q => absurd ?_ q⟩
        split at g1 <;> split at g2 <;> omega
      · have hc : chAt s k = 0 := chAt_no hf (len_not (by omega) (by omega))
        refine ⟨fun q => ?_, fun _ => hc⟩
        exfalso
        apply hg
        constructor <;> split <;> omega
    · have hc : chAt s k = 0 := chAt_none (by rw [hb]; exact frm4n (by omega))
      exact ⟨fun q => by omega, fun _ => hc⟩
end Go.Proofs.YtafhombogmilmaaDoor
