import Derived.Test.YthodjkeppobcmaaDoorKA
import Derived.Test.YthodjkeppobcmaaDoorUM
import Derived.Deep.DeepCutAuto

namespace Go.Proofs.YthodjkeppobcmaaDoor
open Go.RowKit Go.Lib
attribute [local go_sem ↓] Go.wp_at_zero Go.wp_at_succ

theorem bt_str (s : ByteArray) (i : Nat) (h : i < s.size) : (s[i]'h).toNat = bt (strN s) i ∧ bt (strN s) i < 256 := by
  obtain ⟨x, h1, h2, h3⟩ := strN_ex s i h
  rw [bt_at h1]
  exact ⟨h3, h2⟩
theorem bt_256 (s : ByteArray) (i : Nat) : bt (strN s) i < 256 := by
  rcases Nat.lt_or_ge i s.size with h | h
  · exact (bt_str s i h).2
  · rw [bt_end (by rw [strN_len]; exact h)]
    omega
def Is (cs : ByteArray) (p : Nat → Bool) : Prop := ∀ k : Fin 256, decide (0 ≤ firstIdx cs (Nat.toUInt8 k.val)) = p k.val
theorem is_dig : Is ⟨#[48, 49, 50, 51, 52, 53, 54, 55, 56, 57]⟩ isDg := by unfold Is; decide +kernel
def isDot (c : Nat) : Bool := c == 46
def isEx (c : Nat) : Bool := c == 101 || c == 69
def isPm (c : Nat) : Bool := c == 43 || c == 45
theorem is_dot : Is ⟨#[46]⟩ isDot := by unfold Is; decide +kernel
theorem is_ex : Is ⟨#[101, 69]⟩ isEx := by unfold Is; decide +kernel
theorem is_pm : Is ⟨#[43, 45]⟩ isPm := by unfold Is; decide +kernel
theorem is_pl : Is ⟨#[34, 92, 47, 98, 102, 110, 114, 116]⟩ isPl := by unfold Is; decide +kernel
theorem idx_nat (W : World) (s : ByteArray) (x : Nat) : Calls Tryd.prog 59 #[.string s, .int .u8 (x : Int)] W fun e w => e = .returned (.int .i64 (firstIdx s (Nat.toUInt8 x))) ∧ w = W := by
  have h := idx_any W s (x : Int)
  rw [show ((x : Int).toNat) = x by omega] at h
  exact h
set_option maxRecDepth 100000 in
theorem oneOf_any (W : World) (s cs : ByteArray) (a : Nat) (p : Nat → Bool) (hp : Is cs p) (h0 : p 0 = false) : Calls Tryd.prog 55 #[.string s, .int .i64 (a : Int), .string cs] W fun e w => e = .returned (.bool (p (bt (strN s) a))) ∧ w = W := by
  have a0 : (0 : Int) ≤ (a : Int) := Int.natCast_nonneg _
  by_cases hlt : a < s.size
  · obtain ⟨gx, hx⟩ := bt_str s a hlt
    have i1 : (a : Int) < (s.size : Int) := by omega
    have hq : decide (0 ≤ firstIdx cs (Nat.toUInt8 (bt (strN s) a))) = p (bt (strN s) a) := hp ⟨_, hx⟩
    obtain ⟨x, hxe⟩ : ∃ x, bt (strN s) a = x := ⟨_, rfl⟩
    rw [hxe] at gx hq ⊢
    have Hq := hide hq
    clear hxe hq hp hx
    go_enter Tryd.func55, Tryd.ntmps55
    go_wp2_with fail
    refine (idx_nat W cs x).mono ?_
    rintro e w ⟨rfl, rfl⟩
    go_wp2
    go_ret
    exact ⟨by rw [← unhide Hq]; rfl, rfl⟩
  · have e0 : bt (strN s) a = 0 := bt_end (by rw [strN_len]; omega)
    rw [e0, h0]
    have hd : decide ((a : Int) < (s.size : Int)) = false := by simp; omega
    clear e0 hp
    go_enter Tryd.func55, Tryd.ntmps55
    go_wp2
    go_ret
    exact ⟨rfl, rfl⟩
set_option maxRecDepth 100000 in
theorem digits_any (W : World) (s : ByteArray) (a : Nat) (ha : a ≤ s.size) (hs : s.size ≤ 67108864) : Calls Tryd.prog 54 #[.string s, .int .i64 (a : Int)] W fun e w => e = .returned (.int .i64 (dgE (strN s) a : Int)) ∧ w = W := by
  have hl := hide (strN_len s)
  go_enter Tryd.func54, Tryd.ntmps54
  go_wp2
  go_loopg [1] (s.size - a) (fun gk v1 wr => ∃ k : Nat, v1 = .int .i64 (k : Int) ∧ gk = s.size - k ∧ k ≤ s.size ∧ wr = W ∧ Hid (dgE (strN s) a = dgE (strN s) k))
  case atStart => exact ⟨a, rfl, by omega, ha, rfl, rfl⟩
  case round =>
    obtain ⟨k, rfl, hgk, hk, rfl, Hu⟩ := hrel
    have Hgk := hide hgk
    clear hgk
    go_wp2_with fail
    refine (oneOf_any wr s _ k isDg is_dig rfl).mono ?_
    rintro e w2 ⟨rfl, he⟩
    obtain rfl : wr = w2 := he.symm
    cases hd : isDg (bt (strN s) k) with
    | true =>
      have hlt : k < s.size := by
        rw [← unhide hl]
        exact bt_lt (fun e => by rw [e] at hd; cases hd)
      have Hr : Hid (dgE (strN s) a = dgE (strN s) (k + 1)) := (unhide Hu).trans (tw_step (by rw [unhide hl]; exact hlt) hd)
      clear hd
      go_wp2
      go_roundg (s.size - (k + 1))
      case measure => have := unhide Hgk; omega
      case rel => exact ⟨k + 1, by go_num, rfl, by omega, rfl, Hr⟩
    | false =>
      have Hr : Hid (dgE (strN s) a = k) := (unhide Hu).trans (tw_stop hd)
      clear hd
      go_wp2
      go_ret
      exact ⟨by rw [unhide Hr]; rfl, rfl⟩
set_option maxRecDepth 100000 in
theorem part_any (W : World) (s : ByteArray) (a d : Nat) (hd : d ≤ s.size) (hs : s.size ≤ 67108864) : Calls Tryd.prog 56 #[.string s, .int .i64 (a : Int), .int .i64 (d : Int)] W fun e w => e = .returned (.int .i64 (prt (strN s) a d : Int)) ∧ w = W := by
  have hc := hide (digits_any W s d hd hs)
  unfold prt
  obtain ⟨x, hx⟩ : ∃ x, dgE (strN s) d = x := ⟨_, rfl⟩
  rw [hx] at hc ⊢
  clear hx
  by_cases h : d < x
  · rw [if_pos h]
    go_enter Tryd.func56, Tryd.ntmps56
    go_wp2_with fail
    refine (unhide hc).mono ?_
    rintro e w ⟨rfl, rfl⟩
    go_wp2
    go_ret
    exact ⟨rfl, rfl⟩
  · rw [if_neg h]
    go_enter Tryd.func56, Tryd.ntmps56
    go_wp2_with fail
    refine (unhide hc).mono ?_
    rintro e w ⟨rfl, rfl⟩
    go_wp2
    go_ret
    exact ⟨rfl, rfl⟩
theorem dgE_le {s : ByteArray} {a : Nat} (h : a ≤ s.size) : a ≤ dgE (strN s) a ∧ dgE (strN s) a ≤ s.size := ⟨tw_ge _ _ _, by rw [← strN_len]; exact tw_le (by rw [strN_len]; exact h)⟩
theorem prt_le {s : ByteArray} {a d : Nat} (h : a ≤ s.size) (hd : d ≤ s.size) (had : a ≤ d) : a ≤ prt (strN s) a d ∧ prt (strN s) a d ≤ s.size := by
  unfold prt
  have := dgE_le hd
  split <;> omega
theorem bt_in {s : ByteArray} {a c : Nat} (h : bt (strN s) a = c) (hc : c ≠ 0) : a < s.size := by
  rw [← strN_len]
  exact bt_lt (by rw [h]; exact hc)
theorem nuF_le {s : ByteArray} {a : Nat} (h : a ≤ s.size) : a ≤ nuF (strN s) a ∧ nuF (strN s) a ≤ s.size := by
  unfold nuF
  split
  · have := bt_in (by assumption) (by omega)
    omega
  · omega
theorem nu1_le {s : ByteArray} {a : Nat} (h : a ≤ s.size) : a ≤ nu1 (strN s) a ∧ nu1 (strN s) a ≤ s.size := by
  unfold nu1
  split
  · have := bt_in (by assumption) (by omega)
    omega
  · exact dgE_le h
theorem nu2_le {s : ByteArray} {a : Nat} (h : a ≤ s.size) : a ≤ nu2 (strN s) a ∧ nu2 (strN s) a ≤ s.size := by
  unfold nu2
  split
  · have := bt_in (by assumption) (by omega)
    exact prt_le h (by omega) (by omega)
  · omega
theorem nuK_le {s : ByteArray} {a : Nat} (h : a ≤ s.size) : a ≤ nuK (strN s) a ∧ nuK (strN s) a ≤ s.size := by
  unfold nuK
  split
  · rename_i q
    have : a < s.size := by rcases q with q | q <;> exact bt_in q (by omega)
    omega
  · omega
theorem nu3_le {s : ByteArray} {a : Nat} (h : a ≤ s.size) : a ≤ nu3 (strN s) a ∧ nu3 (strN s) a ≤ s.size := by
  unfold nu3
  split
  · rename_i q
    have : a < s.size := by rcases q with q | q <;> exact bt_in q (by omega)
    have := nuK_le (s := s) (a := a + 1) (by omega)
    exact prt_le h this.2 (by omega)
  · omega
theorem numE_le {s : ByteArray} {a : Nat} (h : a ≤ s.size) : a ≤ numE (strN s) a ∧ numE (strN s) a ≤ s.size := by
  unfold numE
  split
  · omega
  · have h0 := nuF_le h
    have h1 := nu1_le h0.2
    have h2 := nu2_le h1.2
    have h3 := nu3_le h2.2
    omega
end Go.Proofs.YthodjkeppobcmaaDoor
