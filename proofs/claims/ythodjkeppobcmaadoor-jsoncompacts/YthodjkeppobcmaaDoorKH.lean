import Derived.Test.YthodjkeppobcmaaDoorJ22
import Derived.Outline

namespace Go.Proofs.YthodjkeppobcmaaDoor
open Go.RowKit Go.Lib
attribute [local go_sem ↓] Go.wp_at_zero Go.wp_at_succ

set_option maxRecDepth 100000 in
set_option maxHeartbeats 1000000 in
theorem peek_any {V : World × World} {s : ByteArray} {bb b a op : Nat} {out : List Nat} {W : World} (h : Sc V s bb b a op out W) (hs : s.size ≤ 67108864) : Calls Tryd.prog 25 #[.pointer (some ⟨b, 0, none⟩)] W fun e w => e = .returned (.int .u8 ((bt (strN s) (skB (strN s) a) : Nat) : Int)) ∧ Sc V s bb b (skB (strN s) a) op out w := by
  have HS := hide h
  have hle := h.le
  have hl := hide (strN_len s)
  clear h
  go_enter Tryd.func25, Tryd.ntmps25
  go_wp2
  go_loopg [3] (s.size - a) (fun gk _ wr => ∃ k : Nat, gk = s.size - k ∧ k ≤ s.size ∧ Hid (Sc V s bb b k op out wr) ∧ Hid (skB (strN s) a = skB (strN s) k))
  case atStart => exact ⟨a, rfl, hle, HS, rfl⟩
  case round =>
    obtain ⟨k, hgk, hk, HK, Hu⟩ := hrel
    have Hgk := hide hgk
    clear hgk HS
    obtain ⟨c0, c1, -, -, fz⟩ := (unhide HK).cells
    have f1 := fz 1
    have k0 : (0 : Int) ≤ (k : Int) := Int.natCast_nonneg _
    clear fz
    by_cases hlt : k < s.size
    · obtain ⟨gx, hx⟩ := bt_str s k hlt
      have i1 : (k : Int) < (s.size : Int) := by omega
      have hll : k < (strN s).length := by rw [unhide hl]; exact hlt
      obtain ⟨x, hxe⟩ : ∃ x, bt (strN s) k = x := ⟨_, rfl⟩
      rw [hxe] at gx
      by_cases hbl : isBl x = true
      · have Hr : Hid (skB (strN s) a = skB (strN s) (k + 1)) := (unhide Hu).trans (tw_step hll (by rw [hxe]; exact hbl))
        have q : ((x : Int) == 32) = true ∨ (((x : Int) == 32) = false ∧ ((x : Int) == 9) = true) ∨ (((x : Int) == 32) = false ∧ ((x : Int) == 9) = false ∧ ((x : Int) == 10) = true) ∨ (((x : Int) == 32) = false ∧ ((x : Int) == 9) = false ∧ ((x : Int) == 10) = false ∧ ((x : Int) == 13) = true) := by
          unfold isBl at hbl
          simp at hbl ⊢
          omega
        have HS2 := hide ((unhide HK).drew.drew.at (k + 1) (by omega) (by omega))
        have e1 : ((k + 1 : Nat) : Int) = (k : Int) + 1 := by omega
        rw [e1] at HS2
        clear hx hxe hbl hll HK Hu hl e1
        rcases q with q1 | ⟨q1, q2⟩ | ⟨q1, q2, q3⟩ | ⟨q1, q2, q3, q4⟩
        all_goals (
          go_wp2_with fail
          go_region
          go_wp2_with fail
          go_region
          go_wp2_with fail
          go_roundg (s.size - (k + 1))
          case measure => have := unhide Hgk; omega
          case rel => exact ⟨k + 1, rfl, by omega, HS2, Hr⟩)
      · have Hr : Hid (skB (strN s) a = k) := (unhide Hu).trans (tw_stop (by rw [hxe]; simpa using hbl))
        have HS2 := hide (unhide HK).drew.drew
        have q1 : ((x : Int) == 32) = false := by unfold isBl at hbl; simp at hbl ⊢; omega
        have q2 : ((x : Int) == 9) = false := by unfold isBl at hbl; simp at hbl ⊢; omega
        have q3 : ((x : Int) == 10) = false := by unfold isBl at hbl; simp at hbl ⊢; omega
        have q4 : ((x : Int) == 13) = false := by unfold isBl at hbl; simp at hbl ⊢; omega
        have Hxe := hide hxe
        clear hx hxe hbl hll HK Hu hl
        go_wp2_with fail
        go_region
        go_wp2_with fail
        go_region
        go_wp2_with fail
        go_ret
        rw [unhide Hr]
        exact ⟨by rw [unhide Hxe]; rfl, unhide HS2⟩
    · have Hr : Hid (skB (strN s) a = k) := (unhide Hu).trans (tw_end (by rw [unhide hl]; omega))
      have Hx : Hid (bt (strN s) k = 0) := bt_end (by rw [unhide hl]; omega)
      have HS2 := hide (unhide HK).drew
      have i1 : decide ((k : Int) < (s.size : Int)) = false := by simp; omega
      clear HK Hu hl
      go_wp2_with fail
      go_region
      go_wp2_with fail
      go_ret
      rw [unhide Hr]
      exact ⟨by rw [unhide Hx]; rfl, unhide HS2⟩
end Go.Proofs.YthodjkeppobcmaaDoor
