import Derived.Test.YthodjkeppobcmaaDoorKB
import Derived.Test.YthodjkeppobcmaaDoorJ07
import Derived.Deep.QuietTactic
import Derived.BigQuiet
import Derived.Deep.CutBlock
import Derived.Outline

namespace Go.Proofs.YthodjkeppobcmaaDoor
open Go.RowKit Go.Lib
attribute [local go_sem ↓] Go.wp_at_zero Go.wp_at_succ

theorem skB_in {s : ByteArray} {a : Nat} (h : a ≤ s.size) : a ≤ skB (strN s) a ∧ skB (strN s) a ≤ s.size := ⟨tw_ge _ _ _, by rw [← strN_len]; exact tw_le (by rw [strN_len]; exact h)⟩
def txC (s : ByteArray) (a er pl : Nat) : Array Value := #[.string s, .int .i64 (a : Int), .int .i64 (er : Int), .int .i64 (pl : Int)]
/-- A text that is read, in memory; the world has grown from V. -/
structure Tx (V : World) (t : Nat) (s : ByteArray) (a er pl : Nat) (W : World) : Prop where
  blk : W.heap[t]? = some (.cells (txC s a er pl) 55 (0, 0))
  gr : V.grownBy W (some t)
  le : a ≤ s.size
theorem Tx.cells {V : World} {t : Nat} {s : ByteArray} {a er pl : Nat} {W : World} (h : Tx V t s a er pl W) : W.cell? ⟨t, 0, none⟩ = some (.string s) ∧ W.cell? ⟨t, 1, none⟩ = some (.int .i64 (a : Int)) ∧ W.cell? ⟨t, 2, none⟩ = some (.int .i64 (er : Int)) ∧ W.cell? ⟨t, 3, none⟩ = some (.int .i64 (pl : Int)) ∧ (∀ j, W.frozen? ⟨t, j, none⟩ = false) := by
  have := h.blk
  refine ⟨?_, ?_, ?_, ?_, fun j => by simp [World.frozen?, this]⟩ <;> rw [cell_of_row _ _ _ _ _ _ this] <;> rfl
theorem Tx.at {V : World} {t : Nat} {s : ByteArray} {a er pl : Nat} {W : World} (h : Tx V t s a er pl W) (a' : Nat) (h2 : a' ≤ s.size) : Tx V t s a' er pl (W.setCell ⟨t, 1, none⟩ (.int .i64 (a' : Int))) := by
  obtain ⟨k1, k2⟩ := set_block (j := 1) h.blk (.int .i64 (a' : Int))
  exact ⟨k1, h.gr.trans k2, h2⟩
theorem Tx.drewN {V : World} {t : Nat} {s : ByteArray} {a er pl : Nat} {W : World} (h : Tx V t s a er pl W) (n : Nat) : Tx V t s a er pl (W.drewN n) := ⟨h.blk, ⟨h.gr.os, h.gr.tape, h.gr.output, h.gr.size, h.gr.block⟩, h.le⟩
theorem Tx.drew {V : World} {t : Nat} {s : ByteArray} {a er pl : Nat} {W : World} (h : Tx V t s a er pl W) : Tx V t s a er pl W.drew := ⟨h.blk, ⟨h.gr.os, h.gr.tape, h.gr.output, h.gr.size, h.gr.block⟩, h.le⟩
set_option maxRecDepth 100000 in
set_option maxHeartbeats 2000000 in
theorem blanks_any {V : World} {t : Nat} {s : ByteArray} {a er pl : Nat} {W : World} (h : Tx V t s a er pl W) (hs : s.size ≤ 67108864) : Calls Tryd.prog 36 #[.pointer (some ⟨t, 0, none⟩)] W fun e w => e = .returned (.tuple #[]) ∧ Tx V t s (skB (strN s) a) er pl w := by
  have HS := hide h
  have hle := h.le
  have hl := hide (strN_len s)
  clear h
  go_enter Tryd.func36, Tryd.ntmps36
  go_wp2
  go_loopg [] (s.size - a) (fun gk wr => ∃ k : Nat, gk = s.size - k ∧ k ≤ s.size ∧ Hid (Tx V t s k er pl wr) ∧ Hid (skB (strN s) a = skB (strN s) k))
  case atStart => exact ⟨a, rfl, hle, HS, rfl⟩
  case round =>
    obtain ⟨k, hgk, hk, HK, Hu⟩ := hrel
    have Hgk := hide hgk
    clear hgk HS
    obtain ⟨c0, c1, -, -, fz⟩ := (unhide HK).cells
    have f1 := fz 1
    have k0 : (0 : Int) ≤ (k : Int) := Int.natCast_nonneg _
    clear fz
    by_cases hlt : k < s.size
    · obtain ⟨gx, hx⟩ := bt_str s k hlt
      have i1 : (k : Int) < (s.size : Int) := by omega
      have hll : k < (strN s).length := by rw [unhide hl]; exact hlt
      obtain ⟨x, hxe⟩ : ∃ x, bt (strN s) k = x := ⟨_, rfl⟩
      rw [hxe] at gx
      by_cases hbl : isBl x = true
      · have Hr : Hid (skB (strN s) a = skB (strN s) (k + 1)) := (unhide Hu).trans (tw_step hll (by rw [hxe]; exact hbl))
        have q : ((x : Int) == 32) = true ∨ (((x : Int) == 32) = false ∧ ((x : Int) == 9) = true) ∨ (((x : Int) == 32) = false ∧ ((x : Int) == 9) = false ∧ ((x : Int) == 10) = true) ∨ (((x : Int) == 32) = false ∧ ((x : Int) == 9) = false ∧ ((x : Int) == 10) = false ∧ ((x : Int) == 13) = true) := by
          unfold isBl at hbl
          simp at hbl ⊢
          omega
        have e1 : ((k + 1 : Nat) : Int) = (k : Int) + 1 := by omega
        have HS2 : Hid (∀ n, Tx V t s (k + 1) er pl ((wr.drewN n).setCell ⟨t, 1, none⟩ (.int .i64 ((k : Int) + 1)))) := fun n => by
          have := ((unhide HK).drewN n).at (k + 1) (by omega)
          rw [e1] at this
          exact this
        clear hx hxe hbl hll Hu hl e1
        rcases q with q1 | ⟨q1, q2⟩ | ⟨q1, q2, q3⟩ | ⟨q1, q2, q3, q4⟩
        all_goals (
          go_wp2_with fail
          go_quiet (fail)
          go_wp2_with fail
          go_roundg (s.size - (k + 1))
          case measure => have := unhide Hgk; omega
          case rel => exact ⟨k + 1, rfl, by omega, unhide HS2 _, Hr⟩)
      · have Hr : Hid (skB (strN s) a = k) := (unhide Hu).trans (tw_stop (by rw [hxe]; simpa using hbl))
        have q1 : ((x : Int) == 32) = false := by unfold isBl at hbl; simp at hbl ⊢; omega
        have q2 : ((x : Int) == 9) = false := by unfold isBl at hbl; simp at hbl ⊢; omega
        have q3 : ((x : Int) == 10) = false := by unfold isBl at hbl; simp at hbl ⊢; omega
        have q4 : ((x : Int) == 13) = false := by unfold isBl at hbl; simp at hbl ⊢; omega
        clear hx hxe hbl hll Hu hl
        go_wp2_with fail
        go_quiet (fail)
        go_wp2_with fail
        go_end0
        rw [unhide Hr]
        exact ⟨rfl, (unhide HK).drewN _⟩
    · have Hr : Hid (skB (strN s) a = k) := (unhide Hu).trans (tw_end (by rw [unhide hl]; omega))
      have i1 : decide ((k : Int) < (s.size : Int)) = false := by simp; omega
      clear Hu hl
      go_wp2_with fail
      go_quiet (fail)
      go_wp2_with fail
      go_end0
      rw [unhide Hr]
      exact ⟨rfl, (unhide HK).drewN _⟩
set_option maxRecDepth 100000 in
set_option maxHeartbeats 1000000 in
theorem next_any {V : World} {t : Nat} {s : ByteArray} {a er pl : Nat} {W : World} (h : Tx V t s a er pl W) (hs : s.size ≤ 67108864) : Calls Tryd.prog 20 #[.pointer (some ⟨t, 0, none⟩)] W fun e w => e = .returned (.int .u8 ((bt (strN s) (skB (strN s) a) : Nat) : Int)) ∧ Tx V t s (skB (strN s) a) er pl w := by
  have HB := hide (blanks_any h hs)
  obtain ⟨k, hk⟩ : ∃ k, skB (strN s) a = k := ⟨_, rfl⟩
  rw [hk] at HB ⊢
  have hl := hide (strN_len s)
  clear h hk
  by_cases hlt : k < s.size
  · obtain ⟨gx, hx⟩ := bt_str s k hlt
    have i1 : (k : Int) < (s.size : Int) := by omega
    have k0 : (0 : Int) ≤ (k : Int) := Int.natCast_nonneg _
    obtain ⟨x, hxe⟩ : ∃ x, bt (strN s) k = x := ⟨_, rfl⟩
    rw [hxe] at gx ⊢
    clear hx hxe
    go_enter Tryd.func20, Tryd.ntmps20
    go_wp2_with fail
    refine (unhide HB).mono ?_
    rintro e w ⟨rfl, h1⟩
    have H1 := hide h1
    obtain ⟨c0, c1, -, -, -⟩ := h1.cells
    clear h1 HB
    go_wp2_with fail
    go_region
    go_wp2_with fail
    go_region
    go_wp2_with fail
    go_ret
    exact ⟨rfl, (unhide H1).drew.drew⟩
  · rw [bt_end (by rw [unhide hl]; omega)]
    go_enter Tryd.func20, Tryd.ntmps20
    go_wp2_with fail
    refine (unhide HB).mono ?_
    rintro e w ⟨rfl, h1⟩
    have H1 := hide h1
    obtain ⟨c0, c1, -, -, -⟩ := h1.cells
    clear h1 HB
    go_wp2_with fail
    go_region
    go_wp2_with fail
    go_ret
    exact ⟨rfl, (unhide H1).drew⟩
set_option maxRecDepth 100000 in
theorem fail_any {V : World} {t : Nat} {s : ByteArray} {a er pl : Nat} {W : World} (h : Tx V t s a er pl W) (c p : Nat) : Calls Tryd.prog 21 #[.pointer (some ⟨t, 0, none⟩), .int .i64 (c : Int), .int .i64 (p : Int)] W fun e w => e = .returned (.tuple #[]) ∧ Tx V t s a (if er = 0 then c else er) (if er = 0 then p else pl) w := by
  obtain ⟨-, -, c2, c3, fz⟩ := h.cells
  have f2 := fz 2
  have f3 := fz 3
  by_cases h0 : er = 0
  · rw [if_pos h0, if_pos h0]
    have HF : Hid (Tx V t s a c p ((W.setCell ⟨t, 2, none⟩ (.int .i64 (c : Int))).setCell ⟨t, 3, none⟩ (.int .i64 (p : Int)))) := by
      obtain ⟨k1, k2⟩ := set_block (j := 2) h.blk (.int .i64 (c : Int))
      obtain ⟨k3, k4⟩ := set_block (j := 3) k1 (.int .i64 (p : Int))
      exact ⟨k3, (h.gr.trans k2).trans k4, h.le⟩
    subst h0
    clear h fz
    go_enter Tryd.func21, Tryd.ntmps21
    go_wp2
    go_end0
    exact ⟨rfl, unhide HF⟩
  · rw [if_neg h0, if_neg h0]
    have q : ((er : Int) == 0) = false := by simp; omega
    have H := hide h
    clear h fz
    go_enter Tryd.func21, Tryd.ntmps21
    go_wp2
    go_end0
    exact ⟨rfl, unhide H⟩
end Go.Proofs.YthodjkeppobcmaaDoor
