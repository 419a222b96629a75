import Derived.Test.YtoojchjfmnbdpabDoorDFs
namespace Go.Proofs.YtoojchjfmnbdpabDoor
open Go.RowKit
attribute [local go_sem ↓] Go.wp_at_zero Go.wp_at_succ

set_option maxRecDepth 100000 in
set_option maxHeartbeats 4000000 in
theorem frame_long {W : World} {v : Value} {ls : List (List Nat)} (h : HasBB W v ls) (hn : ls.length ≤ 65536 → fsize ls ≤ 9223372036854775000) (h2 : 65536 < ls.length ∨ 67108864 < 4 + fsize ls) :
    Calls Tryd.prog 50 #[v] W fun e W' => e = .returned (.tuple #[.slice none 0 0, .int .i64 2]) ∧ W' = W := by
  have hfs : ls.length ≤ 65536 → _ := fun hl => frameSize_any h (hn hl)
  obtain ⟨a, c, rfl, hm, h3⟩ := h
  obtain ⟨N, hN⟩ : ∃ N, 4 + fsize ls = N := ⟨_, rfl⟩
  rw [hN] at hfs h2
  have Hfs := hide hfs
  have hc1 : c ≤ 9223372036854775807 := by have := hm.2.1; unfold maxLen at this; omega
  have hc2 := hm.1
  clear h3 hm hfs hN hn
  by_cases hlen : 65536 < ls.length
  · have q0 : decide (65536 < (ls.length : Int)) = true := by simp; omega
    go_enter Tryd.func50, Tryd.ntmps50
    go_wp2
    go_ret2
    exact ⟨rfl, rfl⟩
  · have q0 : decide (65536 < (ls.length : Int)) = false := by simp; omega
    have q1 : decide (67108864 < (N : Int)) = true := by simp; omega
    go_enter Tryd.func50, Tryd.ntmps50
    go_wp2_with fail
    refine (unhide Hfs (by omega)).mono ?_
    rintro e w' ⟨rfl, he⟩
    obtain rfl : W = w' := he.symm
    go_wp2
    go_ret2
    exact ⟨rfl, rfl⟩
end Go.Proofs.YtoojchjfmnbdpabDoor
