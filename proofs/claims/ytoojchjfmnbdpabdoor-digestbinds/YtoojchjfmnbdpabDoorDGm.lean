import Derived.Test.YtoojchjfmnbdpabDoorDGn
import Derived.Test.YtoojchjfmnbdpabDoorDFJ
import Derived.Test.YtoojchjfmnbdpabDoorDGk
import Derived.Test.YtoojchjfmnbdpabDoorDGf
import Derived.Test.YtoojchjfmnbdpabDoorDOO
namespace Go.Proofs.YtoojchjfmnbdpabDoor
open Go.RowKit
attribute [local go_sem ↓] Go.wp_at_zero Go.wp_at_succ

theorem xframe_all {W : World} {v : Value} {ls : List (List Nat)} (h : HasBB W v ls) (hn : ls.length ≤ 65536 → fsize ls ≤ 9223372036854775000) :
    Calls Tryd.prog 52 #[v] W fun e W' => ∃ v' n c, e = .returned (.tuple #[v', .int .i64 (frameA ls).1]) ∧ HasB W' v' (frameA ls).2 ∧ v' = .slice n (frameA ls).2.length c ∧ Below W.heap.size W W' := by
  refine (xframe_any h hn).mono fun e W' ⟨v', z, he, hb, hor⟩ => ?_
  unfold frameA
  rcases hor with ⟨hok, rfl, hB⟩ | ⟨hno, rfl, rfl⟩
  · rw [if_pos hok]
    obtain ⟨a, c, hv, _⟩ := id hB.has
    exact ⟨v', a, c, he, hB.has, hv, hb⟩
  · rw [if_neg (by omega)]
    exact ⟨_, none, 0, he, hasB_nil _, rfl, hb⟩
theorem fsize_flip (ps : List (Nat × List Nat)) : fsize ((ps.reverse.map flipP).map Prod.snd) = fsize (ps.map Prod.snd) := by
  unfold fsize
  rw [List.map_map, List.map_map, List.map_map, List.map_reverse]
  have : (((fun l : List Nat => 4 + l.length) ∘ Prod.snd) ∘ flipP) = ((fun l : List Nat => 4 + l.length) ∘ Prod.snd : Nat × List Nat → Nat) := by
    funext p
    simp [flipP, flip_len]
  rw [this, List.sum_reverse]
def lit9 : List Nat := [1, 0, 0, 0, 1, 0, 0, 0, 7]
end Go.Proofs.YtoojchjfmnbdpabDoor
