import Derived.Test.YtmapmegecdgcpaaDoorSXa
import Derived.Test.YtmapmegecdgcpaaDoorSYe
namespace Go.Proofs.YtmapmegecdgcpaaDoor
open Go.RowKit
attribute [local go_sem ↓] Go.wp_at_zero Go.wp_at_succ

set_option maxRecDepth 100000 in
set_option maxHeartbeats 2000000 in
theorem xsign_any (W : World) (c : Nat) :
    Calls Tryd.prog 54 #[.int .u8 (c : Int)] W (SaysB W (isSgn c)) := by
  have hstr : strN (⟨#[123, 125, 91, 93, 40, 41, 60, 62, 59, 44, 61, 46, 45]⟩ : ByteArray) = [123, 125, 91, 93, 40, 41, 60, 62, 59, 44, 61, 46, 45] := rfl
  go_enter Tryd.func54, Tryd.ntmps54
  go_wp2
  go_loopg [4] 13 (fun gk v4 wr => ∃ (i : Nat), v4 = .int .i64 (i : Int) ∧ gk = 13 - i ∧ i ≤ 13 ∧ wr = W ∧ Hid (∀ x ∈ [123, 125, 91, 93, 40, 41, 60, 62, 59, 44, 61, 46, 45].take i, x ≠ c))
  case atStart => exact ⟨0, rfl, rfl, by omega, rfl, fun x hx => by simp at hx⟩
  case round =>
    obtain ⟨i, rfl, hgk, hi, hwr, HA⟩ := hrel
    obtain rfl : W = wr := hwr.symm
    have Hgk := hide hgk
    clear hgk hwr
    by_cases hlt : i < 13
    · have hsz : i < (⟨#[123, 125, 91, 93, 40, 41, 60, 62, 59, 44, 61, 46, 45]⟩ : ByteArray).size := hlt
      obtain ⟨x, hx⟩ : ∃ x : Nat, (⟨#[123, 125, 91, 93, 40, 41, 60, 62, 59, 44, 61, 46, 45]⟩ : ByteArray)[i].toNat = x := ⟨_, rfl⟩
      have hxl : [123, 125, 91, 93, 40, 41, 60, 62, 59, 44, 61, 46, 45][i]? = some x := by rw [← hstr, strN_at _ i hsz]; unfold byteAt; rw [dif_pos hsz, hx]
      have i0 : (0 : Int) ≤ (i : Int) := Int.natCast_nonneg _
      have i1 : (i : Int) < 13 := by omega
      have Hxl := hide hxl
      clear hxl hstr
      by_cases e : x = c
      · have q : ((x : Int) == (c : Int)) = true := by rw [e]; simp
        go_wp2
        go_ret
        refine saysB true ⟨fun _ => ?_, fun _ => rfl⟩
        rw [← e]
        exact List.mem_of_getElem? (unhide Hxl)
      · have q : ((x : Int) == (c : Int)) = false := beq_eq_false_iff_ne.2 (by omega)
        have HA2 : Hid (∀ y ∈ [123, 125, 91, 93, 40, 41, 60, 62, 59, 44, 61, 46, 45].take (i + 1), y ≠ c) := fun y hy => by
          rw [List.take_add_one, unhide Hxl] at hy
          rcases List.mem_append.1 hy with hy | hy
          · exact unhide HA y hy
          · simp at hy; rw [hy]; exact e
        clear e
        go_wp2
        go_roundg (13 - (i + 1))
        case measure => have := unhide Hgk; omega
        case rel => exact ⟨i + 1, by go_num, rfl, by omega, rfl, HA2⟩
    · obtain rfl : i = 13 := by omega
      have hA := unhide HA
      have Hn : Hid (¬ isSgn c) := fun h => hA c h rfl
      clear hA HA
      go_wp2
      go_ret
      exact saysB false ⟨fun h => (by cases h), fun h => absurd h (unhide Hn)⟩
end Go.Proofs.YtmapmegecdgcpaaDoor
