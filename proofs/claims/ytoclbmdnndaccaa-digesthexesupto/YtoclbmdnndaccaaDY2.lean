import Derived.Test.YtoclbmdnndaccaaDY
import Derived.Test.YtoclbmdnndaccaaDX3
namespace Go.Proofs.Ytoclbmdnndaccaa
open Go.RowKit
attribute [local go_sem ↓] Go.wp_at_zero Go.wp_at_succ

def digI (c : Nat) : Int := match dig c with
  | some d => (d : Int)
  | none => -1
theorem digI_some {c d : Nat} (h : dig c = some d) : digI c = (d : Int) := by unfold digI; rw [h]
theorem digI_none {c : Nat} (h : dig c = none) : digI c = -1 := by unfold digI; rw [h]
set_option maxRecDepth 100000 in
set_option maxHeartbeats 100000 in
theorem xdigit_any (W : World) (c : Nat) : Calls Try.prog 19 #[.int .u8 (c : Int)] W fun e W' => e = .returned (.int .i64 (digI c)) ∧ W' = W := by
  have hdg : ∀ k : Fin 16, (⟨#[48, 49, 50, 51, 52, 53, 54, 55, 56, 57, 97, 98, 99, 100, 101, 102]⟩ : ByteArray)[k.val]'(by have := k.isLt; exact this) = UInt8.ofNat (hexd k.val) := by decide
  go_enter Try.func19, Try.ntmps19
  go_wp2
  go_loopg [3] 16 (fun gk v3 wr => ∃ (i : Nat), v3 = .int .i64 (i : Int) ∧ gk = 16 - i ∧ i ≤ 16 ∧ (∀ j < i, hexd j ≠ c) ∧ wr = W)
  case atStart => exact ⟨0, rfl, rfl, by omega, fun j hj => by omega, rfl⟩
  case round =>
    obtain ⟨i, rfl, hgk, hk, hno, rfl⟩ := hrel
    have Hgk := hide hgk
    have Hno := hide hno
    clear hgk hno
    by_cases hlt : i < 16
    · have hlt' : (i : Int) < 16 := by omega
      have gx : ((⟨#[48, 49, 50, 51, 52, 53, 54, 55, 56, 57, 97, 98, 99, 100, 101, 102]⟩ : ByteArray)[i]'hlt).toNat = hexd i := by
        rw [hdg ⟨i, hlt⟩]
        exact u8_back (hexd_lt hlt)
      clear hdg
      by_cases hc : hexd i = c
      · have hd : digI c = (i : Int) := digI_some (by rw [← hc]; exact dig_hexd hlt)
        have e1 : (((hexd i : Nat) : Int) == (c : Int)) = true := by rw [hc]; simp
        go_wp2
        go_ret
        exact ⟨retI hd.symm, rfl⟩
      · have e1 : (((hexd i : Nat) : Int) == (c : Int)) = false := by simp; omega
        have Hc := hide hc
        clear hc
        go_wp2
        go_roundg (16 - (i + 1))
        case measure => have := unhide Hgk; omega
        case rel =>
          refine ⟨i + 1, by go_num, rfl, by omega, fun j hj => ?_, rfl⟩
          by_cases hji : j = i
          · subst hji; exact unhide Hc
          · exact unhide Hno j (by omega)
    · obtain rfl : i = 16 := by omega
      have hd : digI c = -1 := by
        refine digI_none ?_
        cases h : dig c with
        | none => rfl
        | some d => exact absurd (hexd_dig h) (unhide Hno d (dig_lt h))
      clear hdg
      go_wp2
      go_ret
      exact ⟨retI hd.symm, rfl⟩

end Go.Proofs.Ytoclbmdnndaccaa
