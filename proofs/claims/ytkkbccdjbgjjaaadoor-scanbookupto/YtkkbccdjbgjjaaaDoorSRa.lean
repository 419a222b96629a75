import Derived.Test.YtkkbccdjbgjjaaaDoorSB
import Derived.Lib.Strings

namespace Go.Proofs.YtkkbccdjbgjjaaaDoor
open Go.RowKit
attribute [local go_sem ↓] Go.wp_at_zero Go.wp_at_succ

theorem strN_extract (s : ByteArray) (a b : Nat) : strN (s.extract a b) = ((strN s).drop a).take (b - a) := by
  unfold strN
  rw [Lib.extract_data]
  simp [List.map_take, List.map_drop]
theorem strN_inj {s t : ByteArray} (h : strN s = strN t) : s = t := by
  have h1 : s.data.toList = t.data.toList := by
    unfold strN at h
    exact (List.map_inj_right (fun a b e => UInt8.toNat_inj.1 e)).1 h
  cases s with | mk d => cases t with | mk e => cases d; cases e; simp_all
theorem list_eq_iff (s t : ByteArray) : (s.toList == t.toList) = true ↔ strN s = strN t := by
  rw [ByteArray.toList_eq, ByteArray.toList_eq]
  constructor
  · intro h
    unfold strN
    rw [eq_of_beq h]
  · intro h
    rw [strN_inj h]
    simp
/-- Does s begin so? -/
def Pre (s p : ByteArray) : Prop := (strN s).take p.size = strN p
open Classical in
noncomputable def preB (s p : ByteArray) : Bool := decide (Pre s p)
theorem preT {s p : ByteArray} (h : Pre s p) : preB s p = true := by unfold preB; simp [h]
theorem preF {s p : ByteArray} (h : ¬ Pre s p) : preB s p = false := by unfold preB; simp [h]
set_option maxRecDepth 100000 in
theorem hasPrefix0_any (W : World) (s p : ByteArray) : Calls Tryd.prog 35 #[.string s, .string p] W fun e w => e = .returned (.bool (preB s p)) ∧ w = W := by
  by_cases hl : p.size ≤ s.size
  · have e1 : decide ((p.size : Int) ≤ (s.size : Int)) = true := by simp; omega
    have hx := strN_extract s 0 p.size
    have hiff := list_eq_iff (s.extract 0 p.size) p
    have Hx := hide hx
    have Hiff := hide hiff
    clear hx hiff
    go_enter Tryd.func35, Tryd.ntmps35
    go_wp2
    go_ret
    refine ⟨?_, rfl⟩
    have : ((s.extract 0 p.size).toList == p.toList) = preB s p := by
      by_cases hpre : Pre s p
      · rw [preT hpre]
        refine (unhide Hiff).2 ?_
        rw [unhide Hx]
        simpa [Pre] using hpre
      · rw [preF hpre, ← Bool.not_eq_true]
        intro h
        have := (unhide Hiff).1 h
        rw [unhide Hx] at this
        exact hpre (by simpa [Pre] using this)
    rw [← this]
    rfl
  · have e1 : decide ((p.size : Int) ≤ (s.size : Int)) = false := by simp; omega
    have hn : ¬ Pre s p := fun h => by
      have := congrArg List.length h
      rw [List.length_take, strN_len, strN_len] at this
      omega
    rw [preF hn]
    go_enter Tryd.func35, Tryd.ntmps35
    go_wp2
    go_ret
    exact ⟨rfl, rfl⟩
set_option maxRecDepth 100000 in
theorem hasPrefix_any (W : World) (s p : ByteArray) : Calls Tryd.prog 30 #[.string s, .string p] W fun e w => e = .returned (.bool (preB s p)) ∧ w = W := by
  go_enter Tryd.func30, Tryd.ntmps30
  go_wp2_with fail
  refine (hasPrefix0_any W s p).mono ?_
  rintro e w' ⟨rfl, he⟩
  obtain rfl : W = w' := he.symm
  go_wp2
  go_ret
  exact ⟨rfl, rfl⟩
end Go.Proofs.YtkkbccdjbgjjaaaDoor
