import Derived.Test.YtokiplfdhoealaaDoorSQ
import Derived.Lib.Strings
namespace Go.Proofs.YtokiplfdhoealaaDoor
open Go.RowKit
attribute [local go_sem ↓] Go.wp_at_zero Go.wp_at_succ

theorem strN_extract (s : ByteArray) (a b : Nat) : strN (s.extract a b) = ((strN s).drop a).take (b - a) := by
  unfold strN
  rw [Lib.extract_data]
  simp [List.map_take, List.map_drop]
theorem strN_inj {s t : ByteArray} (h : strN s = strN t) : s = t := by
  have h1 : s.data.toList = t.data.toList := by
    unfold strN at h
    exact (List.map_inj_right (fun a b e => UInt8.toNat_inj.1 e)).1 h
  cases s with | mk d => cases t with | mk e => cases d; cases e; simp_all
theorem list_eq_iff (s t : ByteArray) : (s.toList == t.toList) = true ↔ strN s = strN t := by
  rw [ByteArray.toList_eq, ByteArray.toList_eq]
  constructor
  · intro h
    unfold strN
    rw [eq_of_beq h]
  · intro h
    rw [strN_inj h]
    simp
/-- Does s begin so? -/
def Pre (s p : ByteArray) : Prop := (strN s).take p.size = strN p
open Classical in
noncomputable def preB (s p : ByteArray) : Bool := decide (Pre s p)
theorem preT {s p : ByteArray} (h : Pre s p) : preB s p = true := by unfold preB; simp [h]
theorem preF {s p : ByteArray} (h : ¬ Pre s p) : preB s p = false := by unfold preB; simp [h]
set_option maxRecDepth 100000 in
theorem hasPrefix0_any (W : World) (s p : ByteArray) : Calls Tryd.prog 39 #[.string s, .string p] W fun e w => e = .returned (.bool (preB s p)) ∧ w = W := by
  by_cases hl : p.size ≤ s.size
  · have e1 : decide ((p.size : Int) ≤ (s.size : Int)) = true := by simp; omega
    have hx := strN_extract s 0 p.size
    have hiff := list_eq_iff (s.extract 0 p.size) p
    have Hx := hide hx
    have Hiff := hide hiff
    clear hx hiff
    go_enter Tryd.func39, Tryd.ntmps39
    go_wp2
    go_ret
    refine ⟨?_, rfl⟩
    have : ((s.extract 0 p.size).toList == p.toList) = preB s p := by
      by_cases hpre : Pre s p
      · rw [preT hpre]
        refine (unhide Hiff).2 ?_
        rw [unhide Hx]
        simpa [Pre] using hpre
      · rw [preF hpre, ← Bool.not_eq_true]
        intro h
        have := (unhide Hiff).1 h
        rw [unhide Hx] at this
        exact hpre (by simpa [Pre] using this)
    rw [← this]
    rfl
  · have e1 : decide ((p.size : Int) ≤ (s.size : Int)) = false := by simp; omega
    have hn : ¬ Pre s p := fun h => by
      have := congrArg List.length h
      rw [List.length_take, strN_len, strN_len] at this
      omega
    rw [preF hn]
    go_enter Tryd.func39, Tryd.ntmps39
    go_wp2
    go_ret
    exact ⟨rfl, rfl⟩
set_option maxRecDepth 100000 in
theorem hasPrefix_any (W : World) (s p : ByteArray) : Calls Tryd.prog 29 #[.string s, .string p] W fun e w => e = .returned (.bool (preB s p)) ∧ w = W := by
  go_enter Tryd.func29, Tryd.ntmps29
  go_wp2_with fail
  refine (hasPrefix0_any W s p).mono ?_
  rintro e w' ⟨rfl, he⟩
  obtain rfl : W = w' := he.symm
  go_wp2
  go_ret
  exact ⟨rfl, rfl⟩

def Top : Nat := 9223372036854775807
/-- The worth of a text that is just a number. -/
def wv (l : List Nat) : Option Nat :=
  if l.take 2 = [48, 120] ∨ l.take 2 = [48, 88] then (if l.length = 2 then none else nval 16 9223372036854775807 (l.drop 2) 0)
  else if l.take 1 = [48] then nval 8 9223372036854775807 l 0 else if l = [] then none else nval 10 9223372036854775807 l 0
theorem nval_le {B M : Nat} : ∀ (l : List Nat) (n u : Nat), n ≤ M → nval B M l n = some u → u ≤ M
  | [], n, u, hn, h => by
    have : n = u := by simpa [nval] using h
    omega
  | c :: r, n, u, hn, h => by
    simp only [nval] at h
    split at h
    · cases h
    · split at h
      · rename_i hc
        exact nval_le r _ u hc.2 h
      · cases h
theorem wv_le {l : List Nat} {u : Nat} (h : wv l = some u) : u ≤ 9223372036854775807 := by
  unfold wv at h
  split at h
  · split at h
    · cases h
    · exact nval_le _ 0 u (by decide) h
  · split at h
    · exact nval_le _ 0 u (by decide) h
    · split at h
      · cases h
      · exact nval_le _ 0 u (by decide) h
/-- What worth answers. -/
def NumU (l : List Nat) (n c : Int) : Prop := (∃ u : Nat, wv l = some u ∧ n = (u : Int) ∧ c = 0) ∨ (wv l = none ∧ n = 0 ∧ c = 41)
def WorthP (W : World) (l : List Nat) (e : Ending) (w : World) : Prop := Below W.heap.size W w ∧ ∃ n c : Int, e = .returned (.tuple #[.int .i64 n, .int .i64 c]) ∧ NumU l n c
end Go.Proofs.YtokiplfdhoealaaDoor
