import Derived.Test.YtoojchjfmnbdpabDoorDTe
import Derived.Test.YtoojchjfmnbdpabDoorDGm
namespace Go.Proofs.YtoojchjfmnbdpabDoor
open Go.RowKit
attribute [local go_sem ↓] Go.wp_at_zero Go.wp_at_succ

/-- What Root tells. -/
def rootA (ls : List (List Nat)) : Int × List Nat := if 65536 < ls.length then (2, []) else (0, rootF 65536 ls)
/-- What Prove tells. -/
def proveA (ls : List (List Nat)) (z : Int) : Int × List (List Nat) := if 65536 < ls.length then (2, []) else if z < 0 ∨ (ls.length : Int) ≤ z then (32, []) else (0, wayF 65536 ls z.toNat)
theorem rootA_byt (ls : List (List Nat)) : Byt (rootA ls).2 := by
  unfold rootA
  split
  · intro x hx; cases hx
  · exact rootF_byt _ _
theorem proveA_byt (ls : List (List Nat)) (z : Int) : ∀ l ∈ (proveA ls z).2, Byt l := by
  unfold proveA
  split
  · intro l hl; cases hl
  · split
    · intro l hl; cases hl
    · intro l hl; exact (wayF_byt _ _ _ l hl).1
set_option maxRecDepth 100000 in
theorem root_any {W : World} (hK : HasK W) (hS : HasS W) {v : Value} {ls : List (List Nat)} (h : HasBB W v ls) (hb : ∀ l ∈ ls, Byt l ∧ l.length ≤ 140737488351232) :
    Calls Tryd.prog 18 #[v] W fun e W' => ∃ v', e = .returned (.tuple #[v', .int .i64 (rootA ls).1]) ∧ (HasB W' v' (rootA ls).2 ∧ ∃ n c, v' = .slice n (rootA ls).2.length c) ∧ Below W.heap.size W W' := by
  unfold rootA
  by_cases hn : 65536 < ls.length
  · rw [if_pos hn]
    obtain ⟨va, vc, rfl, _, _⟩ := h
    have q0 : decide (65536 < (ls.length : Int)) = true := decide_eq_true (by omega)
    go_enter Tryd.func18, Tryd.ntmps18
    go_wp2
    go_ret2
    exact ⟨_, rfl, ⟨hasB_nil _, _, _, rfl⟩, Below.refl _ _⟩
  · rw [if_neg hn]
    have hr := rootOver_any 65536 hK hS h hb (by omega) (by omega)
    have Hr := hide hr
    obtain ⟨va, vc, rfl, _, _⟩ := h
    have q0 : decide (65536 < (ls.length : Int)) = false := decide_eq_false (by omega)
    clear hr
    go_enter Tryd.func18, Tryd.ntmps18
    go_wp2_with fail
    refine (unhide Hr).mono ?_
    rintro e w2 ⟨v2, rfl, hB2, hb2⟩
    obtain ⟨x, y, hv⟩ : ∃ x y, v2 = .slice x (rootF 65536 ls).length y := by obtain ⟨x, y, e, _⟩ := id hB2.has; exact ⟨_, _, e⟩
    subst hv
    have HB := hide hB2.has
    have Hb := hide hb2
    clear hB2 hb2 Hr
    go_wp2
    go_ret2
    exact ⟨_, rfl, ⟨unhide HB, _, _, rfl⟩, unhide Hb⟩
set_option maxRecDepth 100000 in
theorem xroot_any {W : World} (hX : HasX W) {v : Value} {ls : List (List Nat)} (h : HasBB W v ls) (hb : ∀ l ∈ ls, Byt l ∧ l.length ≤ 140737488351232) :
    Calls Tryd.prog 32 #[v] W fun e W' => ∃ v', e = .returned (.tuple #[v', .int .i64 (rootA ls).1]) ∧ (HasB W' v' (rootA ls).2 ∧ ∃ n c, v' = .slice n (rootA ls).2.length c) ∧ Below W.heap.size W W' := by
  unfold rootA
  by_cases hn : 65536 < ls.length
  · rw [if_pos hn]
    obtain ⟨va, vc, rfl, _, _⟩ := h
    have q0 : decide (65536 < (ls.length : Int)) = true := decide_eq_true (by omega)
    go_enter Tryd.func32, Tryd.ntmps32
    go_wp2
    go_ret2
    exact ⟨_, rfl, ⟨hasB_nil _, _, _, rfl⟩, Below.refl _ _⟩
  · rw [if_neg hn]
    have hr := xover_any 65536 hX h hb (by omega) (by omega)
    have Hr := hide hr
    obtain ⟨va, vc, rfl, _, _⟩ := h
    have q0 : decide (65536 < (ls.length : Int)) = false := decide_eq_false (by omega)
    clear hr
    go_enter Tryd.func32, Tryd.ntmps32
    go_wp2_with fail
    refine (unhide Hr).mono ?_
    rintro e w2 ⟨v2, rfl, hB2, hb2⟩
    obtain ⟨x, y, hv⟩ : ∃ x y, v2 = .slice x (rootF 65536 ls).length y := by obtain ⟨x, y, e, _⟩ := id hB2.has; exact ⟨_, _, e⟩
    subst hv
    have HB := hide hB2.has
    have Hb := hide hb2
    clear hB2 hb2 Hr
    go_wp2
    go_ret2
    exact ⟨_, rfl, ⟨unhide HB, _, _, rfl⟩, unhide Hb⟩
set_option maxRecDepth 100000 in
theorem prove_any {W : World} (hK : HasK W) (hS : HasS W) {v : Value} {ls : List (List Nat)} {z : Int} (h : HasBB W v ls) (hb : ∀ l ∈ ls, Byt l ∧ l.length ≤ 140737488351232) :
    Calls Tryd.prog 21 #[v, .int .i64 z] W fun e W' => ∃ v', e = .returned (.tuple #[v', .int .i64 (proveA ls z).1]) ∧ (HasBB W' v' (proveA ls z).2 ∧ ∃ n m c, v' = .slice n m c) ∧ Below W.heap.size W W' := by
  unfold proveA
  by_cases hn : 65536 < ls.length
  · rw [if_pos hn]
    obtain ⟨va, vc, rfl, _, _⟩ := h
    have q0 : decide (65536 < (ls.length : Int)) = true := decide_eq_true (by omega)
    go_enter Tryd.func21, Tryd.ntmps21
    go_wp2
    go_ret2
    exact ⟨_, rfl, ⟨hasBB_nil _, _, _, _, rfl⟩, Below.refl _ _⟩
  · rw [if_neg hn]
    have q0 : decide (65536 < (ls.length : Int)) = false := decide_eq_false (by omega)
    by_cases hz : z < 0
    · rw [if_pos (.inl hz)]
      obtain ⟨va, vc, rfl, _, _⟩ := h
      have q1 : decide (z < 0) = true := decide_eq_true hz
      go_enter Tryd.func21, Tryd.ntmps21
      go_wp2
      go_ret2
      exact ⟨_, rfl, ⟨hasBB_nil _, _, _, _, rfl⟩, Below.refl _ _⟩
    · have q1 : decide (z < 0) = false := decide_eq_false hz
      by_cases hz2 : (ls.length : Int) ≤ z
      · rw [if_pos (.inr hz2)]
        obtain ⟨va, vc, rfl, _, _⟩ := h
        have q2 : decide ((ls.length : Int) ≤ z) = true := decide_eq_true hz2
        go_enter Tryd.func21, Tryd.ntmps21
        go_wp2
        go_ret2
        exact ⟨_, rfl, ⟨hasBB_nil _, _, _, _, rfl⟩, Below.refl _ _⟩
      · rw [if_neg (by omega)]
        have q2 : decide ((ls.length : Int) ≤ z) = false := decide_eq_false hz2
        obtain ⟨at', hat⟩ : ∃ at' : Nat, z = (at' : Int) := ⟨z.toNat, by omega⟩
        subst hat
        rw [Int.toNat_natCast]
        have hr := wayOf_any 65536 (at' := at') hK hS h hb (by omega) (by omega) (by omega) (by omega) (by omega)
        have Hr := hide hr
        obtain ⟨va, vc, rfl, _, _⟩ := h
        clear hr
        go_enter Tryd.func21, Tryd.ntmps21
        go_wp2_with fail
        refine (unhide Hr).mono ?_
        rintro e w2 ⟨v2, rfl, ⟨us2, hO2⟩, hb2⟩
        obtain ⟨x, y, c, hv⟩ : ∃ x y z, v2 = .slice x y z := by obtain ⟨x, y, e, _⟩ := id hO2.has; exact ⟨_, _, _, e⟩
        subst hv
        have HB := hide hO2.has
        have Hb := hide hb2
        clear hO2 hb2 Hr
        go_wp2
        go_ret2
        exact ⟨_, rfl, ⟨unhide HB, _, _, _, rfl⟩, unhide Hb⟩
set_option maxRecDepth 100000 in
theorem xprove_any {W : World} (hX : HasX W) {v : Value} {ls : List (List Nat)} {z : Int} (h : HasBB W v ls) (hb : ∀ l ∈ ls, Byt l ∧ l.length ≤ 140737488351232) :
    Calls Tryd.prog 33 #[v, .int .i64 z] W fun e W' => ∃ v', e = .returned (.tuple #[v', .int .i64 (proveA ls z).1]) ∧ (HasBB W' v' (proveA ls z).2 ∧ ∃ n m c, v' = .slice n m c) ∧ Below W.heap.size W W' := by
  unfold proveA
  by_cases hn : 65536 < ls.length
  · rw [if_pos hn]
    obtain ⟨va, vc, rfl, _, _⟩ := h
    have q0 : decide (65536 < (ls.length : Int)) = true := decide_eq_true (by omega)
    go_enter Tryd.func33, Tryd.ntmps33
    go_wp2
    go_ret2
    exact ⟨_, rfl, ⟨hasBB_nil _, _, _, _, rfl⟩, Below.refl _ _⟩
  · rw [if_neg hn]
    have q0 : decide (65536 < (ls.length : Int)) = false := decide_eq_false (by omega)
    by_cases hz : z < 0
    · rw [if_pos (.inl hz)]
      obtain ⟨va, vc, rfl, _, _⟩ := h
      have q1 : decide (z < 0) = true := decide_eq_true hz
      go_enter Tryd.func33, Tryd.ntmps33
      go_wp2
      go_ret2
      exact ⟨_, rfl, ⟨hasBB_nil _, _, _, _, rfl⟩, Below.refl _ _⟩
    · have q1 : decide (z < 0) = false := decide_eq_false hz
      by_cases hz2 : (ls.length : Int) ≤ z
      · rw [if_pos (.inr hz2)]
        obtain ⟨va, vc, rfl, _, _⟩ := h
        have q2 : decide ((ls.length : Int) ≤ z) = true := decide_eq_true hz2
        go_enter Tryd.func33, Tryd.ntmps33
        go_wp2
        go_ret2
        exact ⟨_, rfl, ⟨hasBB_nil _, _, _, _, rfl⟩, Below.refl _ _⟩
      · rw [if_neg (by omega)]
        have q2 : decide ((ls.length : Int) ≤ z) = false := decide_eq_false hz2
        obtain ⟨at', hat⟩ : ∃ at' : Nat, z = (at' : Int) := ⟨z.toNat, by omega⟩
        subst hat
        rw [Int.toNat_natCast]
        have hr := xway_any 65536 (at' := at') hX h hb (by omega) (by omega) (by omega) (by omega)
        have Hr := hide hr
        obtain ⟨va, vc, rfl, _, _⟩ := h
        clear hr
        go_enter Tryd.func33, Tryd.ntmps33
        go_wp2_with fail
        refine (unhide Hr).mono ?_
        rintro e w2 ⟨v2, rfl, ⟨us2, hO2⟩, hb2⟩
        obtain ⟨x, y, c, hv⟩ : ∃ x y z, v2 = .slice x y z := by obtain ⟨x, y, e, _⟩ := id hO2.has; exact ⟨_, _, _, e⟩
        subst hv
        have HB := hide hO2.has
        have Hb := hide hb2
        clear hO2 hb2 Hr
        go_wp2
        go_ret2
        exact ⟨_, rfl, ⟨unhide HB, _, _, _, rfl⟩, unhide Hb⟩
end Go.Proofs.YtoojchjfmnbdpabDoor
