import Derived.Test.YtoojchjfmnbdpaaDPa
import Derived.Test.YtoojchjfmnbdpaaDFx
namespace Go.Proofs.Ytoojchjfmnbdpaa
open Go.RowKit
attribute [local go_sem ↓] Go.wp_at_zero Go.wp_at_succ

set_option maxRecDepth 100000 in
set_option maxHeartbeats 1000000 in
theorem xnumber_short {W : World} {v : Value} {l : List Nat} (h : HasB W v l) (at' : Nat) (hs : l.length ≤ 140737488351232) (ha : at' ≤ l.length) (hn : l.length < at' + 4) :
    Calls Try.prog 26 #[v, .int .i64 (at' : Int)] W fun e W' => e = .returned (.int .i64 (-1)) ∧ W' = W := by
  obtain ⟨a, c, rfl, _, _⟩ := h
  have q0 : decide ((l.length : Int) < (at' : Int) + 4) = true := decide_eq_true (by omega)
  go_enter Try.func26, Try.ntmps26
  go_wp2
  go_ret
  exact ⟨rfl, rfl⟩
set_option maxRecDepth 100000 in
set_option maxHeartbeats 1000000 in
theorem xnumber_ok {W : World} {v : Value} {l : List Nat} (h : HasB W v l) (hl : Byt l) (at' : Nat) (hs : l.length ≤ 140737488351232) (hn : at' + 4 ≤ l.length) :
    Calls Try.prog 26 #[v, .int .i64 (at' : Int)] W fun e W' => e = .returned (.int .i64 ((leN (l.drop at') : Nat) : Int)) ∧ ∃ m, W' = W.drewN m := by
  obtain ⟨a, c, rfl, hm, h3⟩ := h
  obtain ⟨g, off, rfl, hg, hc⟩ := h3 (by omega)
  obtain ⟨x0, hx0⟩ : ∃ x, l[at']? = some x := ⟨_, List.getElem?_eq_getElem (by omega)⟩
  obtain ⟨x1, hx1⟩ : ∃ x, l[at' + 1]? = some x := ⟨_, List.getElem?_eq_getElem (by omega)⟩
  obtain ⟨x2, hx2⟩ : ∃ x, l[at' + 2]? = some x := ⟨_, List.getElem?_eq_getElem (by omega)⟩
  obtain ⟨x3, hx3⟩ : ∃ x, l[at' + 3]? = some x := ⟨_, List.getElem?_eq_getElem (by omega)⟩
  have c0 := hc at' x0 hx0
  have c1 := hc (at' + 1) x1 hx1
  have c2 := hc (at' + 2) x2 hx2
  have c3 := hc (at' + 3) x3 hx3
  have b0 := hl.at hx0
  have b1 := hl.at hx1
  have b2 := hl.at hx2
  have b3 := hl.at hx3
  have hle : leN (l.drop at') = x0 + 256 * x1 + 65536 * x2 + 16777216 * x3 := by
    unfold leN
    rw [List.getD_eq_getElem?_getD, List.getD_eq_getElem?_getD, List.getD_eq_getElem?_getD, List.getD_eq_getElem?_getD, List.getElem?_drop, List.getElem?_drop, List.getElem?_drop, List.getElem?_drop, Nat.add_zero, hx0, hx1, hx2, hx3]
    rfl
  rw [hle]
  have q0 : decide ((l.length : Int) < (at' : Int) + 4) = false := decide_eq_false (by omega)
  have a0 : (0 : Int) ≤ (at' : Int) := Int.natCast_nonneg _
  have a1 : (at' : Int) + 3 < (l.length : Int) := by omega
  obtain ⟨p1, hp1⟩ : ∃ p, p = at' + 1 := ⟨_, rfl⟩
  obtain ⟨p2, hp2⟩ : ∃ p, p = at' + 2 := ⟨_, rfl⟩
  obtain ⟨p3, hp3⟩ : ∃ p, p = at' + 3 := ⟨_, rfl⟩
  rw [← hp1] at c1
  rw [← hp2] at c2
  rw [← hp3] at c3
  have e1 : (at' : Int) + 1 = (p1 : Int) := by omega
  have e2 : (at' : Int) + 2 = (p2 : Int) := by omega
  have e3 : (at' : Int) + 3 = (p3 : Int) := by omega
  have r0 : (at' : Int) < (l.length : Int) := by omega
  have r1 : (p1 : Int) < (l.length : Int) := by omega
  have r2 : (p2 : Int) < (l.length : Int) := by omega
  have r3 : (p3 : Int) < (l.length : Int) := by omega
  have z1 : (0 : Int) ≤ (p1 : Int) := Int.natCast_nonneg _
  have z2 : (0 : Int) ≤ (p2 : Int) := Int.natCast_nonneg _
  have z3 : (0 : Int) ≤ (p3 : Int) := Int.natCast_nonneg _
  clear hm h3 hc hx0 hx1 hx2 hx3 hle hp1 hp2 hp3 a1
  go_enter Try.func26, Try.ntmps26
  go_wp2_with fail
  go_quiet (fail)
  go_wp2
  go_ret
  exact ⟨retI (by omega), _, rfl⟩
end Go.Proofs.Ytoojchjfmnbdpaa
