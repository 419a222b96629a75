import Derived.Test.YtoojchjfmnbdpabDoorDFJ
import Derived.Test.YtoojchjfmnbdpabDoorDGJ
namespace Go.Proofs.YtoojchjfmnbdpabDoor
open Go.RowKit
attribute [local go_sem ↓] Go.wp_at_zero Go.wp_at_succ

/-- What Frame tells: the error and the bytes. -/
def frameA (ls : List (List Nat)) : Int × List Nat := if ls.length ≤ 65536 ∧ 4 + fsize ls ≤ 67108864 then (0, frameL ls) else (2, [])
theorem le4_byt (n : Nat) : Byt (le4 n) := by
  intro x hx
  simp only [le4, List.mem_cons, List.not_mem_nil, or_false] at hx
  omega
theorem frameL_byt {ls : List (List Nat)} (h : ∀ l ∈ ls, Byt l) : Byt (frameL ls) := by
  unfold frameL
  refine (le4_byt _).append fun x hx => ?_
  obtain ⟨l, hl, hx⟩ := List.mem_flatMap.1 hx
  exact (le4_byt _).append (h l hl) x hx
theorem frameA_byt {ls : List (List Nat)} (h : ∀ l ∈ ls, Byt l) : Byt (frameA ls).2 := by
  unfold frameA
  split
  · exact frameL_byt h
  · intro x hx; cases hx
theorem frame_any {W : World} {v : Value} {ls : List (List Nat)} (h : HasBB W v ls) (hn : ls.length ≤ 65536 → fsize ls ≤ 9223372036854775000) :
    Calls Tryd.prog 50 #[v] W fun e W' => ∃ v' n c, e = .returned (.tuple #[v', .int .i64 (frameA ls).1]) ∧ HasB W' v' (frameA ls).2 ∧ v' = .slice n (frameA ls).2.length c ∧ Below W.heap.size W W' := by
  unfold frameA
  by_cases hok : ls.length ≤ 65536 ∧ 4 + fsize ls ≤ 67108864
  · rw [if_pos hok]
    refine (frame_ok h hok.1 hok.2).mono fun e W' ⟨v', he, hB, hb⟩ => ?_
    obtain ⟨a, c, hv, _⟩ := id hB.has
    exact ⟨v', a, c, he, hB.has, hv, hb⟩
  · rw [if_neg hok]
    refine (frame_long h hn (by omega)).mono fun e W' ⟨he, hw⟩ => ?_
    subst hw
    exact ⟨_, none, 0, he, hasB_nil _, rfl, Below.refl _ _⟩
theorem num_any (W : World) (z : Int) : Calls Tryd.prog 19 #[.int .i64 z] W fun e W' => e = .returned (.int .i64 z) ∧ W' = W := by
  go_enter Tryd.func19, Tryd.ntmps19
  go_wp2
  go_ret
  exact ⟨rfl, rfl⟩
theorem fsize_lim {n : Nat} : ∀ {ls : List (List Nat)}, (∀ l ∈ ls, l.length ≤ n) → fsize ls ≤ ls.length * (4 + n)
  | [], _ => by simp [fsize]
  | l :: ls, h => by
    have h1 := fsize_lim (ls := ls) fun x hx => h x (List.mem_cons_of_mem _ hx)
    have h2 := h l List.mem_cons_self
    simp only [fsize, List.map_cons, List.sum_cons, List.length_cons] at h1 ⊢
    rw [Nat.add_mul, Nat.one_mul]
    omega
theorem fsize_few {ls : List (List Nat)} (h : ∀ l ∈ ls, l.length ≤ 140737488351232) (hn : ls.length ≤ 65536) : fsize ls ≤ 9223372036854775000 := by
  have h1 := fsize_lim h
  have h2 := Nat.mul_le_mul_right (4 + 140737488351232) hn
  omega
end Go.Proofs.YtoojchjfmnbdpabDoor
