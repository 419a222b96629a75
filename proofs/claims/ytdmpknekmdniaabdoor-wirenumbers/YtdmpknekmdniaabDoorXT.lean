import Derived.Test.YtdmpknekmdniaabDoorXF
namespace Go.Proofs.YtdmpknekmdniaabDoor
open Go.RowKit
attribute [local go_sem ↓] Go.wp_at_zero Go.wp_at_succ

instance (x s : Int) : Decidable (okFix x s) := by unfold okFix; infer_instance
instance (n k : Int) : Decidable (okTag n k) := by unfold okTag; infer_instance
def fixB (x s : Int) : List Int := if okFix x s then lows x s.toNat else []
def fixC (x s : Int) : Int := if okFix x s then 0 else 1
def tagB (n k : Int) : List Int := if okTag n k then vint (8 * n.toNat + k.toNat) else []
def tagC (n k : Int) : Int := if n < 1 ∨ 536870911 < n then 24 else if k < 0 ∨ 5 < k then 23 else 0
theorem hasB_nil (W : World) : HasB W (.slice none 0 0) [] := ⟨none, 0, rfl, Nat.zero_le _, fun h => by simp at h⟩
/-- Bytes and a number are answered. -/
def Gives (W : World) (bs : List Int) (c : Int) (e : Ending) (W' : World) : Prop := ∃ v', e = .returned (.tuple #[v', .int .i64 c]) ∧ HasB W' v' bs ∧ Below W.heap.size W W'
theorem FixU.gives {W : World} {x s : Int} {e : Ending} {W' : World} (h : FixU W x s e W') : Gives W (fixB x s) (fixC x s) e W' := by
  obtain ⟨v', c, rfl, ⟨h1, rfl, h2⟩ | ⟨h1, rfl, rfl⟩, hb⟩ := h
  · exact ⟨v', by unfold fixC; rw [if_pos h1], by unfold fixB; rw [if_pos h1]; exact h2.has, hb⟩
  · exact ⟨_, by unfold fixC; rw [if_neg h1], by unfold fixB; rw [if_neg h1]; exact hasB_nil _, hb⟩
theorem TagU.gives {W : World} {n k : Int} {e : Ending} {W' : World} (h : TagU W n k e W') : Gives W (tagB n k) (tagC n k) e W' := by
  obtain ⟨v', c, rfl, rfl, ⟨h1, h2⟩ | ⟨h1, rfl⟩, hb⟩ := h
  · exact ⟨v', rfl, by unfold tagB; rw [if_pos h1]; exact h2.has, hb⟩
  · exact ⟨_, rfl, by unfold tagB; rw [if_neg h1]; exact hasB_nil _, hb⟩

set_option maxHeartbeats 2000000 in
theorem xtagU (W : World) (n k : Int) : Calls Tryd.prog 27 #[.int .i64 n, .int .i64 k] W (TagU W n k) := by
  by_cases h1 : n < 1
  · have hno : ¬ okTag n k := fun h => by unfold okTag at h; omega
    have HN := hide hno
    clear hno
    go_enter Tryd.func27, Tryd.ntmps27
    go_wp2
    go_ret2
    exact ⟨_, _, rfl, by rw [if_pos (.inl h1)], .inr ⟨unhide HN, rfl⟩, Below.refl _ _⟩
  · have d1 : decide (n < 1) = false := by simp; omega
    by_cases h2 : 536870911 < n
    · have hno : ¬ okTag n k := fun h => by unfold okTag at h; omega
      have HN := hide hno
      have H1 := hide h1
      clear hno h1
      go_enter Tryd.func27, Tryd.ntmps27
      go_wp2
      go_ret2
      exact ⟨_, _, rfl, by rw [if_pos (.inr h2)], .inr ⟨unhide HN, rfl⟩, Below.refl _ _⟩
    · have d2 : decide (536870911 < n) = false := by simp; omega
      have hnn : ¬ (n < 1 ∨ 536870911 < n) := by omega
      have Hnn := hide hnn
      by_cases h3 : k < 0
      · have hno : ¬ okTag n k := fun h => by unfold okTag at h; omega
        have HN := hide hno
        clear hno h1 h2 hnn
        go_enter Tryd.func27, Tryd.ntmps27
        go_wp2
        go_ret2
        exact ⟨_, _, rfl, by rw [if_neg (unhide Hnn), if_pos (.inl h3)], .inr ⟨unhide HN, rfl⟩, Below.refl _ _⟩
      · have d3 : decide (k < 0) = false := by simp; omega
        by_cases h4 : 5 < k
        · have hno : ¬ okTag n k := fun h => by unfold okTag at h; omega
          have HN := hide hno
          clear hno h1 h2 hnn h3
          go_enter Tryd.func27, Tryd.ntmps27
          go_wp2
          go_ret2
          exact ⟨_, _, rfl, by rw [if_neg (unhide Hnn), if_pos (.inr h4)], .inr ⟨unhide HN, rfl⟩, Below.refl _ _⟩
        · have d4 : decide (5 < k) = false := by simp; omega
          have hok : okTag n k := by unfold okTag; omega
          have HO := hide hok
          have hk' : ¬ (k < 0 ∨ 5 < k) := by omega
          have Hk := hide hk'
          obtain ⟨m, hm⟩ : ∃ m : Nat, (m : Int) = 8 * n + k ∧ m = 8 * n.toNat + k.toNat ∧ m < 9223372036854775808 := ⟨8 * n.toNat + k.toNat, by omega, rfl, by omega⟩
          obtain ⟨m1, m2, m3⟩ := hm
          have w1 : wrap64 (8 * n) = 8 * n := wrap64_small (by omega) (by omega)
          have w2 : wrap64 (8 * n + k) = (m : Int) := by rw [← m1]; exact wrap64_small (by clear w1; omega) (by clear w1; omega)
          have M2 := hide m2
          have M3 := hide m3
          clear h1 h2 hnn h3 h4 hk' hok m1 m2 m3
          go_enter Tryd.func27, Tryd.ntmps27
          go_wp2_with fail
          refine (xvarint_any W (m : Int) (rng_nat (unhide M3))).mono ?_
          rintro e W' ⟨v', rfl, hB, hb⟩
          rw [un_nat (unhide M3), unhide M2] at hB
          have HB := hide hB
          clear hB
          go_wp2
          go_ret2
          exact ⟨_, _, rfl, by rw [if_neg (unhide Hnn), if_neg (unhide Hk)], .inl ⟨unhide HO, unhide HB⟩, hb⟩
end Go.Proofs.YtdmpknekmdniaabDoor
