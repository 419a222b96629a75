import Derived.Test.YtdmpknekmdniaabDoorXV
namespace Go.Proofs.YtdmpknekmdniaabDoor
open Go.RowKit
attribute [local go_sem ↓] Go.wp_at_zero Go.wp_at_succ

/-- What Fixed answers. -/
def okFix (x s : Int) : Prop := s = 8 ∨ s = 4 ∧ 0 ≤ x ∧ x ≤ 4294967295
def FixU (W : World) (x s : Int) (e : Ending) (W' : World) : Prop := ∃ v' c, e = .returned (.tuple #[v', .int .i64 c]) ∧ (okFix x s ∧ c = 0 ∧ Bytes W.heap.size W' v' (lows x s.toNat) ∨ ¬ okFix x s ∧ c = 1 ∧ v' = .slice none 0 0) ∧ Below W.heap.size W W'

set_option maxHeartbeats 2000000 in
theorem fixedU (W : World) (x s : Int) : Calls Tryd.prog 24 #[.int .i64 x, .int .i64 s] W (FixU W x s) := by
  by_cases h8 : s = 8
  · subst h8
    refine (fixed_any W x 8 (.inr rfl)).mono ?_
    rintro e W' ⟨v', rfl, hB, hb⟩
    exact ⟨v', 0, rfl, .inl ⟨.inl rfl, rfl, hB⟩, hb⟩
  · by_cases h4 : s = 4
    · subst h4
      by_cases hw : 0 ≤ x ∧ x ≤ 4294967295
      · refine (fixed_any W x 4 (.inl ⟨rfl, hw⟩)).mono ?_
        rintro e W' ⟨v', rfl, hB, hb⟩
        exact ⟨v', 0, rfl, .inl ⟨.inr ⟨rfl, hw⟩, rfl, hB⟩, hb⟩
      · have hno : ¬ okFix x 4 := fun h => h.elim (fun e => by omega) (fun e => hw e.2)
        have hd : decide (0 ≤ x ∧ x ≤ 4294967295) = false := decide_eq_false hw
        have HN := hide hno
        clear hw hno
        go_enter Tryd.func24, Tryd.ntmps24
        go_wp2_with fail
        refine (word_any W x).mono ?_
        rintro e w' ⟨rfl, he⟩
        obtain rfl : W = w' := he.symm
        rw [hd]
        go_wp2
        go_ret2
        exact ⟨_, _, rfl, .inr ⟨unhide HN, rfl, rfl⟩, Below.refl _ _⟩
    · have hno : ¬ okFix x s := fun h => h.elim h8 (fun e => h4 e.1)
      have e8 : (s != 8) = true := by simp [h8]
      have e4 : (s != 4) = true := by simp [h4]
      have HN := hide hno
      clear h8 h4 hno
      go_enter Tryd.func24, Tryd.ntmps24
      go_wp2
      go_ret2
      exact ⟨_, _, rfl, .inr ⟨unhide HN, rfl, rfl⟩, Below.refl _ _⟩

set_option maxHeartbeats 2000000 in
theorem xfixedU (W : World) (x s : Int) (hx : Rng x) : Calls Tryd.prog 25 #[.int .i64 x, .int .i64 s] W (FixU W x s) := by
  by_cases h8 : s = 8
  · subst h8
    go_enter Tryd.func25, Tryd.ntmps25
    go_wp2_with fail
    refine (xlow_any W x hx 8 (by decide)).mono ?_
    rintro e W' ⟨v', rfl, hB, hb⟩
    go_wp2
    go_ret2
    exact ⟨v', 0, rfl, .inl ⟨.inl rfl, rfl, hB⟩, hb⟩
  · by_cases h4 : s = 4
    · subst h4
      by_cases hw : 0 ≤ x ∧ x ≤ 4294967295
      · have f1 : decide (x < 0) = false := by simp; omega
        have f2 : decide (4294967295 < x) = false := by simp; omega
        have HW := hide hw
        clear hw
        go_enter Tryd.func25, Tryd.ntmps25
        go_wp2_with fail
        refine (xlow_any W x hx 4 (by decide)).mono ?_
        rintro e W' ⟨v', rfl, hB, hb⟩
        go_wp2
        go_ret2
        exact ⟨v', 0, rfl, .inl ⟨.inr ⟨rfl, unhide HW⟩, rfl, hB⟩, hb⟩
      · have hno : ¬ okFix x 4 := fun h => h.elim (fun e => by omega) (fun e => hw e.2)
        have HN := hide hno
        have hor : x < 0 ∨ (0 ≤ x ∧ 4294967295 < x) := by omega
        clear hw hno
        rcases hor with f1 | ⟨f0, f2⟩
        · go_enter Tryd.func25, Tryd.ntmps25
          go_wp2
          go_ret2
          exact ⟨_, _, rfl, .inr ⟨unhide HN, rfl, rfl⟩, Below.refl _ _⟩
        · have f1 : decide (x < 0) = false := by simp; omega
          go_enter Tryd.func25, Tryd.ntmps25
          go_wp2
          go_ret2
          exact ⟨_, _, rfl, .inr ⟨unhide HN, rfl, rfl⟩, Below.refl _ _⟩
    · have hno : ¬ okFix x s := fun h => h.elim h8 (fun e => h4 e.1)
      have e8 : (s != 8) = true := by simp [h8]
      have e4 : (s != 4) = true := by simp [h4]
      have HN := hide hno
      clear h8 h4 hno
      go_enter Tryd.func25, Tryd.ntmps25
      go_wp2
      go_ret2
      exact ⟨_, _, rfl, .inr ⟨unhide HN, rfl, rfl⟩, Below.refl _ _⟩

def okTag (n k : Int) : Prop := 1 ≤ n ∧ n ≤ 536870911 ∧ 0 ≤ k ∧ k ≤ 5
def TagU (W : World) (n k : Int) (e : Ending) (W' : World) : Prop := ∃ v' c, e = .returned (.tuple #[v', .int .i64 c]) ∧ c = (if n < 1 ∨ 536870911 < n then 24 else if k < 0 ∨ 5 < k then 23 else 0) ∧ (okTag n k ∧ Bytes W.heap.size W' v' (vint (8 * n.toNat + k.toNat)) ∨ ¬ okTag n k ∧ v' = .slice none 0 0) ∧ Below W.heap.size W W'
set_option maxHeartbeats 2000000 in
theorem tagU (W : World) (n k : Int) : Calls Tryd.prog 26 #[.int .i64 n, .int .i64 k] W (TagU W n k) := by
  by_cases h : okTag n k
  · obtain ⟨h1, h2, h3, h4⟩ := h
    obtain ⟨a, rfl⟩ : ∃ a : Nat, n = (a : Int) := ⟨n.toNat, by omega⟩
    obtain ⟨b, rfl⟩ : ∃ b : Nat, k = (b : Int) := ⟨k.toNat, by omega⟩
    refine (tagW_any W a b (by omega) (by omega)).mono ?_
    rintro e W' ⟨v', rfl, hB, hb⟩
    exact ⟨v', 0, rfl, by rw [if_neg (by omega), if_neg (by omega)], .inl ⟨⟨h1, h2, h3, h4⟩, by simpa using hB⟩, hb⟩
  · have hc : ∃ c : Int, c ≠ 0 ∧ c = (if n < 1 ∨ 536870911 < n then 24 else if k < 0 ∨ 5 < k then 23 else 0) := by
      refine ⟨_, ?_, rfl⟩
      unfold okTag at h
      split
      · decide
      · split
        · decide
        · omega
    obtain ⟨c, hc0, hc⟩ := hc
    have HN := hide h
    have e0 : (c != 0) = true := by simp [hc0]
    clear h hc0
    go_enter Tryd.func26, Tryd.ntmps26
    go_wp2_with fail
    refine (tag_any W n k).mono ?_
    rintro e w' ⟨rfl, he⟩
    obtain rfl : W = w' := he.symm
    rw [← hc]
    have Hc := hide hc
    clear hc
    go_wp2
    go_ret2
    exact ⟨_, _, rfl, unhide Hc, .inr ⟨unhide HN, rfl⟩, Below.refl _ _⟩
end Go.Proofs.YtdmpknekmdniaabDoor
