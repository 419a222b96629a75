import Derived.Test.YtkkbccdjbgjjaaaDoorSB

namespace Go.Proofs.YtkkbccdjbgjjaaaDoor
open Go.RowKit
attribute [local go_sem ↓] Go.wp_at_zero Go.wp_at_succ

set_option maxRecDepth 100000 in
set_option maxHeartbeats 1000000 in
theorem classOf_any (W : World) (c : Nat) (hc : c < 256) :
    Calls Tryd.prog 15 #[.int .u8 (c : Int)] W fun e w => e = .returned (.int .i64 (cls c : Int)) ∧ w = W := by
  have hi := sgn_idx hc
  generalize hg : firstIdx ⟨#[123, 125, 91, 93, 40, 41, 60, 62, 59, 44, 61, 46, 45]⟩ (Nat.toUInt8 c) = ix at hi
  have Hg := hide hg
  have Hi := hide hi
  clear hg hi
  by_cases h1 : (9 ≤ c ∧ c ≤ 13) ∨ c = 32
  · have hk : cls c = 1 := by unfold cls; rw [if_pos h1]
    rw [hk]
    rcases h1 with ⟨h1, h2⟩ | rfl
    · go_enter Tryd.func15, Tryd.ntmps15; go_wp2; go_ret; exact ⟨rfl, rfl⟩
    · go_enter Tryd.func15, Tryd.ntmps15; go_wp2; go_ret; exact ⟨rfl, rfl⟩
  · obtain ⟨n32, hb⟩ : ¬ ((c : Int) = 32) ∧ (c < 9 ∨ 13 < c) := by omega
    by_cases h2 : isLet c
    · have hk : cls c = 2 := cls_let.2 h2
      rw [hk]
      unfold isLet at h2
      clear h1
      rcases h2 with ⟨h1, h2⟩ | ⟨h1, h2⟩ | rfl
      · have b1 := geT (c := c) (k := 9) (by omega); have b2 := leF (c := c) (k := 13) (by omega); have b3 := eqF n32; have b4 := geT (c := c) (k := 65) (by omega); have b5 := leT (c := c) (k := 90) (by omega)
        go_enter Tryd.func15, Tryd.ntmps15; go_wp2; go_ret; exact ⟨rfl, rfl⟩
      · have b1 := geT (c := c) (k := 9) (by omega); have b2 := leF (c := c) (k := 13) (by omega); have b3 := eqF n32; have b4 := geT (c := c) (k := 65) (by omega); have b5 := leF (c := c) (k := 90) (by omega); have b6 := geT (c := c) (k := 97) (by omega); have b7 := leT (c := c) (k := 122) (by omega)
        go_enter Tryd.func15, Tryd.ntmps15; go_wp2; go_ret; exact ⟨rfl, rfl⟩
      · go_enter Tryd.func15, Tryd.ntmps15; go_wp2; go_ret; exact ⟨rfl, rfl⟩
    · by_cases h3 : isDig c
      · have hk : cls c = 3 := cls_dig.2 h3
        rw [hk]
        unfold isDig at h3
        obtain ⟨h4, h5⟩ := h3
        clear h1 h2
        have b1 := geT (c := c) (k := 9) (by omega); have b2 := leF (c := c) (k := 13) (by omega); have b3 := eqF n32; have b4 := geF (c := c) (k := 65) (by omega); have b5 := geF (c := c) (k := 97) (by omega); have b6 := eqF (c := c) (k := 95) (by omega); have b7 := geT (c := c) (k := 48) (by omega); have b8 := leT (c := c) (k := 57) (by omega)
        go_enter Tryd.func15, Tryd.ntmps15; go_wp2; go_ret; exact ⟨rfl, rfl⟩
      · by_cases h4 : c = 39 ∨ c = 34
        · have hk : cls c = 4 := by unfold cls; rw [if_neg h1, if_neg h2, if_neg h3, if_pos h4]
          rw [hk]
          rcases h4 with rfl | rfl
          · go_enter Tryd.func15, Tryd.ntmps15; go_wp2; go_ret; exact ⟨rfl, rfl⟩
          · go_enter Tryd.func15, Tryd.ntmps15; go_wp2; go_ret; exact ⟨rfl, rfl⟩
        · obtain ⟨n39, n34⟩ : ¬ ((c : Int) = 39) ∧ ¬ ((c : Int) = 34) := by omega
          have hk : cls c = if isSgn c then 5 else if c = 47 then 6 else 0 := by unfold cls; rw [if_neg h1, if_neg h2, if_neg h3, if_neg h4]
          rw [hk]
          obtain ⟨n95, hl⟩ : ¬ ((c : Int) = 95) ∧ (c < 9 ∨ (13 < c ∧ c < 48) ∨ (57 < c ∧ c < 65) ∨ (90 < c ∧ c < 97) ∨ 122 < c) := by unfold isLet at h2; unfold isDig at h3; omega
          clear h1 h2 h3 h4 hb hk
          have q1 := eqF n32; have q2 := eqF n95; have q3 := eqF n39; have q4 := eqF n34
          by_cases h5 : isSgn c
          · rw [if_pos h5]
            have hix : 0 ≤ ix := (unhide Hi).2 h5
            have q5 : decide (0 ≤ ix) = true := by simp; omega
            rcases hl with hl | ⟨hl, hm⟩ | ⟨hl, hm⟩ | ⟨hl, hm⟩ | hl
            · have r0 := geF (c := c) (k := 9) (by omega); have r1 := geF (c := c) (k := 65) (by omega); have r2 := geF (c := c) (k := 97) (by omega); have r3 := geF (c := c) (k := 48) (by omega)
              go_enter Tryd.func15, Tryd.ntmps15; go_wp2_with fail; refine (idx_any W _ _).mono ?_; rintro e w' ⟨rfl, he⟩; obtain rfl : W = w' := he.symm; have Hg' := unhide Hg; simp only [Int.toNat_natCast]; rw [Hg']; clear Hg'; go_wp2; go_ret; exact ⟨rfl, rfl⟩
            · have r0 := geT (c := c) (k := 9) (by omega); have r1 := leF (c := c) (k := 13) (by omega); have r2 := geF (c := c) (k := 65) (by omega); have r3 := geF (c := c) (k := 97) (by omega); have r4 := geF (c := c) (k := 48) (by omega)
              go_enter Tryd.func15, Tryd.ntmps15; go_wp2_with fail; refine (idx_any W _ _).mono ?_; rintro e w' ⟨rfl, he⟩; obtain rfl : W = w' := he.symm; have Hg' := unhide Hg; simp only [Int.toNat_natCast]; rw [Hg']; clear Hg'; go_wp2; go_ret; exact ⟨rfl, rfl⟩
            · have r0 := geT (c := c) (k := 9) (by omega); have r1 := leF (c := c) (k := 13) (by omega); have r2 := geF (c := c) (k := 65) (by omega); have r3 := geF (c := c) (k := 97) (by omega); have r4 := geT (c := c) (k := 48) (by omega); have r5 := leF (c := c) (k := 57) (by omega)
              go_enter Tryd.func15, Tryd.ntmps15; go_wp2_with fail; refine (idx_any W _ _).mono ?_; rintro e w' ⟨rfl, he⟩; obtain rfl : W = w' := he.symm; have Hg' := unhide Hg; simp only [Int.toNat_natCast]; rw [Hg']; clear Hg'; go_wp2; go_ret; exact ⟨rfl, rfl⟩
            · have r0 := geT (c := c) (k := 9) (by omega); have r1 := leF (c := c) (k := 13) (by omega); have r2 := geT (c := c) (k := 65) (by omega); have r3 := leF (c := c) (k := 90) (by omega); have r4 := geF (c := c) (k := 97) (by omega); have r5 := geT (c := c) (k := 48) (by omega); have r6 := leF (c := c) (k := 57) (by omega)
              go_enter Tryd.func15, Tryd.ntmps15; go_wp2_with fail; refine (idx_any W _ _).mono ?_; rintro e w' ⟨rfl, he⟩; obtain rfl : W = w' := he.symm; have Hg' := unhide Hg; simp only [Int.toNat_natCast]; rw [Hg']; clear Hg'; go_wp2; go_ret; exact ⟨rfl, rfl⟩
            · have r0 := geT (c := c) (k := 9) (by omega); have r1 := leF (c := c) (k := 13) (by omega); have r2 := geT (c := c) (k := 65) (by omega); have r3 := leF (c := c) (k := 90) (by omega); have r4 := geT (c := c) (k := 97) (by omega); have r5 := leF (c := c) (k := 122) (by omega); have r6 := geT (c := c) (k := 48) (by omega); have r7 := leF (c := c) (k := 57) (by omega)
              go_enter Tryd.func15, Tryd.ntmps15; go_wp2_with fail; refine (idx_any W _ _).mono ?_; rintro e w' ⟨rfl, he⟩; obtain rfl : W = w' := he.symm; have Hg' := unhide Hg; simp only [Int.toNat_natCast]; rw [Hg']; clear Hg'; go_wp2; go_ret; exact ⟨rfl, rfl⟩
          · rw [if_neg h5]
            have hix : ix < 0 := by have := mt (unhide Hi).1 h5; omega
            have q5 : decide (0 ≤ ix) = false := by simp; omega
            by_cases h6 : c = 47
            · rw [if_pos h6]
              have n47 : ((c : Int) == 47) = true := by simp; omega
              have r0 := geT (c := c) (k := 9) (by omega); have r1 := leF (c := c) (k := 13) (by omega); have r2 := geF (c := c) (k := 65) (by omega); have r3 := geF (c := c) (k := 97) (by omega); have r4 := geF (c := c) (k := 48) (by omega)
              clear hl h6
              go_enter Tryd.func15, Tryd.ntmps15; go_wp2_with fail; refine (idx_any W _ _).mono ?_; rintro e w' ⟨rfl, he⟩; obtain rfl : W = w' := he.symm; have Hg' := unhide Hg; simp only [Int.toNat_natCast]; rw [Hg']; clear Hg'; go_wp2; go_ret; exact ⟨rfl, rfl⟩
            · rw [if_neg h6]
              have n47 := eqF (c := c) (k := 47) (by omega)
              clear h6
              rcases hl with hl | ⟨hl, hm⟩ | ⟨hl, hm⟩ | ⟨hl, hm⟩ | hl
              · have r0 := geF (c := c) (k := 9) (by omega); have r1 := geF (c := c) (k := 65) (by omega); have r2 := geF (c := c) (k := 97) (by omega); have r3 := geF (c := c) (k := 48) (by omega)
                go_enter Tryd.func15, Tryd.ntmps15; go_wp2_with fail; refine (idx_any W _ _).mono ?_; rintro e w' ⟨rfl, he⟩; obtain rfl : W = w' := he.symm; have Hg' := unhide Hg; simp only [Int.toNat_natCast]; rw [Hg']; clear Hg'; go_wp2; go_ret; exact ⟨rfl, rfl⟩
              · have r0 := geT (c := c) (k := 9) (by omega); have r1 := leF (c := c) (k := 13) (by omega); have r2 := geF (c := c) (k := 65) (by omega); have r3 := geF (c := c) (k := 97) (by omega); have r4 := geF (c := c) (k := 48) (by omega)
                go_enter Tryd.func15, Tryd.ntmps15; go_wp2_with fail; refine (idx_any W _ _).mono ?_; rintro e w' ⟨rfl, he⟩; obtain rfl : W = w' := he.symm; have Hg' := unhide Hg; simp only [Int.toNat_natCast]; rw [Hg']; clear Hg'; go_wp2; go_ret; exact ⟨rfl, rfl⟩
              · have r0 := geT (c := c) (k := 9) (by omega); have r1 := leF (c := c) (k := 13) (by omega); have r2 := geF (c := c) (k := 65) (by omega); have r3 := geF (c := c) (k := 97) (by omega); have r4 := geT (c := c) (k := 48) (by omega); have r5 := leF (c := c) (k := 57) (by omega)
                go_enter Tryd.func15, Tryd.ntmps15; go_wp2_with fail; refine (idx_any W _ _).mono ?_; rintro e w' ⟨rfl, he⟩; obtain rfl : W = w' := he.symm; have Hg' := unhide Hg; simp only [Int.toNat_natCast]; rw [Hg']; clear Hg'; go_wp2; go_ret; exact ⟨rfl, rfl⟩
              · have r0 := geT (c := c) (k := 9) (by omega); have r1 := leF (c := c) (k := 13) (by omega); have r2 := geT (c := c) (k := 65) (by omega); have r3 := leF (c := c) (k := 90) (by omega); have r4 := geF (c := c) (k := 97) (by omega); have r5 := geT (c := c) (k := 48) (by omega); have r6 := leF (c := c) (k := 57) (by omega)
                go_enter Tryd.func15, Tryd.ntmps15; go_wp2_with fail; refine (idx_any W _ _).mono ?_; rintro e w' ⟨rfl, he⟩; obtain rfl : W = w' := he.symm; have Hg' := unhide Hg; simp only [Int.toNat_natCast]; rw [Hg']; clear Hg'; go_wp2; go_ret; exact ⟨rfl, rfl⟩
              · have r0 := geT (c := c) (k := 9) (by omega); have r1 := leF (c := c) (k := 13) (by omega); have r2 := geT (c := c) (k := 65) (by omega); have r3 := leF (c := c) (k := 90) (by omega); have r4 := geT (c := c) (k := 97) (by omega); have r5 := leF (c := c) (k := 122) (by omega); have r6 := geT (c := c) (k := 48) (by omega); have r7 := leF (c := c) (k := 57) (by omega)
                go_enter Tryd.func15, Tryd.ntmps15; go_wp2_with fail; refine (idx_any W _ _).mono ?_; rintro e w' ⟨rfl, he⟩; obtain rfl : W = w' := he.symm; have Hg' := unhide Hg; simp only [Int.toNat_natCast]; rw [Hg']; clear Hg'; go_wp2; go_ret; exact ⟨rfl, rfl⟩

theorem ne23 {k : Nat} (h2 : ¬ k = 2) (h3 : ¬ k = 3) : ((k : Int) != 2) = true ∧ ((k : Int) != 3) = true := by
  constructor <;> simp <;> omega
set_option maxRecDepth 100000 in
set_option maxHeartbeats 1000000 in
/-- How many letters and digits stand in front. -/
theorem row_any (W : World) (s : ByteArray) (hs : s.size ≤ 140737488351232) :
    Calls Tryd.prog 21 #[.string s] W fun e w => ∃ n : Nat, e = .returned (.int .i64 (n : Int)) ∧ w = W ∧ n ≤ s.size ∧ (∀ j x, j < n → (strN s)[j]? = some x → isLet x ∨ isDig x) ∧ (∀ x, (strN s)[n]? = some x → ¬ (isLet x ∨ isDig x)) := by
  go_enter Tryd.func21, Tryd.ntmps21
  go_wp2
  go_loopg [3, 4, 7] s.size (fun gk _ _ v7 wr => ∃ (k : Nat), v7 = .int .i64 (k : Int) ∧ gk = s.size - k ∧ k ≤ s.size ∧ wr = W ∧ ∀ j x, j < k → (strN s)[j]? = some x → isLet x ∨ isDig x)
  case atStart => exact ⟨0, rfl, rfl, by omega, rfl, fun j x hj => by omega⟩
  case round =>
    obtain ⟨k, rfl, hgk, hk, rfl, hall⟩ := hrel
    have Hgk := hide hgk
    have Hall := hide hall
    clear hgk hall
    by_cases hlt : k < s.size
    · obtain ⟨x, hx, hx2, gx⟩ := strN_ex s k hlt
      have Hx := hide hx
      clear hx
      go_wp2_with fail
      refine (classOf_any wr x hx2).mono ?_
      rintro e w' ⟨rfl, he⟩
      obtain rfl : wr = w' := he.symm
      by_cases h2 : isLet x ∨ isDig x
      · have hcl : cls x = 2 ∨ cls x = 3 := h2.imp cls_let.2 cls_dig.2
        have hnext : ∀ j y, j < k + 1 → (strN s)[j]? = some y → isLet y ∨ isDig y := by
          intro j y hj hy
          by_cases hjk : j < k
          · exact unhide Hall j y hjk hy
          · obtain rfl : j = k := by omega
            rw [unhide Hx] at hy
            obtain rfl := Option.some.inj hy
            exact h2
        have Hnext := hide hnext
        clear hnext h2 gx
        rcases hcl with hc | hc
        · rw [hc]
          go_wp2
          go_roundg (s.size - (k + 1))
          case measure => have := unhide Hgk; omega
          case rel => exact ⟨k + 1, by go_num, rfl, by omega, rfl, unhide Hnext⟩
        · rw [hc]
          go_wp2
          go_roundg (s.size - (k + 1))
          case measure => have := unhide Hgk; omega
          case rel => exact ⟨k + 1, by go_num, rfl, by omega, rfl, unhide Hnext⟩
      · obtain ⟨e2, e3⟩ := ne23 (mt cls_let.1 (fun h => h2 (.inl h))) (mt cls_dig.1 (fun h => h2 (.inr h)))
        have H2 := hide h2
        clear h2 gx
        generalize cls x = kx at *
        go_wp2
        go_ret
        refine ⟨k, rfl, rfl, by omega, unhide Hall, fun y hy => ?_⟩
        rw [unhide Hx] at hy
        obtain rfl := Option.some.inj hy
        exact unhide H2
    · obtain rfl : k = s.size := by omega
      go_wp2
      go_ret
      refine ⟨_, rfl, rfl, Nat.le_refl _, unhide Hall, fun y hy => ?_⟩
      have := (List.getElem?_eq_some_iff.1 hy).1
      rw [strN_len] at this
      omega
end Go.Proofs.YtkkbccdjbgjjaaaDoor
