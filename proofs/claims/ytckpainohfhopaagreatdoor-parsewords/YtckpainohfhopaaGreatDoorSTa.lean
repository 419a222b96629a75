import Derived.Test.YtckpainohfhopaaGreatDoorJ06

namespace Go.Proofs.YtckpainohfhopaaGreatDoor
open Go.RowKit
attribute [local go_sem ↓] Go.wp_at_zero Go.wp_at_succ

/-- The reference's worth of a hexadecimal digit. -/
def hexI (x : Nat) : Int := if 48 ≤ x ∧ x ≤ 57 then (x : Int) - 48 else if 97 ≤ x ∧ x ≤ 102 then (x : Int) - 87 else if 65 ≤ x ∧ x ≤ 70 then (x : Int) - 55 else -1
theorem hexI_cases (x : Nat) : (hexI x = -1 ∧ (∀ d, dgv x = some d → 16 ≤ d)) ∨ (∃ d : Nat, hexI x = (d : Int) ∧ dgv x = some d ∧ d < 16) := by
  unfold hexI dgv
  by_cases h1 : 48 ≤ x ∧ x ≤ 57
  · rw [if_pos h1, if_pos h1]; exact .inr ⟨x - 48, by omega, rfl, by omega⟩
  · rw [if_neg h1, if_neg h1]
    by_cases h2 : 97 ≤ x ∧ x ≤ 102
    · rw [if_pos h2, if_neg (by omega), if_pos (by omega)]; exact .inr ⟨x - 87, by omega, rfl, by omega⟩
    · rw [if_neg h2]
      by_cases h3 : 65 ≤ x ∧ x ≤ 70
      · rw [if_pos h3, if_pos (by omega)]; exact .inr ⟨x - 55, by omega, rfl, by omega⟩
      · rw [if_neg h3]
        refine .inl ⟨rfl, fun d hd => ?_⟩
        split at hd
        · have := Option.some.inj hd; omega
        · split at hd
          · have := Option.some.inj hd; omega
          · cases hd
set_option maxRecDepth 100000 in
theorem xhex_any (W : World) (x : Nat) (hx : x < 256) : Calls Tryz.prog 89 #[.int .u8 (x : Int)] W fun e w => e = .returned (.int .i64 (hexI x)) ∧ w = W := by
  by_cases h1 : 48 ≤ x ∧ x ≤ 57
  · have hk : hexI x = (x : Int) - 48 := by unfold hexI; rw [if_pos h1]
    rw [hk]
    obtain ⟨h2, h3⟩ := h1
    have b1 := geT (c := x) (k := 48) (by omega); have b2 := leT (c := x) (k := 57) (by omega)
    go_enter Tryz.func89, Tryz.ntmps89
    go_wp2
    go_ret
    exact ⟨by first | rfl | (congr 2; omega), rfl⟩
  · obtain h1' : x < 48 ∨ 57 < x := by omega
    by_cases h2 : 97 ≤ x ∧ x ≤ 102
    · have hk : hexI x = (x : Int) - 97 + 10 := by unfold hexI; rw [if_neg h1, if_pos h2]; omega
      rw [hk]
      obtain ⟨h3, h4⟩ := h2
      have b1 := geT (c := x) (k := 48) (by omega); have b2 := leF (c := x) (k := 57) (by omega); have b3 := geT (c := x) (k := 97) (by omega); have b4 := leT (c := x) (k := 102) (by omega)
      clear h1 h1'
      go_enter Tryz.func89, Tryz.ntmps89
      go_wp2
      go_ret
      exact ⟨by first | rfl | (congr 2; omega), rfl⟩
    · by_cases h3 : 65 ≤ x ∧ x ≤ 70
      · have hk : hexI x = (x : Int) - 65 + 10 := by unfold hexI; rw [if_neg h1, if_neg h2, if_pos h3]; omega
        rw [hk]
        obtain ⟨h4, h5⟩ := h3
        have b1 := geT (c := x) (k := 48) (by omega); have b2 := leF (c := x) (k := 57) (by omega); have b3 := geF (c := x) (k := 97) (by omega); have b5 := geT (c := x) (k := 65) (by omega); have b6 := leT (c := x) (k := 70) (by omega)
        clear h1 h1' h2
        go_enter Tryz.func89, Tryz.ntmps89
        go_wp2
        go_ret
        exact ⟨by first | rfl | (congr 2; omega), rfl⟩
      · have hk : hexI x = -1 := by unfold hexI; rw [if_neg h1, if_neg h2, if_neg h3]
        rw [hk]
        obtain hh : x < 48 ∨ (57 < x ∧ x < 65) ∨ (70 < x ∧ x < 97) ∨ 102 < x := by omega
        clear h1 h1' h2 h3 hk
        rcases hh with hh | ⟨hh, hi⟩ | ⟨hh, hi⟩ | hh
        · have b1 := geF (c := x) (k := 48) (by omega); have b3 := geF (c := x) (k := 97) (by omega); have b5 := geF (c := x) (k := 65) (by omega)
          go_enter Tryz.func89, Tryz.ntmps89
          go_wp2
          go_ret
          exact ⟨rfl, rfl⟩
        · have b1 := geT (c := x) (k := 48) (by omega); have b2 := leF (c := x) (k := 57) (by omega); have b3 := geF (c := x) (k := 97) (by omega); have b5 := geF (c := x) (k := 65) (by omega)
          go_enter Tryz.func89, Tryz.ntmps89
          go_wp2
          go_ret
          exact ⟨rfl, rfl⟩
        · have b1 := geT (c := x) (k := 48) (by omega); have b2 := leF (c := x) (k := 57) (by omega); have b3 := geF (c := x) (k := 97) (by omega); have b5 := geT (c := x) (k := 65) (by omega); have b6 := leF (c := x) (k := 70) (by omega)
          go_enter Tryz.func89, Tryz.ntmps89
          go_wp2
          go_ret
          exact ⟨rfl, rfl⟩
        · have b1 := geT (c := x) (k := 48) (by omega); have b2 := leF (c := x) (k := 57) (by omega); have b3 := geT (c := x) (k := 97) (by omega); have b4 := leF (c := x) (k := 102) (by omega); have b5 := geT (c := x) (k := 65) (by omega); have b6 := leF (c := x) (k := 70) (by omega)
          go_enter Tryz.func89, Tryz.ntmps89
          go_wp2
          go_ret
          exact ⟨rfl, rfl⟩

/-- What the reference's Digits answers. -/
def DigP (W : World) (l : List Nat) (e : Ending) (w : World) : Prop := w = W ∧ ((∃ u : Nat, e = .returned (.tuple #[.int .i64 (u : Int), .bool true]) ∧ wv l = some u) ∨ (e = .returned (.tuple #[.int .i64 0, .bool false]) ∧ wv l = none))
theorem digBad {W : World} {l : List Nat} (h : wv l = none) : DigP W l (.returned (.tuple #[.int .i64 0, .bool false])) W := ⟨rfl, .inr ⟨rfl, h⟩⟩
theorem digGood {W : World} {l : List Nat} {u : Nat} (h : wv l = some u) : DigP W l (.returned (.tuple #[.int .i64 (u : Int), .bool true])) W := ⟨rfl, .inl ⟨u, rfl, h⟩⟩
set_option maxRecDepth 100000 in
set_option maxHeartbeats 4000000 in
theorem xdigits_any (W : World) (s : ByteArray) (hs : s.size ≤ 65536) : Calls Tryz.prog 52 #[.string s] W (DigP W (strN s)) := by
  by_cases h0 : s.size = 0
  · have Hn : Hid (wv (strN s) = none) := by
      rw [List.eq_nil_of_length_eq_zero (by rw [strN_len]; exact h0 : (strN s).length = 0)]
      show wv [] = none
      decide
    obtain rfl := isEmptyT h0
    go_enter Tryz.func52, Tryz.ntmps52
    go_wp2
    go_ret2
    exact digBad (unhide Hn)
  · obtain ⟨x0, hx0, hx02, gx0⟩ := strN_ex s 0 (by omega)
    by_cases h1 : s.size = 1
    · have Hwv : Hid (wv (strN s) = nval 10 9223372036854775807 ((strN s).drop 0) 0) := by
        obtain ⟨c, hc⟩ : ∃ c, strN s = [c] := List.length_eq_one_iff.1 (by rw [strN_len]; exact h1)
        rw [hc]
        show wv [c] = nval 10 9223372036854775807 [c] 0
        unfold wv
        rw [if_neg (by simp)]
        by_cases h48 : c = 48
        · subst h48; decide
        · rw [if_neg (by simpa using h48), if_neg (by simp)]
      have e1 := ltF (a := s.size) (k := 1) (by omega)
      clear hx0 gx0
      go_enter Tryz.func52, Tryz.ntmps52
      go_wp2
      go_loopg [6, 7, 8] (s.size - 0) (fun gk v6 v7 _ wr => ∃ (k acc : Nat) (a : Int), v6 = .int .i64 a ∧ v7 = .int .i64 (k : Int) ∧ k ≤ s.size ∧ gk = s.size - k ∧ wr = W ∧ Hid (a = (acc : Int) ∧ acc ≤ 9223372036854775807 ∧ wv (strN s) = nval 10 9223372036854775807 ((strN s).drop k) acc))
      case atStart => exact ⟨0, 0, 0, rfl, rfl, by omega, rfl, rfl, rfl, by omega, unhide Hwv⟩
      case round =>
        obtain ⟨k, acc, a, rfl, rfl, hk, hgk, rfl, hh⟩ := hrel
        obtain ⟨ha, hacc, hdec⟩ := unhide hh
        have Hgk := hide hgk
        have a0 : 0 ≤ a := by omega
        have a1 : a ≤ 9223372036854775807 := by omega
        clear hh hgk
        by_cases hkn : k < s.size
        · obtain ⟨x, hx, hx2, gx⟩ := strN_ex s k hkn
          have hdrop : (strN s).drop k = x :: (strN s).drop (k + 1) := by
            obtain ⟨hl, hx'⟩ := List.getElem?_eq_some_iff.1 hx
            rw [List.drop_eq_getElem_cons hl, hx']
          rw [hdrop] at hdec
          have Hdec := hide hdec
          have Ha := hide ha
          clear hdrop hx hdec ha
          go_wp2_with fail
          refine (xhex_any wr x hx2).mono ?_
          rintro e w' ⟨rfl, he⟩
          obtain rfl : wr = w' := he.symm
          rcases hexI_cases x with ⟨hI, hD⟩ | ⟨d, hI, hD, hd⟩
          · rw [hI]
            have hn : wv (strN s) = none := by
              rw [unhide Hdec]
              simp only [nval]
              split
              · rfl
              · rename_i d hd
                rw [if_neg (by have := hD d hd; omega)]
            have Hn := hide hn
            clear hn hD hI Hdec
            go_wp2
            go_ret2
            exact digBad (unhide Hn)
          · rw [hI]
            have hdec := unhide Hdec
            simp only [nval, hD] at hdec
            have d0 : decide ((d : Int) < 0) = false := by simp
            clear Hdec hI gx
            by_cases h8 : d < 10
            · have i9 : decide ((10 : Int) ≤ (d : Int)) = false := by simp; omega
              obtain ⟨q, hq⟩ : ∃ q : Nat, q = (9223372036854775807 - d) / 10 := ⟨_, rfl⟩
              have hq2 : (9223372036854775807 - (d : Int)).tdiv 10 = (q : Int) := by rw [Int.tdiv_eq_ediv_of_nonneg (by omega)]; omega
              have hqb : q ≤ 1152921504606846976 := by omega
              by_cases hm : acc * 10 + d ≤ 9223372036854775807
              · rw [if_pos ⟨by omega, hm⟩] at hdec
                have ha := unhide Ha
                have iq : decide ((q : Int) < a) = false := by simp; omega
                have im : a * 10 + (d : Int) ≤ 9223372036854775807 := by omega
                have HN : Hid (a * 10 + (d : Int) = ((acc * 10 + d : Nat) : Int) ∧ acc * 10 + d ≤ 9223372036854775807 ∧ wv (strN s) = nval 10 9223372036854775807 ((strN s).drop (k + 1)) (acc * 10 + d)) := ⟨by omega, hm, hdec⟩
                clear hdec ha hacc hm hq Ha
                go_wp2
                go_roundg (s.size - (k + 1))
                case measure => have := unhide Hgk; omega
                case rel => exact ⟨k + 1, acc * 10 + d, a * 10 + (d : Int), by go_num, by go_num, by omega, rfl, rfl, HN⟩
              · rw [if_neg (by omega)] at hdec
                have ha := unhide Ha
                have iq : decide ((q : Int) < a) = true := by simp; omega
                have Hn := hide hdec
                clear hdec ha hacc hm hq Ha
                go_wp2
                go_ret2
                exact digBad (unhide Hn)
            · have i9 : decide ((10 : Int) ≤ (d : Int)) = true := by simp; omega
              rw [if_neg (by omega)] at hdec
              have Hn := hide hdec
              clear hdec hacc Ha h8
              go_wp2
              go_ret2
              exact digBad (unhide Hn)
        · obtain rfl : k = s.size := by omega
          rw [List.drop_eq_nil_of_le (by rw [strN_len]; omega)] at hdec
          have Hd : Hid (wv (strN s) = some acc) := hdec
          have Ha := hide ha
          clear hdec ha hacc
          go_wp2
          go_ret2
          rw [unhide Ha]
          exact digGood (unhide Hd)
    · obtain ⟨x1, hx1, hx12, gx1⟩ := strN_ex s 1 (by omega)
      have hl : strN s = x0 :: x1 :: (strN s).drop 2 := by
        obtain ⟨hl0, hh0⟩ := List.getElem?_eq_some_iff.1 hx0
        obtain ⟨hl1, hh1⟩ := List.getElem?_eq_some_iff.1 hx1
        have q0 := List.drop_eq_getElem_cons hl0
        have q1 := List.drop_eq_getElem_cons hl1
        rw [hh0, List.drop_zero] at q0
        rw [hh1] at q1
        rw [← q1]
        exact q0
      have e1 := ltT (a := s.size) (k := 1) (by omega)
      by_cases h48 : x0 = 48
      · by_cases hX : x1 = 120 ∨ x1 = 88
        · have hwv0 : wv (strN s) = if s.size = 2 then none else nval 16 9223372036854775807 ((strN s).drop 2) 0 := by
            unfold wv
            rw [if_pos (by rw [hl, h48]; rcases hX with rfl | rfl <;> simp), strN_len]
          clear hl hx0 hx1
          by_cases h2 : s.size = 2
          · rw [if_pos h2] at hwv0
            have Hn := hide hwv0
            clear hwv0
            have e0 : ((x0 : Int) == 48) = true := by simp; omega
            rcases hX with hX | hX
            · have e2 : ((x1 : Int) == 120) = true := by simp; omega
              go_enter Tryz.func52, Tryz.ntmps52
              go_wp2
              go_ret2
              exact digBad (unhide Hn)
            · have e2 := eqF (c := x1) (k := 120) (by omega)
              have e3 : ((x1 : Int) == 88) = true := by simp; omega
              go_enter Tryz.func52, Tryz.ntmps52
              go_wp2
              go_ret2
              exact digBad (unhide Hn)
          · rw [if_neg h2] at hwv0
            have Hwv := hide hwv0
            clear hwv0
            have e0 : ((x0 : Int) == 48) = true := by simp; omega
            have e4 : decide ((s.size : Int) ≤ 2) = false := by simp; omega
            rcases hX with hX | hX
            · have e2 : ((x1 : Int) == 120) = true := by simp; omega
              go_enter Tryz.func52, Tryz.ntmps52
              go_wp2
              go_loopg [6, 7, 8] (s.size - 2) (fun gk v6 v7 _ wr => ∃ (k acc : Nat) (a : Int), v6 = .int .i64 a ∧ v7 = .int .i64 (k : Int) ∧ k ≤ s.size ∧ gk = s.size - k ∧ wr = W ∧ Hid (a = (acc : Int) ∧ acc ≤ 9223372036854775807 ∧ wv (strN s) = nval 16 9223372036854775807 ((strN s).drop k) acc))
              case atStart => exact ⟨2, 0, 0, rfl, rfl, by omega, rfl, rfl, rfl, by omega, unhide Hwv⟩
              case round =>
                obtain ⟨k, acc, a, rfl, rfl, hk, hgk, rfl, hh⟩ := hrel
                obtain ⟨ha, hacc, hdec⟩ := unhide hh
                have Hgk := hide hgk
                have a0 : 0 ≤ a := by omega
                have a1 : a ≤ 9223372036854775807 := by omega
                clear hh hgk
                by_cases hkn : k < s.size
                · obtain ⟨x, hx, hx2, gx⟩ := strN_ex s k hkn
                  have hdrop : (strN s).drop k = x :: (strN s).drop (k + 1) := by
                    obtain ⟨hl, hx'⟩ := List.getElem?_eq_some_iff.1 hx
                    rw [List.drop_eq_getElem_cons hl, hx']
                  rw [hdrop] at hdec
                  have Hdec := hide hdec
                  have Ha := hide ha
                  clear hdrop hx hdec ha
                  go_wp2_with fail
                  refine (xhex_any wr x hx2).mono ?_
                  rintro e w' ⟨rfl, he⟩
                  obtain rfl : wr = w' := he.symm
                  rcases hexI_cases x with ⟨hI, hD⟩ | ⟨d, hI, hD, hd⟩
                  · rw [hI]
                    have hn : wv (strN s) = none := by
                      rw [unhide Hdec]
                      simp only [nval]
                      split
                      · rfl
                      · rename_i d hd
                        rw [if_neg (by have := hD d hd; omega)]
                    have Hn := hide hn
                    clear hn hD hI Hdec
                    go_wp2
                    go_ret2
                    exact digBad (unhide Hn)
                  · rw [hI]
                    have hdec := unhide Hdec
                    simp only [nval, hD] at hdec
                    have d0 : decide ((d : Int) < 0) = false := by simp
                    clear Hdec hI gx
                    have i9 : decide ((16 : Int) ≤ (d : Int)) = false := by simp; omega
                    obtain ⟨q, hq⟩ : ∃ q : Nat, q = (9223372036854775807 - d) / 16 := ⟨_, rfl⟩
                    have hq2 : (9223372036854775807 - (d : Int)).tdiv 16 = (q : Int) := by rw [Int.tdiv_eq_ediv_of_nonneg (by omega)]; omega
                    have hqb : q ≤ 1152921504606846976 := by omega
                    by_cases hm : acc * 16 + d ≤ 9223372036854775807
                    · rw [if_pos ⟨by omega, hm⟩] at hdec
                      have ha := unhide Ha
                      have iq : decide ((q : Int) < a) = false := by simp; omega
                      have im : a * 16 + (d : Int) ≤ 9223372036854775807 := by omega
                      have HN : Hid (a * 16 + (d : Int) = ((acc * 16 + d : Nat) : Int) ∧ acc * 16 + d ≤ 9223372036854775807 ∧ wv (strN s) = nval 16 9223372036854775807 ((strN s).drop (k + 1)) (acc * 16 + d)) := ⟨by omega, hm, hdec⟩
                      clear hdec ha hacc hm hq Ha
                      go_wp2
                      go_roundg (s.size - (k + 1))
                      case measure => have := unhide Hgk; omega
                      case rel => exact ⟨k + 1, acc * 16 + d, a * 16 + (d : Int), by go_num, by go_num, by omega, rfl, rfl, HN⟩
                    · rw [if_neg (by omega)] at hdec
                      have ha := unhide Ha
                      have iq : decide ((q : Int) < a) = true := by simp; omega
                      have Hn := hide hdec
                      clear hdec ha hacc hm hq Ha
                      go_wp2
                      go_ret2
                      exact digBad (unhide Hn)
                · obtain rfl : k = s.size := by omega
                  rw [List.drop_eq_nil_of_le (by rw [strN_len]; omega)] at hdec
                  have Hd : Hid (wv (strN s) = some acc) := hdec
                  have Ha := hide ha
                  clear hdec ha hacc
                  go_wp2
                  go_ret2
                  rw [unhide Ha]
                  exact digGood (unhide Hd)
            · have e2 := eqF (c := x1) (k := 120) (by omega)
              have e3 : ((x1 : Int) == 88) = true := by simp; omega
              go_enter Tryz.func52, Tryz.ntmps52
              go_wp2
              go_loopg [6, 7, 8] (s.size - 2) (fun gk v6 v7 _ wr => ∃ (k acc : Nat) (a : Int), v6 = .int .i64 a ∧ v7 = .int .i64 (k : Int) ∧ k ≤ s.size ∧ gk = s.size - k ∧ wr = W ∧ Hid (a = (acc : Int) ∧ acc ≤ 9223372036854775807 ∧ wv (strN s) = nval 16 9223372036854775807 ((strN s).drop k) acc))
              case atStart => exact ⟨2, 0, 0, rfl, rfl, by omega, rfl, rfl, rfl, by omega, unhide Hwv⟩
              case round =>
                obtain ⟨k, acc, a, rfl, rfl, hk, hgk, rfl, hh⟩ := hrel
                obtain ⟨ha, hacc, hdec⟩ := unhide hh
                have Hgk := hide hgk
                have a0 : 0 ≤ a := by omega
                have a1 : a ≤ 9223372036854775807 := by omega
                clear hh hgk
                by_cases hkn : k < s.size
                · obtain ⟨x, hx, hx2, gx⟩ := strN_ex s k hkn
                  have hdrop : (strN s).drop k = x :: (strN s).drop (k + 1) := by
                    obtain ⟨hl, hx'⟩ := List.getElem?_eq_some_iff.1 hx
                    rw [List.drop_eq_getElem_cons hl, hx']
                  rw [hdrop] at hdec
                  have Hdec := hide hdec
                  have Ha := hide ha
                  clear hdrop hx hdec ha
                  go_wp2_with fail
                  refine (xhex_any wr x hx2).mono ?_
                  rintro e w' ⟨rfl, he⟩
                  obtain rfl : wr = w' := he.symm
                  rcases hexI_cases x with ⟨hI, hD⟩ | ⟨d, hI, hD, hd⟩
                  · rw [hI]
                    have hn : wv (strN s) = none := by
                      rw [unhide Hdec]
                      simp only [nval]
                      split
                      · rfl
                      · rename_i d hd
                        rw [if_neg (by have := hD d hd; omega)]
                    have Hn := hide hn
                    clear hn hD hI Hdec
                    go_wp2
                    go_ret2
                    exact digBad (unhide Hn)
                  · rw [hI]
                    have hdec := unhide Hdec
                    simp only [nval, hD] at hdec
                    have d0 : decide ((d : Int) < 0) = false := by simp
                    clear Hdec hI gx
                    have i9 : decide ((16 : Int) ≤ (d : Int)) = false := by simp; omega
                    obtain ⟨q, hq⟩ : ∃ q : Nat, q = (9223372036854775807 - d) / 16 := ⟨_, rfl⟩
                    have hq2 : (9223372036854775807 - (d : Int)).tdiv 16 = (q : Int) := by rw [Int.tdiv_eq_ediv_of_nonneg (by omega)]; omega
                    have hqb : q ≤ 1152921504606846976 := by omega
                    by_cases hm : acc * 16 + d ≤ 9223372036854775807
                    · rw [if_pos ⟨by omega, hm⟩] at hdec
                      have ha := unhide Ha
                      have iq : decide ((q : Int) < a) = false := by simp; omega
                      have im : a * 16 + (d : Int) ≤ 9223372036854775807 := by omega
                      have HN : Hid (a * 16 + (d : Int) = ((acc * 16 + d : Nat) : Int) ∧ acc * 16 + d ≤ 9223372036854775807 ∧ wv (strN s) = nval 16 9223372036854775807 ((strN s).drop (k + 1)) (acc * 16 + d)) := ⟨by omega, hm, hdec⟩
                      clear hdec ha hacc hm hq Ha
                      go_wp2
                      go_roundg (s.size - (k + 1))
                      case measure => have := unhide Hgk; omega
                      case rel => exact ⟨k + 1, acc * 16 + d, a * 16 + (d : Int), by go_num, by go_num, by omega, rfl, rfl, HN⟩
                    · rw [if_neg (by omega)] at hdec
                      have ha := unhide Ha
                      have iq : decide ((q : Int) < a) = true := by simp; omega
                      have Hn := hide hdec
                      clear hdec ha hacc hm hq Ha
                      go_wp2
                      go_ret2
                      exact digBad (unhide Hn)
                · obtain rfl : k = s.size := by omega
                  rw [List.drop_eq_nil_of_le (by rw [strN_len]; omega)] at hdec
                  have Hd : Hid (wv (strN s) = some acc) := hdec
                  have Ha := hide ha
                  clear hdec ha hacc
                  go_wp2
                  go_ret2
                  rw [unhide Ha]
                  exact digGood (unhide Hd)
        · have hwv0 : wv (strN s) = nval 8 9223372036854775807 ((strN s).drop 1) 0 := by
            unfold wv
            rw [hl]
            rw [if_neg (by simp; omega), if_pos (by simp [h48]), h48]
            show nval 8 _ (48 :: x1 :: _) 0 = nval 8 _ (x1 :: _) 0
            simp only [nval, show dgv 48 = some 0 from rfl]
            simp
          have Hwv := hide hwv0
          have e0 : ((x0 : Int) == 48) = true := by simp; omega
          have e2 := eqF (c := x1) (k := 120) (by omega)
          have e3 := eqF (c := x1) (k := 88) (by omega)
          clear hwv0 hl hx0 hx1 hX
          have e4 : decide ((s.size : Int) ≤ 1) = false := by simp; omega
          go_enter Tryz.func52, Tryz.ntmps52
          go_wp2
          go_loopg [6, 7, 8] (s.size - 1) (fun gk v6 v7 _ wr => ∃ (k acc : Nat) (a : Int), v6 = .int .i64 a ∧ v7 = .int .i64 (k : Int) ∧ k ≤ s.size ∧ gk = s.size - k ∧ wr = W ∧ Hid (a = (acc : Int) ∧ acc ≤ 9223372036854775807 ∧ wv (strN s) = nval 8 9223372036854775807 ((strN s).drop k) acc))
          case atStart => exact ⟨1, 0, 0, rfl, rfl, by omega, rfl, rfl, rfl, by omega, unhide Hwv⟩
          case round =>
            obtain ⟨k, acc, a, rfl, rfl, hk, hgk, rfl, hh⟩ := hrel
            obtain ⟨ha, hacc, hdec⟩ := unhide hh
            have Hgk := hide hgk
            have a0 : 0 ≤ a := by omega
            have a1 : a ≤ 9223372036854775807 := by omega
            clear hh hgk
            by_cases hkn : k < s.size
            · obtain ⟨x, hx, hx2, gx⟩ := strN_ex s k hkn
              have hdrop : (strN s).drop k = x :: (strN s).drop (k + 1) := by
                obtain ⟨hl, hx'⟩ := List.getElem?_eq_some_iff.1 hx
                rw [List.drop_eq_getElem_cons hl, hx']
              rw [hdrop] at hdec
              have Hdec := hide hdec
              have Ha := hide ha
              clear hdrop hx hdec ha
              go_wp2_with fail
              refine (xhex_any wr x hx2).mono ?_
              rintro e w' ⟨rfl, he⟩
              obtain rfl : wr = w' := he.symm
              rcases hexI_cases x with ⟨hI, hD⟩ | ⟨d, hI, hD, hd⟩
              · rw [hI]
                have hn : wv (strN s) = none := by
                  rw [unhide Hdec]
                  simp only [nval]
                  split
                  · rfl
                  · rename_i d hd
                    rw [if_neg (by have := hD d hd; omega)]
                have Hn := hide hn
                clear hn hD hI Hdec
                go_wp2
                go_ret2
                exact digBad (unhide Hn)
              · rw [hI]
                have hdec := unhide Hdec
                simp only [nval, hD] at hdec
                have d0 : decide ((d : Int) < 0) = false := by simp
                clear Hdec hI gx
                by_cases h8 : d < 8
                · have i9 : decide ((8 : Int) ≤ (d : Int)) = false := by simp; omega
                  obtain ⟨q, hq⟩ : ∃ q : Nat, q = (9223372036854775807 - d) / 8 := ⟨_, rfl⟩
                  have hq2 : (9223372036854775807 - (d : Int)).tdiv 8 = (q : Int) := by rw [Int.tdiv_eq_ediv_of_nonneg (by omega)]; omega
                  have hqb : q ≤ 1152921504606846976 := by omega
                  by_cases hm : acc * 8 + d ≤ 9223372036854775807
                  · rw [if_pos ⟨by omega, hm⟩] at hdec
                    have ha := unhide Ha
                    have iq : decide ((q : Int) < a) = false := by simp; omega
                    have im : a * 8 + (d : Int) ≤ 9223372036854775807 := by omega
                    have HN : Hid (a * 8 + (d : Int) = ((acc * 8 + d : Nat) : Int) ∧ acc * 8 + d ≤ 9223372036854775807 ∧ wv (strN s) = nval 8 9223372036854775807 ((strN s).drop (k + 1)) (acc * 8 + d)) := ⟨by omega, hm, hdec⟩
                    clear hdec ha hacc hm hq Ha
                    go_wp2
                    go_roundg (s.size - (k + 1))
                    case measure => have := unhide Hgk; omega
                    case rel => exact ⟨k + 1, acc * 8 + d, a * 8 + (d : Int), by go_num, by go_num, by omega, rfl, rfl, HN⟩
                  · rw [if_neg (by omega)] at hdec
                    have ha := unhide Ha
                    have iq : decide ((q : Int) < a) = true := by simp; omega
                    have Hn := hide hdec
                    clear hdec ha hacc hm hq Ha
                    go_wp2
                    go_ret2
                    exact digBad (unhide Hn)
                · have i9 : decide ((8 : Int) ≤ (d : Int)) = true := by simp; omega
                  rw [if_neg (by omega)] at hdec
                  have Hn := hide hdec
                  clear hdec hacc Ha h8
                  go_wp2
                  go_ret2
                  exact digBad (unhide Hn)
            · obtain rfl : k = s.size := by omega
              rw [List.drop_eq_nil_of_le (by rw [strN_len]; omega)] at hdec
              have Hd : Hid (wv (strN s) = some acc) := hdec
              have Ha := hide ha
              clear hdec ha hacc
              go_wp2
              go_ret2
              rw [unhide Ha]
              exact digGood (unhide Hd)
      · have hwv0 : wv (strN s) = nval 10 9223372036854775807 ((strN s).drop 0) 0 := by
          unfold wv
          rw [List.drop_zero, hl]
          rw [if_neg (by simp; omega), if_neg (by simp; omega), if_neg (by simp)]
        have Hwv := hide hwv0
        have e0 := eqF (c := x0) (k := 48) (by omega)
        clear hwv0 hl hx0 hx1
        go_enter Tryz.func52, Tryz.ntmps52
        go_wp2
        go_loopg [6, 7, 8] (s.size - 0) (fun gk v6 v7 _ wr => ∃ (k acc : Nat) (a : Int), v6 = .int .i64 a ∧ v7 = .int .i64 (k : Int) ∧ k ≤ s.size ∧ gk = s.size - k ∧ wr = W ∧ Hid (a = (acc : Int) ∧ acc ≤ 9223372036854775807 ∧ wv (strN s) = nval 10 9223372036854775807 ((strN s).drop k) acc))
        case atStart => exact ⟨0, 0, 0, rfl, rfl, by omega, rfl, rfl, rfl, by omega, unhide Hwv⟩
        case round =>
          obtain ⟨k, acc, a, rfl, rfl, hk, hgk, rfl, hh⟩ := hrel
          obtain ⟨ha, hacc, hdec⟩ := unhide hh
          have Hgk := hide hgk
          have a0 : 0 ≤ a := by omega
          have a1 : a ≤ 9223372036854775807 := by omega
          clear hh hgk
          by_cases hkn : k < s.size
          · obtain ⟨x, hx, hx2, gx⟩ := strN_ex s k hkn
            have hdrop : (strN s).drop k = x :: (strN s).drop (k + 1) := by
              obtain ⟨hl, hx'⟩ := List.getElem?_eq_some_iff.1 hx
              rw [List.drop_eq_getElem_cons hl, hx']
            rw [hdrop] at hdec
            have Hdec := hide hdec
            have Ha := hide ha
            clear hdrop hx hdec ha
            go_wp2_with fail
            refine (xhex_any wr x hx2).mono ?_
            rintro e w' ⟨rfl, he⟩
            obtain rfl : wr = w' := he.symm
            rcases hexI_cases x with ⟨hI, hD⟩ | ⟨d, hI, hD, hd⟩
            · rw [hI]
              have hn : wv (strN s) = none := by
                rw [unhide Hdec]
                simp only [nval]
                split
                · rfl
                · rename_i d hd
                  rw [if_neg (by have := hD d hd; omega)]
              have Hn := hide hn
              clear hn hD hI Hdec
              go_wp2
              go_ret2
              exact digBad (unhide Hn)
            · rw [hI]
              have hdec := unhide Hdec
              simp only [nval, hD] at hdec
              have d0 : decide ((d : Int) < 0) = false := by simp
              clear Hdec hI gx
              by_cases h8 : d < 10
              · have i9 : decide ((10 : Int) ≤ (d : Int)) = false := by simp; omega
                obtain ⟨q, hq⟩ : ∃ q : Nat, q = (9223372036854775807 - d) / 10 := ⟨_, rfl⟩
                have hq2 : (9223372036854775807 - (d : Int)).tdiv 10 = (q : Int) := by rw [Int.tdiv_eq_ediv_of_nonneg (by omega)]; omega
                have hqb : q ≤ 1152921504606846976 := by omega
                by_cases hm : acc * 10 + d ≤ 9223372036854775807
                · rw [if_pos ⟨by omega, hm⟩] at hdec
                  have ha := unhide Ha
                  have iq : decide ((q : Int) < a) = false := by simp; omega
                  have im : a * 10 + (d : Int) ≤ 9223372036854775807 := by omega
                  have HN : Hid (a * 10 + (d : Int) = ((acc * 10 + d : Nat) : Int) ∧ acc * 10 + d ≤ 9223372036854775807 ∧ wv (strN s) = nval 10 9223372036854775807 ((strN s).drop (k + 1)) (acc * 10 + d)) := ⟨by omega, hm, hdec⟩
                  clear hdec ha hacc hm hq Ha
                  go_wp2
                  go_roundg (s.size - (k + 1))
                  case measure => have := unhide Hgk; omega
                  case rel => exact ⟨k + 1, acc * 10 + d, a * 10 + (d : Int), by go_num, by go_num, by omega, rfl, rfl, HN⟩
                · rw [if_neg (by omega)] at hdec
                  have ha := unhide Ha
                  have iq : decide ((q : Int) < a) = true := by simp; omega
                  have Hn := hide hdec
                  clear hdec ha hacc hm hq Ha
                  go_wp2
                  go_ret2
                  exact digBad (unhide Hn)
              · have i9 : decide ((10 : Int) ≤ (d : Int)) = true := by simp; omega
                rw [if_neg (by omega)] at hdec
                have Hn := hide hdec
                clear hdec hacc Ha h8
                go_wp2
                go_ret2
                exact digBad (unhide Hn)
          · obtain rfl : k = s.size := by omega
            rw [List.drop_eq_nil_of_le (by rw [strN_len]; omega)] at hdec
            have Hd : Hid (wv (strN s) = some acc) := hdec
            have Ha := hide ha
            clear hdec ha hacc
            go_wp2
            go_ret2
            rw [unhide Ha]
            exact digGood (unhide Hd)

end Go.Proofs.YtckpainohfhopaaGreatDoor
