import Derived.Test.YtokiplfdhoealaaDoorQE
namespace Go.Proofs.YtokiplfdhoealaaDoor
open Go.RowKit
attribute [local go_sem ↓] Go.wp_at_zero Go.wp_at_succ

theorem eqTT {c : Nat} {k : Int} (h : (c : Int) = k) : ((c : Int) == k) = true := by simp; omega
theorem strN_two {s : ByteArray} (h : 2 ≤ s.size) : ∃ a x r, strN s = a :: x :: r ∧ x < 256 ∧ ∃ h1 : 1 < s.size, (s[1]'h1).toNat = x := by
  obtain ⟨a, ha, _, _⟩ := strN_ex s 0 (by omega)
  obtain ⟨x, hx, hx2, gx⟩ := strN_ex s 1 (by omega)
  match hs : strN s with
  | [] => rw [hs] at ha; simp at ha
  | [_] => rw [hs] at hx; simp at hx
  | p :: q :: r =>
    rw [hs] at hx
    obtain rfl : q = x := by simpa using hx
    exact ⟨p, q, r, rfl, hx2, by omega, gx⟩
theorem escL_name {a x v : Nat} {r : List Nat} (h : nameV x = some v) : escL (a :: x :: r) = some (v, 2) := by simp [escL, h]
theorem escL_hex {a x : Nat} {r : List Nat} (h : nameV x = none) (h2 : x = 120 ∨ x = 88) : escL (a :: x :: r) = fin (drun 16 2 r 0 0) 2 := by
  simp only [escL, h]
  rw [if_pos h2]
theorem escL_oct {a x : Nat} {r : List Nat} (h : nameV x = none) (h2 : ¬ (x = 120 ∨ x = 88)) : escL (a :: x :: r) = fin (drun 8 3 (x :: r) 0 0) 1 := by
  simp only [escL, h]
  rw [if_neg h2]
theorem escL_short {l : List Nat} (h : l.length < 2) : escL l = none := by
  match l, h with
  | [], _ => rfl
  | [_], _ => rfl
set_option maxRecDepth 100000 in
set_option maxHeartbeats 2000000 in
theorem escape_any {W : World} (hE : HasE W) (s : ByteArray) (hs : s.size ≤ 65536) : Calls Tryd.prog 44 #[.string s] W (VN W (escL (strN s))) := by
  have hb0 := Below.refl W.heap.size W
  by_cases h2 : 2 ≤ s.size
  · have e0 : decide ((s.size : Int) < 2) = false := by simp; omega
    obtain ⟨a, x, r, hl, hx2, h1, gx⟩ := strN_two h2
    rw [hl]
    have Hl := hide hl
    clear hl
    by_cases h97 : x = 97
    · have Hv : Hid (escL (a :: x :: r) = some (7, 2)) := escL_name (by rw [h97]; rfl)
      have f97 := eqTT (c := x) (k := 97) (by omega)
      clear h97 h2 
      go_enter Tryd.func44, Tryd.ntmps44
      go_wp2
      go_ret2
      exact vnGood (v := 7) (n := 2) hb0 (unhide Hv)
    have f97 := eqF (c := x) (k := 97) (by omega)
    by_cases h98 : x = 98
    · have Hv : Hid (escL (a :: x :: r) = some (8, 2)) := escL_name (by rw [h98]; rfl)
      have f98 := eqTT (c := x) (k := 98) (by omega)
      clear h98 h2 h97
      go_enter Tryd.func44, Tryd.ntmps44
      go_wp2
      go_ret2
      exact vnGood (v := 8) (n := 2) hb0 (unhide Hv)
    have f98 := eqF (c := x) (k := 98) (by omega)
    by_cases h102 : x = 102
    · have Hv : Hid (escL (a :: x :: r) = some (12, 2)) := escL_name (by rw [h102]; rfl)
      have f102 := eqTT (c := x) (k := 102) (by omega)
      clear h102 h2 h97 h98
      go_enter Tryd.func44, Tryd.ntmps44
      go_wp2
      go_ret2
      exact vnGood (v := 12) (n := 2) hb0 (unhide Hv)
    have f102 := eqF (c := x) (k := 102) (by omega)
    by_cases h110 : x = 110
    · have Hv : Hid (escL (a :: x :: r) = some (10, 2)) := escL_name (by rw [h110]; rfl)
      have f110 := eqTT (c := x) (k := 110) (by omega)
      clear h110 h2 h97 h98 h102
      go_enter Tryd.func44, Tryd.ntmps44
      go_wp2
      go_ret2
      exact vnGood (v := 10) (n := 2) hb0 (unhide Hv)
    have f110 := eqF (c := x) (k := 110) (by omega)
    by_cases h114 : x = 114
    · have Hv : Hid (escL (a :: x :: r) = some (13, 2)) := escL_name (by rw [h114]; rfl)
      have f114 := eqTT (c := x) (k := 114) (by omega)
      clear h114 h2 h97 h98 h102 h110
      go_enter Tryd.func44, Tryd.ntmps44
      go_wp2
      go_ret2
      exact vnGood (v := 13) (n := 2) hb0 (unhide Hv)
    have f114 := eqF (c := x) (k := 114) (by omega)
    by_cases h116 : x = 116
    · have Hv : Hid (escL (a :: x :: r) = some (9, 2)) := escL_name (by rw [h116]; rfl)
      have f116 := eqTT (c := x) (k := 116) (by omega)
      clear h116 h2 h97 h98 h102 h110 h114
      go_enter Tryd.func44, Tryd.ntmps44
      go_wp2
      go_ret2
      exact vnGood (v := 9) (n := 2) hb0 (unhide Hv)
    have f116 := eqF (c := x) (k := 116) (by omega)
    by_cases h118 : x = 118
    · have Hv : Hid (escL (a :: x :: r) = some (11, 2)) := escL_name (by rw [h118]; rfl)
      have f118 := eqTT (c := x) (k := 118) (by omega)
      clear h118 h2 h97 h98 h102 h110 h114 h116
      go_enter Tryd.func44, Tryd.ntmps44
      go_wp2
      go_ret2
      exact vnGood (v := 11) (n := 2) hb0 (unhide Hv)
    have f118 := eqF (c := x) (k := 118) (by omega)
    by_cases h92 : x = 92
    · have Hv : Hid (escL (a :: x :: r) = some (x, 2)) := escL_name (by rw [h92]; rfl)
      have f92 := eqTT (c := x) (k := 92) (by omega)
      clear h92 h2 h97 h98 h102 h110 h114 h116 h118
      go_enter Tryd.func44, Tryd.ntmps44
      go_wp2
      go_ret2
      exact vnGood (v := x) (n := 2) hb0 (unhide Hv)
    have f92 := eqF (c := x) (k := 92) (by omega)
    by_cases h39 : x = 39
    · have Hv : Hid (escL (a :: x :: r) = some (x, 2)) := escL_name (by rw [h39]; rfl)
      have f39 := eqTT (c := x) (k := 39) (by omega)
      clear h39 h2 h97 h98 h102 h110 h114 h116 h118 h92
      go_enter Tryd.func44, Tryd.ntmps44
      go_wp2
      go_ret2
      exact vnGood (v := x) (n := 2) hb0 (unhide Hv)
    have f39 := eqF (c := x) (k := 39) (by omega)
    by_cases h34 : x = 34
    · have Hv : Hid (escL (a :: x :: r) = some (x, 2)) := escL_name (by rw [h34]; rfl)
      have f34 := eqTT (c := x) (k := 34) (by omega)
      clear h34 h2 h97 h98 h102 h110 h114 h116 h118 h92 h39
      go_enter Tryd.func44, Tryd.ntmps44
      go_wp2
      go_ret2
      exact vnGood (v := x) (n := 2) hb0 (unhide Hv)
    have f34 := eqF (c := x) (k := 34) (by omega)
    have hnv : nameV x = none := by unfold nameV; rw [if_neg h97, if_neg h98, if_neg h102, if_neg h110, if_neg h114, if_neg h116, if_neg h118, if_neg (by omega)]
    by_cases h120 : x = 120
    · have hv : escL (a :: x :: r) = fin (drun 16 2 ((strN s).drop 2) 0 0) 2 := by rw [unhide Hl]; exact escL_hex hnv (by omega)
      rw [hv]
      have f120 := eqTT (c := x) (k := 120) (by omega)
      clear hv hnv h120 h97 h98 h102 h110 h114 h116 h118 h92 h39 h34
      go_enter Tryd.func44, Tryd.ntmps44
      go_wp2_with fail
      refine (byBase_hex hE s hs h2).mono ?_
      rintro e w1 ⟨hb1, ⟨ho, rfl⟩ | ⟨v, n, ho, rfl⟩⟩
      · have Hb := hide hb1
        have Ho := hide ho
        clear hb1 ho h2
        go_wp2
        go_ret2
        exact vnBad (unhide Hb) (unhide Ho)
      · have Hb := hide hb1
        have Ho := hide ho
        clear hb1 ho h2
        go_wp2
        go_ret2
        exact vnGood (unhide Hb) (unhide Ho)
    have f120 := eqF (c := x) (k := 120) (by omega)
    by_cases h88 : x = 88
    · have hv : escL (a :: x :: r) = fin (drun 16 2 ((strN s).drop 2) 0 0) 2 := by rw [unhide Hl]; exact escL_hex hnv (by omega)
      rw [hv]
      have f88 := eqTT (c := x) (k := 88) (by omega)
      clear hv hnv h88 h97 h98 h102 h110 h114 h116 h118 h92 h39 h34 h120
      go_enter Tryd.func44, Tryd.ntmps44
      go_wp2_with fail
      refine (byBase_hex hE s hs h2).mono ?_
      rintro e w1 ⟨hb1, ⟨ho, rfl⟩ | ⟨v, n, ho, rfl⟩⟩
      · have Hb := hide hb1
        have Ho := hide ho
        clear hb1 ho h2
        go_wp2
        go_ret2
        exact vnBad (unhide Hb) (unhide Ho)
      · have Hb := hide hb1
        have Ho := hide ho
        clear hb1 ho h2
        go_wp2
        go_ret2
        exact vnGood (unhide Hb) (unhide Ho)
    have f88 := eqF (c := x) (k := 88) (by omega)
    have hv : escL (a :: x :: r) = fin (drun 8 3 ((strN s).drop 1) 0 0) 1 := by rw [unhide Hl]; exact escL_oct hnv (by omega)
    rw [hv]
    clear hv hnv h97 h98 h102 h110 h114 h116 h118 h92 h39 h34 h120 h88
    go_enter Tryd.func44, Tryd.ntmps44
    go_wp2_with fail
    refine (byBase_oct hE s hs (by omega)).mono ?_
    rintro e w1 ⟨hb1, ⟨ho, rfl⟩ | ⟨v, n, ho, rfl⟩⟩
    · have Hb := hide hb1
      have Ho := hide ho
      clear hb1 ho h2
      go_wp2
      go_ret2
      exact vnBad (unhide Hb) (unhide Ho)
    · have Hb := hide hb1
      have Ho := hide ho
      clear hb1 ho h2
      go_wp2
      go_ret2
      exact vnGood (unhide Hb) (unhide Ho)
  · have e0 : decide ((s.size : Int) < 2) = true := by simp; omega
    have Hv : Hid (escL (strN s) = none) := escL_short (by rw [strN_len]; omega)
    clear h2
    go_enter Tryd.func44, Tryd.ntmps44
    go_wp2
    go_ret2
    exact vnBad hb0 (unhide Hv)
set_option maxRecDepth 100000 in
set_option maxHeartbeats 1000000 in
theorem piece_any {W : World} (hE : HasE W) (s : ByteArray) (h0 : 0 < s.size) (hs : s.size ≤ 65536) : Calls Tryd.prog 35 #[.string s] W (VN W (pieceAt s 0)) := by
  have hb0 := Below.refl W.heap.size W
  obtain ⟨x, hx⟩ : ∃ x : Nat, s[0].toNat = x := ⟨_, rfl⟩
  have hbx : byteAt s 0 = x := (byteAt_eq s 0 h0).trans hx
  have hx2 : x < 256 := by rw [← hbx]; exact byteAt_lt s 0
  have hp : pieceAt s 0 = if x = 0 ∨ x = 10 then none else if x = 92 then escL (strN s) else some (x, 1) := by unfold pieceAt; rw [hbx]; rfl
  rw [hp]
  clear hp hbx
  by_cases c0 : x = 0
  · rw [if_pos (.inl c0)]
    have f0 := eqTT (c := x) (k := 0) (by omega)
    clear c0
    go_enter Tryd.func35, Tryd.ntmps35
    go_wp2
    go_ret2
    exact vnBad hb0 rfl
  have f0 := eqF (c := x) (k := 0) (by omega)
  by_cases c1 : x = 10
  · rw [if_pos (.inr c1)]
    have f1 := eqTT (c := x) (k := 10) (by omega)
    clear c0 c1
    go_enter Tryd.func35, Tryd.ntmps35
    go_wp2
    go_ret2
    exact vnBad hb0 rfl
  have f1 := eqF (c := x) (k := 10) (by omega)
  by_cases c2 : x = 92
  · rw [if_neg (by omega), if_pos c2]
    have f2 := eqTT (c := x) (k := 92) (by omega)
    clear c0 c1 c2
    go_enter Tryd.func35, Tryd.ntmps35
    go_wp2_with fail
    refine (escape_any hE s hs).mono ?_
    rintro e w1 ⟨hb1, ⟨ho, rfl⟩ | ⟨v, n, ho, rfl⟩⟩
    · have Hb := hide hb1
      have Ho := hide ho
      clear hb1 ho
      go_wp2
      go_ret2
      exact vnBad (unhide Hb) (unhide Ho)
    · have Hb := hide hb1
      have Ho := hide ho
      clear hb1 ho
      go_wp2
      go_ret2
      exact vnGood (unhide Hb) (unhide Ho)
  have f2 := eqF (c := x) (k := 92) (by omega)
  rw [if_neg (by omega), if_neg c2]
  clear c0 c1 c2
  go_enter Tryd.func35, Tryd.ntmps35
  go_wp2
  go_ret2
  exact vnGood (v := x) (n := 1) hb0 rfl
end Go.Proofs.YtokiplfdhoealaaDoor
