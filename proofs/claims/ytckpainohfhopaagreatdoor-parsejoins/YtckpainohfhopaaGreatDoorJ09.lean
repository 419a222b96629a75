import Derived.Test.YtckpainohfhopaaGreatDoorQE
import Derived.Test.YtckpainohfhopaaGreatDoorJ01
import Derived.Test.YtckpainohfhopaaGreatDoorJ00
import Derived.Deep.CutBlock

namespace Go.Proofs.YtckpainohfhopaaGreatDoor
open Go.RowKit
attribute [local go_sem ↓] Go.wp_at_zero Go.wp_at_succ

theorem eqTT {c : Nat} {k : Int} (h : (c : Int) = k) : ((c : Int) == k) = true := by simp; omega
theorem strN_two {s : ByteArray} (h : 2 ≤ s.size) : ∃ a x r, strN s = a :: x :: r ∧ x < 256 ∧ ∃ h1 : 1 < s.size, (s[1]'h1).toNat = x := by
  obtain ⟨a, ha, _, _⟩ := strN_ex s 0 (by omega)
  obtain ⟨x, hx, hx2, gx⟩ := strN_ex s 1 (by omega)
  match hs : strN s with
  | [] => rw [hs] at ha; simp at ha
  | [_] => rw [hs] at hx; simp at hx
  | p :: q :: r =>
    rw [hs] at hx
    obtain rfl : q = x := by simpa using hx
    exact ⟨p, q, r, rfl, hx2, by omega, gx⟩
theorem escL_name {a x v : Nat} {r : List Nat} (h : nameV x = some v) : escL (a :: x :: r) = some (v, 2) := by simp [escL, h]
theorem escL_hex {a x : Nat} {r : List Nat} (h : nameV x = none) (h2 : x = 120 ∨ x = 88) : escL (a :: x :: r) = fin (drun 16 2 r 0 0) 2 := by
  simp only [escL, h]
  rw [if_pos h2]
theorem escL_oct {a x : Nat} {r : List Nat} (h : nameV x = none) (h2 : ¬ (x = 120 ∨ x = 88)) : escL (a :: x :: r) = fin (drun 8 3 (x :: r) 0 0) 1 := by
  simp only [escL, h]
  rw [if_neg h2]
theorem escL_short {l : List Nat} (h : l.length < 2) : escL l = none := by
  match l, h with
  | [], _ => rfl
  | [_], _ => rfl
set_option maxRecDepth 100000 in
set_option maxHeartbeats 2000000 in
theorem escape_any {W : World} (hE : HasE W) (s : ByteArray) (hs : s.size ≤ 65536) : Calls Tryz.prog 137 #[.string s] W (VN W (escL (strN s))) := by
  have hb0 := Below.refl W.heap.size W
  by_cases h2 : 2 ≤ s.size
  · have e0 : decide ((s.size : Int) < 2) = false := by simp; omega
    obtain ⟨a, x, r, hl, hx2, h1, gx⟩ := strN_two h2
    rw [hl]
    have Hl := hide hl
    clear hl
    by_cases h97 : x = 97
    · have Hv : Hid (escL (a :: x :: r) = some (7, 2)) := escL_name (by rw [h97]; rfl)
      have f97 := eqTT (c := x) (k := 97) (by omega)
      clear h97 h2 
      go_enter Tryz.func137, Tryz.ntmps137
      go_wp2
      go_ret2
      exact vnGood (v := 7) (n := 2) hb0 (unhide Hv)
    have f97 := eqF (c := x) (k := 97) (by omega)
    by_cases h98 : x = 98
    · have Hv : Hid (escL (a :: x :: r) = some (8, 2)) := escL_name (by rw [h98]; rfl)
      have f98 := eqTT (c := x) (k := 98) (by omega)
      clear h98 h2 h97
      go_enter Tryz.func137, Tryz.ntmps137
      go_wp2
      go_ret2
      exact vnGood (v := 8) (n := 2) hb0 (unhide Hv)
    have f98 := eqF (c := x) (k := 98) (by omega)
    by_cases h102 : x = 102
    · have Hv : Hid (escL (a :: x :: r) = some (12, 2)) := escL_name (by rw [h102]; rfl)
      have f102 := eqTT (c := x) (k := 102) (by omega)
      clear h102 h2 h97 h98
      go_enter Tryz.func137, Tryz.ntmps137
      go_wp2
      go_ret2
      exact vnGood (v := 12) (n := 2) hb0 (unhide Hv)
    have f102 := eqF (c := x) (k := 102) (by omega)
    by_cases h110 : x = 110
    · have Hv : Hid (escL (a :: x :: r) = some (10, 2)) := escL_name (by rw [h110]; rfl)
      have f110 := eqTT (c := x) (k := 110) (by omega)
      clear h110 h2 h97 h98 h102
      go_enter Tryz.func137, Tryz.ntmps137
      go_wp2
      go_ret2
      exact vnGood (v := 10) (n := 2) hb0 (unhide Hv)
    have f110 := eqF (c := x) (k := 110) (by omega)
    by_cases h114 : x = 114
    · have Hv : Hid (escL (a :: x :: r) = some (13, 2)) := escL_name (by rw [h114]; rfl)
      have f114 := eqTT (c := x) (k := 114) (by omega)
      clear h114 h2 h97 h98 h102 h110
      go_enter Tryz.func137, Tryz.ntmps137
      go_wp2
      go_ret2
      exact vnGood (v := 13) (n := 2) hb0 (unhide Hv)
    have f114 := eqF (c := x) (k := 114) (by omega)
    by_cases h116 : x = 116
    · have Hv : Hid (escL (a :: x :: r) = some (9, 2)) := escL_name (by rw [h116]; rfl)
      have f116 := eqTT (c := x) (k := 116) (by omega)
      clear h116 h2 h97 h98 h102 h110 h114
      go_enter Tryz.func137, Tryz.ntmps137
      go_wp2
      go_ret2
      exact vnGood (v := 9) (n := 2) hb0 (unhide Hv)
    have f116 := eqF (c := x) (k := 116) (by omega)
    by_cases h118 : x = 118
    · have Hv : Hid (escL (a :: x :: r) = some (11, 2)) := escL_name (by rw [h118]; rfl)
      have f118 := eqTT (c := x) (k := 118) (by omega)
      clear h118 h2 h97 h98 h102 h110 h114 h116
      go_enter Tryz.func137, Tryz.ntmps137
      go_wp2
      go_ret2
      exact vnGood (v := 11) (n := 2) hb0 (unhide Hv)
    have f118 := eqF (c := x) (k := 118) (by omega)
    by_cases h92 : x = 92
    · have Hv : Hid (escL (a :: x :: r) = some (x, 2)) := escL_name (by rw [h92]; rfl)
      have f92 := eqTT (c := x) (k := 92) (by omega)
      clear h92 h2 h97 h98 h102 h110 h114 h116 h118
      go_enter Tryz.func137, Tryz.ntmps137
      go_wp2
      go_ret2
      exact vnGood (v := x) (n := 2) hb0 (unhide Hv)
    have f92 := eqF (c := x) (k := 92) (by omega)
    by_cases h39 : x = 39
    · have Hv : Hid (escL (a :: x :: r) = some (x, 2)) := escL_name (by rw [h39]; rfl)
      have f39 := eqTT (c := x) (k := 39) (by omega)
      clear h39 h2 h97 h98 h102 h110 h114 h116 h118 h92
      go_enter Tryz.func137, Tryz.ntmps137
      go_wp2
      go_ret2
      exact vnGood (v := x) (n := 2) hb0 (unhide Hv)
    have f39 := eqF (c := x) (k := 39) (by omega)
    by_cases h34 : x = 34
    · have Hv : Hid (escL (a :: x :: r) = some (x, 2)) := escL_name (by rw [h34]; rfl)
      have f34 := eqTT (c := x) (k := 34) (by omega)
      clear h34 h2 h97 h98 h102 h110 h114 h116 h118 h92 h39
      go_enter Tryz.func137, Tryz.ntmps137
      go_wp2
      go_ret2
      exact vnGood (v := x) (n := 2) hb0 (unhide Hv)
    have f34 := eqF (c := x) (k := 34) (by omega)
    have hnv : nameV x = none := by unfold nameV; rw [if_neg h97, if_neg h98, if_neg h102, if_neg h110, if_neg h114, if_neg h116, if_neg h118, if_neg (by omega)]
    by_cases h120 : x = 120
    · have hv : escL (a :: x :: r) = fin (drun 16 2 ((strN s).drop 2) 0 0) 2 := by rw [unhide Hl]; exact escL_hex hnv (by omega)
      rw [hv]
      have f120 := eqTT (c := x) (k := 120) (by omega)
      clear hv hnv h120 h97 h98 h102 h110 h114 h116 h118 h92 h39 h34
      go_enter Tryz.func137, Tryz.ntmps137
      go_wp2_with fail
      refine (byBase_hex hE s hs h2).mono ?_
      rintro e w1 ⟨hb1, ⟨ho, rfl⟩ | ⟨v, n, ho, rfl⟩⟩
      · have Hb := hide hb1
        have Ho := hide ho
        clear hb1 ho h2
        go_wp2
        go_ret2
        exact vnBad (unhide Hb) (unhide Ho)
      · have Hb := hide hb1
        have Ho := hide ho
        clear hb1 ho h2
        go_wp2
        go_ret2
        exact vnGood (unhide Hb) (unhide Ho)
    have f120 := eqF (c := x) (k := 120) (by omega)
    by_cases h88 : x = 88
    · have hv : escL (a :: x :: r) = fin (drun 16 2 ((strN s).drop 2) 0 0) 2 := by rw [unhide Hl]; exact escL_hex hnv (by omega)
      rw [hv]
      have f88 := eqTT (c := x) (k := 88) (by omega)
      clear hv hnv h88 h97 h98 h102 h110 h114 h116 h118 h92 h39 h34 h120
      go_enter Tryz.func137, Tryz.ntmps137
      go_wp2_with fail
      refine (byBase_hex hE s hs h2).mono ?_
      rintro e w1 ⟨hb1, ⟨ho, rfl⟩ | ⟨v, n, ho, rfl⟩⟩
      · have Hb := hide hb1
        have Ho := hide ho
        clear hb1 ho h2
        go_wp2
        go_ret2
        exact vnBad (unhide Hb) (unhide Ho)
      · have Hb := hide hb1
        have Ho := hide ho
        clear hb1 ho h2
        go_wp2
        go_ret2
        exact vnGood (unhide Hb) (unhide Ho)
    have f88 := eqF (c := x) (k := 88) (by omega)
    have hv : escL (a :: x :: r) = fin (drun 8 3 ((strN s).drop 1) 0 0) 1 := by rw [unhide Hl]; exact escL_oct hnv (by omega)
    rw [hv]
    clear hv hnv h97 h98 h102 h110 h114 h116 h118 h92 h39 h34 h120 h88
    go_enter Tryz.func137, Tryz.ntmps137
    go_wp2_with fail
    refine (byBase_oct hE s hs (by omega)).mono ?_
    rintro e w1 ⟨hb1, ⟨ho, rfl⟩ | ⟨v, n, ho, rfl⟩⟩
    · have Hb := hide hb1
      have Ho := hide ho
      clear hb1 ho h2
      go_wp2
      go_ret2
      exact vnBad (unhide Hb) (unhide Ho)
    · have Hb := hide hb1
      have Ho := hide ho
      clear hb1 ho h2
      go_wp2
      go_ret2
      exact vnGood (unhide Hb) (unhide Ho)
  · have e0 : decide ((s.size : Int) < 2) = true := by simp; omega
    have Hv : Hid (escL (strN s) = none) := escL_short (by rw [strN_len]; omega)
    clear h2
    go_enter Tryz.func137, Tryz.ntmps137
    go_wp2
    go_ret2
    exact vnBad hb0 (unhide Hv)
set_option maxRecDepth 100000 in
set_option maxHeartbeats 1000000 in
theorem piece_any {W : World} (hE : HasE W) (s : ByteArray) (h0 : 0 < s.size) (hs : s.size ≤ 65536) : Calls Tryz.prog 117 #[.string s] W (VN W (pieceAt s 0)) := by
  have hb0 := Below.refl W.heap.size W
  obtain ⟨x, hx⟩ : ∃ x : Nat, s[0].toNat = x := ⟨_, rfl⟩
  have hbx : byteAt s 0 = x := (byteAt_eq s 0 h0).trans hx
  have hx2 : x < 256 := by rw [← hbx]; exact byteAt_lt s 0
  have hp : pieceAt s 0 = if x = 0 ∨ x = 10 then none else if x = 92 then escL (strN s) else some (x, 1) := by unfold pieceAt; rw [hbx]; rfl
  rw [hp]
  clear hp hbx
  by_cases c0 : x = 0
  · rw [if_pos (.inl c0)]
    have f0 := eqTT (c := x) (k := 0) (by omega)
    clear c0
    go_enter Tryz.func117, Tryz.ntmps117
    go_wp2
    go_ret2
    exact vnBad hb0 rfl
  have f0 := eqF (c := x) (k := 0) (by omega)
  by_cases c1 : x = 10
  · rw [if_pos (.inr c1)]
    have f1 := eqTT (c := x) (k := 10) (by omega)
    clear c0 c1
    go_enter Tryz.func117, Tryz.ntmps117
    go_wp2
    go_ret2
    exact vnBad hb0 rfl
  have f1 := eqF (c := x) (k := 10) (by omega)
  by_cases c2 : x = 92
  · rw [if_neg (by omega), if_pos c2]
    have f2 := eqTT (c := x) (k := 92) (by omega)
    clear c0 c1 c2
    go_enter Tryz.func117, Tryz.ntmps117
    go_wp2_with fail
    refine (escape_any hE s hs).mono ?_
    rintro e w1 ⟨hb1, ⟨ho, rfl⟩ | ⟨v, n, ho, rfl⟩⟩
    · have Hb := hide hb1
      have Ho := hide ho
      clear hb1 ho
      go_wp2
      go_ret2
      exact vnBad (unhide Hb) (unhide Ho)
    · have Hb := hide hb1
      have Ho := hide ho
      clear hb1 ho
      go_wp2
      go_ret2
      exact vnGood (unhide Hb) (unhide Ho)
  have f2 := eqF (c := x) (k := 92) (by omega)
  rw [if_neg (by omega), if_neg c2]
  clear c0 c1 c2
  go_enter Tryz.func117, Tryz.ntmps117
  go_wp2
  go_ret2
  exact vnGood (v := x) (n := 1) hb0 rfl
end Go.Proofs.YtckpainohfhopaaGreatDoor

namespace Go.Proofs.YtckpainohfhopaaGreatDoor
open Go.RowKit
attribute [local go_sem ↓] Go.wp_at_zero Go.wp_at_succ

theorem ltiF {c : Nat} {k : Int} (h : k ≤ (c : Int)) : decide ((c : Int) < k) = false := by simp; omega
theorem ltiT {c : Nat} {k : Int} (h : (c : Int) < k) : decide ((c : Int) < k) = true := by simp; omega
theorem eqT {c : Nat} {k : Int} (h : (c : Int) = k) : ((c : Int) == k) = true := by simp; omega
theorem len_in {s : ByteArray} {k c lo hi i y : Nat} {L H : Int} (q : LenOkAt s k c lo hi) (i1 : 1 ≤ i) (hic : i < 1 + c) (hb : byteAt s (k + i) = y) (hL : L = if i = 1 then (lo : Int) else 128) (hH : H = if i = 1 then (hi : Int) else 191) : L ≤ (y : Int) ∧ (y : Int) ≤ H := by
  have q1 := q.2 i i1 hic
  rw [hb] at q1
  by_cases h : i = 1
  · rw [if_pos h] at hL hH
    rw [if_pos h, if_pos h] at q1
    omega
  · rw [if_neg h] at hL hH
    rw [if_neg h, if_neg h] at q1
    omega
theorem len_next {s : ByteArray} {k lo hi i y : Nat} {L H : Int} (hb : byteAt s (k + i) = y) (hL : L = if i = 1 then (lo : Int) else 128) (hH : H = if i = 1 then (hi : Int) else 191) (h1 : L ≤ (y : Int)) (h2 : (y : Int) ≤ H)
    (hall : ∀ j, 1 ≤ j → j < i → (if j = 1 then lo else 128) ≤ byteAt s (k + j) ∧ byteAt s (k + j) ≤ (if j = 1 then hi else 191)) :
    ∀ j, 1 ≤ j → j < i + 1 → (if j = 1 then lo else 128) ≤ byteAt s (k + j) ∧ byteAt s (k + j) ≤ (if j = 1 then hi else 191) := by
  intro j j1 j2
  by_cases hj : j = i
  · subst hj
    rw [hb]
    by_cases h : j = 1
    · rw [if_pos h] at hL hH
      rw [if_pos h, if_pos h]
      omega
    · rw [if_neg h] at hL hH
      rw [if_neg h, if_neg h]
      omega
  · exact hall j j1 (by omega)
set_option maxRecDepth 100000 in
set_option maxHeartbeats 4000000 in
theorem follow_any (W : World) (s : ByteArray) (k : Nat) (hk : k < s.size) (hs : s.size ≤ 140737488351232) :
    Calls Tryz.prog 50 #[.string s, .int .i64 (k : Int)] W fun e w => e = .returned (.int .i64 (chAt s k : Int)) ∧ w = W := by
  obtain ⟨x, hx⟩ : ∃ x : Nat, s[k].toNat = x := ⟨_, rfl⟩
  have hbx : byteAt s k = x := (byteAt_eq s k hk).trans hx
  have hx2 : x < 256 := by rw [← hbx]; exact byteAt_lt s k
  have k0 : (0 : Int) ≤ (k : Int) := Int.natCast_nonneg _
  have k1 : (k : Int) < (s.size : Int) := by omega
  have Hbx := hide hbx
  clear hbx
  go_enter Tryz.func50, Tryz.ntmps50
  go_upto_block 0 with fail
  go_cut [6, 7, 8] from 15 to 46 (fun v6 v7 v8 wc => ∃ c lo hi : Nat, v6 = .int .i64 (((c + 1 : Nat) : Int)) ∧ v7 = .int .i64 (lo : Int) ∧ v8 = .int .i64 (hi : Int) ∧ wc = W ∧ 1 ≤ c ∧ c ≤ 3 ∧ lo ≤ 255 ∧ hi ≤ 255 ∧ Hid (frm x = some (c, lo, hi)))
  case first =>
    have hcs : x < 128 ∨ (128 ≤ x ∧ x < 194) ∨ (194 ≤ x ∧ x < 224) ∨ x = 224 ∨ (225 ≤ x ∧ x < 237) ∨ x = 237 ∨ (238 ≤ x ∧ x < 240) ∨ x = 240 ∨ (241 ≤ x ∧ x < 244) ∨ x = 244 ∨ 245 ≤ x := by omega
    rcases hcs with hc | hc | hc | hc | hc | hc | hc | hc | hc | hc | hc
    · have b0 := ltiT (c := x) (k := 128) (by omega)
      have hf : frm x = some (0, 0, 0) := by unfold frm; rw [if_pos (by omega)]
      have hc1 : chAt s k = 1 := chAt_ok (c := 0) (by rw [unhide Hbx]; exact hf) ⟨by omega, fun j j1 j2 => by omega⟩
      have Hc := hide hc1
      clear hc1
      clear hf
      go_wp2
      go_ret
      exact ⟨by rw [unhide Hc]; rfl, rfl⟩
    · have b0 := ltiF (c := x) (k := 128) (by omega); have b1 := geF (c := x) (k := 194) (by omega); have b2 := geF (c := x) (k := 224) (by omega); have b3 := geF (c := x) (k := 240) (by omega)
      have hf : frm x = none := by unfold frm; repeat' (first | rw [if_neg (by omega)] | rw [if_pos (by omega)])
      have Hc : Hid (chAt s k = 0) := chAt_none (by rw [unhide Hbx]; exact hf)
      clear hf
      go_wp2
      go_ret
      exact ⟨by rw [unhide Hc]; rfl, rfl⟩
    · have b0 := ltiF (c := x) (k := 128) (by omega); have b1 := geT (c := x) (k := 194) (by omega); have b2 := leT (c := x) (k := 223) (by omega)
      have hf : frm x = some (1, 128, 191) := by unfold frm; repeat' (first | rw [if_neg (by omega)] | rw [if_pos (by omega)])
      have Hf := hide hf
      clear hf
      go_wp2
      go_meet
      case rel => exact ⟨1, 128, 191, rfl, rfl, rfl, rfl, by omega, by omega, by omega, by omega, Hf⟩
    · have b0 := ltiF (c := x) (k := 128) (by omega); have b1 := geT (c := x) (k := 194) (by omega); have b2 := leF (c := x) (k := 223) (by omega); have b3 := geT (c := x) (k := 224) (by omega); have b4 := leT (c := x) (k := 239) (by omega); have b5 := eqT (c := x) (k := 224) (by omega); have b6 := eqF (c := x) (k := 237) (by omega)
      have hf : frm x = some (2, 160, 191) := by unfold frm; repeat' (first | rw [if_neg (by omega)] | rw [if_pos (by omega)])
      have Hf := hide hf
      clear hf
      go_wp2
      go_meet
      case rel => exact ⟨2, 160, 191, rfl, rfl, rfl, rfl, by omega, by omega, by omega, by omega, Hf⟩
    · have b0 := ltiF (c := x) (k := 128) (by omega); have b1 := geT (c := x) (k := 194) (by omega); have b2 := leF (c := x) (k := 223) (by omega); have b3 := geT (c := x) (k := 224) (by omega); have b4 := leT (c := x) (k := 239) (by omega); have b5 := eqF (c := x) (k := 224) (by omega); have b6 := eqF (c := x) (k := 237) (by omega)
      have hf : frm x = some (2, 128, 191) := by unfold frm; repeat' (first | rw [if_neg (by omega)] | rw [if_pos (by omega)])
      have Hf := hide hf
      clear hf
      go_wp2
      go_meet
      case rel => exact ⟨2, 128, 191, rfl, rfl, rfl, rfl, by omega, by omega, by omega, by omega, Hf⟩
    · have b0 := ltiF (c := x) (k := 128) (by omega); have b1 := geT (c := x) (k := 194) (by omega); have b2 := leF (c := x) (k := 223) (by omega); have b3 := geT (c := x) (k := 224) (by omega); have b4 := leT (c := x) (k := 239) (by omega); have b5 := eqF (c := x) (k := 224) (by omega); have b6 := eqT (c := x) (k := 237) (by omega)
      have hf : frm x = some (2, 128, 159) := by unfold frm; repeat' (first | rw [if_neg (by omega)] | rw [if_pos (by omega)])
      have Hf := hide hf
      clear hf
      go_wp2
      go_meet
      case rel => exact ⟨2, 128, 159, rfl, rfl, rfl, rfl, by omega, by omega, by omega, by omega, Hf⟩
    · have b0 := ltiF (c := x) (k := 128) (by omega); have b1 := geT (c := x) (k := 194) (by omega); have b2 := leF (c := x) (k := 223) (by omega); have b3 := geT (c := x) (k := 224) (by omega); have b4 := leT (c := x) (k := 239) (by omega); have b5 := eqF (c := x) (k := 224) (by omega); have b6 := eqF (c := x) (k := 237) (by omega)
      have hf : frm x = some (2, 128, 191) := by unfold frm; repeat' (first | rw [if_neg (by omega)] | rw [if_pos (by omega)])
      have Hf := hide hf
      clear hf
      go_wp2
      go_meet
      case rel => exact ⟨2, 128, 191, rfl, rfl, rfl, rfl, by omega, by omega, by omega, by omega, Hf⟩
    · have b0 := ltiF (c := x) (k := 128) (by omega); have b1 := geT (c := x) (k := 194) (by omega); have b2 := leF (c := x) (k := 223) (by omega); have b3 := geT (c := x) (k := 224) (by omega); have b4 := leF (c := x) (k := 239) (by omega); have b5 := geT (c := x) (k := 240) (by omega); have b6 := leT (c := x) (k := 244) (by omega); have b7 := eqT (c := x) (k := 240) (by omega); have b8 := eqF (c := x) (k := 244) (by omega)
      have hf : frm x = some (3, 144, 191) := by unfold frm; repeat' (first | rw [if_neg (by omega)] | rw [if_pos (by omega)])
      have Hf := hide hf
      clear hf
      go_wp2
      go_meet
      case rel => exact ⟨3, 144, 191, rfl, rfl, rfl, rfl, by omega, by omega, by omega, by omega, Hf⟩
    · have b0 := ltiF (c := x) (k := 128) (by omega); have b1 := geT (c := x) (k := 194) (by omega); have b2 := leF (c := x) (k := 223) (by omega); have b3 := geT (c := x) (k := 224) (by omega); have b4 := leF (c := x) (k := 239) (by omega); have b5 := geT (c := x) (k := 240) (by omega); have b6 := leT (c := x) (k := 244) (by omega); have b7 := eqF (c := x) (k := 240) (by omega); have b8 := eqF (c := x) (k := 244) (by omega)
      have hf : frm x = some (3, 128, 191) := by unfold frm; repeat' (first | rw [if_neg (by omega)] | rw [if_pos (by omega)])
      have Hf := hide hf
      clear hf
      go_wp2
      go_meet
      case rel => exact ⟨3, 128, 191, rfl, rfl, rfl, rfl, by omega, by omega, by omega, by omega, Hf⟩
    · have b0 := ltiF (c := x) (k := 128) (by omega); have b1 := geT (c := x) (k := 194) (by omega); have b2 := leF (c := x) (k := 223) (by omega); have b3 := geT (c := x) (k := 224) (by omega); have b4 := leF (c := x) (k := 239) (by omega); have b5 := geT (c := x) (k := 240) (by omega); have b6 := leT (c := x) (k := 244) (by omega); have b7 := eqF (c := x) (k := 240) (by omega); have b8 := eqT (c := x) (k := 244) (by omega)
      have hf : frm x = some (3, 128, 143) := by unfold frm; repeat' (first | rw [if_neg (by omega)] | rw [if_pos (by omega)])
      have Hf := hide hf
      clear hf
      go_wp2
      go_meet
      case rel => exact ⟨3, 128, 143, rfl, rfl, rfl, rfl, by omega, by omega, by omega, by omega, Hf⟩
    · have b0 := ltiF (c := x) (k := 128) (by omega); have b1 := geT (c := x) (k := 194) (by omega); have b2 := leF (c := x) (k := 223) (by omega); have b3 := geT (c := x) (k := 224) (by omega); have b4 := leF (c := x) (k := 239) (by omega); have b5 := geT (c := x) (k := 240) (by omega); have b6 := leF (c := x) (k := 244) (by omega)
      have hf : frm x = none := by unfold frm; repeat' (first | rw [if_neg (by omega)] | rw [if_pos (by omega)])
      have Hc : Hid (chAt s k = 0) := chAt_none (by rw [unhide Hbx]; exact hf)
      clear hf
      go_wp2
      go_ret
      exact ⟨by rw [unhide Hc]; rfl, rfl⟩
  case rest =>
    obtain ⟨c, lo, hi, rfl, rfl, rfl, rfl, c1, c3, lo1, hi1, Hf⟩ := hcut
    obtain ⟨n, hn⟩ : ∃ n, n = c + 1 := ⟨_, rfl⟩
    rw [← hn]
    have n2 : 2 ≤ n := by omega
    have n4 : n ≤ 4 := by omega
    have Hn := hide hn
    clear hn
    have Hfr : Hid (frm (byteAt s k) = some (c, lo, hi)) := by rw [unhide Hbx]; exact unhide Hf
    clear Hf Hbx hx c1 c3
    by_cases hsz : k + n ≤ s.size
    · have e1 : decide ((s.size : Int) < (k : Int) + (n : Int)) = false := by simp; omega
      go_wp2
      go_loopg [7, 8, 9, 10] (n - 1) (fun gk v7 v8 v9 _ wr => ∃ (i : Nat) (L H : Int), v9 = .int .i64 (i : Int) ∧ v7 = .int .i64 L ∧ v8 = .int .i64 H ∧ L = (if i = 1 then (lo : Int) else 128) ∧ H = (if i = 1 then (hi : Int) else 191) ∧ 1 ≤ i ∧ i ≤ n ∧ gk = n - i ∧ wr = wc ∧ ∀ j, 1 ≤ j → j < i → (if j = 1 then lo else 128) ≤ byteAt s (k + j) ∧ byteAt s (k + j) ≤ (if j = 1 then hi else 191))
      case atStart => exact ⟨1, lo, hi, rfl, rfl, rfl, rfl, rfl, Nat.le_refl _, by omega, by omega, rfl, fun j h1 h2 => by omega⟩
      case round =>
        obtain ⟨i, L, H, rfl, rfl, rfl, hL, hH, i1, hi', hgk, rfl, hall⟩ := hrel
        have Hgk := hide hgk
        have Hall := hide hall
        have HL := hide hL
        have HH := hide hH
        clear hgk hall hL hH
        by_cases hlt : i < n
        · obtain ⟨j, hj⟩ : ∃ j, j = k + i := ⟨_, rfl⟩
          have hjs : j < s.size := by omega
          obtain ⟨y, hy⟩ : ∃ y : Nat, (s[j]'hjs).toNat = y := ⟨_, rfl⟩
          have hby : byteAt s (k + i) = y := by rw [← hj]; exact (byteAt_eq s j hjs).trans hy
          have hy2 : y < 256 := by rw [← hby]; exact byteAt_lt s _
          have Hby := hide hby
          have hw0 : (k : Int) + (i : Int) = (j : Int) := by omega
          have j0 : (0 : Int) ≤ (j : Int) := Int.natCast_nonneg _
          have j1 : (j : Int) < (s.size : Int) := by omega
          clear hby hj
          by_cases c1' : (y : Int) < L
          · have b1 : decide ((y : Int) < L) = true := by simp; omega
            have Hc : Hid (chAt s k = 0) := chAt_no (unhide Hfr) (fun q => by have hn := unhide Hn; have q1 := len_in q i1 (by omega) (unhide Hby) (unhide HL) (unhide HH); omega)
            go_upto_region 28 with fail
            clear hw0 hy j0 j1 hjs
            clear c1'
            go_wp2
            go_ret
            exact ⟨by rw [unhide Hc]; rfl, rfl⟩
          · have b1 : decide ((y : Int) < L) = false := by simp; omega
            by_cases c2' : H < (y : Int)
            · have b2 : decide (H < (y : Int)) = true := by simp; omega
              have Hc : Hid (chAt s k = 0) := chAt_no (unhide Hfr) (fun q => by have hn := unhide Hn; have q1 := len_in q i1 (by omega) (unhide Hby) (unhide HL) (unhide HH); omega)
              go_upto_region 28 with fail
              clear hw0 hy j0 j1 hjs
              clear c1' c2'
              go_wp2
              go_ret
              exact ⟨by rw [unhide Hc]; rfl, rfl⟩
            · have b2 : decide (H < (y : Int)) = false := by simp; omega
              have Hnext : Hid (∀ j, 1 ≤ j → j < i + 1 → (if j = 1 then lo else 128) ≤ byteAt s (k + j) ∧ byteAt s (k + j) ≤ (if j = 1 then hi else 191)) := len_next (unhide Hby) (unhide HL) (unhide HH) (by omega) (by omega) (unhide Hall)
              go_upto_region 28 with fail
              clear hw0 hy j0 j1 hjs
              clear c1' c2'
              go_wp2
              go_roundg (n - (i + 1))
              case measure => have := unhide Hgk; omega
              case rel => exact ⟨i + 1, 128, 191, by go_num, rfl, rfl, by rw [if_neg (by omega)], by rw [if_neg (by omega)], by omega, by omega, rfl, rfl, unhide Hnext⟩
        · obtain rfl : i = n := by omega
          have Hc : Hid (chAt s k = i) := by
            have hn := unhide Hn
            have := chAt_ok (unhide Hfr) ⟨by omega, fun j j1 j2 => unhide Hall j j1 (by omega)⟩
            show chAt s k = i
            omega
          go_wp2
          go_ret
          exact ⟨by rw [unhide Hc]; rfl, rfl⟩
    · have e1 : decide ((s.size : Int) < (k : Int) + (n : Int)) = true := by simp; omega
      have Hc : Hid (chAt s k = 0) := chAt_no (unhide Hfr) (fun q => by have hn := unhide Hn; have := q.1; omega)
      go_wp2
      go_ret
      exact ⟨by rw [unhide Hc]; rfl, rfl⟩
end Go.Proofs.YtckpainohfhopaaGreatDoor
