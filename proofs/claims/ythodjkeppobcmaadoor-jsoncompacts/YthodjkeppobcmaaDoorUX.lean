import Derived.Test.YthodjkeppobcmaaDoorUM
import Derived.Test.YthodjkeppobcmaaDoorJ01
import Derived.Deep.CutBlock

namespace Go.Proofs.YthodjkeppobcmaaDoor
open Go.RowKit
attribute [local go_sem ↓] Go.wp_at_zero Go.wp_at_succ

theorem ltiF {c : Nat} {k : Int} (h : k ≤ (c : Int)) : decide ((c : Int) < k) = false := by simp; omega
theorem ltiT {c : Nat} {k : Int} (h : (c : Int) < k) : decide ((c : Int) < k) = true := by simp; omega
theorem eqT {c : Nat} {k : Int} (h : (c : Int) = k) : ((c : Int) == k) = true := by simp; omega
theorem len_in {s : ByteArray} {k c lo hi i y : Nat} {L H : Int} (q : LenOkAt s k c lo hi) (i1 : 1 ≤ i) (hic : i < 1 + c) (hb : byteAt s (k + i) = y) (hL : L = if i = 1 then (lo : Int) else 128) (hH : H = if i = 1 then (hi : Int) else 191) : L ≤ (y : Int) ∧ (y : Int) ≤ H := by
  have q1 := q.2 i i1 hic
  rw [hb] at q1
  by_cases h : i = 1
  · rw [if_pos h] at hL hH
    rw [if_pos h, if_pos h] at q1
    omega
  · rw [if_neg h] at hL hH
    rw [if_neg h, if_neg h] at q1
    omega
theorem len_next {s : ByteArray} {k lo hi i y : Nat} {L H : Int} (hb : byteAt s (k + i) = y) (hL : L = if i = 1 then (lo : Int) else 128) (hH : H = if i = 1 then (hi : Int) else 191) (h1 : L ≤ (y : Int)) (h2 : (y : Int) ≤ H)
    (hall : ∀ j, 1 ≤ j → j < i → (if j = 1 then lo else 128) ≤ byteAt s (k + j) ∧ byteAt s (k + j) ≤ (if j = 1 then hi else 191)) :
    ∀ j, 1 ≤ j → j < i + 1 → (if j = 1 then lo else 128) ≤ byteAt s (k + j) ∧ byteAt s (k + j) ≤ (if j = 1 then hi else 191) := by
  intro j j1 j2
  by_cases hj : j = i
  · subst hj
    rw [hb]
    by_cases h : j = 1
    · rw [if_pos h] at hL hH
      rw [if_pos h, if_pos h]
      omega
    · rw [if_neg h] at hL hH
      rw [if_neg h, if_neg h]
      omega
  · exact hall j j1 (by omega)
set_option maxRecDepth 100000 in
set_option maxHeartbeats 4000000 in
theorem follow_any (W : World) (s : ByteArray) (k : Nat) (hk : k < s.size) (hs : s.size ≤ 140737488351232) :
    Calls Tryd.prog 31 #[.string s, .int .i64 (k : Int)] W fun e w => e = .returned (.int .i64 (chAt s k : Int)) ∧ w = W := by
  obtain ⟨x, hx⟩ : ∃ x : Nat, s[k].toNat = x := ⟨_, rfl⟩
  have hbx : byteAt s k = x := (byteAt_eq s k hk).trans hx
  have hx2 : x < 256 := by rw [← hbx]; exact byteAt_lt s k
  have k0 : (0 : Int) ≤ (k : Int) := Int.natCast_nonneg _
  have k1 : (k : Int) < (s.size : Int) := by omega
  have Hbx := hide hbx
  clear hbx
  go_enter Tryd.func31, Tryd.ntmps31
  go_upto_block 0 with fail
  go_cut [6, 7, 8] from 15 to 46 (fun v6 v7 v8 wc => ∃ c lo hi : Nat, v6 = .int .i64 (((c + 1 : Nat) : Int)) ∧ v7 = .int .i64 (lo : Int) ∧ v8 = .int .i64 (hi : Int) ∧ wc = W ∧ 1 ≤ c ∧ c ≤ 3 ∧ lo ≤ 255 ∧ hi ≤ 255 ∧ Hid (frm x = some (c, lo, hi)))
  case first =>
    have hcs : x < 128 ∨ (128 ≤ x ∧ x < 194) ∨ (194 ≤ x ∧ x < 224) ∨ x = 224 ∨ (225 ≤ x ∧ x < 237) ∨ x = 237 ∨ (238 ≤ x ∧ x < 240) ∨ x = 240 ∨ (241 ≤ x ∧ x < 244) ∨ x = 244 ∨ 245 ≤ x := by omega
    rcases hcs with hc | hc | hc | hc | hc | hc | hc | hc | hc | hc | hc
    · have b0 := ltiT (c := x) (k := 128) (by omega)
      have hf : frm x = some (0, 0, 0) := by unfold frm; rw [if_pos (by omega)]
      have hc1 : chAt s k = 1 := chAt_ok (c := 0) (by rw [unhide Hbx]; exact hf) ⟨by omega, fun j j1 j2 => by omega⟩
      have Hc := hide hc1
      clear hc1
      clear hf
      go_wp2
      go_ret
      exact ⟨by rw [unhide Hc]; rfl, rfl⟩
    · have b0 := ltiF (c := x) (k := 128) (by omega); have b1 := geF (c := x) (k := 194) (by omega); have b2 := geF (c := x) (k := 224) (by omega); have b3 := geF (c := x) (k := 240) (by omega)
      have hf : frm x = none := by unfold frm; repeat' (first | rw [if_neg (by omega)] | rw [if_pos (by omega)])
      have Hc : Hid (chAt s k = 0) := chAt_none (by rw [unhide Hbx]; exact hf)
      clear hf
      go_wp2
      go_ret
      exact ⟨by rw [unhide Hc]; rfl, rfl⟩
    · have b0 := ltiF (c := x) (k := 128) (by omega); have b1 := geT (c := x) (k := 194) (by omega); have b2 := leT (c := x) (k := 223) (by omega)
      have hf : frm x = some (1, 128, 191) := by unfold frm; repeat' (first | rw [if_neg (by omega)] | rw [if_pos (by omega)])
      have Hf := hide hf
      clear hf
      go_wp2
      go_meet
      case rel => exact ⟨1, 128, 191, rfl, rfl, rfl, rfl, by omega, by omega, by omega, by omega, Hf⟩
    · have b0 := ltiF (c := x) (k := 128) (by omega); have b1 := geT (c := x) (k := 194) (by omega); have b2 := leF (c := x) (k := 223) (by omega); have b3 := geT (c := x) (k := 224) (by omega); have b4 := leT (c := x) (k := 239) (by omega); have b5 := eqT (c := x) (k := 224) (by omega); have b6 := eqF (c := x) (k := 237) (by omega)
      have hf : frm x = some (2, 160, 191) := by unfold frm; repeat' (first | rw [if_neg (by omega)] | rw [if_pos (by omega)])
      have Hf := hide hf
      clear hf
      go_wp2
      go_meet
      case rel => exact ⟨2, 160, 191, rfl, rfl, rfl, rfl, by omega, by omega, by omega, by omega, Hf⟩
    · have b0 := ltiF (c := x) (k := 128) (by omega); have b1 := geT (c := x) (k := 194) (by omega); have b2 := leF (c := x) (k := 223) (by omega); have b3 := geT (c := x) (k := 224) (by omega); have b4 := leT (c := x) (k := 239) (by omega); have b5 := eqF (c := x) (k := 224) (by omega); have b6 := eqF (c := x) (k := 237) (by omega)
      have hf : frm x = some (2, 128, 191) := by unfold frm; repeat' (first | rw [if_neg (by omega)] | rw [if_pos (by omega)])
      have Hf := hide hf
      clear hf
      go_wp2
      go_meet
      case rel => exact ⟨2, 128, 191, rfl, rfl, rfl, rfl, by omega, by omega, by omega, by omega, Hf⟩
    · have b0 := ltiF (c := x) (k := 128) (by omega); have b1 := geT (c := x) (k := 194) (by omega); have b2 := leF (c := x) (k := 223) (by omega); have b3 := geT (c := x) (k := 224) (by omega); have b4 := leT (c := x) (k := 239) (by omega); have b5 := eqF (c := x) (k := 224) (by omega); have b6 := eqT (c := x) (k := 237) (by omega)
      have hf : frm x = some (2, 128, 159) := by unfold frm; repeat' (first | rw [if_neg (by omega)] | rw [if_pos (by omega)])
      have Hf := hide hf
      clear hf
      go_wp2
      go_meet
      case rel => exact ⟨2, 128, 159, rfl, rfl, rfl, rfl, by omega, by omega, by omega, by omega, Hf⟩
    · have b0 := ltiF (c := x) (k := 128) (by omega); have b1 := geT (c := x) (k := 194) (by omega); have b2 := leF (c := x) (k := 223) (by omega); have b3 := geT (c := x) (k := 224) (by omega); have b4 := leT (c := x) (k := 239) (by omega); have b5 := eqF (c := x) (k := 224) (by omega); have b6 := eqF (c := x) (k := 237) (by omega)
      have hf : frm x = some (2, 128, 191) := by unfold frm; repeat' (first | rw [if_neg (by omega)] | rw [if_pos (by omega)])
      have Hf := hide hf
      clear hf
      go_wp2
      go_meet
      case rel => exact ⟨2, 128, 191, rfl, rfl, rfl, rfl, by omega, by omega, by omega, by omega, Hf⟩
    · have b0 := ltiF (c := x) (k := 128) (by omega); have b1 := geT (c := x) (k := 194) (by omega); have b2 := leF (c := x) (k := 223) (by omega); have b3 := geT (c := x) (k := 224) (by omega); have b4 := leF (c := x) (k := 239) (by omega); have b5 := geT (c := x) (k := 240) (by omega); have b6 := leT (c := x) (k := 244) (by omega); have b7 := eqT (c := x) (k := 240) (by omega); have b8 := eqF (c := x) (k := 244) (by omega)
      have hf : frm x = some (3, 144, 191) := by unfold frm; repeat' (first | rw [if_neg (by omega)] | rw [if_pos (by omega)])
      have Hf := hide hf
      clear hf
      go_wp2
      go_meet
      case rel => exact ⟨3, 144, 191, rfl, rfl, rfl, rfl, by omega, by omega, by omega, by omega, Hf⟩
    · have b0 := ltiF (c := x) (k := 128) (by omega); have b1 := geT (c := x) (k := 194) (by omega); have b2 := leF (c := x) (k := 223) (by omega); have b3 := geT (c := x) (k := 224) (by omega); have b4 := leF (c := x) (k := 239) (by omega); have b5 := geT (c := x) (k := 240) (by omega); have b6 := leT (c := x) (k := 244) (by omega); have b7 := eqF (c := x) (k := 240) (by omega); have b8 := eqF (c := x) (k := 244) (by omega)
      have hf : frm x = some (3, 128, 191) := by unfold frm; repeat' (first | rw [if_neg (by omega)] | rw [if_pos (by omega)])
      have Hf := hide hf
      clear hf
      go_wp2
      go_meet
      case rel => exact ⟨3, 128, 191, rfl, rfl, rfl, rfl, by omega, by omega, by omega, by omega, Hf⟩
    · have b0 := ltiF (c := x) (k := 128) (by omega); have b1 := geT (c := x) (k := 194) (by omega); have b2 := leF (c := x) (k := 223) (by omega); have b3 := geT (c := x) (k := 224) (by omega); have b4 := leF (c := x) (k := 239) (by omega); have b5 := geT (c := x) (k := 240) (by omega); have b6 := leT (c := x) (k := 244) (by omega); have b7 := eqF (c := x) (k := 240) (by omega); have b8 := eqT (c := x) (k := 244) (by omega)
      have hf : frm x = some (3, 128, 143) := by unfold frm; repeat' (first | rw [if_neg (by omega)] | rw [if_pos (by omega)])
      have Hf := hide hf
      clear hf
      go_wp2
      go_meet
      case rel => exact ⟨3, 128, 143, rfl, rfl, rfl, rfl, by omega, by omega, by omega, by omega, Hf⟩
    · have b0 := ltiF (c := x) (k := 128) (by omega); have b1 := geT (c := x) (k := 194) (by omega); have b2 := leF (c := x) (k := 223) (by omega); have b3 := geT (c := x) (k := 224) (by omega); have b4 := leF (c := x) (k := 239) (by omega); have b5 := geT (c := x) (k := 240) (by omega); have b6 := leF (c := x) (k := 244) (by omega)
      have hf : frm x = none := by unfold frm; repeat' (first | rw [if_neg (by omega)] | rw [if_pos (by omega)])
      have Hc : Hid (chAt s k = 0) := chAt_none (by rw [unhide Hbx]; exact hf)
      clear hf
      go_wp2
      go_ret
      exact ⟨by rw [unhide Hc]; rfl, rfl⟩
  case rest =>
    obtain ⟨c, lo, hi, rfl, rfl, rfl, rfl, c1, c3, lo1, hi1, Hf⟩ := hcut
    obtain ⟨n, hn⟩ : ∃ n, n = c + 1 := ⟨_, rfl⟩
    rw [← hn]
    have n2 : 2 ≤ n := by omega
    have n4 : n ≤ 4 := by omega
    have Hn := hide hn
    clear hn
    have Hfr : Hid (frm (byteAt s k) = some (c, lo, hi)) := by rw [unhide Hbx]; exact unhide Hf
    clear Hf Hbx hx c1 c3
    by_cases hsz : k + n ≤ s.size
    · have e1 : decide ((s.size : Int) < (k : Int) + (n : Int)) = false := by simp; omega
      go_wp2
      go_loopg [7, 8, 9, 10] (n - 1) (fun gk v7 v8 v9 _ wr => ∃ (i : Nat) (L H : Int), v9 = .int .i64 (i : Int) ∧ v7 = .int .i64 L ∧ v8 = .int .i64 H ∧ L = (if i = 1 then (lo : Int) else 128) ∧ H = (if i = 1 then (hi : Int) else 191) ∧ 1 ≤ i ∧ i ≤ n ∧ gk = n - i ∧ wr = wc ∧ ∀ j, 1 ≤ j → j < i → (if j = 1 then lo else 128) ≤ byteAt s (k + j) ∧ byteAt s (k + j) ≤ (if j = 1 then hi else 191))
      case atStart => exact ⟨1, lo, hi, rfl, rfl, rfl, rfl, rfl, Nat.le_refl _, by omega, by omega, rfl, fun j h1 h2 => by omega⟩
      case round =>
        obtain ⟨i, L, H, rfl, rfl, rfl, hL, hH, i1, hi', hgk, rfl, hall⟩ := hrel
        have Hgk := hide hgk
        have Hall := hide hall
        have HL := hide hL
        have HH := hide hH
        clear hgk hall hL hH
        by_cases hlt : i < n
        · obtain ⟨j, hj⟩ : ∃ j, j = k + i := ⟨_, rfl⟩
          have hjs : j < s.size := by omega
          obtain ⟨y, hy⟩ : ∃ y : Nat, (s[j]'hjs).toNat = y := ⟨_, rfl⟩
          have hby : byteAt s (k + i) = y := by rw [← hj]; exact (byteAt_eq s j hjs).trans hy
          have hy2 : y < 256 := by rw [← hby]; exact byteAt_lt s _
          have Hby := hide hby
          have hw0 : (k : Int) + (i : Int) = (j : Int) := by omega
          have j0 : (0 : Int) ≤ (j : Int) := Int.natCast_nonneg _
          have j1 : (j : Int) < (s.size : Int) := by omega
          clear hby hj
          by_cases c1' : (y : Int) < L
          · have b1 : decide ((y : Int) < L) = true := by simp; omega
            have Hc : Hid (chAt s k = 0) := chAt_no (unhide Hfr) (fun q => by have hn := unhide Hn; have q1 := len_in q i1 (by omega) (unhide Hby) (unhide HL) (unhide HH); omega)
            go_upto_region 28 with fail
            clear hw0 hy j0 j1 hjs
            clear c1'
            go_wp2
            go_ret
            exact ⟨by rw [unhide Hc]; rfl, rfl⟩
          · have b1 : decide ((y : Int) < L) = false := by simp; omega
            by_cases c2' : H < (y : Int)
            · have b2 : decide (H < (y : Int)) = true := by simp; omega
              have Hc : Hid (chAt s k = 0) := chAt_no (unhide Hfr) (fun q => by have hn := unhide Hn; have q1 := len_in q i1 (by omega) (unhide Hby) (unhide HL) (unhide HH); omega)
              go_upto_region 28 with fail
              clear hw0 hy j0 j1 hjs
              clear c1' c2'
              go_wp2
              go_ret
              exact ⟨by rw [unhide Hc]; rfl, rfl⟩
            · have b2 : decide (H < (y : Int)) = false := by simp; omega
              have Hnext : Hid (∀ j, 1 ≤ j → j < i + 1 → (if j = 1 then lo else 128) ≤ byteAt s (k + j) ∧ byteAt s (k + j) ≤ (if j = 1 then hi else 191)) := len_next (unhide Hby) (unhide HL) (unhide HH) (by omega) (by omega) (unhide Hall)
              go_upto_region 28 with fail
              clear hw0 hy j0 j1 hjs
              clear c1' c2'
              go_wp2
              go_roundg (n - (i + 1))
              case measure => have := unhide Hgk; omega
              case rel => exact ⟨i + 1, 128, 191, by go_num, rfl, rfl, by rw [if_neg (by omega)], by rw [if_neg (by omega)], by omega, by omega, rfl, rfl, unhide Hnext⟩
        · obtain rfl : i = n := by omega
          have Hc : Hid (chAt s k = i) := by
            have hn := unhide Hn
            have := chAt_ok (unhide Hfr) ⟨by omega, fun j j1 j2 => unhide Hall j j1 (by omega)⟩
            show chAt s k = i
            omega
          go_wp2
          go_ret
          exact ⟨by rw [unhide Hc]; rfl, rfl⟩
    · have e1 : decide ((s.size : Int) < (k : Int) + (n : Int)) = true := by simp; omega
      have Hc : Hid (chAt s k = 0) := chAt_no (unhide Hfr) (fun q => by have hn := unhide Hn; have := q.1; omega)
      go_wp2
      go_ret
      exact ⟨by rw [unhide Hc]; rfl, rfl⟩
end Go.Proofs.YthodjkeppobcmaaDoor
