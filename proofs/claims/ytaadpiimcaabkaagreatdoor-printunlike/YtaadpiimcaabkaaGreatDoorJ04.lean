import Derived.Test.YtaadpiimcaabkaaGreatDoorJ03
import Derived.Test.YtaadpiimcaabkaaGreatDoorJ00
import Derived.Deep.CutBlock
import Derived.Shelf.Strings.Builder1

namespace Go.Proofs.YtaadpiimcaabkaaGreatDoor
open Go.RowKit
attribute [local go_sem ↓] Go.wp_at_zero Go.wp_at_succ

theorem ltiF {c : Nat} {k : Int} (h : k ≤ (c : Int)) : decide ((c : Int) < k) = false := by simp; omega
theorem ltiT {c : Nat} {k : Int} (h : (c : Int) < k) : decide ((c : Int) < k) = true := by simp; omega
theorem eqT {c : Nat} {k : Int} (h : (c : Int) = k) : ((c : Int) == k) = true := by simp; omega
theorem len_in {s : ByteArray} {k c lo hi i y : Nat} {L H : Int} (q : LenOkAt s k c lo hi) (i1 : 1 ≤ i) (hic : i < 1 + c) (hb : byteAt s (k + i) = y) (hL : L = if i = 1 then (lo : Int) else 128) (hH : H = if i = 1 then (hi : Int) else 191) : L ≤ (y : Int) ∧ (y : Int) ≤ H := by
  have q1 := q.2 i i1 hic
  rw [hb] at q1
  by_cases h : i = 1
  · rw [if_pos h] at hL hH
    rw [if_pos h, if_pos h] at q1
    omega
  · rw [if_neg h] at hL hH
    rw [if_neg h, if_neg h] at q1
    omega
theorem len_next {s : ByteArray} {k lo hi i y : Nat} {L H : Int} (hb : byteAt s (k + i) = y) (hL : L = if i = 1 then (lo : Int) else 128) (hH : H = if i = 1 then (hi : Int) else 191) (h1 : L ≤ (y : Int)) (h2 : (y : Int) ≤ H)
    (hall : ∀ j, 1 ≤ j → j < i → (if j = 1 then lo else 128) ≤ byteAt s (k + j) ∧ byteAt s (k + j) ≤ (if j = 1 then hi else 191)) :
    ∀ j, 1 ≤ j → j < i + 1 → (if j = 1 then lo else 128) ≤ byteAt s (k + j) ∧ byteAt s (k + j) ≤ (if j = 1 then hi else 191) := by
  intro j j1 j2
  by_cases hj : j = i
  · subst hj
    rw [hb]
    by_cases h : j = 1
    · rw [if_pos h] at hL hH
      rw [if_pos h, if_pos h]
      omega
    · rw [if_neg h] at hL hH
      rw [if_neg h, if_neg h]
      omega
  · exact hall j j1 (by omega)
set_option maxRecDepth 100000 in
set_option maxHeartbeats 4000000 in
theorem follow_any (W : World) (s : ByteArray) (k : Nat) (hk : k < s.size) (hs : s.size ≤ 140737488351232) :
    Calls Tryz.prog 55 #[.string s, .int .i64 (k : Int)] W fun e w => e = .returned (.int .i64 (chAt s k : Int)) ∧ w = W := by
  obtain ⟨x, hx⟩ : ∃ x : Nat, s[k].toNat = x := ⟨_, rfl⟩
  have hbx : byteAt s k = x := (byteAt_eq s k hk).trans hx
  have hx2 : x < 256 := by rw [← hbx]; exact byteAt_lt s k
  have k0 : (0 : Int) ≤ (k : Int) := Int.natCast_nonneg _
  have k1 : (k : Int) < (s.size : Int) := by omega
  have Hbx := hide hbx
  clear hbx
  go_enter Tryz.func55, Tryz.ntmps55
  go_upto_block 0 with fail
  go_cut [6, 7, 8] from 15 to 46 (fun v6 v7 v8 wc => ∃ c lo hi : Nat, v6 = .int .i64 (((c + 1 : Nat) : Int)) ∧ v7 = .int .i64 (lo : Int) ∧ v8 = .int .i64 (hi : Int) ∧ wc = W ∧ 1 ≤ c ∧ c ≤ 3 ∧ lo ≤ 255 ∧ hi ≤ 255 ∧ Hid (frm x = some (c, lo, hi)))
  case first =>
    have hcs : x < 128 ∨ (128 ≤ x ∧ x < 194) ∨ (194 ≤ x ∧ x < 224) ∨ x = 224 ∨ (225 ≤ x ∧ x < 237) ∨ x = 237 ∨ (238 ≤ x ∧ x < 240) ∨ x = 240 ∨ (241 ≤ x ∧ x < 244) ∨ x = 244 ∨ 245 ≤ x := by omega
    rcases hcs with hc | hc | hc | hc | hc | hc | hc | hc | hc | hc | hc
    · have b0 := ltiT (c := x) (k := 128) (by omega)
      have hf : frm x = some (0, 0, 0) := by unfold frm; rw [if_pos (by omega)]
      have hc1 : chAt s k = 1 := chAt_ok (c := 0) (by rw [unhide Hbx]; exact hf) ⟨by omega, fun j j1 j2 => by omega⟩
      have Hc := hide hc1
      clear hc1
      clear hf
      go_wp2
      go_ret
      exact ⟨by rw [unhide Hc]; rfl, rfl⟩
    · have b0 := ltiF (c := x) (k := 128) (by omega); have b1 := geF (c := x) (k := 194) (by omega); have b2 := geF (c := x) (k := 224) (by omega); have b3 := geF (c := x) (k := 240) (by omega)
      have hf : frm x = none := by unfold frm; repeat' (first | rw [if_neg (by omega)] | rw [if_pos (by omega)])
      have Hc : Hid (chAt s k = 0) := chAt_none (by rw [unhide Hbx]; exact hf)
      clear hf
      go_wp2
      go_ret
      exact ⟨by rw [unhide Hc]; rfl, rfl⟩
    · have b0 := ltiF (c := x) (k := 128) (by omega); have b1 := geT (c := x) (k := 194) (by omega); have b2 := leT (c := x) (k := 223) (by omega)
      have hf : frm x = some (1, 128, 191) := by unfold frm; repeat' (first | rw [if_neg (by omega)] | rw [if_pos (by omega)])
      have Hf := hide hf
      clear hf
      go_wp2
      go_meet
      case rel => exact ⟨1, 128, 191, rfl, rfl, rfl, rfl, by omega, by omega, by omega, by omega, Hf⟩
    · have b0 := ltiF (c := x) (k := 128) (by omega); have b1 := geT (c := x) (k := 194) (by omega); have b2 := leF (c := x) (k := 223) (by omega); have b3 := geT (c := x) (k := 224) (by omega); have b4 := leT (c := x) (k := 239) (by omega); have b5 := eqT (c := x) (k := 224) (by omega); have b6 := eqF (c := x) (k := 237) (by omega)
      have hf : frm x = some (2, 160, 191) := by unfold frm; repeat' (first | rw [if_neg (by omega)] | rw [if_pos (by omega)])
      have Hf := hide hf
      clear hf
      go_wp2
      go_meet
      case rel => exact ⟨2, 160, 191, rfl, rfl, rfl, rfl, by omega, by omega, by omega, by omega, Hf⟩
    · have b0 := ltiF (c := x) (k := 128) (by omega); have b1 := geT (c := x) (k := 194) (by omega); have b2 := leF (c := x) (k := 223) (by omega); have b3 := geT (c := x) (k := 224) (by omega); have b4 := leT (c := x) (k := 239) (by omega); have b5 := eqF (c := x) (k := 224) (by omega); have b6 := eqF (c := x) (k := 237) (by omega)
      have hf : frm x = some (2, 128, 191) := by unfold frm; repeat' (first | rw [if_neg (by omega)] | rw [if_pos (by omega)])
      have Hf := hide hf
      clear hf
      go_wp2
      go_meet
      case rel => exact ⟨2, 128, 191, rfl, rfl, rfl, rfl, by omega, by omega, by omega, by omega, Hf⟩
    · have b0 := ltiF (c := x) (k := 128) (by omega); have b1 := geT (c := x) (k := 194) (by omega); have b2 := leF (c := x) (k := 223) (by omega); have b3 := geT (c := x) (k := 224) (by omega); have b4 := leT (c := x) (k := 239) (by omega); have b5 := eqF (c := x) (k := 224) (by omega); have b6 := eqT (c := x) (k := 237) (by omega)
      have hf : frm x = some (2, 128, 159) := by unfold frm; repeat' (first | rw [if_neg (by omega)] | rw [if_pos (by omega)])
      have Hf := hide hf
      clear hf
      go_wp2
      go_meet
      case rel => exact ⟨2, 128, 159, rfl, rfl, rfl, rfl, by omega, by omega, by omega, by omega, Hf⟩
    · have b0 := ltiF (c := x) (k := 128) (by omega); have b1 := geT (c := x) (k := 194) (by omega); have b2 := leF (c := x) (k := 223) (by omega); have b3 := geT (c := x) (k := 224) (by omega); have b4 := leT (c := x) (k := 239) (by omega); have b5 := eqF (c := x) (k := 224) (by omega); have b6 := eqF (c := x) (k := 237) (by omega)
      have hf : frm x = some (2, 128, 191) := by unfold frm; repeat' (first | rw [if_neg (by omega)] | rw [if_pos (by omega)])
      have Hf := hide hf
      clear hf
      go_wp2
      go_meet
      case rel => exact ⟨2, 128, 191, rfl, rfl, rfl, rfl, by omega, by omega, by omega, by omega, Hf⟩
    · have b0 := ltiF (c := x) (k := 128) (by omega); have b1 := geT (c := x) (k := 194) (by omega); have b2 := leF (c := x) (k := 223) (by omega); have b3 := geT (c := x) (k := 224) (by omega); have b4 := leF (c := x) (k := 239) (by omega); have b5 := geT (c := x) (k := 240) (by omega); have b6 := leT (c := x) (k := 244) (by omega); have b7 := eqT (c := x) (k := 240) (by omega); have b8 := eqF (c := x) (k := 244) (by omega)
      have hf : frm x = some (3, 144, 191) := by unfold frm; repeat' (first | rw [if_neg (by omega)] | rw [if_pos (by omega)])
      have Hf := hide hf
      clear hf
      go_wp2
      go_meet
      case rel => exact ⟨3, 144, 191, rfl, rfl, rfl, rfl, by omega, by omega, by omega, by omega, Hf⟩
    · have b0 := ltiF (c := x) (k := 128) (by omega); have b1 := geT (c := x) (k := 194) (by omega); have b2 := leF (c := x) (k := 223) (by omega); have b3 := geT (c := x) (k := 224) (by omega); have b4 := leF (c := x) (k := 239) (by omega); have b5 := geT (c := x) (k := 240) (by omega); have b6 := leT (c := x) (k := 244) (by omega); have b7 := eqF (c := x) (k := 240) (by omega); have b8 := eqF (c := x) (k := 244) (by omega)
      have hf : frm x = some (3, 128, 191) := by unfold frm; repeat' (first | rw [if_neg (by omega)] | rw [if_pos (by omega)])
      have Hf := hide hf
      clear hf
      go_wp2
      go_meet
      case rel => exact ⟨3, 128, 191, rfl, rfl, rfl, rfl, by omega, by omega, by omega, by omega, Hf⟩
    · have b0 := ltiF (c := x) (k := 128) (by omega); have b1 := geT (c := x) (k := 194) (by omega); have b2 := leF (c := x) (k := 223) (by omega); have b3 := geT (c := x) (k := 224) (by omega); have b4 := leF (c := x) (k := 239) (by omega); have b5 := geT (c := x) (k := 240) (by omega); have b6 := leT (c := x) (k := 244) (by omega); have b7 := eqF (c := x) (k := 240) (by omega); have b8 := eqT (c := x) (k := 244) (by omega)
      have hf : frm x = some (3, 128, 143) := by unfold frm; repeat' (first | rw [if_neg (by omega)] | rw [if_pos (by omega)])
      have Hf := hide hf
      clear hf
      go_wp2
      go_meet
      case rel => exact ⟨3, 128, 143, rfl, rfl, rfl, rfl, by omega, by omega, by omega, by omega, Hf⟩
    · have b0 := ltiF (c := x) (k := 128) (by omega); have b1 := geT (c := x) (k := 194) (by omega); have b2 := leF (c := x) (k := 223) (by omega); have b3 := geT (c := x) (k := 224) (by omega); have b4 := leF (c := x) (k := 239) (by omega); have b5 := geT (c := x) (k := 240) (by omega); have b6 := leF (c := x) (k := 244) (by omega)
      have hf : frm x = none := by unfold frm; repeat' (first | rw [if_neg (by omega)] | rw [if_pos (by omega)])
      have Hc : Hid (chAt s k = 0) := chAt_none (by rw [unhide Hbx]; exact hf)
      clear hf
      go_wp2
      go_ret
      exact ⟨by rw [unhide Hc]; rfl, rfl⟩
  case rest =>
    obtain ⟨c, lo, hi, rfl, rfl, rfl, rfl, c1, c3, lo1, hi1, Hf⟩ := hcut
    obtain ⟨n, hn⟩ : ∃ n, n = c + 1 := ⟨_, rfl⟩
    rw [← hn]
    have n2 : 2 ≤ n := by omega
    have n4 : n ≤ 4 := by omega
    have Hn := hide hn
    clear hn
    have Hfr : Hid (frm (byteAt s k) = some (c, lo, hi)) := by rw [unhide Hbx]; exact unhide Hf
    clear Hf Hbx hx c1 c3
    by_cases hsz : k + n ≤ s.size
    · have e1 : decide ((s.size : Int) < (k : Int) + (n : Int)) = false := by simp; omega
      go_wp2
      go_loopg [7, 8, 9, 10] (n - 1) (fun gk v7 v8 v9 _ wr => ∃ (i : Nat) (L H : Int), v9 = .int .i64 (i : Int) ∧ v7 = .int .i64 L ∧ v8 = .int .i64 H ∧ L = (if i = 1 then (lo : Int) else 128) ∧ H = (if i = 1 then (hi : Int) else 191) ∧ 1 ≤ i ∧ i ≤ n ∧ gk = n - i ∧ wr = wc ∧ ∀ j, 1 ≤ j → j < i → (if j = 1 then lo else 128) ≤ byteAt s (k + j) ∧ byteAt s (k + j) ≤ (if j = 1 then hi else 191))
      case atStart => exact ⟨1, lo, hi, rfl, rfl, rfl, rfl, rfl, Nat.le_refl _, by omega, by omega, rfl, fun j h1 h2 => by omega⟩
      case round =>
        obtain ⟨i, L, H, rfl, rfl, rfl, hL, hH, i1, hi', hgk, rfl, hall⟩ := hrel
        have Hgk := hide hgk
        have Hall := hide hall
        have HL := hide hL
        have HH := hide hH
        clear hgk hall hL hH
        by_cases hlt : i < n
        · obtain ⟨j, hj⟩ : ∃ j, j = k + i := ⟨_, rfl⟩
          have hjs : j < s.size := by omega
          obtain ⟨y, hy⟩ : ∃ y : Nat, (s[j]'hjs).toNat = y := ⟨_, rfl⟩
          have hby : byteAt s (k + i) = y := by rw [← hj]; exact (byteAt_eq s j hjs).trans hy
          have hy2 : y < 256 := by rw [← hby]; exact byteAt_lt s _
          have Hby := hide hby
          have hw0 : (k : Int) + (i : Int) = (j : Int) := by omega
          have j0 : (0 : Int) ≤ (j : Int) := Int.natCast_nonneg _
          have j1 : (j : Int) < (s.size : Int) := by omega
          clear hby hj
          by_cases c1' : (y : Int) < L
          · have b1 : decide ((y : Int) < L) = true := by simp; omega
            have Hc : Hid (chAt s k = 0) := chAt_no (unhide Hfr) (fun q => by have hn := unhide Hn; have q1 := len_in q i1 (by omega) (unhide Hby) (unhide HL) (unhide HH); omega)
            go_upto_region 28 with fail
            clear hw0 hy j0 j1 hjs
            clear c1'
            go_wp2
            go_ret
            exact ⟨by rw [unhide Hc]; rfl, rfl⟩
          · have b1 : decide ((y : Int) < L) = false := by simp; omega
            by_cases c2' : H < (y : Int)
            · have b2 : decide (H < (y : Int)) = true := by simp; omega
              have Hc : Hid (chAt s k = 0) := chAt_no (unhide Hfr) (fun q => by have hn := unhide Hn; have q1 := len_in q i1 (by omega) (unhide Hby) (unhide HL) (unhide HH); omega)
              go_upto_region 28 with fail
              clear hw0 hy j0 j1 hjs
              clear c1' c2'
              go_wp2
              go_ret
              exact ⟨by rw [unhide Hc]; rfl, rfl⟩
            · have b2 : decide (H < (y : Int)) = false := by simp; omega
              have Hnext : Hid (∀ j, 1 ≤ j → j < i + 1 → (if j = 1 then lo else 128) ≤ byteAt s (k + j) ∧ byteAt s (k + j) ≤ (if j = 1 then hi else 191)) := len_next (unhide Hby) (unhide HL) (unhide HH) (by omega) (by omega) (unhide Hall)
              go_upto_region 28 with fail
              clear hw0 hy j0 j1 hjs
              clear c1' c2'
              go_wp2
              go_roundg (n - (i + 1))
              case measure => have := unhide Hgk; omega
              case rel => exact ⟨i + 1, 128, 191, by go_num, rfl, rfl, by rw [if_neg (by omega)], by rw [if_neg (by omega)], by omega, by omega, rfl, rfl, unhide Hnext⟩
        · obtain rfl : i = n := by omega
          have Hc : Hid (chAt s k = i) := by
            have hn := unhide Hn
            have := chAt_ok (unhide Hfr) ⟨by omega, fun j j1 j2 => unhide Hall j j1 (by omega)⟩
            show chAt s k = i
            omega
          go_wp2
          go_ret
          exact ⟨by rw [unhide Hc]; rfl, rfl⟩
    · have e1 : decide ((s.size : Int) < (k : Int) + (n : Int)) = true := by simp; omega
      have Hc : Hid (chAt s k = 0) := chAt_no (unhide Hfr) (fun q => by have hn := unhide Hn; have := q.1; omega)
      go_wp2
      go_ret
      exact ⟨by rw [unhide Hc]; rfl, rfl⟩
end Go.Proofs.YtaadpiimcaabkaaGreatDoor

namespace Go.Proofs.YtaadpiimcaabkaaGreatDoor
open Go.RowKit Go.Lib
attribute [local go_sem ↓] Go.wp_at_zero Go.wp_at_succ

set_option maxRecDepth 100000 in
set_option maxHeartbeats 1000000 in
theorem xutf8_any (W : World) (s : ByteArray) (hs : s.size ≤ 140737488351232) :
    Calls Tryz.prog 60 #[.string s] W fun e w => e = .returned (.int .i64 (utfAt s 0)) ∧ w = W := by
  go_enter Tryz.func60, Tryz.ntmps60
  go_wp2
  go_loopg [3, 4] s.size (fun gk v3 _ wr => ∃ (k : Nat), v3 = .int .i64 (k : Int) ∧ gk = s.size - k ∧ k ≤ s.size ∧ wr = W ∧ Hid (utfAt s 0 = utfAt s k))
  case atStart => exact ⟨0, rfl, rfl, by omega, rfl, rfl⟩
  case round =>
    obtain ⟨k, rfl, hgk, hk, rfl, Hu⟩ := hrel
    have Hgk := hide hgk
    clear hgk
    by_cases hlt : k < s.size
    · go_wp2_with fail
      refine (follow_any wr s k hlt hs).mono ?_
      rintro e w2 ⟨rfl, he⟩
      obtain rfl : wr = w2 := he.symm
      obtain ⟨q1, q2⟩ := chAt_le s k hk
      by_cases h0 : chAt s k = 0
      · have Hr : Hid (utfAt s 0 = (k : Int)) := (unhide Hu).trans (utf_bad hlt h0)
        rw [h0]
        clear h0 q1 q2
        go_wp2
        go_ret
        exact ⟨by rw [unhide Hr]; rfl, rfl⟩
      · have Hr : Hid (utfAt s 0 = utfAt s (k + chAt s k)) := (unhide Hu).trans (utf_step hlt h0)
        obtain ⟨n, hn⟩ : ∃ n, n = chAt s k := ⟨_, rfl⟩
        rw [← hn] at h0 q1 q2 Hr ⊢
        have n0 : ((n : Int) == 0) = false := by simp; omega
        clear hn
        go_wp2
        go_roundg (s.size - (k + n))
        case measure => have := unhide Hgk; omega
        case rel => exact ⟨k + n, by go_num, rfl, by omega, rfl, Hr⟩
    · have Hr : Hid (utfAt s 0 = -1) := (unhide Hu).trans (utf_end hlt)
      obtain rfl : k = s.size := by omega
      go_wp2
      go_ret
      exact ⟨by rw [unhide Hr]; rfl, rfl⟩
end Go.Proofs.YtaadpiimcaabkaaGreatDoor

namespace Go.Proofs.YtaadpiimcaabkaaGreatDoor
open Go.RowKit
attribute [local go_sem ↓] Go.wp_at_zero Go.wp_at_succ

theorem set_block {W : World} {b j : Nat} {cs : Array Value} {t : TypeId} (h : W.heap[b]? = some (.cells cs t (0, 0))) (u : Value) : (W.setCell ⟨b, j, none⟩ u).heap[b]? = some (.cells (cs.toList.set j u).toArray t (0, 0)) ∧ W.grownBy (W.setCell ⟨b, j, none⟩ u) (some b) := by
  have hr : W.ownsRow 0 t cs.size (.slice (some ⟨b, 0, none⟩) 1 1) 1 cs.toList := ⟨by simp, .inr ⟨b, 1, cs, rfl, Nat.zero_le _, h, Nat.le_refl _, by unfold maxLen; omega, by simp, by rw [Nat.one_mul]; exact List.take_of_length_le (by simp)⟩⟩
  obtain ⟨h1, h2⟩ := World.ownsRow.stored hr j u
  refine ⟨?_, h2⟩
  rcases h1.2 with ⟨e, _⟩ | ⟨g', c, cur, e, _, h4, _, _, h5, h6⟩
  · cases e
  · cases e
    rw [h4]
    have e2 : cur.toList = cs.toList.set j u := by
      rw [← h6, List.take_of_length_le]
      rw [Array.length_toList, h5]
      simp
    have e3 : cur = (cs.toList.set j u).toArray := by rw [← e2]
    rw [e3]
theorem sizeBuilder : (Tryz.prog.info? 125).map (·.size) = some 2 := by kernel_rfl
theorem liesBuilder : liesAt Tryz.prog Tryz.prog.depth 125 (2 / Tryz.prog.cellsOf 125) 0 125 1 = true := by kernel_rfl
theorem infoByteB : (Tryz.prog.info? 5).map (fun i => (i.zero, i.size, i.bytes)) = some (some (.int .u8 0), 1, 1) := by kernel_rfl
set_option maxRecDepth 100000 in
set_option maxHeartbeats 1000000 in
theorem copyCheck_used (b : Nat) (w : World) (h0 : w.cell? ⟨b, 0, none⟩ = some (.pointer (some ⟨b, 0, none⟩))) : Calls Tryz.prog 124 #[.pointer (some ⟨b, 0, none⟩)] w fun e w' => e = .returned (.tuple #[]) ∧ w' = w := by
  obtain ⟨j, hj, _⟩ := Option.map_eq_some_iff.1 sizeBuilder
  go_enter Tryz.func124, Tryz.ntmps124
  go_wp2
  rw [Lib.run_neq_ptr_same w _ Tryz.underlying123 hj]
  go_wp2
  go_end0
  exact ⟨rfl, rfl⟩
set_option maxRecDepth 100000 in
set_option maxHeartbeats 1000000 in
theorem copyCheck_fresh (b : Nat) (w : World) (h0 : w.cell? ⟨b, 0, none⟩ = some (.pointer none)) (hsh : w.shape? b = some (125, 2)) (hfz : w.frozen? ⟨b, 0, none⟩ = false) :
    Calls Tryz.prog 124 #[.pointer (some ⟨b, 0, none⟩)] w fun e w' => e = .returned (.tuple #[]) ∧ w' = w.setCell ⟨b, 0, none⟩ (.pointer (some ⟨b, 0, none⟩)) := by
  obtain ⟨j, hj, hjs⟩ := Option.map_eq_some_iff.1 sizeBuilder
  go_enter Tryz.func124, Tryz.ntmps124
  go_wp2
  rw [Lib.run_to_unsafe w ⟨b, 0, none⟩ Tryz.underlying123 Tryz.underlying184 hj (by rw [hjs]; decide) hsh (Nat.zero_lt_succ 1)]
  simp only [Result.andThen]
  rw [Oper.upon_value]
  go_wp2
  rw [run_callFunc_extern Tryz.func163 (by kernel_rfl) (by kernel_rfl) (by kernel_rfl) (e := Extern.AbiNoEscape.same) (by kernel_rfl)]
  rw [Lib.run_noEscape]
  simp only [Result.andThen]
  rw [Oper.upon_value]
  go_wp2
  rw [Lib.run_from_unsafe w ⟨b, 0, none⟩ Tryz.underlying184 Tryz.underlying123 hj hsh liesBuilder]
  simp only [Result.andThen]
  rw [Oper.upon_value]
  go_wp2
  go_end0
  exact ⟨rfl, rfl⟩
theorem copyCheck_any (B b : Nat) (bs : List Value) (w : World) (h : Lib.IsBuilder 125 5 B b bs w) :
    Calls Tryz.prog 124 #[.pointer (some ⟨b, 0, none⟩)] w fun e w' => e = .returned (.tuple #[]) ∧ (Lib.BuilderAt 125 5 B b (.pointer (some ⟨b, 0, none⟩)) bs w' ∧ Below B w w') := by
  rcases h with h | h
  · refine (copyCheck_fresh b w h.cell0 h.shape h.frozen0).mono ?_
    rintro e w' ⟨rfl, rfl⟩
    exact ⟨rfl, h.used _, (Below.refl B w).setCell (p := ⟨b, 0, none⟩) h.1 _⟩
  · refine (copyCheck_used b w h.cell0).mono ?_
    rintro e w' ⟨rfl, rfl⟩
    exact ⟨rfl, h, Below.refl B _⟩
/-- Behind an append onto the builder's own bytes: they are stored, and the builder holds them. -/
theorem put_any {B b : Nat} {bs bs' : List Value} {w1 w2 : World} {v v' : Value} (hB : B ≤ b) (hbk : w1.heap[b]? = some (.cells #[.pointer (some ⟨b, 0, none⟩), v] 125 (0, 0))) (hown : w1.ownsRow B 5 1 v bs.length bs) (hne : v.ownBlock ≠ some b) (hg : w1.grownBy w2 v.ownBlock) (ho : w2.ownsRow B 5 1 v' bs'.length bs') :
    (w2.cell? ⟨b, 0, none⟩ = some (.pointer (some ⟨b, 0, none⟩)) ∧ w2.cell? ⟨b, 1, none⟩ = some v ∧ w2.frozen? ⟨b, 1, none⟩ = false) ∧ Lib.BuilderAt 125 5 B b (.pointer (some ⟨b, 0, none⟩)) bs' (w2.setCell ⟨b, 1, none⟩ v') ∧ Below B w1 (w2.setCell ⟨b, 1, none⟩ v') := by
  have hl : b < w1.heap.size := (Array.getElem?_eq_some_iff.1 hbk).1
  have hb2 := (hg.block b hl (fun e => hne e.symm)).trans hbk
  obtain ⟨k1, k2⟩ := set_block (j := 1) hb2 v'
  have hn : v'.ownBlock ≠ some b := fun e => by
    rcases ho.2 with ⟨rfl, _⟩ | ⟨g, cap, cur, rfl, _, h2, _⟩
    · cases e
    · obtain rfl : g = b := by simpa [Value.ownBlock] using e
      rw [h2] at hb2
      simp at hb2
  have hlo : Below B w1 w2 := ⟨hg.os, hg.tape, hg.output, hg.size, fun k hk => hg.block k (by omega) (fun e => by have := (hown.lt k e.symm).1; omega)⟩
  refine ⟨⟨?_, ?_, by simp [World.frozen?, hb2]⟩, ⟨hB, v', k1, ho.kept k2 ?_, hn⟩, hlo.trans ⟨k2.os, k2.tape, k2.output, k2.size, fun k hk => k2.block k (by have := hg.size; omega) (by simp; omega)⟩⟩
  · rw [cell_of_row _ _ _ _ _ _ hb2]; rfl
  · rw [cell_of_row _ _ _ _ _ _ hb2]; rfl
  · cases e : v'.ownBlock with
    | none => exact .inl rfl
    | some k => exact .inr (fun q => hn (e.trans q))
theorem sl_form {B n : Nat} {w : World} {v : Value} {xs : List Value} (h : w.ownsRow B 5 1 v n xs) : ∃ a l c, v = .slice a l c := by
  rcases h.2 with ⟨rfl, _⟩ | ⟨g, cap, _, rfl, _⟩
  · exact ⟨_, _, _, rfl⟩
  · exact ⟨_, _, _, rfl⟩
set_option maxRecDepth 100000 in
set_option maxHeartbeats 1000000 in
theorem writeByte_any (B b : Nat) (bs : List Value) (c : Int) (w : World) (h : Lib.IsBuilder 125 5 B b bs w) (hlen : bs.length + 1 ≤ 140737488355328) (hBw : B ≤ w.heap.size) :
    Calls Tryz.prog 83 #[.pointer (some ⟨b, 0, none⟩), .int .u8 c] w fun e w' => e = .returned .nilIface ∧ (Lib.BuilderAt 125 5 B b (.pointer (some ⟨b, 0, none⟩)) (bs ++ [.int .u8 c]) w' ∧ Below B w w') := by
  obtain ⟨i0, hi, hz0, hz1, hz2⟩ := info_parts infoByteB
  have hc := hide (copyCheck_any B b bs w h)
  clear h
  go_enter Tryz.func83, Tryz.ntmps83
  go_wp2_with fail
  refine (unhide hc).mono ?_
  rintro e w1 ⟨rfl, ⟨hB, v, hbk, hown, hne⟩, hb1⟩
  have s1 := hb1.size
  have c1 : w1.cell? ⟨b, 1, none⟩ = some v := by rw [cell_of_row _ _ _ _ _ _ hbk]; rfl
  have Hb1 := hide hb1
  have Hown := hide hown
  have Hbk := hide hbk
  have Hne := hide hne
  clear hb1 hown hbk hne hc
  go_wp2_with (at_builtin; refine wpList_append_own_at _ rfl _ _ 58 rfl B 5 i0 (.int .u8 0) 1 1 Tryz.underlying58 hi hz0 hz1 hz2 rfl (by decide) _ _ _ rfl ((unhide Hown).alloc _) ⟨w1.heap.size, 0, none⟩ 1 1 [.int .u8 c] rfl rfl (cell_one_new _ _ _) (by simp [Value.oneCell']) (by unfold maxLen; omega) (by omega) (by rw [World.size_alloc]; omega) ?_; intro v' w2 ho hg _ _; obtain ⟨⟨d0, d1, f1⟩, hput⟩ := put_any (bs' := bs ++ [.int .u8 c]) hB (unhide Hbk) (unhide Hown) (unhide Hne) ((World.grownBy_alloc w1 _ _).trans hg) (by rw [List.length_append]; exact ho); have Hput := hide hput; obtain ⟨a', l', c', rfl⟩ := sl_form ho; clear ho hg hput)
  go_ret
  exact ⟨rfl, (unhide Hput).1, (unhide Hb1).trans (unhide Hput).2⟩
set_option maxRecDepth 100000 in
set_option maxHeartbeats 1000000 in
theorem writeString_any (B b : Nat) (bs : List Value) (s : ByteArray) (w : World) (h : Lib.IsBuilder 125 5 B b bs w) (hlen : bs.length + s.size ≤ 140737488355328) (hBw : B ≤ w.heap.size) :
    Calls Tryz.prog 81 #[.pointer (some ⟨b, 0, none⟩), .string s] w fun e w' => e = .returned (.tuple #[.int .i64 s.size, .nilIface]) ∧ (Lib.BuilderAt 125 5 B b (.pointer (some ⟨b, 0, none⟩)) (bs ++ Lib.strCells s) w' ∧ Below B w w') := by
  obtain ⟨i0, hi, hz0, hz1, hz2⟩ := info_parts infoByteB
  have hc := hide (copyCheck_any B b bs w h)
  clear h
  go_enter Tryz.func81, Tryz.ntmps81
  go_wp2_with fail
  refine (unhide hc).mono ?_
  rintro e w1 ⟨rfl, ⟨hB, v, hbk, hown, hne⟩, hb1⟩
  have s1 := hb1.size
  have c1 : w1.cell? ⟨b, 1, none⟩ = some v := by rw [cell_of_row _ _ _ _ _ _ hbk]; rfl
  have Hb1 := hide hb1
  have Hown := hide hown
  have Hbk := hide hbk
  have Hne := hide hne
  clear hb1 hown hbk hne hc
  go_wp2_with (at_builtin; refine Lib.wpList_append_own_string _ rfl _ _ 58 9 rfl B 5 i0 Tryz.underlying58 Tryz.underlying9 hi hz0 hz1 hz2 _ _ _ rfl (unhide Hown) s rfl (by unfold maxLen; omega) (by omega) (by omega) ?_; intro v' w2 ho hg _; obtain ⟨⟨d0, d1, f1⟩, hput⟩ := put_any (bs' := bs ++ Lib.strCells s) hB (unhide Hbk) (unhide Hown) (unhide Hne) hg (by rw [List.length_append, Lib.strCells_length]; exact ho); have Hput := hide hput; obtain ⟨a', l', c', rfl⟩ := sl_form ho; clear ho hg hput)
  go_ret2
  exact ⟨rfl, (unhide Hput).1, (unhide Hb1).trans (unhide Hput).2⟩
end Go.Proofs.YtaadpiimcaabkaaGreatDoor
