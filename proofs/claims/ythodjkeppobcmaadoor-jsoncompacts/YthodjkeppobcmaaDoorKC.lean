import Derived.Test.YthodjkeppobcmaaDoorKB
import Derived.Deep.CutBlock

namespace Go.Proofs.YthodjkeppobcmaaDoor
open Go.RowKit Go.Lib
attribute [local go_sem ↓] Go.wp_at_zero Go.wp_at_succ

set_option maxRecDepth 100000 in
set_option maxHeartbeats 1000000 in
theorem number_any (W : World) (s : ByteArray) (a : Nat) (ha : a < s.size) (hs : s.size ≤ 67108864) : Calls Tryd.prog 47 #[.string s, .int .i64 (a : Int)] W fun e w => e = .returned (.int .i64 (numE (strN s) a : Int)) ∧ w = W := by
  have HP : Hid (∀ a d : Nat, d ≤ s.size → Calls Tryd.prog 56 #[.string s, .int .i64 (a : Int), .int .i64 (d : Int)] W fun e w => e = .returned (.int .i64 (prt (strN s) a d : Int)) ∧ w = W) := fun a d hd => part_any W s a d hd hs
  have HD : Hid (∀ a : Nat, a ≤ s.size → Calls Tryd.prog 54 #[.string s, .int .i64 (a : Int)] W fun e w => e = .returned (.int .i64 (dgE (strN s) a : Int)) ∧ w = W) := fun a ha => digits_any W s a ha hs
  obtain ⟨gx, hx⟩ := bt_str s a ha
  obtain ⟨x, hxe⟩ : ∃ x, bt (strN s) a = x := ⟨_, rfl⟩
  rw [hxe] at gx
  have Hx := hide hxe
  clear hx hxe
  have a0 : (0 : Int) ≤ (a : Int) := Int.natCast_nonneg _
  have i1 : (a : Int) < (s.size : Int) := by omega
  have HF := hide (nuF_le (s := s) (a := a) (by omega))
  have HL := hide (strN_len s)
  go_enter Tryd.func47, Tryd.ntmps47
  go_upto_if 12 with fail
  go_cut [5] (fun v5 wx => v5 = .int .i64 (nuF (strN s) a : Int) ∧ wx = W)
  case first =>
    by_cases h : x = 45
    · have Hn : Hid (nuF (strN s) a = a + 1) := if_pos ((unhide Hx).trans h)
      have hb : ((x : Int) == 45) = true := by simp; omega
      clear h
      go_wp2
      go_meet
      exact ⟨by rw [unhide Hn]; go_num, rfl⟩
    · have Hn : Hid (nuF (strN s) a = a) := if_neg (fun q => h ((unhide Hx).symm.trans q))
      have hb : ((x : Int) == 45) = false := by simp; omega
      clear h
      go_wp2
      go_meet
      exact ⟨by rw [unhide Hn], rfl⟩
  case rest =>
  obtain ⟨rfl, rfl⟩ := hcut
  have HE : Hid (numE (strN s) a = if dgE (strN s) (nuF (strN s) a) = nuF (strN s) a then a else nu3 (strN s) (nu2 (strN s) (nu1 (strN s) (nuF (strN s) a)))) := rfl
  obtain ⟨f, hf⟩ : ∃ f, nuF (strN s) a = f := ⟨_, rfl⟩
  rw [hf] at HF HE ⊢
  clear gx hf Hx
  have hf2 : f ≤ s.size := (unhide HF).2
  go_wp2_with fail
  refine (unhide HD f hf2).mono ?_
  rintro e w ⟨rfl, rfl⟩
  by_cases he : dgE (strN s) f = f
  · have HE2 : Hid (numE (strN s) a = a) := (unhide HE).trans (if_pos he)
    rw [he]
    clear he
    go_wp2
    go_ret
    exact ⟨by rw [unhide HE2]; rfl, rfl⟩
  · have HE2 : Hid (numE (strN s) a = nu3 (strN s) (nu2 (strN s) (nu1 (strN s) f))) := (unhide HE).trans (if_neg he)
    clear HE
    have hdg := dgE_le hf2
    have hlt : f < s.size := by omega
    have H1 := hide (nu1_le hf2)
    have Hn1 : Hid (nu1 (strN s) f = if bt (strN s) f = 48 then f + 1 else dgE (strN s) f) := rfl
    obtain ⟨gx, hx⟩ := bt_str s f hlt
    obtain ⟨x2, hxe⟩ : ∃ x, bt (strN s) f = x := ⟨_, rfl⟩
    rw [hxe] at gx Hn1
    clear hx hxe
    have f0 : (0 : Int) ≤ (f : Int) := Int.natCast_nonneg _
    have i2 : (f : Int) < (s.size : Int) := by omega
    obtain ⟨e1, he1⟩ : ∃ e1, dgE (strN s) f = e1 := ⟨_, rfl⟩
    rw [he1] at he Hn1 ⊢
    have hb1 : ((e1 : Int) == (f : Int)) = false := by simp; omega
    clear he1 hdg he
    go_upto_block 0 with fail
    go_cut [6, 23] (fun v6 _ wx => v6 = .int .i64 (nu1 (strN s) f : Int) ∧ wx = w)
    case first =>
      by_cases h : x2 = 48
      · have Hn : Hid (nu1 (strN s) f = f + 1) := (unhide Hn1).trans (if_pos h)
        have hb : ((x2 : Int) == 48) = true := by simp; omega
        clear h
        go_wp2
        go_meet
        exact ⟨by rw [unhide Hn]; go_num, rfl⟩
      · have Hn : Hid (nu1 (strN s) f = e1) := (unhide Hn1).trans (if_neg h)
        have hb : ((x2 : Int) == 48) = false := by simp; omega
        clear h
        go_wp2
        go_meet
        exact ⟨by rw [unhide Hn], rfl⟩
    case rest =>
    obtain ⟨rfl, rfl⟩ := hcut
    clear gx Hn1
    obtain ⟨y, hy⟩ : ∃ y, nu1 (strN s) f = y := ⟨_, rfl⟩
    rw [hy] at H1 HE2 ⊢
    clear hy
    have hy2 : y ≤ s.size := (unhide H1).2
    have H2 := hide (nu2_le hy2)
    have HO : Hid (∀ (cs : ByteArray) (k : Nat) (p : Nat → Bool), Is cs p → p 0 = false → Calls Tryd.prog 55 #[.string s, .int .i64 (k : Int), .string cs] wc fun e w => e = .returned (.bool (p (bt (strN s) k))) ∧ w = wc) := fun cs k p h1 h2 => oneOf_any wc s cs k p h1 h2
    go_wp2_with fail
    refine (unhide HO _ y isDot is_dot rfl).mono ?_
    rintro e w' ⟨rfl, rfl⟩
    go_upto_if 32 with fail
    go_cut [6] (fun v6 wx => v6 = .int .i64 (nu2 (strN s) y : Int) ∧ wx = w')
    case first =>
      by_cases h : bt (strN s) y = 46
      · have Hn : Hid (nu2 (strN s) y = prt (strN s) y (y + 1)) := if_pos h
        have hys := bt_in h (by omega)
        have hd : isDot (bt (strN s) y) = true := by rw [h]; rfl
        have e1 : ((y + 1 : Nat) : Int) = (y : Int) + 1 := by omega
        have hc := unhide HP y (y + 1) (by omega)
        rw [e1] at hc
        have HC := hide hc
        rw [hd]
        clear hc h hd e1
        go_wp2_with fail
        refine (unhide HC).mono ?_
        rintro e w2 ⟨rfl, rfl⟩
        go_wp2
        go_meet
        exact ⟨by rw [unhide Hn], rfl⟩
      · have Hn : Hid (nu2 (strN s) y = y) := if_neg h
        have hd : isDot (bt (strN s) y) = false := by unfold isDot; simp [h]
        rw [hd]
        clear hd
        go_wp2
        go_meet
        exact ⟨by rw [unhide Hn], rfl⟩
    case rest =>
    obtain ⟨rfl, rfl⟩ := hcut
    clear H1
    obtain ⟨z, hz⟩ : ∃ z, nu2 (strN s) y = z := ⟨_, rfl⟩
    rw [hz] at H2 HE2 ⊢
    clear hz
    have hz2 : z ≤ s.size := (unhide H2).2
    go_wp2_with fail
    refine (unhide HO _ z isEx is_ex rfl).mono ?_
    rintro e w' ⟨rfl, rfl⟩
    by_cases h : bt (strN s) z = 101 ∨ bt (strN s) z = 69
    · have HE3 : Hid (numE (strN s) a = prt (strN s) z (nuK (strN s) (z + 1))) := (unhide HE2).trans (if_pos h)
      have hzs : z < s.size := by rcases h with h | h <;> exact bt_in h (by omega)
      have hd : isEx (bt (strN s) z) = true := by unfold isEx; rcases h with h | h <;> rw [h] <;> rfl
      rw [hd]
      clear h hd
      have HK := hide (nuK_le (s := s) (a := z + 1) (by omega))
      have e1 : ((z + 1 : Nat) : Int) = (z : Int) + 1 := by omega
      have hc := unhide HO _ (z + 1) isPm is_pm rfl
      rw [e1] at hc
      have HC := hide hc
      clear hc
      go_wp2_with fail
      refine (unhide HC).mono ?_
      rintro e w2 ⟨rfl, rfl⟩
      go_upto_if 45 with fail
      go_cut [7] (fun v7 wx => v7 = .int .i64 (nuK (strN s) (z + 1) : Int) ∧ wx = w2)
      case first =>
        by_cases h : bt (strN s) (z + 1) = 43 ∨ bt (strN s) (z + 1) = 45
        · have Hn : Hid (nuK (strN s) (z + 1) = z + 1 + 1) := if_pos h
          have hd : isPm (bt (strN s) (z + 1)) = true := by unfold isPm; rcases h with h | h <;> rw [h] <;> rfl
          rw [hd]
          clear h hd
          go_wp2
          go_meet
          exact ⟨by rw [unhide Hn]; go_num, rfl⟩
        · have Hn : Hid (nuK (strN s) (z + 1) = z + 1) := if_neg h
          have hd : isPm (bt (strN s) (z + 1)) = false := by unfold isPm; simp; omega
          rw [hd]
          clear h hd
          go_wp2
          go_meet
          exact ⟨by rw [unhide Hn]; go_num, rfl⟩
      case rest =>
      obtain ⟨rfl, rfl⟩ := hcut
      go_wp2_with fail
      refine (unhide HP z _ (unhide HK).2).mono ?_
      rintro e w3 ⟨rfl, rfl⟩
      go_wp2
      go_ret
      exact ⟨by rw [unhide HE3]; rfl, rfl⟩
    · have HE3 : Hid (numE (strN s) a = z) := (unhide HE2).trans (if_neg h)
      have hd : isEx (bt (strN s) z) = false := by unfold isEx; simp; omega
      rw [hd]
      clear h hd
      go_wp2
      go_ret
      exact ⟨by rw [unhide HE3]; rfl, rfl⟩
end Go.Proofs.YthodjkeppobcmaaDoor
