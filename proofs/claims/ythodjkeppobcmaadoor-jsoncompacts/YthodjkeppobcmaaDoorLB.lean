import Derived.Test.YthodjkeppobcmaaDoorLA

namespace Go.Proofs.YthodjkeppobcmaaDoor
open Go.RowKit Go.Lib
attribute [local go_sem ↓] Go.wp_at_zero Go.wp_at_succ

set_option maxRecDepth 100000 in
set_option maxHeartbeats 1000000 in
theorem run_any {W : World} {t : Nat} {s : ByteArray} (c0 : W.cell? ⟨t, 0, none⟩ = some (.string s)) (a : Nat) (ha : a ≤ s.size) (hs : s.size ≤ 67108864) : Calls Tryd.prog 44 #[.pointer (some ⟨t, 0, none⟩), .int .i64 (a : Int)] W fun e w => e = .returned (.int .i64 (dgE (strN s) a : Int)) ∧ w = W := by
  have hl := hide (strN_len s)
  go_enter Tryd.func44, Tryd.ntmps44
  go_wp2
  go_loopg [1] (s.size - a) (fun gk v1 wr => ∃ k : Nat, v1 = .int .i64 (k : Int) ∧ gk = s.size - k ∧ k ≤ s.size ∧ wr = W ∧ Hid (dgE (strN s) a = dgE (strN s) k))
  case atStart => exact ⟨a, rfl, rfl, ha, rfl, rfl⟩
  case round =>
    obtain ⟨k, rfl, hgk, hk, rfl, Hu⟩ := hrel
    have Hgk := hide hgk
    have k0 : (0 : Int) ≤ (k : Int) := Int.natCast_nonneg _
    clear hgk
    by_cases hlt : k < s.size
    · obtain ⟨gx, hx⟩ := bt_str s k hlt
      have i1 : (k : Int) < (s.size : Int) := by omega
      have hll : k < (strN s).length := by rw [unhide hl]; exact hlt
      obtain ⟨x, hxe⟩ : ∃ x, bt (strN s) k = x := ⟨_, rfl⟩
      rw [hxe] at gx
      by_cases hd : isDg x = true
      · have Hr : Hid (dgE (strN s) a = dgE (strN s) (k + 1)) := (unhide Hu).trans (tw_step hll (by rw [hxe]; exact hd))
        have d1 : decide (48 ≤ (x : Int)) = true := by unfold isDg at hd; simp at hd ⊢; omega
        have d2 : decide ((x : Int) ≤ 57) = true := by unfold isDg at hd; simp at hd ⊢; omega
        clear hx hxe hd hll Hu
        go_wp2
        go_roundg (s.size - (k + 1))
        case measure => have := unhide Hgk; omega
        case rel => exact ⟨k + 1, by go_num, rfl, by omega, rfl, Hr⟩
      · have Hr : Hid (dgE (strN s) a = k) := (unhide Hu).trans (tw_stop (by rw [hxe]; simpa using hd))
        have q : decide (48 ≤ (x : Int)) = false ∨ (decide (48 ≤ (x : Int)) = true ∧ decide ((x : Int) ≤ 57) = false) := by unfold isDg at hd; simp at hd ⊢; omega
        clear hx hxe hd hll Hu
        rcases q with d1 | ⟨d1, d2⟩
        all_goals (
          go_wp2
          go_ret
          exact ⟨by rw [unhide Hr]; rfl, rfl⟩)
    · have Hr : Hid (dgE (strN s) a = k) := (unhide Hu).trans (tw_end (by rw [unhide hl]; omega))
      have i1 : decide ((k : Int) < (s.size : Int)) = false := by simp; omega
      go_wp2
      go_ret
      exact ⟨by rw [unhide Hr]; rfl, rfl⟩
set_option maxRecDepth 100000 in
set_option maxHeartbeats 2000000 in
theorem tnumber_any {W : World} {t : Nat} {s : ByteArray} (c0 : W.cell? ⟨t, 0, none⟩ = some (.string s)) (a : Nat) (ha : a ≤ s.size) (hs : s.size ≤ 67108864) : Calls Tryd.prog 35 #[.pointer (some ⟨t, 0, none⟩), .int .i64 (a : Int)] W fun e w => e = .returned (.int .i64 (numE (strN s) a : Int)) ∧ w = W := by
  have HD : Hid (∀ a : Nat, a ≤ s.size → Calls Tryd.prog 44 #[.pointer (some ⟨t, 0, none⟩), .int .i64 (a : Int)] W fun e w => e = .returned (.int .i64 (dgE (strN s) a : Int)) ∧ w = W) := fun a ha => run_any c0 a ha hs
  have a0 : (0 : Int) ≤ (a : Int) := Int.natCast_nonneg _
  have HF := hide (nuF_le (s := s) (a := a) ha)
  have HL := hide (strN_len s)
  have HE : Hid (numE (strN s) a = if dgE (strN s) (nuF (strN s) a) = nuF (strN s) a then a else nu3 (strN s) (nu2 (strN s) (nu1 (strN s) (nuF (strN s) a)))) := rfl
  go_enter Tryd.func35, Tryd.ntmps35
  go_upto_region 2 with fail
  go_cut [24] (fun v wx => v = .bool (decide (bt (strN s) a = 45)) ∧ wx = W)
  case first =>
    by_cases hlt : a < s.size
    · obtain ⟨gx, hx⟩ := bt_str s a hlt
      have i1 : (a : Int) < (s.size : Int) := by omega
      obtain ⟨x, hxe⟩ : ∃ x, bt (strN s) a = x := ⟨_, rfl⟩
      rw [hxe] at gx
      have Hx := hide hxe
      clear hx hxe
      go_wp2
      go_meet
      refine ⟨?_, rfl⟩
      rw [unhide Hx]
      congr 1
      rw [Bool.eq_iff_iff]
      simp
      omega
    · have hx : Hid (bt (strN s) a = 0) := bt_end (by rw [unhide HL]; omega)
      have i1 : decide ((a : Int) < (s.size : Int)) = false := by simp; omega
      go_wp2
      go_meet
      refine ⟨?_, rfl⟩
      rw [unhide hx]
      rfl
  case rest =>
  obtain ⟨rfl, rfl⟩ := hcut
  go_upto_if 24 with fail
  go_cut [5, 24] (fun v5 _ wx => v5 = .int .i64 (nuF (strN s) a : Int) ∧ wx = wc)
  case first =>
    by_cases h : bt (strN s) a = 45
    · have Hn : Hid (nuF (strN s) a = a + 1) := if_pos h
      rw [decide_eq_true h]
      clear h
      go_wp2
      go_meet
      exact ⟨by rw [unhide Hn]; go_num, rfl⟩
    · have Hn : Hid (nuF (strN s) a = a) := if_neg h
      rw [decide_eq_false h]
      clear h
      go_wp2
      go_meet
      exact ⟨by rw [unhide Hn], rfl⟩
  case rest =>
  obtain ⟨rfl, rfl⟩ := hcut
  obtain ⟨f, hf⟩ : ∃ f, nuF (strN s) a = f := ⟨_, rfl⟩
  rw [hf] at HF HE ⊢
  clear hf
  have hf2 : f ≤ s.size := (unhide HF).2
  go_wp2_with fail
  refine (unhide HD f hf2).mono ?_
  rintro e w ⟨rfl, rfl⟩
  by_cases he : dgE (strN s) f = f
  · have HE2 : Hid (numE (strN s) a = a) := (unhide HE).trans (if_pos he)
    rw [he]
    clear he
    go_wp2
    go_ret
    exact ⟨by rw [unhide HE2]; rfl, rfl⟩
  have HE2 : Hid (numE (strN s) a = nu3 (strN s) (nu2 (strN s) (nu1 (strN s) f))) := (unhide HE).trans (if_neg he)
  clear HE
  have hdg := dgE_le hf2
  have hlt : f < s.size := by omega
  have H1 := hide (nu1_le hf2)
  have Hn1 : Hid (nu1 (strN s) f = if bt (strN s) f = 48 then f + 1 else dgE (strN s) f) := rfl
  obtain ⟨gx, hx⟩ := bt_str s f hlt
  obtain ⟨x2, hxe⟩ : ∃ x, bt (strN s) f = x := ⟨_, rfl⟩
  rw [hxe] at gx Hn1
  clear hx hxe
  have f0 : (0 : Int) ≤ (f : Int) := Int.natCast_nonneg _
  have i2 : (f : Int) < (s.size : Int) := by omega
  obtain ⟨e1, he1⟩ : ∃ e1, dgE (strN s) f = e1 := ⟨_, rfl⟩
  rw [he1] at he Hn1 ⊢
  have hb1 : ((e1 : Int) == (f : Int)) = false := by simp; omega
  clear he1 hdg he
  go_upto_if 40 with fail
  go_cut [6] (fun v6 wx => v6 = .int .i64 (nu1 (strN s) f : Int) ∧ wx = w)
  case first =>
    by_cases h : x2 = 48
    · have Hn : Hid (nu1 (strN s) f = f + 1) := (unhide Hn1).trans (if_pos h)
      have hb : ((x2 : Int) == 48) = true := by simp; omega
      clear h
      go_wp2
      go_meet
      exact ⟨by rw [unhide Hn]; go_num, rfl⟩
    · have Hn : Hid (nu1 (strN s) f = e1) := (unhide Hn1).trans (if_neg h)
      have hb : ((x2 : Int) == 48) = false := by simp; omega
      clear h
      go_wp2
      go_meet
      exact ⟨by rw [unhide Hn], rfl⟩
  case rest =>
  obtain ⟨rfl, rfl⟩ := hcut
  clear gx Hn1
  obtain ⟨y, hy⟩ : ∃ y, nu1 (strN s) f = y := ⟨_, rfl⟩
  rw [hy] at H1 HE2 ⊢
  clear hy
  have hy2 : y ≤ s.size := (unhide H1).2
  have H2 := hide (nu2_le hy2)
  have y0 : (0 : Int) ≤ (y : Int) := Int.natCast_nonneg _
  go_upto_region 9 with fail
  go_cut [67] (fun v wx => v = .bool (decide (bt (strN s) y = 46 ∧ y + 1 < dgE (strN s) (y + 1))) ∧ wx = wc)
  case first =>
    by_cases hlt : y < s.size
    · obtain ⟨gx, hx⟩ := bt_str s y hlt
      have i1 : (y : Int) < (s.size : Int) := by omega
      obtain ⟨x, hxe⟩ : ∃ x, bt (strN s) y = x := ⟨_, rfl⟩
      rw [hxe] at gx
      have Hx := hide hxe
      clear hx hxe
      by_cases h : x = 46
      · have hb : ((x : Int) == 46) = true := by simp; omega
        have e1 : ((y + 1 : Nat) : Int) = (y : Int) + 1 := by omega
        have hc := unhide HD (y + 1) (by omega)
        rw [e1] at hc
        have HC := hide hc
        have Hh := hide h
        clear hc h
        go_wp2_with fail
        refine (unhide HC).mono ?_
        rintro e w2 ⟨rfl, rfl⟩
        obtain ⟨z, hz⟩ : ∃ z, dgE (strN s) (y + 1) = z := ⟨_, rfl⟩
        have Hz := hide hz
        rw [hz]
        clear hz
        go_wp2
        go_meet
        refine ⟨?_, rfl⟩
        rw [unhide Hz, unhide Hx, unhide Hh]
        congr 1
        rw [Bool.eq_iff_iff]
        simp
        omega
      · have hb : ((x : Int) == 46) = false := by simp; omega
        have Hh := hide h
        clear h
        go_wp2
        go_meet
        refine ⟨?_, rfl⟩
        rw [unhide Hx, decide_eq_false (fun q => unhide Hh q.1)]
    · have hx : Hid (bt (strN s) y = 0) := bt_end (by rw [unhide HL]; omega)
      have i1 : decide ((y : Int) < (s.size : Int)) = false := by simp; omega
      go_wp2
      go_meet
      refine ⟨?_, rfl⟩
      rw [unhide hx]
      rfl
  case rest =>
  obtain ⟨rfl, rfl⟩ := hcut
  go_upto_if 67 with fail
  go_cut [6, 67] (fun v6 _ wx => v6 = .int .i64 (nu2 (strN s) y : Int) ∧ wx = wc)
  case first =>
    by_cases h : bt (strN s) y = 46 ∧ y + 1 < dgE (strN s) (y + 1)
    · have Hn : Hid (nu2 (strN s) y = dgE (strN s) (y + 1)) := (if_pos h.1).trans (if_pos h.2)
      rw [decide_eq_true h]
      have hlt : y < s.size := bt_in h.1 (by omega)
      have e1 : ((y + 1 : Nat) : Int) = (y : Int) + 1 := by omega
      have hc := unhide HD (y + 1) (by omega)
      rw [e1] at hc
      have HC := hide hc
      clear hc h
      go_wp2_with fail
      refine (unhide HC).mono ?_
      rintro e w2 ⟨rfl, rfl⟩
      go_wp2
      go_meet
      exact ⟨by rw [unhide Hn], rfl⟩
    · have Hn : Hid (nu2 (strN s) y = y) := by
        show nu2 (strN s) y = y
        unfold nu2 prt
        split
        · rw [if_neg (fun q => h ⟨by assumption, q⟩)]
        · rfl
      rw [decide_eq_false h]
      clear h
      go_wp2
      go_meet
      exact ⟨by rw [unhide Hn], rfl⟩
  case rest =>
  obtain ⟨rfl, rfl⟩ := hcut
  obtain ⟨z, hz⟩ : ∃ z, nu2 (strN s) y = z := ⟨_, rfl⟩
  rw [hz] at H2 HE2 ⊢
  clear hz
  have hz2 : z ≤ s.size := (unhide H2).2
  have z0 : (0 : Int) ≤ (z : Int) := Int.natCast_nonneg _
  go_upto_region 11 with fail
  go_cut [96] (fun v wx => v = .bool (decide (bt (strN s) z = 101 ∨ bt (strN s) z = 69)) ∧ wx = wc)
  case first =>
    by_cases hlt : z < s.size
    · obtain ⟨gx, hx⟩ := bt_str s z hlt
      have i1 : (z : Int) < (s.size : Int) := by omega
      obtain ⟨x, hxe⟩ : ∃ x, bt (strN s) z = x := ⟨_, rfl⟩
      rw [hxe] at gx
      have Hx := hide hxe
      clear hx hxe
      by_cases h : x = 101
      · have hb : ((x : Int) == 101) = true := by simp; omega
        have Hh := hide h
        clear h
        go_wp2
        go_meet
        refine ⟨?_, rfl⟩
        rw [unhide Hx, decide_eq_true (.inl (unhide Hh))]
      · have hb : ((x : Int) == 101) = false := by simp; omega
        have Hh := hide h
        clear h
        go_wp2
        go_meet
        refine ⟨?_, rfl⟩
        rw [unhide Hx]
        congr 1
        have := unhide Hh
        rw [Bool.eq_iff_iff]
        simp
        omega
    · have hx : Hid (bt (strN s) z = 0) := bt_end (by rw [unhide HL]; omega)
      have i1 : decide ((z : Int) < (s.size : Int)) = false := by simp; omega
      go_wp2
      go_meet
      refine ⟨?_, rfl⟩
      rw [unhide hx]
      rfl
  case rest =>
  obtain ⟨rfl, rfl⟩ := hcut
  by_cases h : bt (strN s) z = 101 ∨ bt (strN s) z = 69
  · have HE3 : Hid (numE (strN s) a = prt (strN s) z (nuK (strN s) (z + 1))) := (unhide HE2).trans (if_pos h)
    have hzs : z < s.size := by rcases h with h | h <;> exact bt_in h (by omega)
    rw [decide_eq_true h]
    clear h HE2
    have HK := hide (nuK_le (s := s) (a := z + 1) (by omega))
    have e1 : ((z + 1 : Nat) : Int) = (z : Int) + 1 := by omega
    go_upto_region 13 with fail
    go_cut [123] (fun v wx => v = .bool (decide (bt (strN s) (z + 1) = 43 ∨ bt (strN s) (z + 1) = 45)) ∧ wx = wc)
    case first =>
      by_cases hlt : z + 1 < s.size
      · obtain ⟨gx, hx⟩ := bt_str s (z + 1) hlt
        have i1 : (z : Int) + 1 < (s.size : Int) := by omega
        have z1 : (0 : Int) ≤ (z : Int) + 1 := by omega
        obtain ⟨x, hxe⟩ : ∃ x, bt (strN s) (z + 1) = x := ⟨_, rfl⟩
        rw [hxe] at gx
        have Hx := hide hxe
        have ix : ∀ w, (Instr.index 9 (.string s) (.int .i64 ((z : Int) + 1))).run Tryd.prog w = .ok (.int .u8 (x : Int)) w := fun w => by
          rw [← e1]
          rw [run_index_string (P := Tryd.prog) (h := Tryd.underlying9), dif_pos (by omega)]
          simp only [Int.toNat_natCast]
          rw [gx]
        clear hx hxe e1
        by_cases h : x = 43
        · have hb : ((x : Int) == 43) = true := by simp; omega
          have Hh := hide h
          clear h
          go_wp2
          go_meet
          refine ⟨?_, rfl⟩
          rw [unhide Hx, decide_eq_true (.inl (unhide Hh))]
        · have hb : ((x : Int) == 43) = false := by simp; omega
          have Hh := hide h
          clear h
          go_wp2
          go_meet
          refine ⟨?_, rfl⟩
          rw [unhide Hx]
          congr 1
          have := unhide Hh
          rw [Bool.eq_iff_iff]
          simp
          omega
      · have hx : Hid (bt (strN s) (z + 1) = 0) := bt_end (by rw [unhide HL]; omega)
        have i1 : decide ((z : Int) + 1 < (s.size : Int)) = false := by simp; omega
        go_wp2
        go_meet
        refine ⟨?_, rfl⟩
        rw [unhide hx]
        rfl
    case rest =>
    obtain ⟨rfl, rfl⟩ := hcut
    go_upto_if 123 with fail
    go_cut [7, 123] (fun v7 _ wx => v7 = .int .i64 (nuK (strN s) (z + 1) : Int) ∧ wx = wc)
    case first =>
      by_cases h : bt (strN s) (z + 1) = 43 ∨ bt (strN s) (z + 1) = 45
      · have Hn : Hid (nuK (strN s) (z + 1) = z + 1 + 1) := if_pos h
        rw [decide_eq_true h]
        clear h
        go_wp2
        go_meet
        exact ⟨by rw [unhide Hn]; go_num, rfl⟩
      · have Hn : Hid (nuK (strN s) (z + 1) = z + 1) := if_neg h
        rw [decide_eq_false h]
        clear h
        go_wp2
        go_meet
        exact ⟨by rw [unhide Hn]; go_num, rfl⟩
    case rest =>
    obtain ⟨rfl, rfl⟩ := hcut
    obtain ⟨k, hk⟩ : ∃ k, nuK (strN s) (z + 1) = k := ⟨_, rfl⟩
    rw [hk] at HK HE3 ⊢
    clear hk e1
    have HC := hide (unhide HD k (unhide HK).2)
    obtain ⟨m, hm⟩ : ∃ m, dgE (strN s) k = m := ⟨_, rfl⟩
    have HE4 : Hid (numE (strN s) a = if k < m then m else z) := by
      show _ = _
      rw [← hm]
      exact unhide HE3
    rw [hm] at HC
    clear hm HE3
    go_wp2_with fail
    refine (unhide HC).mono ?_
    rintro e w2 ⟨rfl, rfl⟩
    by_cases hq : k < m
    · have HE5 : Hid (numE (strN s) a = m) := (unhide HE4).trans (if_pos hq)
      go_wp2_with fail
      refine (unhide HC).mono ?_
      rintro e w3 ⟨rfl, rfl⟩
      go_wp2
      go_ret
      exact ⟨by rw [unhide HE5]; rfl, rfl⟩
    · have HE5 : Hid (numE (strN s) a = z) := (unhide HE4).trans (if_neg hq)
      go_wp2
      go_ret
      exact ⟨by rw [unhide HE5]; rfl, rfl⟩
  · have HE3 : Hid (numE (strN s) a = z) := (unhide HE2).trans (if_neg h)
    rw [decide_eq_false h]
    clear h
    go_wp2
    go_ret
    exact ⟨by rw [unhide HE3]; rfl, rfl⟩
end Go.Proofs.YthodjkeppobcmaaDoor
