import Derived.Test.YtckpainohfhopaaGreatDoorJ12
import Derived.Test.YtckpainohfhopaaGreatDoorJ13
import Derived.Test.YtckpainohfhopaaGreatDoorJ16
import Derived.Test.YtckpainohfhopaaGreatDoorJ16

namespace Go.Proofs.YtckpainohfhopaaGreatDoor
open Go.RowKit
attribute [local go_sem ↓] Go.wp_at_zero Go.wp_at_succ

theorem endRow_step {s : ByteArray} {k : Nat} (hk : k < s.size) (h : isLet (byteAt s k) ∨ isDig (byteAt s k)) : endRow s k = endRow s (k + 1) := by rw [endRow, dif_pos ⟨hk, h⟩]
theorem endRow_stop {s : ByteArray} {k : Nat} (h : ¬ (isLet (byteAt s k) ∨ isDig (byteAt s k))) : endRow s k = k := by rw [endRow, dif_neg (fun q => h q.2)]
theorem endRow_end {s : ByteArray} {k : Nat} (h : ¬ k < s.size) : endRow s k = k := by rw [endRow, dif_neg (fun q => h q.1)]
set_option maxRecDepth 100000 in
set_option maxHeartbeats 4000000 in
theorem xone_any (W : World) (s : ByteArray) (a : Nat) (ha : a < s.size) (hs : s.size ≤ 65536) :
    Calls Tryz.prog 29 #[.string s, .int .i64 (a : Int)] W fun e w => e = .returned (.tuple #[.int .i64 ((oneF s a).1 : Int), .int .i64 ((oneF s a).2.1 : Int), .int .i64 ((oneF s a).2.2 : Int)]) ∧ Below W.heap.size W w := by
  obtain ⟨x0, hg⟩ : ∃ x : Nat, s[a].toNat = x := ⟨_, rfl⟩
  have hbx : byteAt s a = x0 := (byteAt_eq s a ha).trans hg
  have hx0 : x0 < 256 := by rw [← hbx]; exact byteAt_lt s a
  have a0 : (0 : Int) ≤ (a : Int) := Int.natCast_nonneg _
  have a1 : (a : Int) < (s.size : Int) := by omega
  have hbl := Below.refl W.heap.size W
  have Hx0 := hide hbx
  clear hbx
  go_enter Tryz.func29, Tryz.ntmps29
  go_wp2
  go_loopg [8] (s.size - a) (fun gk v8 wr => ∃ (m : Nat), v8 = .int .i64 (m : Int) ∧ gk = s.size - m ∧ a ≤ m ∧ m ≤ s.size ∧ wr = W ∧ Hid (endRow s a = endRow s m))
  case atStart => exact ⟨a, rfl, rfl, Nat.le_refl _, by omega, rfl, rfl⟩
  case round =>
    obtain ⟨m, rfl, hgk, ham, hms, hwr, HN⟩ := hrel
    obtain rfl : W = wr := hwr.symm
    have Hgk := hide hgk
    clear hgk hwr
    by_cases hml : m < s.size
    · obtain ⟨x, hx⟩ : ∃ x : Nat, s[m].toNat = x := ⟨_, rfl⟩
      have hbx : byteAt s m = x := (byteAt_eq s m hml).trans hx
      have hx2 : x < 256 := by rw [← hbx]; exact byteAt_lt s m
      have k0 : (0 : Int) ≤ (m : Int) := Int.natCast_nonneg _
      have k1 : (m : Int) < (s.size : Int) := by omega
      have Hbx := hide hbx
      clear hbx
      go_wp2_with fail
      refine (xletter_any W x hx2).mono ?_
      rintro e w' ⟨b, rfl, he, hbb⟩
      obtain rfl : W = w' := he.symm
      clear he
      cases b with
      | true =>
        have HN2 : Hid (endRow s a = endRow s (m + 1)) := (unhide HN).trans (endRow_step hml (.inl (by rw [unhide Hbx]; exact hbb.1 rfl)))
        clear hbb HN
        go_wp2
        go_roundg (s.size - (m + 1))
        case measure => have := unhide Hgk; omega
        case rel => exact ⟨m + 1, by go_num, rfl, by omega, by omega, rfl, HN2⟩
      | false =>
        have n1 : ¬ isLet x := fun q => by have := hbb.2 q; cases this
        have M1 := hide n1
        clear hbb n1
        go_wp2_with fail
        refine (xdigit_any W x hx2).mono ?_
        rintro e w' ⟨b, rfl, he, hbb⟩
        obtain rfl : W = w' := he.symm
        clear he
        cases b with
        | true =>
          have HN2 : Hid (endRow s a = endRow s (m + 1)) := (unhide HN).trans (endRow_step hml (.inr (by rw [unhide Hbx]; exact hbb.1 rfl)))
          clear hbb HN
          go_wp2
          go_roundg (s.size - (m + 1))
          case measure => have := unhide Hgk; omega
          case rel => exact ⟨m + 1, by go_num, rfl, by omega, by omega, rfl, HN2⟩
        | false =>
          have HE : Hid (endRow s a = m) := (unhide HN).trans (endRow_stop (by rw [unhide Hbx]; exact fun o => o.elim (unhide M1) (fun q => by have := hbb.2 q; cases this)))
          clear hbb HN M1 Hbx
          go_wp2_with fail
          refine (xletter_any W x0 hx0).mono ?_
          rintro e w' ⟨b, rfl, he, hbb⟩
          obtain rfl : W = w' := he.symm
          clear he
          cases b with
          | true =>
            have Ho : Hid (oneF s a = (1, m, 0)) := by show _ = _; unfold oneF; rw [unhide Hx0, if_pos (hbb.1 rfl), unhide HE]
            clear hbb
            go_wp2
            go_ret3
            exact ⟨by rw [unhide Ho]; rfl, hbl⟩
          | false =>
            have n1 : ¬ isLet x0 := fun q => by have := hbb.2 q; cases this
            have N1 := hide n1
            clear hbb n1
            go_wp2_with fail
            refine (xdigit_any W x0 hx0).mono ?_
            rintro e w' ⟨b, rfl, he, hbb⟩
            obtain rfl : W = w' := he.symm
            clear he
            cases b with
            | true =>
              have hd : isDig x0 := hbb.1 rfl
              have ho : oneF s a = if wv (strN (s.extract a m)) = none then (0, 0, 41) else (2, m, 0) := by unfold oneF; rw [unhide Hx0, if_neg (unhide N1), if_pos hd, unhide HE]
              have Ho := hide ho
              have m0 : (0 : Int) ≤ (m : Int) := Int.natCast_nonneg _
              have m1 : (a : Int) ≤ (m : Int) := by omega
              have m2 : (m : Int) ≤ (s.size : Int) := by omega
              clear hbb hd ho
              go_wp2_with fail
              refine (xdigits_any W (s.extract a m) (by rw [ByteArray.size_extract]; omega)).mono ?_
              rintro e w1 ⟨he, ⟨u, rfl, hu⟩ | ⟨rfl, hu⟩⟩
              · obtain rfl : W = w1 := he.symm
                have Hq : Hid (oneF s a = (2, m, 0)) := by show _ = _; rw [unhide Ho, hu]; rfl
                clear hu he
                go_wp2
                go_ret3
                exact ⟨by rw [unhide Hq]; rfl, hbl⟩
              · obtain rfl : W = w1 := he.symm
                have Hq : Hid (oneF s a = (0, 0, 41)) := by show _ = _; rw [unhide Ho, hu]; rfl
                clear hu he
                go_wp2
                go_ret3
                exact ⟨by rw [unhide Hq]; rfl, hbl⟩
            | false =>
              have n2 : ¬ isDig x0 := fun q => by have := hbb.2 q; cases this
              have N2 := hide n2
              clear hbb n2
              by_cases hq : x0 = 39 ∨ x0 = 34
              · have ho : oneF s a = match uqAt s x0 (a + 1) with | none => (0, 0, 42) | some (_, e) => (3, e, 0) := by unfold oneF; rw [unhide Hx0, if_neg (unhide N1), if_neg (unhide N2), if_pos hq]; cases uqAt s x0 (a + 1) <;> rfl
                have Ho := hide ho
                have hxq := xquoted_any W s a ha hs
                rw [unhide Hx0] at hxq
                have Hxq := hide hxq
                clear ho hxq
                have hq3 : ((x0 : Int) == 34) = true ∨ (((x0 : Int) == 34) = false ∧ ((x0 : Int) == 39) = true) := by
                  rcases hq with rfl | rfl
                  · exact .inr ⟨rfl, rfl⟩
                  · exact .inl rfl
                rcases hq3 with g1 | ⟨g1, g2⟩
                all_goals (
                  clear hq
                  go_wp2_with fail
                  refine (unhide Hxq).mono ?_
                  rintro e w2 ⟨hb2, ⟨h1, rfl⟩ | ⟨l, z, v', h1, rfl, hv⟩⟩
                  · have Hq : Hid (oneF s a = (0, 0, 42)) := by show _ = _; rw [unhide Ho, h1]
                    have Hb2 := hide hb2
                    clear h1 hb2
                    go_wp2
                    go_ret3
                    exact ⟨by rw [unhide Hq]; rfl, unhide Hb2⟩
                  · have Hq : Hid (oneF s a = (3, z, 0)) := by show _ = _; rw [unhide Ho, h1]
                    have hz := uq_le _ (a + 1) l z (Nat.le_refl _) h1
                    have z0 : ((z : Int) == 0) = false := beq_eq_false_iff_ne.2 (by omega)
                    obtain ⟨va, vn, vc, rfl⟩ := hv.shape
                    have Hb2 := hide hb2
                    clear h1 hb2 hz hv
                    go_wp2
                    go_ret3
                    exact ⟨by rw [unhide Hq]; rfl, unhide Hb2⟩)
              · have g1 : ((x0 : Int) == 34) = false := beq_eq_false_iff_ne.2 (by omega)
                have g2 : ((x0 : Int) == 39) = false := beq_eq_false_iff_ne.2 (by omega)
                have ho : oneF s a = if isSgn x0 then (4, a + 1, 0) else (0, 0, 40) := by unfold oneF; rw [unhide Hx0, if_neg (unhide N1), if_neg (unhide N2), if_neg hq]
                have Ho := hide ho
                clear ho hq
                go_wp2_with fail
                refine (xsign_any W x0).mono ?_
                rintro e w' ⟨b, rfl, he, hbb⟩
                obtain rfl : W = w' := he.symm
                clear he
                cases b with
                | true =>
                  have Hq : Hid (oneF s a = (4, a + 1, 0)) := by show _ = _; rw [unhide Ho, if_pos (hbb.1 rfl)]
                  clear hbb
                  go_wp2
                  go_ret3
                  exact ⟨by rw [unhide Hq]; first | rfl | go_num, hbl⟩
                | false =>
                  have Hq : Hid (oneF s a = (0, 0, 40)) := by show _ = _; rw [unhide Ho, if_neg (fun q => by have := hbb.2 q; cases this)]
                  clear hbb
                  go_wp2
                  go_ret3
                  exact ⟨by rw [unhide Hq]; rfl, hbl⟩
    · have HE : Hid (endRow s a = m) := (unhide HN).trans (endRow_end hml)
      obtain rfl : m = s.size := by omega
      have q0 : decide ((s.size : Int) < (s.size : Int)) = false := by simp
      clear HN hml
      go_wp2_with fail
      refine (xletter_any W x0 hx0).mono ?_
      rintro e w' ⟨b, rfl, he, hbb⟩
      obtain rfl : W = w' := he.symm
      clear he
      cases b with
      | true =>
        have Ho : Hid (oneF s a = (1, s.size, 0)) := by show _ = _; unfold oneF; rw [unhide Hx0, if_pos (hbb.1 rfl), unhide HE]
        clear hbb
        go_wp2
        go_ret3
        exact ⟨by rw [unhide Ho]; rfl, hbl⟩
      | false =>
        have n1 : ¬ isLet x0 := fun q => by have := hbb.2 q; cases this
        have N1 := hide n1
        clear hbb n1
        go_wp2_with fail
        refine (xdigit_any W x0 hx0).mono ?_
        rintro e w' ⟨b, rfl, he, hbb⟩
        obtain rfl : W = w' := he.symm
        clear he
        cases b with
        | true =>
          have hd : isDig x0 := hbb.1 rfl
          have ho : oneF s a = if wv (strN (s.extract a s.size)) = none then (0, 0, 41) else (2, s.size, 0) := by unfold oneF; rw [unhide Hx0, if_neg (unhide N1), if_pos hd, unhide HE]
          have Ho := hide ho
          have m0 : (0 : Int) ≤ (s.size : Int) := Int.natCast_nonneg _
          have m1 : (a : Int) ≤ (s.size : Int) := by omega
          have m2 : (s.size : Int) ≤ (s.size : Int) := by omega
          clear hbb hd ho
          go_wp2_with fail
          refine (xdigits_any W (s.extract a s.size) (by rw [ByteArray.size_extract]; omega)).mono ?_
          rintro e w1 ⟨he, ⟨u, rfl, hu⟩ | ⟨rfl, hu⟩⟩
          · obtain rfl : W = w1 := he.symm
            have Hq : Hid (oneF s a = (2, s.size, 0)) := by show _ = _; rw [unhide Ho, hu]; rfl
            clear hu he
            go_wp2
            go_ret3
            exact ⟨by rw [unhide Hq]; rfl, hbl⟩
          · obtain rfl : W = w1 := he.symm
            have Hq : Hid (oneF s a = (0, 0, 41)) := by show _ = _; rw [unhide Ho, hu]; rfl
            clear hu he
            go_wp2
            go_ret3
            exact ⟨by rw [unhide Hq]; rfl, hbl⟩
        | false =>
          have n2 : ¬ isDig x0 := fun q => by have := hbb.2 q; cases this
          have N2 := hide n2
          clear hbb n2
          by_cases hq : x0 = 39 ∨ x0 = 34
          · have ho : oneF s a = match uqAt s x0 (a + 1) with | none => (0, 0, 42) | some (_, e) => (3, e, 0) := by unfold oneF; rw [unhide Hx0, if_neg (unhide N1), if_neg (unhide N2), if_pos hq]; cases uqAt s x0 (a + 1) <;> rfl
            have Ho := hide ho
            have hxq := xquoted_any W s a ha hs
            rw [unhide Hx0] at hxq
            have Hxq := hide hxq
            clear ho hxq
            have hq3 : ((x0 : Int) == 34) = true ∨ (((x0 : Int) == 34) = false ∧ ((x0 : Int) == 39) = true) := by
              rcases hq with rfl | rfl
              · exact .inr ⟨rfl, rfl⟩
              · exact .inl rfl
            rcases hq3 with g1 | ⟨g1, g2⟩
            all_goals (
              clear hq
              go_wp2_with fail
              refine (unhide Hxq).mono ?_
              rintro e w2 ⟨hb2, ⟨h1, rfl⟩ | ⟨l, z, v', h1, rfl, hv⟩⟩
              · have Hq : Hid (oneF s a = (0, 0, 42)) := by show _ = _; rw [unhide Ho, h1]
                have Hb2 := hide hb2
                clear h1 hb2
                go_wp2
                go_ret3
                exact ⟨by rw [unhide Hq]; rfl, unhide Hb2⟩
              · have Hq : Hid (oneF s a = (3, z, 0)) := by show _ = _; rw [unhide Ho, h1]
                have hz := uq_le _ (a + 1) l z (Nat.le_refl _) h1
                have z0 : ((z : Int) == 0) = false := beq_eq_false_iff_ne.2 (by omega)
                obtain ⟨va, vn, vc, rfl⟩ := hv.shape
                have Hb2 := hide hb2
                clear h1 hb2 hz hv
                go_wp2
                go_ret3
                exact ⟨by rw [unhide Hq]; rfl, unhide Hb2⟩)
          · have g1 : ((x0 : Int) == 34) = false := beq_eq_false_iff_ne.2 (by omega)
            have g2 : ((x0 : Int) == 39) = false := beq_eq_false_iff_ne.2 (by omega)
            have ho : oneF s a = if isSgn x0 then (4, a + 1, 0) else (0, 0, 40) := by unfold oneF; rw [unhide Hx0, if_neg (unhide N1), if_neg (unhide N2), if_neg hq]
            have Ho := hide ho
            clear ho hq
            go_wp2_with fail
            refine (xsign_any W x0).mono ?_
            rintro e w' ⟨b, rfl, he, hbb⟩
            obtain rfl : W = w' := he.symm
            clear he
            cases b with
            | true =>
              have Hq : Hid (oneF s a = (4, a + 1, 0)) := by show _ = _; rw [unhide Ho, if_pos (hbb.1 rfl)]
              clear hbb
              go_wp2
              go_ret3
              exact ⟨by rw [unhide Hq]; first | rfl | go_num, hbl⟩
            | false =>
              have Hq : Hid (oneF s a = (0, 0, 40)) := by show _ = _; rw [unhide Ho, if_neg (fun q => by have := hbb.2 q; cases this)]
              clear hbb
              go_wp2
              go_ret3
              exact ⟨by rw [unhide Hq]; rfl, hbl⟩
end Go.Proofs.YtckpainohfhopaaGreatDoor

namespace Go.Proofs.YtckpainohfhopaaGreatDoor
open Go.RowKit
attribute [local go_sem ↓] Go.wp_at_zero Go.wp_at_succ

theorem tkG_noend {s : ByteArray} {k p n : Nat} (h : passF s s.size k = (p, false)) : tk s k n = .inr (p, 43) := by
  unfold tk
  rw [tokF, h, if_pos rfl]
theorem tkG_end {s : ByteArray} {k n : Nat} (h : passF s s.size k = (s.size, true)) : tk s k n = .inl [⟨5, s.size, ⟨#[]⟩⟩] := by
  unfold tk
  rw [tokF, h, if_neg (by simp), if_pos rfl]
theorem tkG_full {s : ByteArray} {k p : Nat} (hk : p < s.size) (h : passF s s.size k = (p, true)) : tk s k 16383 = .inr (p, 45) := by
  unfold tk
  rw [tokF, h, if_neg (by simp), if_neg (by show ¬ p = s.size; omega), if_pos rfl]
theorem tkG_err {s : ByteArray} {k p n c : Nat} (hk : p < s.size) (h : passF s s.size k = (p, true)) (hn : n < 16383) (h1 : (oneF s p).2.2 = c) (hc : c ≠ 0) : tk s k n = .inr (p, c) := by
  unfold tk
  rw [tokF, h, if_neg (by simp), if_neg (by show ¬ p = s.size; omega), if_neg (by omega)]
  show (if (oneF s p).2.2 = 0 then _ else Sum.inr (p, (oneF s p).2.2)) = _
  rw [h1, if_neg hc]
theorem tkG_tok {s : ByteArray} {k p n t e : Nat} (hk : p < s.size) (h : passF s s.size k = (p, true)) (hn : n < 16383) (h1 : oneF s p = (t, e, 0)) : tk s k n = consT ⟨t, p, s.extract p e⟩ (tk s e (n + 1)) := by
  have hle := oneF_le hk (by rw [h1])
  rw [h1] at hle
  unfold tk
  rw [tokF, h, if_neg (by simp), if_neg (by show ¬ p = s.size; omega), if_neg (by omega)]
  show (if (oneF s p).2.2 = 0 then consT ⟨(oneF s p).1, p, s.extract p (oneF s p).2.1⟩ (tokF s s.size (oneF s p).2.1 (n + 1)) else _) = _
  rw [h1, if_pos rfl]
  rw [tokF_fuel s s.size (s.size + 1) e (n + 1) hle.2 (by have := hle.1; simp at this; omega) (by omega)]
set_option maxRecDepth 100000 in
set_option maxHeartbeats 4000000 in
theorem xtokens_any (W : World) (s : ByteArray) : Calls Tryz.prog 16 #[.string s] W (TokP s W) := by
  obtain ⟨i0, hi, hz0, hz1, hz2⟩ := info_parts Tryz.infoTok
  have hb0 := Below.refl W.heap.size W
  by_cases h0 : 65536 < s.size
  · have Hr := hide (tokR_long h0)
    have e0 := ltT (a := s.size) (k := 65536) (by omega)
    clear h0
    go_enter Tryz.func16, Tryz.ntmps16
    go_wp2
    go_ret3
    exact ⟨hb0, by rw [unhide Hr]; exact ⟨by decide, rfl⟩⟩
  · have e0 := ltF (a := s.size) (k := 65536) (by omega)
    have hs : s.size ≤ 65536 := by omega
    have H0 := hide h0
    clear h0
    go_enter Tryz.func16, Tryz.ntmps16
    go_wp2_with fail
    refine (xutf8_any W s (by omega)).mono ?_
    rintro e w1 ⟨rfl, he⟩
    obtain rfl : W = w1 := he.symm
    clear he
    by_cases h1 : 0 ≤ utfAt s 0
    · have Hr := hide (tokR_bad (unhide H0) h1)
      obtain ⟨u, hu⟩ : ∃ u : Nat, utfAt s 0 = (u : Int) := ⟨(utfAt s 0).toNat, by omega⟩
      rw [hu] at Hr ⊢
      have e1 : decide (0 ≤ (u : Int)) = true := by simp
      clear hu h1
      go_wp2
      go_ret3
      exact ⟨hb0, by rw [unhide Hr]; exact ⟨by decide, rfl⟩⟩
    · have Hr := hide (tokR_ok (unhide H0) h1)
      obtain ⟨u, hu⟩ : ∃ u, u = utfAt s 0 := ⟨_, rfl⟩
      rw [← hu] at h1 ⊢
      have e1 : decide (0 ≤ u) = false := by simp; omega
      have HR0 : Hid (W.ownsRow W.heap.size 38 3 (.slice none 0 0) 0 (tcells [])) := ⟨rfl, .inl ⟨rfl, rfl⟩⟩
      clear hu h1
      go_wp2
      go_loopg [6, 7, 8, 9, 10, 11, 12] s.size (fun gk v6 v7 _ _ _ _ _ wr => ∃ (k n : Nat) (pre : List Tok) (va : Option Addr) (vc : Nat), v6 = .slice va n vc ∧ v7 = .int .i64 (k : Int) ∧ gk = s.size - k ∧ k ≤ s.size ∧ n = pre.length ∧ n ≤ 16383 ∧ Hid (wr.ownsRow W.heap.size 38 3 (.slice va n vc) n (tcells pre)) ∧ Hid (tk s 0 0 = frontT pre (tk s k n)) ∧ Hid (Below W.heap.size W wr))
      case atStart => exact ⟨0, 0, [], none, 0, rfl, rfl, rfl, by omega, rfl, by omega, HR0, (frontT_nil _).symm, hb0⟩
      case round =>
        obtain ⟨k, n, pre, va, vc, rfl, rfl, hgk, hk, hn, hn2, HR, Hq, HB⟩ := hrel
        have Hgk := hide hgk
        have Hn := hide hn
        have hWr : W.heap.size ≤ wr.heap.size := (unhide HB).size
        clear hgk hn HR0
        have hxp := xpass_any wr s hs k hk
        have hpl := passF_le s s.size k hk
        obtain ⟨p, ok, hp⟩ : ∃ p ok, passF s s.size k = (p, ok) := ⟨_, _, rfl⟩
        rw [hp] at hxp
        have hp1 : k ≤ p := by rw [hp] at hpl; exact hpl.1
        have hp2 : p ≤ s.size := by rw [hp] at hpl; exact hpl.2
        have Hp := hide hp
        have Hxp := hide hxp
        clear hp hxp hpl
        go_wp2_with fail
        refine (unhide Hxp).mono ?_
        rintro e w' ⟨rfl, he⟩
        obtain rfl : wr = w' := he.symm
        clear he Hxp
        cases ok with
        | false =>
          have Hend : Hid (TokA W.heap.size wr (.returned (.tuple #[.slice none 0 0, .int .i64 (p : Int), .int .i64 43])) (tokR s)) := by
            show TokA _ _ _ _
            rw [unhide Hr, unhide Hq, tkG_noend (unhide Hp)]
            exact ⟨by decide, rfl⟩
          clear Hq Hr Hp
          go_wp2
          go_ret3
          exact ⟨unhide HB, unhide Hend⟩
        | true =>
          by_cases hps : p = s.size
          · subst hps
            have q1 : ((s.size : Int) == (s.size : Int)) = true := by simp
            have O1 : Hid (n + 1 ≤ maxLen) := by show _ ≤ _; unfold maxLen; omega
            have O2 : Hid ((n + 1) * 32 ≤ 140737488355328) := by show _ ≤ _; omega
            have Ht : Hid (tokR s = .inl (pre ++ [⟨5, s.size, ⟨#[]⟩⟩])) := by show _ = _; rw [unhide Hr, unhide Hq, tkG_end (unhide Hp)]; rfl
            clear Hq Hr Hp
            go_wp2_with (at_builtin; refine wpList_append_own_at _ rfl _ _ 36 rfl W.heap.size 38 i0 (.agg #[.int .i64 0, .int .i64 0, .string ⟨#[]⟩]) 3 32 Tryz.underlying36 hi hz0 hz1 hz2 rfl (by decide) _ _ _ rfl ((unhide HR).alloc _) ⟨wr.heap.size, 0, none⟩ 1 1 [.int .i64 5, .int .i64 (s.size : Int), .string ⟨#[]⟩] rfl rfl (cells_lit _ _ _) (by simp [Value.oneCell']) (unhide O1) (unhide O2) (by rw [World.size_alloc]; omega) ?_; intro v4 w4 hown4 hgrow4 _ hat4; have Hx4 : Hid (Ext wr (.slice va n vc) w4 v4) := Ext.grown hgrow4 hat4; have HR4 := hide hown4; clear hown4 hgrow4 hat4)
            have HB4 : Hid (Below W.heap.size W w4) := (unhide HB).trans ((unhide Hx4).below hWr (fun q e => ((unhide HR).lt q e).1))
            obtain ⟨a4, c4, rfl⟩ := rowShape (unhide HR4)
            go_ret3
            refine ⟨unhide HB4, ?_⟩
            rw [unhide Ht]
            refine ⟨_, rfl, ?_⟩
            rw [tcells_app, List.length_append, ← unhide Hn]
            exact unhide HR4
          · have q1 : ((p : Int) == (s.size : Int)) = false := beq_eq_false_iff_ne.2 (by omega)
            have hps2 : p < s.size := by omega
            by_cases hn3 : n = 16383
            · subst hn3
              have Hend : Hid (TokA W.heap.size wr (.returned (.tuple #[.slice none 0 0, .int .i64 (p : Int), .int .i64 45])) (tokR s)) := by
                show TokA _ _ _ _
                rw [unhide Hr, unhide Hq, tkG_full hps2 (unhide Hp)]
                exact ⟨by decide, rfl⟩
              clear Hq Hr Hp
              go_wp2
              go_ret3
              exact ⟨unhide HB, unhide Hend⟩
            · have hn4 : n < 16383 := by omega
              have q2 : ((n : Int) == 16383) = false := beq_eq_false_iff_ne.2 (by omega)
              have hxo := xone_any wr s p hps2 hs
              have hol := fun h => oneF_le (s := s) hps2 h
              obtain ⟨t, en, er, ho⟩ : ∃ t en er, oneF s p = (t, en, er) := ⟨_, _, _, rfl⟩
              rw [ho] at hxo hol
              have Ho := hide ho
              have Hxo := hide hxo
              have Hol := hide hol
              clear ho hxo hol hps hn3
              go_wp2_with fail
              refine (unhide Hxo).mono ?_
              rintro e w2 ⟨rfl, hb2⟩
              have HB2 : Hid (Below W.heap.size W w2) := (unhide HB).trans (hb2.mono hWr)
              have HR2 : Hid (w2.ownsRow W.heap.size 38 3 (.slice va n vc) n (tcells pre)) := rowUp (unhide HR) hb2
              clear hb2 HB HR Hxo
              by_cases her : er = 0
              · subst her
                obtain ⟨l1, l2⟩ : p < en ∧ en ≤ s.size := unhide Hol rfl
                have O1 : Hid (n + 1 ≤ maxLen) := by show _ ≤ _; unfold maxLen; omega
                have O2 : Hid ((n + 1) * 32 ≤ 140737488355328) := by show _ ≤ _; omega
                have Hq2 : Hid (tk s 0 0 = frontT (pre ++ [⟨t, p, s.extract p en⟩]) (tk s en (n + 1))) := by show _ = _; rw [unhide Hq, tkG_tok hps2 (unhide Hp) hn4 (unhide Ho), frontT_cons]
                have HR := HR2
                have p0 : (0 : Int) ≤ (p : Int) := Int.natCast_nonneg _
                have p1 : (p : Int) ≤ (en : Int) := by omega
                have p2 : (en : Int) ≤ (s.size : Int) := by omega
                have hW2 : W.heap.size ≤ w2.heap.size := (unhide HB2).size
                clear Hq Hp Ho Hol HR2
                go_wp2_with (at_builtin; refine wpList_append_own_at _ rfl _ _ 36 rfl W.heap.size 38 i0 (.agg #[.int .i64 0, .int .i64 0, .string ⟨#[]⟩]) 3 32 Tryz.underlying36 hi hz0 hz1 hz2 rfl (by decide) _ _ _ rfl ((unhide HR).alloc _) ⟨w2.heap.size, 0, none⟩ 1 1 [.int .i64 (t : Int), .int .i64 (p : Int), .string (s.extract p en)] rfl rfl (cells_lit _ _ _) (by simp [Value.oneCell']) (unhide O1) (unhide O2) (by rw [World.size_alloc]; omega) ?_; intro v4 w4 hown4 hgrow4 _ hat4; have Hx4 : Hid (Ext w2 (.slice va n vc) w4 v4) := Ext.grown hgrow4 hat4; have HR4 := hide hown4; clear hown4 hgrow4 hat4)
                have HB4 : Hid (Below W.heap.size W w4) := (unhide HB2).trans ((unhide Hx4).below hW2 (fun q e => ((unhide HR).lt q e).1))
                obtain ⟨a4, c4, rfl⟩ := rowShape (unhide HR4)
                have HR5 : Hid (w4.ownsRow W.heap.size 38 3 (.slice a4 (n + 1) c4) (n + 1) (tcells (pre ++ [⟨t, p, s.extract p en⟩]))) := by rw [tcells_app]; exact unhide HR4
                clear HR4 Hx4 HR
                go_roundg (s.size - en)
                case measure => have := unhide Hgk; omega
                case rel => exact ⟨en, n + 1, _, a4, c4, rfl, rfl, rfl, l2, by rw [List.length_append, ← unhide Hn]; rfl, by omega, HR5, Hq2, HB4⟩
              · have q3 : ((er : Int) != 0) = true := by simp; omega
                have Hend : Hid (TokA W.heap.size w2 (.returned (.tuple #[.slice none 0 0, .int .i64 (p : Int), .int .i64 (er : Int)])) (tokR s)) := by
                  show TokA _ _ _ _
                  rw [unhide Hr, unhide Hq, tkG_err hps2 (unhide Hp) hn4 (by rw [unhide Ho]) her]
                  exact ⟨her, rfl⟩
                clear Hq Hr Hp Ho Hol
                go_wp2
                go_ret3
                exact ⟨unhide HB2, unhide Hend⟩
end Go.Proofs.YtckpainohfhopaaGreatDoor
