import Derived.Test.YtlblllghgdfpoaaDoorJ20
import Derived.Test.YtlblllghgdfpoaaDoorJ30
import Derived.Test.YtlblllghgdfpoaaDoorDRe
import Derived.Test.YtlblllghgdfpoaaDoorJ36

namespace Go.Proofs.YtlblllghgdfpoaaDoor
open Go.RowKit
attribute [local go_sem ↓] Go.wp_at_zero Go.wp_at_succ

set_option maxRecDepth 100000 in
set_option maxHeartbeats 2000000 in
theorem xdomain_any {W : World} (hX : HasX W) {s : ByteArray} {v : Value} {ls : List (List Nat)} (h : HasBB W v ls) (hl : ∀ l ∈ ls, Byt l) (hs : s.size ≤ 140737488351232) (hn : ls.length ≤ 5864062014634 ∧ ∀ l ∈ ls, l.length ≤ 140737488351232) :
    Calls Tryd.prog 40 #[.string s, v] W fun e W' => ∃ v', e = .returned (.tuple #[v', .int .i64 (domainA s ls).1]) ∧ (HasB W' v' (domainA s ls).2 ∧ ∃ n c, v' = .slice n (domainA s ls).2.length c) ∧ Below W.heap.size W W' := by
  obtain ⟨i0, hi, hz0, hz1, hz2⟩ := info_parts Tryd.infoBytes
  obtain ⟨c1, w1, cv, hB1, hb1, hs1⟩ := str_bytes W s (by omega)
  have n3 := all_lim (ls := ls) hs hn.2
  have hab := all_byt (s := s) hl
  have hN := hn.1
  obtain ⟨w2, hw2⟩ : ∃ w2, w2 = w1.alloc (.cells #[.slice (some ⟨W.heap.size, 0, none⟩) s.size c1] 29) := ⟨_, rfl⟩
  have b2 : Below w1.heap.size w1 w2 := by rw [hw2]; exact (Below.refl _ _).alloc (Nat.le_refl _) _
  have hO2 : OldBB w1 w2 (.slice (some ⟨W.heap.size + 1, 0, none⟩) 1 1) [.slice (some ⟨W.heap.size, 0, none⟩) s.size c1] (sl s :: ls.take 0) := by
    refine ⟨⟨rfl, .inr ⟨W.heap.size + 1, 1, #[.slice (some ⟨W.heap.size, 0, none⟩) s.size c1], rfl, by omega, ?_, Nat.le_refl _, by unfold maxLen; decide, rfl, rfl⟩⟩, fun j u l hu hl => ?_⟩
    · rw [hw2, ← hs1]
      exact heap_new _ _
    · match j, hu, hl with
      | 0, hu, hl =>
        injection hu with hu
        injection hl with hl
        subst hu hl
        exact hB1
      | j + 1, hu, _ => simp at hu
  have Hh : Hid (HasBB w1 v ls) := h.up hb1
  obtain ⟨va, vc, rfl, hm, _⟩ := id h
  have hvc : vc ≤ 9223372036854775807 := by have := hm.2.1; unfold maxLen at this; omega
  have hvc2 := hm.1
  have HO2 := hide hO2
  have Hb2 := hide b2
  have Hb1 := hide hb1
  have Hw2 := hide hw2
  have Hab := hide hab
  have Hn3 := hide n3
  obtain ⟨PA, hPA⟩ : ∃ PA, domainA s ls = PA := ⟨_, rfl⟩
  rw [hPA]
  have HPA := hide hPA
  clear hO2 b2 hb1 hw2 hm h hB1 hab n3 hn hPA
  go_enter Tryd.func40, Tryd.ntmps40
  go_wp2
  rw [← unhide Hw2]
  go_loopg [6, 7] ls.length (fun gk v6 v7 wr => ∃ (i : Nat) (us : List Value), v7 = .int .i64 (i : Int) ∧ gk = ls.length - i ∧ i ≤ ls.length ∧ Hid (OldBB w1 wr v6 us (sl s :: ls.take i)) ∧ Hid (Below w1.heap.size w1 wr))
  case atStart => exact ⟨0, _, rfl, rfl, by omega, HO2, Hb2⟩
  case round =>
    clear HO2 Hb2 Hw2 cv
    obtain ⟨i, us, rfl, hgk, hk, HO, HB⟩ := hrel
    have Hgk := hide hgk
    clear hgk
    have hszB := (unhide HB).size
    by_cases hlt : i < ls.length
    · obtain ⟨a', c', e', _, h3⟩ := unhide Hh
      injection e' with ea _ ec
      subst ea ec
      obtain ⟨g, off, rfl, hg, hc⟩ := h3 (by omega)
      obtain ⟨l, hx⟩ : ∃ x, ls[i]? = some x := ⟨_, List.getElem?_eq_getElem hlt⟩
      obtain ⟨u, hu, hBu⟩ := hc i l hx
      have cu := ((unhide HB).cell (p := ⟨g, off + i, none⟩) hg).trans hu
      have Hnx : Hid (sl s :: ls.take (i + 1) = (sl s :: ls.take i) ++ [l]) := by show _ = _; rw [List.take_add_one, hx]; rfl
      have He : Hid (∀ (j : Nat) (u' : Value) (l' : List Nat), [u][j]? = some u' → [l][j]? = some l' → HasB w1 u' l') := fun j u' l' h1 h2 => by
        match j, h1, h2 with
        | 0, h1, h2 =>
          injection h1 with h1
          injection h2 with h2
          subst h1 h2
          exact hBu
        | j + 1, h1, _ => simp at h1
      obtain ⟨ua, uc, rfl, _, _⟩ := hBu
      have hll : (sl s :: ls.take i).length = i + 1 := by rw [List.length_cons, List.length_take]; omega
      have O1 : Hid ((sl s :: ls.take i).length + 1 ≤ maxLen) := by show _ ≤ _; rw [hll]; unfold maxLen; omega
      have O2 : Hid (((sl s :: ls.take i).length + 1) * 24 ≤ 140737488355328) := by show _ ≤ _; rw [hll]; omega
      have i0' : (0 : Int) ≤ (i : Int) := Int.natCast_nonneg _
      have i1' : (i : Int) < (ls.length : Int) := by omega
      clear hc hx hu h3 hll
      go_wp2_with (at_builtin; refine wpList_append_own_at _ rfl _ _ 22 rfl w1.heap.size 29 i0 (.slice none 0 0) 1 24 Tryd.underlying22 hi hz0 hz1 hz2 rfl (by decide) _ _ _ rfl ((unhide HO).row.alloc _) ⟨wr.heap.size, 0, none⟩ 1 1 [.slice ua l.length uc] rfl rfl (cell_one_new _ _ _) (by simp [Value.oneCell']) (unhide O1) (unhide O2) (by rw [World.size_alloc]; omega) ?_; intro v8 w8 hown8 hgrow8 hdrop8 hat8; clear hdrop8 hat8; have HO8 := hide ((unhide HO).join (ls' := [l]) hown8 (unhide He)); have Hb8 : Hid (Below w1.heap.size w1 w8) := below_grow0 (unhide HB) hszB hgrow8 (fun b hb => ((unhide HO).row.lt b hb).1); clear hown8 hgrow8)
      go_roundg (ls.length - (i + 1))
      case measure => have := unhide Hgk; omega
      case rel =>
        refine ⟨i + 1, us ++ [.slice ua l.length uc], by go_num, rfl, by omega, ?_, Hb8⟩
        show OldBB _ _ _ _ _
        rw [unhide Hnx]
        exact unhide HO8
    · obtain rfl : i = ls.length := by omega
      have hO9 := unhide HO
      rw [List.take_length] at hO9
      have hH9 := hO9.has (unhide HB)
      have hvs : ∃ x y z, u6 = .slice x y z := by obtain ⟨x, y, e, _⟩ := id hH9; exact ⟨_, _, _, e⟩
      obtain ⟨x6, y6, z6, rfl⟩ := hvs
      have b09 : Below W.heap.size W wr := (unhide Hb1).trans ((unhide HB).mono (by omega))
      clear hO9 HO HB Hh
      by_cases hok : (sl s :: ls).length ≤ 65536 ∧ 4 + fsize (sl s :: ls) ≤ 67108864
      · have e0 : PA = (0, sha (frameL (sl s :: ls))) := (unhide HPA).symm.trans (domainA_ok hok)
        clear HPA
        subst e0
        have hfr := xframe_all (ls := sl s :: ls) hH9 (unhide Hn3)
        rw [frameA_ok hok] at hfr
        have Hfr := hide hfr
        clear hfr
        go_wp2_with fail
        refine (unhide Hfr).mono ?_
        rintro e w5 ⟨v5, a5, c5, rfl, hB5, hv5, hb5⟩
        have b05 : Below W.heap.size W w5 := b09.trans (hb5.mono b09.size)
        subst hv5
        clear hb5 Hfr
        have hsum := xsum_any (hX.up b05) hB5 (frameL_byt (unhide Hab)) (by rw [frameL_len]; omega)
        have Hsum := hide hsum
        clear hsum hB5
        go_wp2_with fail
        refine (unhide Hsum).mono ?_
        rintro e w6 ⟨v6, rfl, hB6, hb6⟩
        have B06 : Hid (Below W.heap.size W w6) := b05.trans (hb6.mono b05.size)
        have HB6 := hide hB6.has
        have hvs : ∃ x y, v6 = .slice x (sha (frameL (sl s :: ls))).length y := by obtain ⟨x, y, e, _⟩ := id hB6.has; exact ⟨_, _, e⟩
        obtain ⟨x6, z6, rfl⟩ := hvs
        clear hB6 hb6 Hsum
        go_wp2
        go_ret2
        exact ⟨_, rfl, ⟨unhide HB6, _, _, rfl⟩, unhide B06⟩
      · have e0 : PA = (2, []) := (unhide HPA).symm.trans (domainA_no hok)
        clear HPA
        subst e0
        have hfr := xframe_all (ls := sl s :: ls) hH9 (unhide Hn3)
        rw [frameA_no hok] at hfr
        have Hfr := hide hfr
        clear hfr
        go_wp2_with fail
        refine (unhide Hfr).mono ?_
        rintro e w5 ⟨v5, a5, c5, rfl, hB5, hv5, hb5⟩
        have B05 : Hid (Below W.heap.size W w5) := b09.trans (hb5.mono b09.size)
        subst hv5
        clear hb5 Hfr hB5
        go_wp2
        go_ret2
        exact ⟨_, rfl, ⟨hasB_nil _, _, _, rfl⟩, unhide B05⟩
end Go.Proofs.YtlblllghgdfpoaaDoor

namespace Go.Proofs.YtlblllghgdfpoaaDoor
open Go.RowKit
attribute [local go_sem ↓] Go.wp_at_zero Go.wp_at_succ

set_option maxRecDepth 100000 in
set_option maxHeartbeats 2000000 in
theorem xdomain_own {W : World} (hX : HasX W) {s : ByteArray} {v : Value} {ls : List (List Nat)} (h : HasBB W v ls) (hl : ∀ l ∈ ls, Byt l) (hs : s.size ≤ 140737488351232) (hn : ls.length ≤ 5864062014634 ∧ ∀ l ∈ ls, l.length ≤ 140737488351232) :
    Calls Tryd.prog 40 #[.string s, v] W fun e W' => ∃ v', e = .returned (.tuple #[v', .int .i64 (domainA s ls).1]) ∧ (Bytes W.heap.size W' v' (domainA s ls).2 ∧ ∃ n c, v' = .slice n (domainA s ls).2.length c) ∧ Below W.heap.size W W' := by
  obtain ⟨i0, hi, hz0, hz1, hz2⟩ := info_parts Tryd.infoBytes
  obtain ⟨c1, w1, cv, hB1, hb1, hs1⟩ := str_bytes W s (by omega)
  have n3 := all_lim (ls := ls) hs hn.2
  have hab := all_byt (s := s) hl
  have hN := hn.1
  obtain ⟨w2, hw2⟩ : ∃ w2, w2 = w1.alloc (.cells #[.slice (some ⟨W.heap.size, 0, none⟩) s.size c1] 29) := ⟨_, rfl⟩
  have b2 : Below w1.heap.size w1 w2 := by rw [hw2]; exact (Below.refl _ _).alloc (Nat.le_refl _) _
  have hO2 : OldBB w1 w2 (.slice (some ⟨W.heap.size + 1, 0, none⟩) 1 1) [.slice (some ⟨W.heap.size, 0, none⟩) s.size c1] (sl s :: ls.take 0) := by
    refine ⟨⟨rfl, .inr ⟨W.heap.size + 1, 1, #[.slice (some ⟨W.heap.size, 0, none⟩) s.size c1], rfl, by omega, ?_, Nat.le_refl _, by unfold maxLen; decide, rfl, rfl⟩⟩, fun j u l hu hl => ?_⟩
    · rw [hw2, ← hs1]
      exact heap_new _ _
    · match j, hu, hl with
      | 0, hu, hl =>
        injection hu with hu
        injection hl with hl
        subst hu hl
        exact hB1
      | j + 1, hu, _ => simp at hu
  have Hh : Hid (HasBB w1 v ls) := h.up hb1
  obtain ⟨va, vc, rfl, hm, _⟩ := id h
  have hvc : vc ≤ 9223372036854775807 := by have := hm.2.1; unfold maxLen at this; omega
  have hvc2 := hm.1
  have HO2 := hide hO2
  have Hb2 := hide b2
  have Hb1 := hide hb1
  have Hw2 := hide hw2
  have Hab := hide hab
  have Hn3 := hide n3
  obtain ⟨PA, hPA⟩ : ∃ PA, domainA s ls = PA := ⟨_, rfl⟩
  rw [hPA]
  have HPA := hide hPA
  clear hO2 b2 hb1 hw2 hm h hB1 hab n3 hn hPA
  go_enter Tryd.func40, Tryd.ntmps40
  go_wp2
  rw [← unhide Hw2]
  go_loopg [6, 7] ls.length (fun gk v6 v7 wr => ∃ (i : Nat) (us : List Value), v7 = .int .i64 (i : Int) ∧ gk = ls.length - i ∧ i ≤ ls.length ∧ Hid (OldBB w1 wr v6 us (sl s :: ls.take i)) ∧ Hid (Below w1.heap.size w1 wr))
  case atStart => exact ⟨0, _, rfl, rfl, by omega, HO2, Hb2⟩
  case round =>
    clear HO2 Hb2 Hw2 cv
    obtain ⟨i, us, rfl, hgk, hk, HO, HB⟩ := hrel
    have Hgk := hide hgk
    clear hgk
    have hszB := (unhide HB).size
    by_cases hlt : i < ls.length
    · obtain ⟨a', c', e', _, h3⟩ := unhide Hh
      injection e' with ea _ ec
      subst ea ec
      obtain ⟨g, off, rfl, hg, hc⟩ := h3 (by omega)
      obtain ⟨l, hx⟩ : ∃ x, ls[i]? = some x := ⟨_, List.getElem?_eq_getElem hlt⟩
      obtain ⟨u, hu, hBu⟩ := hc i l hx
      have cu := ((unhide HB).cell (p := ⟨g, off + i, none⟩) hg).trans hu
      have Hnx : Hid (sl s :: ls.take (i + 1) = (sl s :: ls.take i) ++ [l]) := by show _ = _; rw [List.take_add_one, hx]; rfl
      have He : Hid (∀ (j : Nat) (u' : Value) (l' : List Nat), [u][j]? = some u' → [l][j]? = some l' → HasB w1 u' l') := fun j u' l' h1 h2 => by
        match j, h1, h2 with
        | 0, h1, h2 =>
          injection h1 with h1
          injection h2 with h2
          subst h1 h2
          exact hBu
        | j + 1, h1, _ => simp at h1
      obtain ⟨ua, uc, rfl, _, _⟩ := hBu
      have hll : (sl s :: ls.take i).length = i + 1 := by rw [List.length_cons, List.length_take]; omega
      have O1 : Hid ((sl s :: ls.take i).length + 1 ≤ maxLen) := by show _ ≤ _; rw [hll]; unfold maxLen; omega
      have O2 : Hid (((sl s :: ls.take i).length + 1) * 24 ≤ 140737488355328) := by show _ ≤ _; rw [hll]; omega
      have i0' : (0 : Int) ≤ (i : Int) := Int.natCast_nonneg _
      have i1' : (i : Int) < (ls.length : Int) := by omega
      clear hc hx hu h3 hll
      go_wp2_with (at_builtin; refine wpList_append_own_at _ rfl _ _ 22 rfl w1.heap.size 29 i0 (.slice none 0 0) 1 24 Tryd.underlying22 hi hz0 hz1 hz2 rfl (by decide) _ _ _ rfl ((unhide HO).row.alloc _) ⟨wr.heap.size, 0, none⟩ 1 1 [.slice ua l.length uc] rfl rfl (cell_one_new _ _ _) (by simp [Value.oneCell']) (unhide O1) (unhide O2) (by rw [World.size_alloc]; omega) ?_; intro v8 w8 hown8 hgrow8 hdrop8 hat8; clear hdrop8 hat8; have HO8 := hide ((unhide HO).join (ls' := [l]) hown8 (unhide He)); have Hb8 : Hid (Below w1.heap.size w1 w8) := below_grow0 (unhide HB) hszB hgrow8 (fun b hb => ((unhide HO).row.lt b hb).1); clear hown8 hgrow8)
      go_roundg (ls.length - (i + 1))
      case measure => have := unhide Hgk; omega
      case rel =>
        refine ⟨i + 1, us ++ [.slice ua l.length uc], by go_num, rfl, by omega, ?_, Hb8⟩
        show OldBB _ _ _ _ _
        rw [unhide Hnx]
        exact unhide HO8
    · obtain rfl : i = ls.length := by omega
      have hO9 := unhide HO
      rw [List.take_length] at hO9
      have hH9 := hO9.has (unhide HB)
      have hvs : ∃ x y z, u6 = .slice x y z := by obtain ⟨x, y, e, _⟩ := id hH9; exact ⟨_, _, _, e⟩
      obtain ⟨x6, y6, z6, rfl⟩ := hvs
      have b09 : Below W.heap.size W wr := (unhide Hb1).trans ((unhide HB).mono (by omega))
      clear hO9 HO HB Hh
      by_cases hok : (sl s :: ls).length ≤ 65536 ∧ 4 + fsize (sl s :: ls) ≤ 67108864
      · have e0 : PA = (0, sha (frameL (sl s :: ls))) := (unhide HPA).symm.trans (domainA_ok hok)
        clear HPA
        subst e0
        have hfr := xframe_all (ls := sl s :: ls) hH9 (unhide Hn3)
        rw [frameA_ok hok] at hfr
        have Hfr := hide hfr
        clear hfr
        go_wp2_with fail
        refine (unhide Hfr).mono ?_
        rintro e w5 ⟨v5, a5, c5, rfl, hB5, hv5, hb5⟩
        have b05 : Below W.heap.size W w5 := b09.trans (hb5.mono b09.size)
        subst hv5
        clear hb5 Hfr
        have hsum := xsum_any (hX.up b05) hB5 (frameL_byt (unhide Hab)) (by rw [frameL_len]; omega)
        have Hsum := hide hsum
        clear hsum hB5
        go_wp2_with fail
        refine (unhide Hsum).mono ?_
        rintro e w6 ⟨v6, rfl, hB6, hb6⟩
        have B06 : Hid (Below W.heap.size W w6) := b05.trans (hb6.mono b05.size)
        have HB6 : Hid (Bytes W.heap.size w6 v6 (sha (frameL (sl s :: ls)))) := own_lower hB6 b05.size
        have hvs : ∃ x y, v6 = .slice x (sha (frameL (sl s :: ls))).length y := by obtain ⟨x, y, e, _⟩ := id hB6.has; exact ⟨_, _, e⟩
        obtain ⟨x6, z6, rfl⟩ := hvs
        clear hB6 hb6 Hsum
        go_wp2
        go_ret2
        exact ⟨_, rfl, ⟨unhide HB6, _, _, rfl⟩, unhide B06⟩
      · have e0 : PA = (2, []) := (unhide HPA).symm.trans (domainA_no hok)
        clear HPA
        subst e0
        have hfr := xframe_all (ls := sl s :: ls) hH9 (unhide Hn3)
        rw [frameA_no hok] at hfr
        have Hfr := hide hfr
        clear hfr
        go_wp2_with fail
        refine (unhide Hfr).mono ?_
        rintro e w5 ⟨v5, a5, c5, rfl, hB5, hv5, hb5⟩
        have B05 : Hid (Below W.heap.size W w5) := b09.trans (hb5.mono b09.size)
        subst hv5
        clear hb5 Hfr hB5
        go_wp2
        go_ret2
        exact ⟨_, rfl, ⟨bytes_nil _ _, _, _, rfl⟩, unhide B05⟩
set_option maxRecDepth 100000 in
theorem xframe_own {W : World} {v : Value} {ls : List (List Nat)} (h : HasBB W v ls) (hn : ls.length ≤ 65536) (hf : 4 + fsize ls ≤ 67108864) :
    Calls Tryd.prog 39 #[v] W fun e W' => ∃ v', e = .returned (.tuple #[v', .int .i64 0]) ∧ Bytes W.heap.size W' v' (frameL ls) ∧ Below W.heap.size W W' := by
  refine (xframe_any h (fun _ => by omega)).mono ?_
  rintro e W' ⟨v', z, rfl, hb, ⟨-, rfl, h2⟩ | ⟨h1, -⟩⟩
  · exact ⟨v', rfl, h2, hb⟩
  · omega
set_option maxRecDepth 100000 in
theorem xroot_own {W : World} (hX : HasX W) {v : Value} {ls : List (List Nat)} (h : HasBB W v ls) (hb : ∀ l ∈ ls, Byt l ∧ l.length ≤ 140737488351232) (hn : ls.length ≤ 65536) :
    Calls Tryd.prog 41 #[v] W fun e W' => ∃ v', e = .returned (.tuple #[v', .int .i64 0]) ∧ Bytes W.heap.size W' v' (rootF 65536 ls) ∧ Below W.heap.size W W' := by
  have hr := xover_any 65536 hX h hb (by omega) (by omega)
  have Hr := hide hr
  obtain ⟨va, vc, rfl, _, _⟩ := h
  have q0 : decide (65536 < (ls.length : Int)) = false := decide_eq_false (by omega)
  clear hr
  go_enter Tryd.func41, Tryd.ntmps41
  go_wp2_with fail
  refine (unhide Hr).mono ?_
  rintro e w2 ⟨v2, rfl, hB2, hb2⟩
  obtain ⟨x, y, hv⟩ : ∃ x y, v2 = .slice x (rootF 65536 ls).length y := by obtain ⟨x, y, e, _⟩ := id hB2.has; exact ⟨_, _, e⟩
  subst hv
  have HB := hide hB2
  have Hb := hide hb2
  clear hB2 hb2 Hr
  go_wp2
  go_ret2
  exact ⟨_, rfl, unhide HB, unhide Hb⟩
set_option maxRecDepth 100000 in
theorem xprove_own {W : World} (hX : HasX W) {v : Value} {ls : List (List Nat)} {at' : Nat} (h : HasBB W v ls) (hb : ∀ l ∈ ls, Byt l ∧ l.length ≤ 140737488351232) (hn : ls.length ≤ 65536) (ha : at' < ls.length) :
    Calls Tryd.prog 44 #[v, .int .i64 (at' : Int)] W fun e W' => ∃ v', e = .returned (.tuple #[v', .int .i64 0]) ∧ (∃ us, OwnBB W.heap.size W.heap.size W' v' us (wayF 65536 ls at')) ∧ Below W.heap.size W W' := by
  have q0 : decide (65536 < (ls.length : Int)) = false := decide_eq_false (by omega)
  have q1 : decide ((at' : Int) < 0) = false := decide_eq_false (by omega)
  have q2 : ¬ ls.length ≤ at' := by omega
  have hr := xway_any 65536 (at' := at') hX h hb (by omega) (by omega) (by omega) (by omega)
  have Hr := hide hr
  obtain ⟨va, vc, rfl, _, _⟩ := h
  clear hr hn ha
  go_enter Tryd.func44, Tryd.ntmps44
  go_wp2_with fail
  refine (unhide Hr).mono ?_
  rintro e w2 ⟨v2, rfl, ⟨us2, hO2⟩, hb2⟩
  obtain ⟨x, y, c, hv⟩ : ∃ x y z, v2 = .slice x y z := by obtain ⟨x, y, e, _⟩ := id hO2.has; exact ⟨_, _, _, e⟩
  subst hv
  have HB := hide hO2
  have Hb := hide hb2
  clear hO2 hb2 Hr
  go_wp2
  go_ret2
  exact ⟨_, rfl, ⟨us2, unhide HB⟩, unhide Hb⟩
end Go.Proofs.YtlblllghgdfpoaaDoor
