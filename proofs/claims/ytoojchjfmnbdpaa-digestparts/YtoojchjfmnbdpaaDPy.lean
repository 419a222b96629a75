import Derived.Test.YtoojchjfmnbdpaaDPx
namespace Go.Proofs.Ytoojchjfmnbdpaa
open Go.RowKit
attribute [local go_sem ↓] Go.wp_at_zero Go.wp_at_succ

theorem partsA_cases {l : List Nat} (hlong : ¬ 67108864 < l.length) (h4 : ¬ l.length < 4) : partsA l = if 65536 < leN l then ((30, []) : Int × List (List Nat)) else partsT (takeParts (leN l) (l.drop 4)) := by
  unfold partsA partsL
  rw [if_neg hlong]
  by_cases hbig : 65536 < leN l
  · rw [if_pos (.inr hbig), if_pos hbig]
  · rw [if_neg (by omega), if_neg hbig]
    rcases takeParts (leN l) (l.drop 4) with _ | ⟨ps, _ | ⟨x, r⟩⟩ <;> rfl
set_option maxRecDepth 100000 in
set_option maxHeartbeats 2000000 in
theorem xparts_any {W : World} {v : Value} {l : List Nat} (h : HasB W v l) (hl : Byt l) (hs : l.length ≤ 140737488351232) :
    Calls Try.prog 20 #[v] W fun e W' => ∃ v', e = .returned (.tuple #[v', .int .i64 (partsA l).1]) ∧ (∃ us, OwnBB W.heap.size W.heap.size W' v' us (partsA l).2) ∧ Below W.heap.size W W' := by
  obtain ⟨i0, hi, hz0, hz1, hz2⟩ := info_parts Try.infoBytes
  obtain ⟨j0, hj, hy0, hy1, hy2⟩ := info_parts Try.infoByte
  have Hh := hide h
  obtain ⟨a, c, rfl, hm, h3⟩ := h
  have H3 := hide h3
  have hc1 : c ≤ 9223372036854775807 := by have := hm.2.1; unfold maxLen at this; omega
  have hc2 := hm.1
  clear hm h3
  by_cases hlong : 67108864 < l.length
  · have q0 : decide (67108864 < (l.length : Int)) = true := by simp; omega
    have e0 : partsA l = (2, []) := by unfold partsA; rw [if_pos hlong]
    rw [e0]
    go_enter Try.func20, Try.ntmps20
    go_wp2
    go_ret2
    exact ⟨_, rfl, ⟨_, ownBB_nil _ _ _⟩, Below.refl _ _⟩
  · have q0 : decide (67108864 < (l.length : Int)) = false := by simp; omega
    by_cases h4 : l.length < 4
    · have e0 : partsA l = (30, []) := by unfold partsA partsL; rw [if_neg hlong, if_pos (.inl h4)]
      rw [e0]
      have hs := xnumber_short (unhide Hh) 0 hs (by omega) (by omega)
      have Hs := hide hs
      clear hs
      go_enter Try.func20, Try.ntmps20
      go_wp2_with fail
      refine (unhide Hs).mono ?_
      rintro e w' ⟨rfl, he⟩
      obtain rfl : W = w' := he.symm
      go_wp2
      go_ret2
      exact ⟨_, rfl, ⟨_, ownBB_nil _ _ _⟩, Below.refl _ _⟩
    · have hnum := xnumber_ok (unhide Hh) hl 0 hs (by omega)
      rw [List.drop_zero] at hnum
      have eP := partsA_cases hlong h4
      obtain ⟨N, hN⟩ : ∃ N, leN l = N := ⟨_, rfl⟩
      rw [hN] at hnum eP
      have Hn := hide hnum
      have HP := hide eP
      have Hl := hide hl
      clear hnum hN eP hl
      have qn : decide ((N : Int) < 0) = false := decide_eq_false (by omega)
      by_cases hbig : 65536 < N
      · have q1 : decide (65536 < (N : Int)) = true := by simp; omega
        have e0 : partsA l = (30, []) := by have := unhide HP; rwa [if_pos hbig] at this
        rw [e0]
        go_enter Try.func20, Try.ntmps20
        go_wp2_with fail
        refine (unhide Hn).mono ?_
        rintro e w' ⟨rfl, m, rfl⟩
        go_wp2
        go_ret2
        exact ⟨_, rfl, ⟨_, ownBB_nil _ _ _⟩, below_drewN (Below.refl _ _) m⟩
      · have q1 : decide (65536 < (N : Int)) = false := by simp; omega
        obtain ⟨PA, hPA⟩ : ∃ PA, partsA l = PA := ⟨_, rfl⟩
        rw [hPA] at HP ⊢
        have eP := unhide HP
        rw [if_neg hbig] at eP
        have HP1 := hide eP
        clear eP HP hPA
        go_enter Try.func20, Try.ntmps20
        go_wp2_with fail
        refine (unhide Hn).mono ?_
        rintro e w' ⟨rfl, m, rfl⟩
        have hb0 : Hid (Below W.heap.size W (W.drewN m)) := below_drewN (Below.refl _ _) m
        go_wp2
        go_loopg [5, 6, 7] N (fun gk v5 v6 v7 wr => ∃ (i p : Nat) (acc : List (List Nat)) (us : List Value), v7 = .int .i64 (i : Int) ∧ v5 = .int .i64 (p : Int) ∧ gk = N - i ∧ i ≤ N ∧ p ≤ l.length ∧ Hid (SoFar N i (l.drop 4) (l.drop p) acc) ∧ acc.length = i ∧ Hid (OwnBB W.heap.size W.heap.size wr v6 us acc) ∧ Hid (Below W.heap.size W wr))
        case atStart => exact ⟨0, 4, [], [], rfl, rfl, rfl, by omega, by omega, soFar_zero _ _, rfl, ownBB_nil _ _ _, hb0⟩
        case round =>
          clear hb0
          obtain ⟨i, p, acc, us, rfl, rfl, hgk, hk, hpl, HS, hal, HO, HB⟩ := hrel
          have Hgk := hide hgk
          clear hgk
          have hsz := (unhide HB).size
          by_cases hlt : i < N
          · have hkN : (i : Int) < (N : Int) := by omega
            by_cases h4' : l.length < p + 4
            · have hpo : partOf (l.drop p) = none := by unfold partOf; rw [if_pos (.inl (by rw [List.length_drop]; omega))]
              have hnone := (unhide HS).none hlt hpo
              have e0 : PA = (30, []) := by have := unhide HP1; rwa [hnone] at this
              have hnum := xnumber_short ((unhide Hh).up (unhide HB)) p hs hpl h4'
              have Hnum := hide hnum
              subst e0
              clear hnum hpo hnone
              go_wp2_with fail
              refine (unhide Hnum).mono ?_
              rintro e w' ⟨rfl, he⟩
              obtain rfl : wr = w' := he.symm
              go_wp2
              go_ret2
              exact ⟨_, rfl, ⟨_, ownBB_nil _ _ _⟩, unhide HB⟩
            · have hnum := xnumber_ok ((unhide Hh).up (unhide HB)) (unhide Hl) p hs (by omega)
              obtain ⟨M, hM⟩ : ∃ M, leN (l.drop p) = M := ⟨_, rfl⟩
              obtain ⟨D, hD⟩ : ∃ D, D = l.length - p - 4 := ⟨_, rfl⟩
              rw [hM] at hnum
              have Hnum := hide hnum
              have eD : (l.length : Int) - (p : Int) - 4 = (D : Int) := by omega
              have qM : decide ((M : Int) < 0) = false := decide_eq_false (by omega)
              clear hnum
              by_cases hMD : D < M
              · have hpo : partOf (l.drop p) = none := by unfold partOf; rw [if_pos (.inr (by rw [List.length_drop, hM]; omega))]
                have hnone := (unhide HS).none hlt hpo
                have e0 : PA = (30, []) := by have := unhide HP1; rwa [hnone] at this
                have qD : decide ((D : Int) < (M : Int)) = true := decide_eq_true (by omega)
                subst e0
                clear hpo hnone hM
                go_wp2_with fail
                refine (unhide Hnum).mono ?_
                rintro e w' ⟨rfl, m7, rfl⟩
                go_wp2
                go_ret2
                exact ⟨_, rfl, ⟨_, ownBB_nil _ _ _⟩, below_drewN (unhide HB) m7⟩
              · have qD : decide ((D : Int) < (M : Int)) = false := decide_eq_false (by omega)
                have hpo : partOf (l.drop p) = some ((l.drop (p + 4)).take M, l.drop (p + 4 + M)) := by
                  unfold partOf
                  rw [if_neg (by rw [List.length_drop, hM]; omega), hM, List.drop_drop, List.drop_drop]
                have HS' := hide ((unhide HS).step hlt hpo)
                have hpD : p + 4 + M ≤ l.length := by omega
                clear hpo hM hMD hD
                go_wp2_with fail
                refine (unhide Hnum).mono ?_
                rintro e w' ⟨rfl, m7, rfl⟩
                have HB7 : Hid (Below W.heap.size W (wr.drewN m7)) := below_drewN (unhide HB) m7
                have HO7 : Hid (OwnBB W.heap.size W.heap.size (wr.drewN m7) u6 us acc) := (unhide HO).up (below_drewN (Below.refl _ _) m7)
                have hsz7 : W.heap.size ≤ (wr.drewN m7).heap.size := hsz
                clear HO HB Hnum HS eD qM qD
                generalize wr.drewN m7 = w7 at *
                obtain ⟨S, hS⟩ : ∃ S, S = w7.heap.size := ⟨_, rfl⟩
                have HY0 : Hid (Bytes S w7 (.slice none 0 0) ((l.drop (p + 4)).take 0)) := by show Bytes _ _ _ _; rw [List.take_zero]; exact bytes_nil _ _
                have HB0 : Hid (Below S w7 w7) := Below.refl _ _
                have hS2 : W.heap.size ≤ S := by omega
                go_wp2
                go_loopg [9, 10] M (fun gk v9 v10 w => ∃ (k : Nat), v10 = .int .i64 (k : Int) ∧ gk = M - k ∧ k ≤ M ∧ Hid (Bytes S w v9 ((l.drop (p + 4)).take k)) ∧ Hid (Below S w7 w))
                case atStart => exact ⟨0, rfl, rfl, by omega, HY0, HB0⟩
                case round =>
                  clear HY0 HB0
                  obtain ⟨k, rfl, hgk2, hkM, HY, HBi⟩ := hrel
                  have Hgk2 := hide hgk2
                  clear hgk2
                  by_cases hltk : k < M
                  · obtain ⟨g, off, rfl, hg, hc⟩ := unhide H3 (by omega)
                    obtain ⟨J, hJ⟩ : ∃ J, J = p + 4 + k := ⟨_, rfl⟩
                    obtain ⟨x, hx⟩ : ∃ x, l[J]? = some x := ⟨_, List.getElem?_eq_getElem (by omega)⟩
                    have cx0 := ((unhide HB7).cell (p := ⟨g, off + J, none⟩) hg).trans (hc J x hx)
                    have cx := ((unhide HBi).cell (p := ⟨g, off + J, none⟩) (by show g < S; omega)).trans cx0
                    have Hnk : Hid ((l.drop (p + 4)).take (k + 1) = (l.drop (p + 4)).take k ++ [x]) := by show _ = _; rw [List.take_add_one, List.getElem?_drop, ← hJ, hx]; rfl
                    have hl1 : ((l.drop (p + 4)).take k).length + 1 ≤ 67108865 := by rw [List.length_take, List.length_drop]; omega
                    have O1 : Hid (((l.drop (p + 4)).take k).length + 1 ≤ maxLen) := by show _ ≤ _; unfold maxLen; omega
                    have O2 : Hid ((((l.drop (p + 4)).take k).length + 1) * 1 ≤ 140737488355328) := by show _ ≤ _; omega
                    have eJ : (p : Int) + 4 + (k : Int) = (J : Int) := by omega
                    have hJ0 : (0 : Int) ≤ (J : Int) := Int.natCast_nonneg _
                    have hJ1 : (J : Int) < (l.length : Int) := by omega
                    have hkM' : (k : Int) < (M : Int) := by omega
                    have hszB : S ≤ wr.heap.size := by have := (unhide HBi).size; omega
                    clear hc hx hl1 cx0 hJ
                    go_wp2_with (at_builtin; refine wpList_append_own_at _ rfl _ _ 24 rfl S 5 j0 (.int .u8 0) 1 1 Try.underlying24 hj hy0 hy1 hy2 rfl (by decide) _ _ _ rfl ((unhide HY).alloc _) ⟨wr.heap.size, 0, none⟩ 1 1 [.int .u8 (x : Int)] rfl rfl (cell_one_new _ _ _) (by simp [Value.oneCell']) (unhide O1) (unhide O2) (by rw [World.size_alloc]; omega) ?_; intro v4 w4 hown4 hgrow4 hdrop4 hat4; clear hdrop4; have Hown := hide hown4; have Hb4 : Hid (Below S w7 w4) := below_grow0 (unhide HBi) hszB hgrow4 (fun b hb => ((unhide HY).lt b hb).1); clear hown4 hgrow4 hat4)
                    go_roundg (M - (k + 1))
                    case measure => have := unhide Hgk2; omega
                    case rel =>
                      refine ⟨k + 1, by go_num, rfl, by omega, ?_, Hb4⟩
                      show Bytes _ _ _ _
                      rw [unhide Hnk]
                      exact own_byteN rfl rfl (unhide Hown)
                  · obtain rfl : k = M := by omega
                    obtain ⟨Pp, hPp⟩ : ∃ Pp, (l.drop (p + 4)).take k = Pp := ⟨_, rfl⟩
                    rw [hPp] at HY HS'
                    have hO8 := (unhide HO7).up (by rw [hS] at HBi; exact unhide HBi)
                    have HB8 : Hid (Below W.heap.size W wr) := (unhide HB7).trans ((unhide HBi).mono hS2)
                    have hli : Lies W.heap.size wr u6.ownBlock u9 := fun b hb => by
                      obtain ⟨q1, q2⟩ := (unhide HY).lt b hb
                      refine ⟨by omega, q2, fun e => ?_⟩
                      have := ((unhide HO7).row.lt b e.symm).2
                      omega
                    have hH8 := (unhide HY).has
                    have hvs : ∃ x y, u9 = .slice x Pp.length y := by obtain ⟨x, y, e, _⟩ := hH8; exact ⟨_, _, e⟩
                    obtain ⟨x9, y9, rfl⟩ := hvs
                    have hsz8 := (unhide HB8).size
                    have HO8 := hide hO8
                    have Hli := hide hli
                    have HH8 := hide hH8
                    have O1 : Hid (acc.length + 1 ≤ maxLen) := by show _ ≤ _; rw [hal]; unfold maxLen; omega
                    have O2 : Hid ((acc.length + 1) * 24 ≤ 140737488355328) := by show _ ≤ _; rw [hal]; omega
                    clear hO8 hli hH8 HO7 HB7 HBi HY hPp hS
                    go_wp2_with (at_builtin; refine wpList_append_own_at _ rfl _ _ 22 rfl W.heap.size 24 i0 (.slice none 0 0) 1 24 Try.underlying22 hi hz0 hz1 hz2 rfl (by decide) _ _ _ rfl ((unhide HO8).row.alloc _) ⟨wr.heap.size, 0, none⟩ 1 1 [.slice x9 Pp.length y9] rfl rfl (cell_one_new _ _ _) (by simp [Value.oneCell']) (unhide O1) (unhide O2) (by rw [World.size_alloc]; omega) ?_; intro v9 w9 hown9 hgrow9 hdrop9 hat9; clear hdrop9; have HP9 := hide ((unhide HO8).push (unhide HH8) (unhide Hli) hown9 hgrow9 hat9); have Hb9 : Hid (Below W.heap.size W w9) := below_grow0 (unhide HB8) hsz8 hgrow9 (fun b hb => ((unhide HO8).row.lt b hb).1); clear hown9 hgrow9 hat9)
                    go_roundg (N - (i + 1))
                    case measure => have := unhide Hgk; omega
                    case rel => exact ⟨i + 1, p + 4 + k, acc ++ [Pp], us ++ [.slice x9 Pp.length y9], by go_num, by go_num, rfl, by omega, by omega, HS', by simp [hal], HP9, Hb9⟩
          · obtain rfl : i = N := by omega
            have hdone := (unhide HS).done
            by_cases hr0 : p = l.length
            · have e0 : PA = (0, acc) := by
                have := unhide HP1
                rw [hdone, hr0, List.drop_length] at this
                exact this
              subst e0
              have q2 : ((p : Int) != (l.length : Int)) = false := by rw [hr0]; simp
              have Hr0 := hide hr0
              clear hdone hr0
              go_wp2
              go_ret2
              exact ⟨_, rfl, ⟨us, unhide HO⟩, unhide HB⟩
            · have e0 : PA = (30, []) := by
                have := unhide HP1
                rw [hdone] at this
                rcases hd : l.drop p with _ | ⟨x, r⟩
                · have := congrArg List.length hd
                  rw [List.length_drop] at this
                  simp at this
                  omega
                · rw [hd] at this
                  exact this
              have q2 : ((p : Int) != (l.length : Int)) = true := by simp; omega
              subst e0
              clear hdone hr0
              go_wp2
              go_ret2
              exact ⟨_, rfl, ⟨_, ownBB_nil _ _ _⟩, unhide HB⟩
end Go.Proofs.Ytoojchjfmnbdpaa
