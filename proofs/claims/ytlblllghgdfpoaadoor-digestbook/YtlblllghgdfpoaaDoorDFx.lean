import Derived.Test.YtlblllghgdfpoaaDoorJ18

namespace Go.Proofs.YtlblllghgdfpoaaDoor
open Go.RowKit
attribute [local go_sem ↓] Go.wp_at_zero Go.wp_at_succ

theorem le4_at (n j : Nat) (h : j < 4) : (le4 n)[j]? = some (n / 2 ^ (8 * j) % 256) := by
  match j, h with
  | 0, _ => simp [le4]
  | 1, _ => rfl
  | 2, _ => rfl
  | 3, _ => rfl
theorem shr_castn (n sf : Nat) : (n : Int) / (2 : Int) ^ sf % 256 = ((n / 2 ^ sf % 256 : Nat) : Int) := by
  rw [Int.natCast_emod, Int.natCast_ediv, Int.natCast_pow]
  rfl
theorem own_byteN {W : World} {base n : Nat} {v : Value} {l : List Nat} {x : Nat} {z : Int} (hz : z = (x : Int)) (hn : n = l.length) (h : W.ownsRow base 5 1 v (n + 1) (nb l ++ [.int .u8 z])) : Bytes base W v (l ++ [x]) := by
  subst hz hn
  unfold Bytes
  rw [nb_append, List.length_append]
  exact h
set_option maxRecDepth 100000 in
set_option maxHeartbeats 1000000 in
theorem xfour_any {W : World} {base : Nat} {v : Value} {l : List Nat} (h : Bytes base W v l) (hb : base ≤ W.heap.size) (n : Nat) (hl : l.length + 4 ≤ 140737488355328) (hn : n ≤ 9223372036854775807) :
    Calls Tryd.prog 52 #[v, .int .i64 (n : Int)] W fun e W' => ∃ v', e = .returned v' ∧ Bytes base W' v' (l ++ le4 n) ∧ Below base W W' := by
  obtain ⟨i0, hi, hz0, hz1, hz2⟩ := info_parts Tryd.infoByte
  have H0 : Hid (Bytes base W v (l ++ (le4 n).take 0)) := by show Bytes _ _ _ _; rw [List.take_zero, List.append_nil]; exact h
  have HB0 : Hid (Below base W W) := Below.refl _ _
  clear h
  go_enter Tryd.func52, Tryd.ntmps52
  go_wp2
  go_loopg [0, 5] 4 (fun gk v0 v5 wr => ∃ (i : Nat), v5 = .int .i64 (i : Int) ∧ gk = 4 - i ∧ i ≤ 4 ∧ Hid (Bytes base wr v0 (l ++ (le4 n).take i)) ∧ Hid (Below base W wr))
  case atStart => exact ⟨0, rfl, rfl, by omega, H0, HB0⟩
  case round =>
    clear H0 HB0
    obtain ⟨i, rfl, hgk, hk, HY, HB⟩ := hrel
    have Hgk := hide hgk
    clear hgk
    by_cases hlt : i < 4
    · obtain ⟨sf, hsf⟩ : ∃ sf : Nat, sf = 8 * i := ⟨_, rfl⟩
      have hsfi : 8 * (i : Int) = (sf : Int) := by omega
      have hat := le4_at n i hlt
      rw [← hsf] at hat
      obtain ⟨y, hy⟩ : ∃ y : Nat, y = n / 2 ^ sf % 256 := ⟨_, rfl⟩
      rw [← hy] at hat
      have hval : (n : Int) / (2 : Int) ^ sf % 256 = (y : Int) := by rw [hy]; exact shr_castn n sf
      have Hnx : Hid ((le4 n).take (i + 1) = (le4 n).take i ++ [y]) := by show _ = _; rw [List.take_add_one, hat]; rfl
      have hs24 : sf ≤ 24 := by omega
      have hnn : (n : Int) ≤ 9223372036854775807 := by omega
      have hl1 : (l ++ (le4 n).take i).length + 1 ≤ l.length + 4 := by rw [List.length_append, List.length_take, le4_len]; omega
      have O1 : Hid ((l ++ (le4 n).take i).length + 1 ≤ maxLen) := by show _ ≤ _; unfold maxLen; omega
      have O2 : Hid (((l ++ (le4 n).take i).length + 1) * 1 ≤ 140737488355328) := by show _ ≤ _; omega
      have hszB : base ≤ wr.heap.size := by have := (unhide HB).size; omega
      have Hval := hide hval
      clear hat hy hl1 hsf hval
      go_wp2_with (at_builtin; refine wpList_append_own_at _ rfl _ _ 29 rfl base 5 i0 (.int .u8 0) 1 1 Tryd.underlying29 hi hz0 hz1 hz2 rfl (by decide) _ _ _ rfl ((unhide HY).alloc _) ⟨wr.heap.size, 0, none⟩ 1 1 [.int .u8 ((n : Int) / 2 ^ sf % 256)] rfl rfl (cell_one_new _ _ _) (by simp [Value.oneCell']) (unhide O1) (unhide O2) (by rw [World.size_alloc]; omega) ?_; intro v4 w4 hown4 hgrow4 hdrop4 hat4; clear hdrop4; have Hown := hide hown4; have Hb4 : Hid (Below base W w4) := below_grow0 (unhide HB) hszB hgrow4 (fun b hb => ((unhide HY).lt b hb).1); clear hown4 hgrow4 hat4)
      go_roundg (4 - (i + 1))
      case measure => have := unhide Hgk; omega
      case rel =>
        refine ⟨i + 1, by go_num, rfl, by omega, ?_, Hb4⟩
        show Bytes _ _ _ _
        rw [unhide Hnx, ← List.append_assoc]
        exact own_byteN (unhide Hval) rfl (unhide Hown)
    · obtain rfl : i = 4 := by omega
      have hY := unhide HY
      rw [List.take_of_length_le (by rw [le4_len]; omega)] at hY
      have HY1 := hide hY
      clear hY HY
      go_wp2
      go_ret
      exact ⟨_, rfl, unhide HY1, unhide HB⟩
set_option maxRecDepth 100000 in
set_option maxHeartbeats 4000000 in
theorem xframe_any {W : World} {v : Value} {ls : List (List Nat)} (h : HasBB W v ls) (hn : ls.length ≤ 65536 → fsize ls ≤ 9223372036854775000) :
    Calls Tryd.prog 39 #[v] W fun e W' => ∃ v' z, e = .returned (.tuple #[v', .int .i64 z]) ∧ Below W.heap.size W W' ∧ ((ls.length ≤ 65536 ∧ 4 + fsize ls ≤ 67108864) ∧ z = 0 ∧ Bytes W.heap.size W' v' (frameL ls) ∨ (65536 < ls.length ∨ 67108864 < 4 + fsize ls) ∧ z = 2 ∧ v' = .slice none 0 0) := by
  obtain ⟨i0, hi, hz0, hz1, hz2⟩ := info_parts Tryd.infoByte
  obtain ⟨a, c, rfl, hm, h3⟩ := h
  have H3 := hide h3
  have hc1 : c ≤ 9223372036854775807 := by have := hm.2.1; unfold maxLen at this; omega
  have hc2 := hm.1
  clear h3 hm
  by_cases hlen : 65536 < ls.length
  · have q0 : decide (65536 < (ls.length : Int)) = true := by simp; omega
    go_enter Tryd.func39, Tryd.ntmps39
    go_wp2
    go_ret2
    exact ⟨_, _, rfl, Below.refl _ _, .inr ⟨.inl hlen, rfl, rfl⟩⟩
  · have q0 : decide (65536 < (ls.length : Int)) = false := by simp; omega
    have hn := hn (by omega)
    go_enter Tryd.func39, Tryd.ntmps39
    go_wp2
    go_loopg [4, 5] ls.length (fun gk v4 v5 wr => ∃ (i s : Nat), v5 = .int .i64 (i : Int) ∧ v4 = .int .i64 (s : Int) ∧ s = 4 + fsize (ls.take i) ∧ s ≤ 67108864 ∧ gk = ls.length - i ∧ i ≤ ls.length ∧ wr = W)
    case atStart => exact ⟨0, 4, rfl, rfl, rfl, by omega, rfl, by omega, rfl⟩
    case round =>
      obtain ⟨i, s, rfl, rfl, hs, hsm, hgk, hk, hwr⟩ := hrel
      obtain rfl : W = wr := hwr.symm
      clear hwr
      have Hgk := hide hgk
      clear hgk
      by_cases hlt : i < ls.length
      · obtain ⟨g, off, rfl, hg, hc⟩ := unhide H3 (by omega)
        obtain ⟨l, hl⟩ : ∃ x, ls[i]? = some x := ⟨_, List.getElem?_eq_getElem hlt⟩
        obtain ⟨u, hu, hB⟩ := hc i l hl
        obtain ⟨ua, uc, rfl, hum, _⟩ := hB
        have hnx : fsize (ls.take (i + 1)) = fsize (ls.take i) + (4 + l.length) := by rw [List.take_add_one, hl]; exact fsize_more _ _
        have hle := fsize_take ls (i + 1)
        have hs1 : s + 4 + l.length ≤ 9223372036854775004 := by omega
        have hi' : (i : Int) < (ls.length : Int) := by omega
        have hi0' : (0 : Int) ≤ (i : Int) := Int.natCast_nonneg _
        obtain ⟨s', hs'⟩ : ∃ s' : Nat, s' = s + 4 + l.length := ⟨_, rfl⟩
        have es : (s : Int) + 4 + (l.length : Int) = (s' : Int) := by omega
        have hs's : s' = 4 + fsize (ls.take (i + 1)) := by omega
        have Hs' := hide hs's
        have hs'b : s' ≤ 9223372036854775004 := by omega
        have hs4 : s + 4 ≤ 67108868 := by omega
        clear hs'
        have hle' : s' ≤ 4 + fsize ls := by omega
        clear hc hl hnx hle hs hs's
        by_cases hbig : 67108864 < s'
        · have q1 : decide (67108864 < (s' : Int)) = true := by simp; omega
          go_wp2
          go_ret2
          exact ⟨_, _, rfl, Below.refl _ _, .inr ⟨.inr (by omega), rfl, rfl⟩⟩
        · have q1 : decide (67108864 < (s' : Int)) = false := by simp; omega
          go_wp2
          go_roundg (ls.length - (i + 1))
          case measure => have := unhide Hgk; omega
          case rel => exact ⟨i + 1, s', by go_num, by go_num, unhide Hs', by omega, rfl, by omega, rfl⟩
      · obtain rfl : i = ls.length := by omega
        rw [List.take_length] at hs
        have hok : 4 + fsize ls ≤ 67108864 := by omega
        clear hs hsm Hgk hk hlt
        go_wp2_with fail
        refine (xfour_any (bytes_nil W.heap.size W) (Nat.le_refl _) ls.length (by simp) (by omega)).mono ?_
        rintro e w6 ⟨v6, rfl, hB6, hb6⟩
        have H6 : Hid (Bytes W.heap.size w6 v6 (le4 ls.length ++ (ls.take 0).flatMap fun l => le4 l.length ++ l)) := by show Bytes _ _ _ _; simpa using hB6
        have Hb6 := hide hb6
        clear hB6 hb6
        go_wp2
        go_loopg [6, 7] ls.length (fun gk v6 v7 wr => ∃ (i : Nat), v7 = .int .i64 (i : Int) ∧ gk = ls.length - i ∧ i ≤ ls.length ∧ Hid (Bytes W.heap.size wr v6 (le4 ls.length ++ (ls.take i).flatMap fun l => le4 l.length ++ l)) ∧ Hid (Below W.heap.size W wr))
        case atStart => exact ⟨0, rfl, rfl, by omega, H6, Hb6⟩
        case round =>
          clear H6 Hb6
          obtain ⟨i, rfl, hgk, hk, HY, HB⟩ := hrel
          have Hgk := hide hgk
          clear hgk
          by_cases hlt : i < ls.length
          · obtain ⟨g, off, rfl, hg, hc⟩ := unhide H3 (by omega)
            obtain ⟨l, hl⟩ : ∃ x, ls[i]? = some x := ⟨_, List.getElem?_eq_getElem hlt⟩
            obtain ⟨u, hu, hBu⟩ := hc i l hl
            have hcellA : ∀ w, Below W.heap.size W w → w.cell? ⟨g, off + i, none⟩ = some u := fun w hw => (hw.cell (p := ⟨g, off + i, none⟩) hg).trans hu
            have Hnx : Hid ((ls.take (i + 1)).flatMap (fun l => le4 l.length ++ l) = ((ls.take i).flatMap fun l => le4 l.length ++ l) ++ (le4 l.length ++ l)) := by show _ = _; rw [List.take_add_one, hl, List.flatMap_append]; simp
            have hln := flat_take ls (i + 1)
            rw [unhide Hnx, List.length_append, List.length_append, le4_len] at hln
            have hle : (le4 ls.length ++ (ls.take i).flatMap fun l => le4 l.length ++ l).length + 4 + l.length ≤ 67108864 := by rw [List.length_append, le4_len]; omega
            obtain ⟨ua, uc, rfl, hum, hu3⟩ := hBu
            have Hu3 := hide hu3
            have HcA := hide hcellA
            have hcell := hcellA wr (unhide HB)
            have hi' : (i : Int) < (ls.length : Int) := by omega
            have hi0' : (0 : Int) ≤ (i : Int) := Int.natCast_nonneg _
            obtain ⟨pre, hpre⟩ : ∃ pre, (le4 ls.length ++ (ls.take i).flatMap fun l => le4 l.length ++ l) = pre := ⟨_, rfl⟩
            rw [hpre] at HY hle
            have Hpre := hide hpre
            have hput := xfour_any (unhide HY) (unhide HB).size l.length (by omega) (by omega)
            have Hput := hide hput
            clear hc hl hu hln hu3 hput HY hpre hcellA hum
            go_wp2_with fail
            refine (unhide Hput).mono ?_
            rintro o w7 ⟨v7, rfl, hB7, hb7⟩
            have HB7 : Hid (Below W.heap.size W w7) := (unhide HB).trans hb7
            have HY7 : Hid (Bytes W.heap.size w7 v7 (pre ++ le4 l.length ++ l.take 0)) := by show Bytes _ _ _ _; rw [List.take_zero, List.append_nil]; exact hB7
            clear hB7 hb7 Hput HB hcell
            go_wp2
            go_loopg [6, 8] l.length (fun gk v6 v8 wr => ∃ (k : Nat), v8 = .int .i64 (k : Int) ∧ gk = l.length - k ∧ k ≤ l.length ∧ Hid (Bytes W.heap.size wr v6 (pre ++ le4 l.length ++ l.take k)) ∧ Hid (Below W.heap.size W wr))
            case atStart => exact ⟨0, rfl, rfl, by omega, HY7, HB7⟩
            case round =>
              clear HY7 HB7
              obtain ⟨k, rfl, hgk, hkl, HY, HB⟩ := hrel
              have Hgk2 := hide hgk
              clear hgk
              have hcell := unhide HcA wr (unhide HB)
              have hszB := (unhide HB).size
              by_cases hltk : k < l.length
              · obtain ⟨g', off', rfl, hg', hc'⟩ := unhide Hu3 (by omega)
                obtain ⟨x, hx⟩ : ∃ x, l[k]? = some x := ⟨_, List.getElem?_eq_getElem hltk⟩
                have cx := ((unhide HB).cell (p := ⟨g', off' + k, none⟩) hg').trans (hc' k x hx)
                have Hnk : Hid (l.take (k + 1) = l.take k ++ [x]) := by show _ = _; rw [List.take_add_one, hx]; rfl
                have hl1 : (pre ++ le4 l.length ++ l.take k).length + 1 ≤ 67108864 := by rw [List.length_append, List.length_append, le4_len, List.length_take]; omega
                have O1 : Hid ((pre ++ le4 l.length ++ l.take k).length + 1 ≤ maxLen) := by show _ ≤ _; unfold maxLen; omega
                have O2 : Hid (((pre ++ le4 l.length ++ l.take k).length + 1) * 1 ≤ 140737488355328) := by show _ ≤ _; omega
                have hk' : (k : Int) < (l.length : Int) := by omega
                have hk0' : (0 : Int) ≤ (k : Int) := Int.natCast_nonneg _
                clear hc' hx hl1
                go_wp2_with (at_builtin; refine wpList_append_own_at _ rfl _ _ 29 rfl W.heap.size 5 i0 (.int .u8 0) 1 1 Tryd.underlying29 hi hz0 hz1 hz2 rfl (by decide) _ _ _ rfl ((unhide HY).alloc _) ⟨wr.heap.size, 0, none⟩ 1 1 [.int .u8 (x : Int)] rfl rfl (cell_one_new _ _ _) (by simp [Value.oneCell']) (unhide O1) (unhide O2) (by rw [World.size_alloc]; omega) ?_; intro v4 w4 hown4 hgrow4 hdrop4 hat4; clear hdrop4; have Hown := hide hown4; have Hb4 : Hid (Below W.heap.size W w4) := below_grow0 (unhide HB) hszB hgrow4 (fun b hb => ((unhide HY).lt b hb).1); clear hown4 hgrow4 hat4)
                go_roundg (l.length - (k + 1))
                case measure => have := unhide Hgk2; omega
                case rel =>
                  refine ⟨k + 1, by go_num, rfl, by omega, ?_, Hb4⟩
                  show Bytes _ _ _ _
                  rw [unhide Hnk, ← List.append_assoc]
                  exact own_byteN rfl rfl (unhide Hown)
              · obtain rfl : k = l.length := by omega
                have hY := unhide HY
                rw [List.take_length, List.append_assoc, ← unhide Hpre, List.append_assoc, ← unhide Hnx] at hY
                have HY1 := hide hY
                clear hY HY
                go_wp2
                go_roundg (ls.length - (i + 1))
                case measure => have := unhide Hgk; omega
                case rel => exact ⟨i + 1, by go_num, rfl, by omega, HY1, HB⟩
          · obtain rfl : i = ls.length := by omega
            have hY := unhide HY
            rw [List.take_length] at hY
            have HY1 : Hid (Bytes W.heap.size wr u6 (frameL ls)) := hY
            clear hY HY
            go_wp2
            go_ret2
            exact ⟨_, _, rfl, unhide HB, .inl ⟨⟨by omega, hok⟩, rfl, unhide HY1⟩⟩
end Go.Proofs.YtlblllghgdfpoaaDoor
