import Derived.Test.YtlblllghgdfpoaaDoorJ01
import Derived.Laws.AppendOwnNone

namespace Go.Proofs.YtlblllghgdfpoaaDoor
open Go.RowKit
attribute [local go_sem ↓] Go.wp_at_zero Go.wp_at_succ

theorem HasB.drew {W : World} {v : Value} {l : List Nat} (h : HasB W v l) (m : Nat) : HasB (W.drewN m) v l := h
theorem lists_dec {a b : List (List Nat)} (hn : a.length = b.length) {i : Nat} (ha : ∀ j < i, a[j]? = b[j]?) (hi : a.length ≤ i) : a = b := by
  apply List.ext_getElem?
  intro j
  by_cases hj : j < a.length
  · exact ha j (by omega)
  · rw [List.getElem?_eq_none (by omega), List.getElem?_eq_none (by omega)]
set_option maxRecDepth 100000 in
set_option maxHeartbeats 4000000 in
theorem sameAll_any {W : World} {v u : Value} {ls ls' : List (List Nat)} (h : HasBB W v ls) (h' : HasBB W u ls') (hl : ∀ l ∈ ls, Byt l) (hl' : ∀ l ∈ ls', Byt l) :
    Calls Tryd.prog 12 #[v, u] W fun e W' => e = .returned (.bool (decide (ls = ls'))) ∧ ∃ m, W' = W.drewN m := by
  obtain ⟨a, c, rfl, hm, h3⟩ := h
  obtain ⟨a', c', rfl, hm', h3'⟩ := h'
  have hc1 : c ≤ 9223372036854775807 := by have := hm.2.1; unfold maxLen at this; omega
  have hc2 := hm.1
  have hc1' : c' ≤ 9223372036854775807 := by have := hm'.2.1; unfold maxLen at this; omega
  have hc2' := hm'.1
  have H3 := hide h3
  have H3' := hide h3'
  have Hl := hide hl
  have Hl' := hide hl'
  clear h3 h3' hm hm' hl hl'
  by_cases hlen : ls.length = ls'.length
  · have q0 : ((ls.length : Int) != (ls'.length : Int)) = false := by rw [hlen]; simp
    have Hlen := hide hlen
    clear hlen
    go_enter Tryd.func12, Tryd.ntmps12
    go_wp2
    go_loopg [5] ls.length (fun gk v5 wr => ∃ (i m : Nat), v5 = .int .i64 (i : Int) ∧ gk = ls.length - i ∧ i ≤ ls.length ∧ Hid (∀ j < i, ls[j]? = ls'[j]?) ∧ wr = W.drewN m)
    case atStart => exact ⟨0, 0, rfl, rfl, by omega, fun j hj => by omega, rfl⟩
    case round =>
      obtain ⟨i, m, rfl, hgk, hk, Hall, rfl⟩ := hrel
      have Hgk := hide hgk
      clear hgk
      by_cases hlt : i < ls.length
      · obtain ⟨g, off, rfl, hg, hc⟩ := unhide H3 (by omega)
        obtain ⟨g', off', rfl, hg', hc'⟩ := unhide H3' (by have := unhide Hlen; omega)
        obtain ⟨l, hx⟩ : ∃ x, ls[i]? = some x := ⟨_, List.getElem?_eq_getElem hlt⟩
        obtain ⟨l', hx'⟩ : ∃ x, ls'[i]? = some x := ⟨_, List.getElem?_eq_getElem (by have := unhide Hlen; omega)⟩
        obtain ⟨z, hz, hB⟩ := hc i l hx
        obtain ⟨z', hz', hB'⟩ := hc' i l' hx'
        have bl := unhide Hl l (List.mem_of_getElem? hx)
        have bl' := unhide Hl' l' (List.mem_of_getElem? hx')
        have hs : ∀ n, Calls Tryd.prog 13 #[z, z'] ((W.drewN m).drewN n) fun o W' => o = .returned (.bool (decide (l = l'))) ∧ W' = (W.drewN m).drewN n := fun n => same_any ((hB.drew m).drew n) ((hB'.drew m).drew n) bl bl'
        have Hs := hide hs
        have cz : (W.drewN m).cell? ⟨g, off + i, none⟩ = some z := hz
        have cz' : (W.drewN m).cell? ⟨g', off' + i, none⟩ = some z' := hz'
        obtain ⟨za, zc, rfl, _, _⟩ := hB
        obtain ⟨za', zc', rfl, _, _⟩ := hB'
        have i1 : (i : Int) < (ls.length : Int) := by omega
        have i2 : (i : Int) < (ls'.length : Int) := by have := unhide Hlen; omega
        have i0' : (0 : Int) ≤ (i : Int) := Int.natCast_nonneg _
        have Hx := hide (And.intro hx hx')
        clear hc hc' hx hx' hs bl bl' hz hz'
        obtain ⟨w1, hw1⟩ : ∃ w1, W.drewN m = w1 := ⟨_, rfl⟩
        rw [hw1] at cz cz' Hs ⊢
        have Hw := hide hw1
        clear hw1
        by_cases hd : l = l'
        · subst hd
          rw [show decide (l = l) = true by simp] at Hs
          go_wp2_with fail
          go_quiet (first | (go_at_call 13; exact Calls.quiet_of_same (unhide Hs _)))
          go_wp2
          go_roundg (ls.length - (i + 1))
          case measure => have := unhide Hgk; omega
          case rel =>
            refine ⟨i + 1, m + nq, by go_num, rfl, by omega, fun j hj => ?_, by rw [← unhide Hw, World.drewN_drewN]⟩
            by_cases e : j = i
            · subst e
              obtain ⟨e1, e2⟩ := unhide Hx
              rw [e1, e2]
            · exact unhide Hall j (by omega)
        · have hd1 : decide (l = l') = false := by simpa using hd
          rw [hd1] at Hs
          have Hd := hide hd
          clear hd hd1
          go_wp2_with fail
          go_quiet (first | (go_at_call 13; exact Calls.quiet_of_same (unhide Hs _)))
          go_wp2
          go_ret
          have hne : decide (ls = ls') = false := by
            apply decide_eq_false
            rintro rfl
            obtain ⟨e1, e2⟩ := unhide Hx
            rw [e1] at e2
            exact unhide Hd (Option.some.inj e2)
          exact ⟨by rw [hne]; rfl, m + nq, by rw [← unhide Hw, World.drewN_drewN]⟩
      · obtain rfl : i = ls.length := by omega
        have he : decide (ls = ls') = true := by
          apply decide_eq_true
          exact lists_dec (unhide Hlen) (unhide Hall) (Nat.le_refl _)
        go_wp2
        go_ret
        exact ⟨by rw [he]; rfl, m, rfl⟩
  · have q0 : ((ls.length : Int) != (ls'.length : Int)) = true := by simp; omega
    have he : decide (ls = ls') = false := by
      apply decide_eq_false
      rintro rfl
      exact hlen rfl
    go_enter Tryd.func12, Tryd.ntmps12
    go_wp2
    go_ret
    exact ⟨by rw [he]; rfl, 0, rfl⟩
end Go.Proofs.YtlblllghgdfpoaaDoor

namespace Go.Proofs.YtlblllghgdfpoaaDoor
open Go.RowKit
attribute [local go_sem ↓] Go.wp_at_zero Go.wp_at_succ

def le4 (n : Nat) : List Nat := [n % 256, n / 256 % 256, n / 65536 % 256, n / 16777216 % 256]
def frameL (ls : List (List Nat)) : List Nat := le4 ls.length ++ ls.flatMap fun l => le4 l.length ++ l
def fsize (ls : List (List Nat)) : Nat := (ls.map fun l => 4 + l.length).sum
theorem le4_len (n : Nat) : (le4 n).length = 4 := rfl
theorem fsize_more (ls : List (List Nat)) (l : List Nat) : fsize (ls ++ [l]) = fsize ls + (4 + l.length) := by simp [fsize]
theorem fsize_take (ls : List (List Nat)) : ∀ n, fsize (ls.take n) ≤ fsize ls := fun n => by
  have h : fsize ls = fsize (ls.take n) + fsize (ls.drop n) := by unfold fsize; rw [← List.sum_append, ← List.map_append, List.take_append_drop]
  omega
theorem flat_len (ls : List (List Nat)) : (ls.flatMap fun l => le4 l.length ++ l).length = fsize ls := by
  induction ls with
  | nil => rfl
  | cons l ls ih => rw [List.flatMap_cons, List.length_append, ih]; simp [fsize, le4_len]
theorem frameL_len (ls : List (List Nat)) : (frameL ls).length = 4 + fsize ls := by unfold frameL; rw [List.length_append, flat_len, le4_len]
set_option maxRecDepth 100000 in
set_option maxHeartbeats 1000000 in
theorem frameSize_any {W : World} {v : Value} {ls : List (List Nat)} (h : HasBB W v ls) (hn : fsize ls ≤ 9223372036854775000) :
    Calls Tryd.prog 23 #[v] W fun e W' => e = .returned (.int .i64 ((4 + fsize ls : Nat) : Int)) ∧ W' = W := by
  obtain ⟨a, c, rfl, hm, h3⟩ := h
  have H3 := hide h3
  have hc1 : c ≤ 9223372036854775807 := by have := hm.2.1; unfold maxLen at this; omega
  have hc2 := hm.1
  clear h3 hm
  go_enter Tryd.func23, Tryd.ntmps23
  go_wp2
  go_loopg [3, 8] ls.length (fun gk v3 v8 wr => ∃ (i s : Nat), v8 = .int .i64 (i : Int) ∧ v3 = .int .i64 (s : Int) ∧ s = 4 + fsize (ls.take i) ∧ gk = ls.length - i ∧ i ≤ ls.length ∧ wr = W)
  case atStart => exact ⟨0, 4, rfl, rfl, rfl, rfl, by omega, rfl⟩
  case round =>
    obtain ⟨i, s, rfl, rfl, hs, hgk, hk, rfl⟩ := hrel
    have Hgk := hide hgk
    clear hgk
    by_cases hlt : i < ls.length
    · obtain ⟨g, off, rfl, hg, hc⟩ := unhide H3 (by omega)
      obtain ⟨l, hl⟩ : ∃ x, ls[i]? = some x := ⟨_, List.getElem?_eq_getElem hlt⟩
      obtain ⟨u, hu, hB⟩ := hc i l hl
      obtain ⟨ua, uc, rfl, hum, _⟩ := hB
      have hnx : fsize (ls.take (i + 1)) = fsize (ls.take i) + (4 + l.length) := by rw [List.take_add_one, hl]; exact fsize_more _ _
      have hle := fsize_take ls (i + 1)
      have hs1 : s + (4 + l.length) ≤ 9223372036854775004 := by omega
      have hi' : (i : Int) < (ls.length : Int) := by omega
      have hi0 : (0 : Int) ≤ (i : Int) := Int.natCast_nonneg _
      have Hnx := hide hnx
      have Hs := hide hs
      clear hc hl hnx hle hs
      go_wp2
      go_roundg (ls.length - (i + 1))
      case measure => have := unhide Hgk; omega
      case rel =>
        refine ⟨i + 1, s + (4 + l.length), by go_num, by go_num, ?_, rfl, by omega, rfl⟩
        rw [unhide Hnx, unhide Hs]
        omega
    · obtain rfl : i = ls.length := by omega
      rw [List.take_length] at hs
      subst hs
      go_wp2
      go_ret
      exact ⟨rfl, rfl⟩
set_option maxRecDepth 100000 in
set_option maxHeartbeats 1000000 in
theorem putNumber_any {W : World} {base : Nat} {v : Value} {l : List Nat} (h : Bytes base W v l) (hb : base ≤ W.heap.size) (n : Nat) (hn : n < 4294967296) (hl : l.length + 4 ≤ 140737488355328) :
    Calls Tryd.prog 24 #[v, .int .i64 (n : Int)] W fun e W' => ∃ v', e = .returned v' ∧ Bytes base W' v' (l ++ le4 n) ∧ Below base W W' := by
  obtain ⟨i0, hi, hz0, hz1, hz2⟩ := info_parts Tryd.infoByte
  have HY := hide h
  have o1 : l.length + 4 ≤ maxLen := by unfold maxLen; omega
  clear h
  go_enter Tryd.func24, Tryd.ntmps24
  go_wp2_with (at_builtin; refine wpList_append_own_at _ rfl _ _ 29 rfl base 5 i0 (.int .u8 0) 1 1 Tryd.underlying29 hi hz0 hz1 hz2 rfl (by decide) _ _ _ rfl ((unhide HY).alloc _) ⟨W.heap.size, 0, none⟩ 4 4 [.int .u8 ((n : Int) % 256), .int .u8 ((n : Int) / 256 % 256), .int .u8 ((n : Int) / 65536 % 256), .int .u8 ((n : Int) / 16777216)] rfl rfl (World.news_of_block (cs := #[.int .u8 ((n : Int) % 256), .int .u8 ((n : Int) / 256 % 256), .int .u8 ((n : Int) / 65536 % 256), .int .u8 ((n : Int) / 16777216)]) (heap_new _ _)) (by simp [Value.oneCell']) o1 (by omega) (by rw [World.size_alloc]; omega) ?_; intro v4 w4 hown4 hgrow4 hdrop4 hat4; clear hdrop4 hat4; have Hown := hide hown4; have Hb4 : Hid (Below base W w4) := below_grow0 (Below.refl _ _) hb hgrow4 (fun b hb => ((unhide HY).lt b hb).1); clear hown4 hgrow4)
  go_ret
  refine ⟨_, rfl, ?_, unhide Hb4⟩
  have e := unhide Hown
  unfold Bytes
  rw [nb_append, List.length_append, le4_len]
  have e4 : nb (le4 n) = [.int .u8 ((n : Int) % 256), .int .u8 ((n : Int) / 256 % 256), .int .u8 ((n : Int) / 65536 % 256), .int .u8 ((n : Int) / 16777216)] := by
    unfold nb le4
    simp only [List.map_cons, List.map_nil]
    rw [show ((n / 16777216 % 256 : Nat) : Int) = (n : Int) / 16777216 by omega]
    simp
  rw [e4]
  exact e
end Go.Proofs.YtlblllghgdfpoaaDoor

namespace Go.Proofs.YtlblllghgdfpoaaDoor
open Go.RowKit
attribute [local go_sem ↓] Go.wp_at_zero Go.wp_at_succ

def BytA (ls : List (List Nat)) : Prop := ∀ l ∈ ls, Byt l
/-- What Frame answers. -/
def okF (ls : List (List Nat)) : Bool := decide (ls.length ≤ 65536 ∧ 4 + fsize ls ≤ 67108864)
theorem flat_take (ls : List (List Nat)) (n : Nat) : ((ls.take n).flatMap fun l => le4 l.length ++ l).length ≤ fsize ls := by rw [flat_len]; exact fsize_take ls n
set_option maxRecDepth 100000 in
set_option maxHeartbeats 4000000 in
theorem frame_ok {W : World} {v : Value} {ls : List (List Nat)} (h : HasBB W v ls) (h1 : ls.length ≤ 65536) (h2 : 4 + fsize ls ≤ 67108864) :
    Calls Tryd.prog 5 #[v] W fun e W' => ∃ v', e = .returned (.tuple #[v', .int .i64 0]) ∧ Bytes W.heap.size W' v' (frameL ls) ∧ Below W.heap.size W W' := by
  obtain ⟨i0, hi, hz0, hz1, hz2⟩ := info_parts Tryd.infoByte
  have hfs := frameSize_any h (by omega)
  obtain ⟨a, c, rfl, hm, h3⟩ := h
  obtain ⟨N, hN⟩ : ∃ N, 4 + fsize ls = N := ⟨_, rfl⟩
  rw [hN] at hfs h2
  have H3 := hide h3
  have Hfs := hide hfs
  have HN := hide hN
  have hc1 : c ≤ 9223372036854775807 := by have := hm.2.1; unfold maxLen at this; omega
  have hc2 := hm.1
  have q0 : decide (65536 < (ls.length : Int)) = false := by simp; omega
  have q1 : decide (67108864 < (N : Int)) = false := by simp; omega
  clear h3 hm hfs hN
  go_enter Tryd.func5, Tryd.ntmps5
  go_wp2_with fail
  refine (unhide Hfs).mono ?_
  rintro e w' ⟨rfl, he⟩
  obtain rfl : W = w' := he.symm
  go_wp2_with fail
  refine (unhide Hfs).mono ?_
  rintro e w' ⟨rfl, he'⟩
  obtain rfl : W = w' := he'.symm
  go_wp2_with (at_make; refine wpList_make_own _ rfl _ _ 29 rfl W.heap.size 5 i0 (.int .u8 0) 1 Tryd.underlying29 hi hz0 hz1 .i64 .i64 _ N rfl rfl rfl (by rw [hz2]; omega) (by unfold maxLen; omega) (Nat.le_refl _) ?_; intro w5 hown5 hgrow5; have H5 : Hid (Bytes W.heap.size w5 (.slice (some ⟨W.heap.size, 0, none⟩) 0 N) []) := hown5; have Hb5 : Hid (Below W.heap.size W w5) := ⟨hgrow5.os, hgrow5.tape, hgrow5.output, hgrow5.size, fun b hb => hgrow5.block b hb (by simp)⟩; clear hown5 hgrow5)
  refine (putNumber_any (unhide H5) (unhide Hb5).size ls.length (by omega) (by simp)).mono ?_
  rintro e w6 ⟨v6, rfl, hB6, hb6⟩
  have H6 : Hid (Bytes W.heap.size w6 v6 (le4 ls.length ++ (ls.take 0).flatMap fun l => le4 l.length ++ l)) := by show Bytes _ _ _ _; simpa using hB6
  have Hb6 : Hid (Below W.heap.size W w6) := (unhide Hb5).trans hb6
  clear hB6 hb6 H5 Hb5 Hfs he he'
  go_wp2
  go_loopg [4, 24] ls.length (fun gk v4 v24 wr => ∃ (i : Nat), v24 = .int .i64 (i : Int) ∧ gk = ls.length - i ∧ i ≤ ls.length ∧ Hid (Bytes W.heap.size wr v4 (le4 ls.length ++ (ls.take i).flatMap fun l => le4 l.length ++ l)) ∧ Hid (Below W.heap.size W wr))
  case atStart => exact ⟨0, rfl, rfl, by omega, H6, Hb6⟩
  case round =>
    clear H6 Hb6
    obtain ⟨i, rfl, hgk, hk, HY, HB⟩ := hrel
    have Hgk := hide hgk
    clear hgk
    have hsz := (unhide HB).size
    by_cases hlt : i < ls.length
    · obtain ⟨g, off, rfl, hg, hc⟩ := unhide H3 (by omega)
      obtain ⟨l, hl⟩ : ∃ x, ls[i]? = some x := ⟨_, List.getElem?_eq_getElem hlt⟩
      obtain ⟨u, hu, hBu⟩ := hc i l hl
      have hcell := ((unhide HB).cell (p := ⟨g, off + i, none⟩) hg).trans hu
      have Hnx : Hid ((ls.take (i + 1)).flatMap (fun l => le4 l.length ++ l) = ((ls.take i).flatMap fun l => le4 l.length ++ l) ++ (le4 l.length ++ l)) := by show _ = _; rw [List.take_add_one, hl, List.flatMap_append]; simp
      have hln := flat_take ls (i + 1)
      rw [unhide Hnx, List.length_append, List.length_append, le4_len] at hln
      have hNN := unhide HN
      have hle : (le4 ls.length ++ (ls.take i).flatMap fun l => le4 l.length ++ l).length + 4 + l.length ≤ N := by rw [List.length_append, le4_len]; omega
      obtain ⟨ua, uc, rfl, hum, hu3⟩ := hBu
      have Hu3 := hide hu3
      have Hum := hide hum
      have hi' : (i : Int) < (ls.length : Int) := by omega
      have hi0' : (0 : Int) ≤ (i : Int) := Int.natCast_nonneg _
      obtain ⟨pre, hpre⟩ : ∃ pre, (le4 ls.length ++ (ls.take i).flatMap fun l => le4 l.length ++ l) = pre := ⟨_, rfl⟩
      rw [hpre] at HY hle
      have Hpre := hide hpre
      clear hpre
      have hput := putNumber_any (unhide HY) hsz l.length (by omega) (by omega)
      have Hput := hide hput
      clear hc hl hu hln hNN hu3 hum hput HY
      go_wp2_with fail
      refine (unhide Hput).mono ?_
      rintro o w7 ⟨v7, rfl, hB7, hb7⟩
      have HB7 : Hid (Below W.heap.size W w7) := (unhide HB).trans hb7
      have HY7 := hide hB7
      have hsz7 := (unhide HB7).size
      have O1 : Hid ((pre ++ le4 l.length).length + l.length ≤ maxLen) := by show _ ≤ _; rw [List.length_append, le4_len]; unfold maxLen; omega
      have O2 : Hid (((pre ++ le4 l.length).length + l.length) * 1 ≤ 140737488355328) := by show _ ≤ _; rw [List.length_append, le4_len]; omega
      clear hB7 hb7 Hput HB hcell
      rcases ua with _ | ad
      · have hz : uc = 0 := (unhide Hum).2.2 rfl
        have hl0 : l = [] := List.eq_nil_of_length_eq_zero (by have := (unhide Hum).1; omega)
        subst hz hl0
        have HYn : Hid (Bytes W.heap.size w7 v7 (pre ++ le4 0 ++ [])) := by rw [List.append_nil]; exact HY7
        go_wp2_with (at_builtin; refine wpList_append_own_none rfl _ _ 29 rfl W.heap.size 5 i0 1 Tryd.underlying29 hi _ _ _ rfl (unhide HY7) rfl ?_)
        go_roundg (ls.length - (i + 1))
        case measure => have := unhide Hgk; omega
        case rel =>
          refine ⟨i + 1, by go_num, rfl, by omega, ?_, HB7⟩
          show Bytes _ _ _ _
          rw [unhide Hnx, ← List.append_assoc, ← List.append_assoc, unhide Hpre]
          exact unhide HYn
      · have hnews : ∀ j u, (nb l)[j]? = some u → w7.cell? (ad.add j) = some u := fun j u hu => by
          obtain ⟨ad', e1, hcc⟩ := src_of (unhide Hu3) (unhide HB7) (by have := (List.getElem?_eq_some_iff.1 hu).1; omega)
          obtain rfl : ad = ad' := Option.some.inj e1
          exact hcc j u hu
        have Hnews := hide hnews
        clear hnews
        go_wp2_with (at_builtin; refine wpList_append_own_at _ rfl _ _ 29 rfl W.heap.size 5 i0 (.int .u8 0) 1 1 Tryd.underlying29 hi hz0 hz1 hz2 rfl (by decide) _ _ _ rfl (unhide HY7) ad l.length uc (nb l) rfl (by rw [nb_len]; omega) (unhide Hnews) (nb_one _) (unhide O1) (unhide O2) hsz7 ?_; intro v8 w8 hown8 hgrow8 hdrop8 hat8; clear hdrop8 hat8; have Hown := hide hown8; have Hb8 : Hid (Below W.heap.size W w8) := (unhide HB7).trans ⟨hgrow8.os, hgrow8.tape, hgrow8.output, hgrow8.size, fun b hb => hgrow8.block b (by omega) (fun e => by have := ((unhide HY7).lt b e.symm).1; omega)⟩; clear hown8 hgrow8)
        go_roundg (ls.length - (i + 1))
        case measure => have := unhide Hgk; omega
        case rel =>
          refine ⟨i + 1, by go_num, rfl, by omega, ?_, Hb8⟩
          show Bytes _ _ _ _
          rw [unhide Hnx, ← List.append_assoc, ← List.append_assoc, unhide Hpre]
          have e := unhide Hown
          unfold Bytes
          rw [nb_append, List.length_append]
          exact e
    · obtain rfl : i = ls.length := by omega
      have hY := unhide HY
      rw [List.take_length] at hY
      have HY1 : Hid (Bytes W.heap.size wr u4 (frameL ls)) := hY
      clear hY HY
      go_wp2
      go_ret2
      exact ⟨_, rfl, unhide HY1, unhide HB⟩
end Go.Proofs.YtlblllghgdfpoaaDoor

namespace Go.Proofs.YtlblllghgdfpoaaDoor
open Go.RowKit
attribute [local go_sem ↓] Go.wp_at_zero Go.wp_at_succ

set_option maxRecDepth 100000 in
set_option maxHeartbeats 4000000 in
theorem frame_long {W : World} {v : Value} {ls : List (List Nat)} (h : HasBB W v ls) (hn : ls.length ≤ 65536 → fsize ls ≤ 9223372036854775000) (h2 : 65536 < ls.length ∨ 67108864 < 4 + fsize ls) :
    Calls Tryd.prog 5 #[v] W fun e W' => e = .returned (.tuple #[.slice none 0 0, .int .i64 2]) ∧ W' = W := by
  have hfs : ls.length ≤ 65536 → _ := fun hl => frameSize_any h (hn hl)
  obtain ⟨a, c, rfl, hm, h3⟩ := h
  obtain ⟨N, hN⟩ : ∃ N, 4 + fsize ls = N := ⟨_, rfl⟩
  rw [hN] at hfs h2
  have Hfs := hide hfs
  have hc1 : c ≤ 9223372036854775807 := by have := hm.2.1; unfold maxLen at this; omega
  have hc2 := hm.1
  clear h3 hm hfs hN hn
  by_cases hlen : 65536 < ls.length
  · have q0 : decide (65536 < (ls.length : Int)) = true := by simp; omega
    go_enter Tryd.func5, Tryd.ntmps5
    go_wp2
    go_ret2
    exact ⟨rfl, rfl⟩
  · have q0 : decide (65536 < (ls.length : Int)) = false := by simp; omega
    have q1 : decide (67108864 < (N : Int)) = true := by simp; omega
    go_enter Tryd.func5, Tryd.ntmps5
    go_wp2_with fail
    refine (unhide Hfs (by omega)).mono ?_
    rintro e w' ⟨rfl, he⟩
    obtain rfl : W = w' := he.symm
    go_wp2
    go_ret2
    exact ⟨rfl, rfl⟩
end Go.Proofs.YtlblllghgdfpoaaDoor

namespace Go.Proofs.YtlblllghgdfpoaaDoor
open Go.RowKit
attribute [local go_sem ↓] Go.wp_at_zero Go.wp_at_succ

/-- What Frame tells: the error and the bytes. -/
def frameA (ls : List (List Nat)) : Int × List Nat := if ls.length ≤ 65536 ∧ 4 + fsize ls ≤ 67108864 then (0, frameL ls) else (2, [])
theorem le4_byt (n : Nat) : Byt (le4 n) := by
  intro x hx
  simp only [le4, List.mem_cons, List.not_mem_nil, or_false] at hx
  omega
theorem frameL_byt {ls : List (List Nat)} (h : ∀ l ∈ ls, Byt l) : Byt (frameL ls) := by
  unfold frameL
  refine (le4_byt _).append fun x hx => ?_
  obtain ⟨l, hl, hx⟩ := List.mem_flatMap.1 hx
  exact (le4_byt _).append (h l hl) x hx
theorem frameA_byt {ls : List (List Nat)} (h : ∀ l ∈ ls, Byt l) : Byt (frameA ls).2 := by
  unfold frameA
  split
  · exact frameL_byt h
  · intro x hx; cases hx
theorem frame_own {W : World} {v : Value} {ls : List (List Nat)} (h : HasBB W v ls) (hn : ls.length ≤ 65536 → fsize ls ≤ 9223372036854775000) :
    Calls Tryd.prog 5 #[v] W fun e W' => ∃ v', e = .returned (.tuple #[v', .int .i64 (frameA ls).1]) ∧ Bytes W.heap.size W' v' (frameA ls).2 ∧ Below W.heap.size W W' := by
  unfold frameA
  by_cases hok : ls.length ≤ 65536 ∧ 4 + fsize ls ≤ 67108864
  · rw [if_pos hok]
    exact (frame_ok h hok.1 hok.2).mono fun e W' ⟨v', he, hB, hb⟩ => ⟨v', he, hB, hb⟩
  · rw [if_neg hok]
    refine (frame_long h hn (by omega)).mono fun e W' ⟨he, hw⟩ => ?_
    subst hw
    exact ⟨_, he, bytes_nil _ _, Below.refl _ _⟩
theorem frame_any {W : World} {v : Value} {ls : List (List Nat)} (h : HasBB W v ls) (hn : ls.length ≤ 65536 → fsize ls ≤ 9223372036854775000) :
    Calls Tryd.prog 5 #[v] W fun e W' => ∃ v' n c, e = .returned (.tuple #[v', .int .i64 (frameA ls).1]) ∧ HasB W' v' (frameA ls).2 ∧ v' = .slice n (frameA ls).2.length c ∧ Below W.heap.size W W' := by
  refine (frame_own h hn).mono fun e W' ⟨v', he, hB, hb⟩ => ?_
  obtain ⟨a, c, hv, _⟩ := id hB.has
  exact ⟨v', a, c, he, hB.has, hv, hb⟩
theorem num_any (W : World) (z : Int) : Calls Tryd.prog 6 #[.int .i64 z] W fun e W' => e = .returned (.int .i64 z) ∧ W' = W := by
  go_enter Tryd.func6, Tryd.ntmps6
  go_wp2
  go_ret
  exact ⟨rfl, rfl⟩
theorem fsize_lim {n : Nat} : ∀ {ls : List (List Nat)}, (∀ l ∈ ls, l.length ≤ n) → fsize ls ≤ ls.length * (4 + n)
  | [], _ => by simp [fsize]
  | l :: ls, h => by
    have h1 := fsize_lim (ls := ls) fun x hx => h x (List.mem_cons_of_mem _ hx)
    have h2 := h l List.mem_cons_self
    simp only [fsize, List.map_cons, List.sum_cons, List.length_cons] at h1 ⊢
    rw [Nat.add_mul, Nat.one_mul]
    omega
theorem fsize_few {ls : List (List Nat)} (h : ∀ l ∈ ls, l.length ≤ 140737488351232) (hn : ls.length ≤ 65536) : fsize ls ≤ 9223372036854775000 := by
  have h1 := fsize_lim h
  have h2 := Nat.mul_le_mul_right (4 + 140737488351232) hn
  omega
end Go.Proofs.YtlblllghgdfpoaaDoor
