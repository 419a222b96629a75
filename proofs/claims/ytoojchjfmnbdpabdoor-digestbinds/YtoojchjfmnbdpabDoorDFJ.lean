import Derived.Test.YtoojchjfmnbdpabDoorDBB
import Derived.Test.YtoojchjfmnbdpabDoorDH
import Derived.Laws.AppendOwnNone
namespace Go.Proofs.YtoojchjfmnbdpabDoor
open Go.RowKit
attribute [local go_sem ↓] Go.wp_at_zero Go.wp_at_succ

def le4 (n : Nat) : List Nat := [n % 256, n / 256 % 256, n / 65536 % 256, n / 16777216 % 256]
def frameL (ls : List (List Nat)) : List Nat := le4 ls.length ++ ls.flatMap fun l => le4 l.length ++ l
def fsize (ls : List (List Nat)) : Nat := (ls.map fun l => 4 + l.length).sum
theorem le4_len (n : Nat) : (le4 n).length = 4 := rfl
theorem fsize_more (ls : List (List Nat)) (l : List Nat) : fsize (ls ++ [l]) = fsize ls + (4 + l.length) := by simp [fsize]
theorem fsize_take (ls : List (List Nat)) : ∀ n, fsize (ls.take n) ≤ fsize ls := fun n => by
  have h : fsize ls = fsize (ls.take n) + fsize (ls.drop n) := by unfold fsize; rw [← List.sum_append, ← List.map_append, List.take_append_drop]
  omega
theorem flat_len (ls : List (List Nat)) : (ls.flatMap fun l => le4 l.length ++ l).length = fsize ls := by
  induction ls with
  | nil => rfl
  | cons l ls ih => rw [List.flatMap_cons, List.length_append, ih]; simp [fsize, le4_len]
theorem frameL_len (ls : List (List Nat)) : (frameL ls).length = 4 + fsize ls := by unfold frameL; rw [List.length_append, flat_len, le4_len]
set_option maxRecDepth 100000 in
set_option maxHeartbeats 1000000 in
theorem frameSize_any {W : World} {v : Value} {ls : List (List Nat)} (h : HasBB W v ls) (hn : fsize ls ≤ 9223372036854775000) :
    Calls Tryd.prog 65 #[v] W fun e W' => e = .returned (.int .i64 ((4 + fsize ls : Nat) : Int)) ∧ W' = W := by
  obtain ⟨a, c, rfl, hm, h3⟩ := h
  have H3 := hide h3
  have hc1 : c ≤ 9223372036854775807 := by have := hm.2.1; unfold maxLen at this; omega
  have hc2 := hm.1
  clear h3 hm
  go_enter Tryd.func65, Tryd.ntmps65
  go_wp2
  go_loopg [3, 8] ls.length (fun gk v3 v8 wr => ∃ (i s : Nat), v8 = .int .i64 (i : Int) ∧ v3 = .int .i64 (s : Int) ∧ s = 4 + fsize (ls.take i) ∧ gk = ls.length - i ∧ i ≤ ls.length ∧ wr = W)
  case atStart => exact ⟨0, 4, rfl, rfl, rfl, rfl, by omega, rfl⟩
  case round =>
    obtain ⟨i, s, rfl, rfl, hs, hgk, hk, rfl⟩ := hrel
    have Hgk := hide hgk
    clear hgk
    by_cases hlt : i < ls.length
    · obtain ⟨g, off, rfl, hg, hc⟩ := unhide H3 (by omega)
      obtain ⟨l, hl⟩ : ∃ x, ls[i]? = some x := ⟨_, List.getElem?_eq_getElem hlt⟩
      obtain ⟨u, hu, hB⟩ := hc i l hl
      obtain ⟨ua, uc, rfl, hum, _⟩ := hB
      have hnx : fsize (ls.take (i + 1)) = fsize (ls.take i) + (4 + l.length) := by rw [List.take_add_one, hl]; exact fsize_more _ _
      have hle := fsize_take ls (i + 1)
      have hs1 : s + (4 + l.length) ≤ 9223372036854775004 := by omega
      have hi' : (i : Int) < (ls.length : Int) := by omega
      have hi0 : (0 : Int) ≤ (i : Int) := Int.natCast_nonneg _
      have Hnx := hide hnx
      have Hs := hide hs
      clear hc hl hnx hle hs
      go_wp2
      go_roundg (ls.length - (i + 1))
      case measure => have := unhide Hgk; omega
      case rel =>
        refine ⟨i + 1, s + (4 + l.length), by go_num, by go_num, ?_, rfl, by omega, rfl⟩
        rw [unhide Hnx, unhide Hs]
        omega
    · obtain rfl : i = ls.length := by omega
      rw [List.take_length] at hs
      subst hs
      go_wp2
      go_ret
      exact ⟨rfl, rfl⟩
set_option maxRecDepth 100000 in
set_option maxHeartbeats 1000000 in
theorem putNumber_any {W : World} {base : Nat} {v : Value} {l : List Nat} (h : Bytes base W v l) (hb : base ≤ W.heap.size) (n : Nat) (hn : n < 4294967296) (hl : l.length + 4 ≤ 140737488355328) :
    Calls Tryd.prog 66 #[v, .int .i64 (n : Int)] W fun e W' => ∃ v', e = .returned v' ∧ Bytes base W' v' (l ++ le4 n) ∧ Below base W W' := by
  obtain ⟨i0, hi, hz0, hz1, hz2⟩ := info_parts Tryd.infoByte
  have HY := hide h
  have o1 : l.length + 4 ≤ maxLen := by unfold maxLen; omega
  clear h
  go_enter Tryd.func66, Tryd.ntmps66
  go_wp2_with (at_builtin; refine wpList_append_own_at _ rfl _ _ 28 rfl base 5 i0 (.int .u8 0) 1 1 Tryd.underlying28 hi hz0 hz1 hz2 rfl (by decide) _ _ _ rfl ((unhide HY).alloc _) ⟨W.heap.size, 0, none⟩ 4 4 [.int .u8 ((n : Int) % 256), .int .u8 ((n : Int) / 256 % 256), .int .u8 ((n : Int) / 65536 % 256), .int .u8 ((n : Int) / 16777216)] rfl rfl (World.news_of_block (cs := #[.int .u8 ((n : Int) % 256), .int .u8 ((n : Int) / 256 % 256), .int .u8 ((n : Int) / 65536 % 256), .int .u8 ((n : Int) / 16777216)]) (heap_new _ _)) (by simp [Value.oneCell']) o1 (by omega) (by rw [World.size_alloc]; omega) ?_; intro v4 w4 hown4 hgrow4 hdrop4 hat4; clear hdrop4 hat4; have Hown := hide hown4; have Hb4 : Hid (Below base W w4) := below_grow0 (Below.refl _ _) hb hgrow4 (fun b hb => ((unhide HY).lt b hb).1); clear hown4 hgrow4)
  go_ret
  refine ⟨_, rfl, ?_, unhide Hb4⟩
  have e := unhide Hown
  unfold Bytes
  rw [nb_append, List.length_append, le4_len]
  have e4 : nb (le4 n) = [.int .u8 ((n : Int) % 256), .int .u8 ((n : Int) / 256 % 256), .int .u8 ((n : Int) / 65536 % 256), .int .u8 ((n : Int) / 16777216)] := by
    unfold nb le4
    simp only [List.map_cons, List.map_nil]
    rw [show ((n / 16777216 % 256 : Nat) : Int) = (n : Int) / 16777216 by omega]
    simp
  rw [e4]
  exact e
end Go.Proofs.YtoojchjfmnbdpabDoor
namespace Go.Proofs.YtoojchjfmnbdpabDoor
open Go.RowKit
attribute [local go_sem ↓] Go.wp_at_zero Go.wp_at_succ

def BytA (ls : List (List Nat)) : Prop := ∀ l ∈ ls, Byt l
/-- What Frame answers. -/
def okF (ls : List (List Nat)) : Bool := decide (ls.length ≤ 65536 ∧ 4 + fsize ls ≤ 67108864)
theorem flat_take (ls : List (List Nat)) (n : Nat) : ((ls.take n).flatMap fun l => le4 l.length ++ l).length ≤ fsize ls := by rw [flat_len]; exact fsize_take ls n
set_option maxRecDepth 100000 in
set_option maxHeartbeats 4000000 in
theorem frame_ok {W : World} {v : Value} {ls : List (List Nat)} (h : HasBB W v ls) (h1 : ls.length ≤ 65536) (h2 : 4 + fsize ls ≤ 67108864) :
    Calls Tryd.prog 50 #[v] W fun e W' => ∃ v', e = .returned (.tuple #[v', .int .i64 0]) ∧ Bytes W.heap.size W' v' (frameL ls) ∧ Below W.heap.size W W' := by
  obtain ⟨i0, hi, hz0, hz1, hz2⟩ := info_parts Tryd.infoByte
  have hfs := frameSize_any h (by omega)
  obtain ⟨a, c, rfl, hm, h3⟩ := h
  obtain ⟨N, hN⟩ : ∃ N, 4 + fsize ls = N := ⟨_, rfl⟩
  rw [hN] at hfs h2
  have H3 := hide h3
  have Hfs := hide hfs
  have HN := hide hN
  have hc1 : c ≤ 9223372036854775807 := by have := hm.2.1; unfold maxLen at this; omega
  have hc2 := hm.1
  have q0 : decide (65536 < (ls.length : Int)) = false := by simp; omega
  have q1 : decide (67108864 < (N : Int)) = false := by simp; omega
  clear h3 hm hfs hN
  go_enter Tryd.func50, Tryd.ntmps50
  go_wp2_with fail
  refine (unhide Hfs).mono ?_
  rintro e w' ⟨rfl, he⟩
  obtain rfl : W = w' := he.symm
  go_wp2_with fail
  refine (unhide Hfs).mono ?_
  rintro e w' ⟨rfl, he'⟩
  obtain rfl : W = w' := he'.symm
  go_wp2_with (at_make; refine wpList_make_own _ rfl _ _ 28 rfl W.heap.size 5 i0 (.int .u8 0) 1 Tryd.underlying28 hi hz0 hz1 .i64 .i64 _ N rfl rfl rfl (by rw [hz2]; omega) (by unfold maxLen; omega) (Nat.le_refl _) ?_; intro w5 hown5 hgrow5; have H5 : Hid (Bytes W.heap.size w5 (.slice (some ⟨W.heap.size, 0, none⟩) 0 N) []) := hown5; have Hb5 : Hid (Below W.heap.size W w5) := ⟨hgrow5.os, hgrow5.tape, hgrow5.output, hgrow5.size, fun b hb => hgrow5.block b hb (by simp)⟩; clear hown5 hgrow5)
  refine (putNumber_any (unhide H5) (unhide Hb5).size ls.length (by omega) (by simp)).mono ?_
  rintro e w6 ⟨v6, rfl, hB6, hb6⟩
  have H6 : Hid (Bytes W.heap.size w6 v6 (le4 ls.length ++ (ls.take 0).flatMap fun l => le4 l.length ++ l)) := by show Bytes _ _ _ _; simpa using hB6
  have Hb6 : Hid (Below W.heap.size W w6) := (unhide Hb5).trans hb6
  clear hB6 hb6 H5 Hb5 Hfs he he'
  go_wp2
  go_loopg [4, 24] ls.length (fun gk v4 v24 wr => ∃ (i : Nat), v24 = .int .i64 (i : Int) ∧ gk = ls.length - i ∧ i ≤ ls.length ∧ Hid (Bytes W.heap.size wr v4 (le4 ls.length ++ (ls.take i).flatMap fun l => le4 l.length ++ l)) ∧ Hid (Below W.heap.size W wr))
  case atStart => exact ⟨0, rfl, rfl, by omega, H6, Hb6⟩
  case round =>
    clear H6 Hb6
    obtain ⟨i, rfl, hgk, hk, HY, HB⟩ := hrel
    have Hgk := hide hgk
    clear hgk
    have hsz := (unhide HB).size
    by_cases hlt : i < ls.length
    · obtain ⟨g, off, rfl, hg, hc⟩ := unhide H3 (by omega)
      obtain ⟨l, hl⟩ : ∃ x, ls[i]? = some x := ⟨_, List.getElem?_eq_getElem hlt⟩
      obtain ⟨u, hu, hBu⟩ := hc i l hl
      have hcell := ((unhide HB).cell (p := ⟨g, off + i, none⟩) hg).trans hu
      have Hnx : Hid ((ls.take (i + 1)).flatMap (fun l => le4 l.length ++ l) = ((ls.take i).flatMap fun l => le4 l.length ++ l) ++ (le4 l.length ++ l)) := by show _ = _; rw [List.take_add_one, hl, List.flatMap_append]; simp
      have hln := flat_take ls (i + 1)
      rw [unhide Hnx, List.length_append, List.length_append, le4_len] at hln
      have hNN := unhide HN
      have hle : (le4 ls.length ++ (ls.take i).flatMap fun l => le4 l.length ++ l).length + 4 + l.length ≤ N := by rw [List.length_append, le4_len]; omega
      obtain ⟨ua, uc, rfl, hum, hu3⟩ := hBu
      have Hu3 := hide hu3
      have Hum := hide hum
      have hi' : (i : Int) < (ls.length : Int) := by omega
      have hi0' : (0 : Int) ≤ (i : Int) := Int.natCast_nonneg _
      obtain ⟨pre, hpre⟩ : ∃ pre, (le4 ls.length ++ (ls.take i).flatMap fun l => le4 l.length ++ l) = pre := ⟨_, rfl⟩
      rw [hpre] at HY hle
      have Hpre := hide hpre
      clear hpre
      have hput := putNumber_any (unhide HY) hsz l.length (by omega) (by omega)
      have Hput := hide hput
      clear hc hl hu hln hNN hu3 hum hput HY
      go_wp2_with fail
      refine (unhide Hput).mono ?_
      rintro o w7 ⟨v7, rfl, hB7, hb7⟩
      have HB7 : Hid (Below W.heap.size W w7) := (unhide HB).trans hb7
      have HY7 := hide hB7
      have hsz7 := (unhide HB7).size
      have O1 : Hid ((pre ++ le4 l.length).length + l.length ≤ maxLen) := by show _ ≤ _; rw [List.length_append, le4_len]; unfold maxLen; omega
      have O2 : Hid (((pre ++ le4 l.length).length + l.length) * 1 ≤ 140737488355328) := by show _ ≤ _; rw [List.length_append, le4_len]; omega
      clear hB7 hb7 Hput HB hcell
      rcases ua with _ | ad
      · have hz : uc = 0 := (unhide Hum).2.2 rfl
        have hl0 : l = [] := List.eq_nil_of_length_eq_zero (by have := (unhide Hum).1; omega)
        subst hz hl0
        have HYn : Hid (Bytes W.heap.size w7 v7 (pre ++ le4 0 ++ [])) := by rw [List.append_nil]; exact HY7
        go_wp2_with (at_builtin; refine wpList_append_own_none rfl _ _ 28 rfl W.heap.size 5 i0 1 Tryd.underlying28 hi _ _ _ rfl (unhide HY7) rfl ?_)
        go_roundg (ls.length - (i + 1))
        case measure => have := unhide Hgk; omega
        case rel =>
          refine ⟨i + 1, by go_num, rfl, by omega, ?_, HB7⟩
          show Bytes _ _ _ _
          rw [unhide Hnx, ← List.append_assoc, ← List.append_assoc, unhide Hpre]
          exact unhide HYn
      · have hnews : ∀ j u, (nb l)[j]? = some u → w7.cell? (ad.add j) = some u := fun j u hu => by
          obtain ⟨ad', e1, hcc⟩ := src_of (unhide Hu3) (unhide HB7) (by have := (List.getElem?_eq_some_iff.1 hu).1; omega)
          obtain rfl : ad = ad' := Option.some.inj e1
          exact hcc j u hu
        have Hnews := hide hnews
        clear hnews
        go_wp2_with (at_builtin; refine wpList_append_own_at _ rfl _ _ 28 rfl W.heap.size 5 i0 (.int .u8 0) 1 1 Tryd.underlying28 hi hz0 hz1 hz2 rfl (by decide) _ _ _ rfl (unhide HY7) ad l.length uc (nb l) rfl (by rw [nb_len]; omega) (unhide Hnews) (nb_one _) (unhide O1) (unhide O2) hsz7 ?_; intro v8 w8 hown8 hgrow8 hdrop8 hat8; clear hdrop8 hat8; have Hown := hide hown8; have Hb8 : Hid (Below W.heap.size W w8) := (unhide HB7).trans ⟨hgrow8.os, hgrow8.tape, hgrow8.output, hgrow8.size, fun b hb => hgrow8.block b (by omega) (fun e => by have := ((unhide HY7).lt b e.symm).1; omega)⟩; clear hown8 hgrow8)
        go_roundg (ls.length - (i + 1))
        case measure => have := unhide Hgk; omega
        case rel =>
          refine ⟨i + 1, by go_num, rfl, by omega, ?_, Hb8⟩
          show Bytes _ _ _ _
          rw [unhide Hnx, ← List.append_assoc, ← List.append_assoc, unhide Hpre]
          have e := unhide Hown
          unfold Bytes
          rw [nb_append, List.length_append]
          exact e
    · obtain rfl : i = ls.length := by omega
      have hY := unhide HY
      rw [List.take_length] at hY
      have HY1 : Hid (Bytes W.heap.size wr u4 (frameL ls)) := hY
      clear hY HY
      go_wp2
      go_ret2
      exact ⟨_, rfl, unhide HY1, unhide HB⟩
end Go.Proofs.YtoojchjfmnbdpabDoor
namespace Go.Proofs.YtoojchjfmnbdpabDoor
open Go.RowKit
attribute [local go_sem ↓] Go.wp_at_zero Go.wp_at_succ

set_option maxRecDepth 100000 in
set_option maxHeartbeats 4000000 in
theorem frame_long {W : World} {v : Value} {ls : List (List Nat)} (h : HasBB W v ls) (hn : ls.length ≤ 65536 → fsize ls ≤ 9223372036854775000) (h2 : 65536 < ls.length ∨ 67108864 < 4 + fsize ls) :
    Calls Tryd.prog 50 #[v] W fun e W' => e = .returned (.tuple #[.slice none 0 0, .int .i64 2]) ∧ W' = W := by
  have hfs : ls.length ≤ 65536 → _ := fun hl => frameSize_any h (hn hl)
  obtain ⟨a, c, rfl, hm, h3⟩ := h
  obtain ⟨N, hN⟩ : ∃ N, 4 + fsize ls = N := ⟨_, rfl⟩
  rw [hN] at hfs h2
  have Hfs := hide hfs
  have hc1 : c ≤ 9223372036854775807 := by have := hm.2.1; unfold maxLen at this; omega
  have hc2 := hm.1
  clear h3 hm hfs hN hn
  by_cases hlen : 65536 < ls.length
  · have q0 : decide (65536 < (ls.length : Int)) = true := by simp; omega
    go_enter Tryd.func50, Tryd.ntmps50
    go_wp2
    go_ret2
    exact ⟨rfl, rfl⟩
  · have q0 : decide (65536 < (ls.length : Int)) = false := by simp; omega
    have q1 : decide (67108864 < (N : Int)) = true := by simp; omega
    go_enter Tryd.func50, Tryd.ntmps50
    go_wp2_with fail
    refine (unhide Hfs (by omega)).mono ?_
    rintro e w' ⟨rfl, he⟩
    obtain rfl : W = w' := he.symm
    go_wp2
    go_ret2
    exact ⟨rfl, rfl⟩
end Go.Proofs.YtoojchjfmnbdpabDoor
namespace Go.Proofs.YtoojchjfmnbdpabDoor
open Go.RowKit
attribute [local go_sem ↓] Go.wp_at_zero Go.wp_at_succ

theorem le4_at (n j : Nat) (h : j < 4) : (le4 n)[j]? = some (n / 2 ^ (8 * j) % 256) := by
  match j, h with
  | 0, _ => simp [le4]
  | 1, _ => rfl
  | 2, _ => rfl
  | 3, _ => rfl
theorem shr_castn (n sf : Nat) : (n : Int) / (2 : Int) ^ sf % 256 = ((n / 2 ^ sf % 256 : Nat) : Int) := by
  rw [Int.natCast_emod, Int.natCast_ediv, Int.natCast_pow]
  rfl
theorem own_byteN {W : World} {base n : Nat} {v : Value} {l : List Nat} {x : Nat} {z : Int} (hz : z = (x : Int)) (hn : n = l.length) (h : W.ownsRow base 5 1 v (n + 1) (nb l ++ [.int .u8 z])) : Bytes base W v (l ++ [x]) := by
  subst hz hn
  unfold Bytes
  rw [nb_append, List.length_append]
  exact h
set_option maxRecDepth 100000 in
set_option maxHeartbeats 1000000 in
theorem xfour_any {W : World} {base : Nat} {v : Value} {l : List Nat} (h : Bytes base W v l) (hb : base ≤ W.heap.size) (n : Nat) (hl : l.length + 4 ≤ 140737488355328) (hn : n ≤ 9223372036854775807) :
    Calls Tryd.prog 68 #[v, .int .i64 (n : Int)] W fun e W' => ∃ v', e = .returned v' ∧ Bytes base W' v' (l ++ le4 n) ∧ Below base W W' := by
  obtain ⟨i0, hi, hz0, hz1, hz2⟩ := info_parts Tryd.infoByte
  have H0 : Hid (Bytes base W v (l ++ (le4 n).take 0)) := by show Bytes _ _ _ _; rw [List.take_zero, List.append_nil]; exact h
  have HB0 : Hid (Below base W W) := Below.refl _ _
  clear h
  go_enter Tryd.func68, Tryd.ntmps68
  go_wp2
  go_loopg [0, 5] 4 (fun gk v0 v5 wr => ∃ (i : Nat), v5 = .int .i64 (i : Int) ∧ gk = 4 - i ∧ i ≤ 4 ∧ Hid (Bytes base wr v0 (l ++ (le4 n).take i)) ∧ Hid (Below base W wr))
  case atStart => exact ⟨0, rfl, rfl, by omega, H0, HB0⟩
  case round =>
    clear H0 HB0
    obtain ⟨i, rfl, hgk, hk, HY, HB⟩ := hrel
    have Hgk := hide hgk
    clear hgk
    by_cases hlt : i < 4
    · obtain ⟨sf, hsf⟩ : ∃ sf : Nat, sf = 8 * i := ⟨_, rfl⟩
      have hsfi : 8 * (i : Int) = (sf : Int) := by omega
      have hat := le4_at n i hlt
      rw [← hsf] at hat
      obtain ⟨y, hy⟩ : ∃ y : Nat, y = n / 2 ^ sf % 256 := ⟨_, rfl⟩
      rw [← hy] at hat
      have hval : (n : Int) / (2 : Int) ^ sf % 256 = (y : Int) := by rw [hy]; exact shr_castn n sf
      have Hnx : Hid ((le4 n).take (i + 1) = (le4 n).take i ++ [y]) := by show _ = _; rw [List.take_add_one, hat]; rfl
      have hs24 : sf ≤ 24 := by omega
      have hnn : (n : Int) ≤ 9223372036854775807 := by omega
      have hl1 : (l ++ (le4 n).take i).length + 1 ≤ l.length + 4 := by rw [List.length_append, List.length_take, le4_len]; omega
      have O1 : Hid ((l ++ (le4 n).take i).length + 1 ≤ maxLen) := by show _ ≤ _; unfold maxLen; omega
      have O2 : Hid (((l ++ (le4 n).take i).length + 1) * 1 ≤ 140737488355328) := by show _ ≤ _; omega
      have hszB : base ≤ wr.heap.size := by have := (unhide HB).size; omega
      have Hval := hide hval
      clear hat hy hl1 hsf hval
      go_wp2_with (at_builtin; refine wpList_append_own_at _ rfl _ _ 28 rfl base 5 i0 (.int .u8 0) 1 1 Tryd.underlying28 hi hz0 hz1 hz2 rfl (by decide) _ _ _ rfl ((unhide HY).alloc _) ⟨wr.heap.size, 0, none⟩ 1 1 [.int .u8 ((n : Int) / 2 ^ sf % 256)] rfl rfl (cell_one_new _ _ _) (by simp [Value.oneCell']) (unhide O1) (unhide O2) (by rw [World.size_alloc]; omega) ?_; intro v4 w4 hown4 hgrow4 hdrop4 hat4; clear hdrop4; have Hown := hide hown4; have Hb4 : Hid (Below base W w4) := below_grow0 (unhide HB) hszB hgrow4 (fun b hb => ((unhide HY).lt b hb).1); clear hown4 hgrow4 hat4)
      go_roundg (4 - (i + 1))
      case measure => have := unhide Hgk; omega
      case rel =>
        refine ⟨i + 1, by go_num, rfl, by omega, ?_, Hb4⟩
        show Bytes _ _ _ _
        rw [unhide Hnx, ← List.append_assoc]
        exact own_byteN (unhide Hval) rfl (unhide Hown)
    · obtain rfl : i = 4 := by omega
      have hY := unhide HY
      rw [List.take_of_length_le (by rw [le4_len]; omega)] at hY
      have HY1 := hide hY
      clear hY HY
      go_wp2
      go_ret
      exact ⟨_, rfl, unhide HY1, unhide HB⟩
set_option maxRecDepth 100000 in
set_option maxHeartbeats 4000000 in
theorem xframe_any {W : World} {v : Value} {ls : List (List Nat)} (h : HasBB W v ls) (hn : ls.length ≤ 65536 → fsize ls ≤ 9223372036854775000) :
    Calls Tryd.prog 52 #[v] W fun e W' => ∃ v' z, e = .returned (.tuple #[v', .int .i64 z]) ∧ Below W.heap.size W W' ∧ ((ls.length ≤ 65536 ∧ 4 + fsize ls ≤ 67108864) ∧ z = 0 ∧ Bytes W.heap.size W' v' (frameL ls) ∨ (65536 < ls.length ∨ 67108864 < 4 + fsize ls) ∧ z = 2 ∧ v' = .slice none 0 0) := by
  obtain ⟨i0, hi, hz0, hz1, hz2⟩ := info_parts Tryd.infoByte
  obtain ⟨a, c, rfl, hm, h3⟩ := h
  have H3 := hide h3
  have hc1 : c ≤ 9223372036854775807 := by have := hm.2.1; unfold maxLen at this; omega
  have hc2 := hm.1
  clear h3 hm
  by_cases hlen : 65536 < ls.length
  · have q0 : decide (65536 < (ls.length : Int)) = true := by simp; omega
    go_enter Tryd.func52, Tryd.ntmps52
    go_wp2
    go_ret2
    exact ⟨_, _, rfl, Below.refl _ _, .inr ⟨.inl hlen, rfl, rfl⟩⟩
  · have q0 : decide (65536 < (ls.length : Int)) = false := by simp; omega
    have hn := hn (by omega)
    go_enter Tryd.func52, Tryd.ntmps52
    go_wp2
    go_loopg [4, 5] ls.length (fun gk v4 v5 wr => ∃ (i s : Nat), v5 = .int .i64 (i : Int) ∧ v4 = .int .i64 (s : Int) ∧ s = 4 + fsize (ls.take i) ∧ s ≤ 67108864 ∧ gk = ls.length - i ∧ i ≤ ls.length ∧ wr = W)
    case atStart => exact ⟨0, 4, rfl, rfl, rfl, by omega, rfl, by omega, rfl⟩
    case round =>
      obtain ⟨i, s, rfl, rfl, hs, hsm, hgk, hk, hwr⟩ := hrel
      obtain rfl : W = wr := hwr.symm
      clear hwr
      have Hgk := hide hgk
      clear hgk
      by_cases hlt : i < ls.length
      · obtain ⟨g, off, rfl, hg, hc⟩ := unhide H3 (by omega)
        obtain ⟨l, hl⟩ : ∃ x, ls[i]? = some x := ⟨_, List.getElem?_eq_getElem hlt⟩
        obtain ⟨u, hu, hB⟩ := hc i l hl
        obtain ⟨ua, uc, rfl, hum, _⟩ := hB
        have hnx : fsize (ls.take (i + 1)) = fsize (ls.take i) + (4 + l.length) := by rw [List.take_add_one, hl]; exact fsize_more _ _
        have hle := fsize_take ls (i + 1)
        have hs1 : s + 4 + l.length ≤ 9223372036854775004 := by omega
        have hi' : (i : Int) < (ls.length : Int) := by omega
        have hi0' : (0 : Int) ≤ (i : Int) := Int.natCast_nonneg _
        obtain ⟨s', hs'⟩ : ∃ s' : Nat, s' = s + 4 + l.length := ⟨_, rfl⟩
        have es : (s : Int) + 4 + (l.length : Int) = (s' : Int) := by omega
        have hs's : s' = 4 + fsize (ls.take (i + 1)) := by omega
        have Hs' := hide hs's
        have hs'b : s' ≤ 9223372036854775004 := by omega
        have hs4 : s + 4 ≤ 67108868 := by omega
        clear hs'
        have hle' : s' ≤ 4 + fsize ls := by omega
        clear hc hl hnx hle hs hs's
        by_cases hbig : 67108864 < s'
        · have q1 : decide (67108864 < (s' : Int)) = true := by simp; omega
          go_wp2
          go_ret2
          exact ⟨_, _, rfl, Below.refl _ _, .inr ⟨.inr (by omega), rfl, rfl⟩⟩
        · have q1 : decide (67108864 < (s' : Int)) = false := by simp; omega
          go_wp2
          go_roundg (ls.length - (i + 1))
          case measure => have := unhide Hgk; omega
          case rel => exact ⟨i + 1, s', by go_num, by go_num, unhide Hs', by omega, rfl, by omega, rfl⟩
      · obtain rfl : i = ls.length := by omega
        rw [List.take_length] at hs
        have hok : 4 + fsize ls ≤ 67108864 := by omega
        clear hs hsm Hgk hk hlt
        go_wp2_with fail
        refine (xfour_any (bytes_nil W.heap.size W) (Nat.le_refl _) ls.length (by simp) (by omega)).mono ?_
        rintro e w6 ⟨v6, rfl, hB6, hb6⟩
        have H6 : Hid (Bytes W.heap.size w6 v6 (le4 ls.length ++ (ls.take 0).flatMap fun l => le4 l.length ++ l)) := by show Bytes _ _ _ _; simpa using hB6
        have Hb6 := hide hb6
        clear hB6 hb6
        go_wp2
        go_loopg [6, 7] ls.length (fun gk v6 v7 wr => ∃ (i : Nat), v7 = .int .i64 (i : Int) ∧ gk = ls.length - i ∧ i ≤ ls.length ∧ Hid (Bytes W.heap.size wr v6 (le4 ls.length ++ (ls.take i).flatMap fun l => le4 l.length ++ l)) ∧ Hid (Below W.heap.size W wr))
        case atStart => exact ⟨0, rfl, rfl, by omega, H6, Hb6⟩
        case round =>
          clear H6 Hb6
          obtain ⟨i, rfl, hgk, hk, HY, HB⟩ := hrel
          have Hgk := hide hgk
          clear hgk
          by_cases hlt : i < ls.length
          · obtain ⟨g, off, rfl, hg, hc⟩ := unhide H3 (by omega)
            obtain ⟨l, hl⟩ : ∃ x, ls[i]? = some x := ⟨_, List.getElem?_eq_getElem hlt⟩
            obtain ⟨u, hu, hBu⟩ := hc i l hl
            have hcellA : ∀ w, Below W.heap.size W w → w.cell? ⟨g, off + i, none⟩ = some u := fun w hw => (hw.cell (p := ⟨g, off + i, none⟩) hg).trans hu
            have Hnx : Hid ((ls.take (i + 1)).flatMap (fun l => le4 l.length ++ l) = ((ls.take i).flatMap fun l => le4 l.length ++ l) ++ (le4 l.length ++ l)) := by show _ = _; rw [List.take_add_one, hl, List.flatMap_append]; simp
            have hln := flat_take ls (i + 1)
            rw [unhide Hnx, List.length_append, List.length_append, le4_len] at hln
            have hle : (le4 ls.length ++ (ls.take i).flatMap fun l => le4 l.length ++ l).length + 4 + l.length ≤ 67108864 := by rw [List.length_append, le4_len]; omega
            obtain ⟨ua, uc, rfl, hum, hu3⟩ := hBu
            have Hu3 := hide hu3
            have HcA := hide hcellA
            have hcell := hcellA wr (unhide HB)
            have hi' : (i : Int) < (ls.length : Int) := by omega
            have hi0' : (0 : Int) ≤ (i : Int) := Int.natCast_nonneg _
            obtain ⟨pre, hpre⟩ : ∃ pre, (le4 ls.length ++ (ls.take i).flatMap fun l => le4 l.length ++ l) = pre := ⟨_, rfl⟩
            rw [hpre] at HY hle
            have Hpre := hide hpre
            have hput := xfour_any (unhide HY) (unhide HB).size l.length (by omega) (by omega)
            have Hput := hide hput
            clear hc hl hu hln hu3 hput HY hpre hcellA hum
            go_wp2_with fail
            refine (unhide Hput).mono ?_
            rintro o w7 ⟨v7, rfl, hB7, hb7⟩
            have HB7 : Hid (Below W.heap.size W w7) := (unhide HB).trans hb7
            have HY7 : Hid (Bytes W.heap.size w7 v7 (pre ++ le4 l.length ++ l.take 0)) := by show Bytes _ _ _ _; rw [List.take_zero, List.append_nil]; exact hB7
            clear hB7 hb7 Hput HB hcell
            go_wp2
            go_loopg [6, 8] l.length (fun gk v6 v8 wr => ∃ (k : Nat), v8 = .int .i64 (k : Int) ∧ gk = l.length - k ∧ k ≤ l.length ∧ Hid (Bytes W.heap.size wr v6 (pre ++ le4 l.length ++ l.take k)) ∧ Hid (Below W.heap.size W wr))
            case atStart => exact ⟨0, rfl, rfl, by omega, HY7, HB7⟩
            case round =>
              clear HY7 HB7
              obtain ⟨k, rfl, hgk, hkl, HY, HB⟩ := hrel
              have Hgk2 := hide hgk
              clear hgk
              have hcell := unhide HcA wr (unhide HB)
              have hszB := (unhide HB).size
              by_cases hltk : k < l.length
              · obtain ⟨g', off', rfl, hg', hc'⟩ := unhide Hu3 (by omega)
                obtain ⟨x, hx⟩ : ∃ x, l[k]? = some x := ⟨_, List.getElem?_eq_getElem hltk⟩
                have cx := ((unhide HB).cell (p := ⟨g', off' + k, none⟩) hg').trans (hc' k x hx)
                have Hnk : Hid (l.take (k + 1) = l.take k ++ [x]) := by show _ = _; rw [List.take_add_one, hx]; rfl
                have hl1 : (pre ++ le4 l.length ++ l.take k).length + 1 ≤ 67108864 := by rw [List.length_append, List.length_append, le4_len, List.length_take]; omega
                have O1 : Hid ((pre ++ le4 l.length ++ l.take k).length + 1 ≤ maxLen) := by show _ ≤ _; unfold maxLen; omega
                have O2 : Hid (((pre ++ le4 l.length ++ l.take k).length + 1) * 1 ≤ 140737488355328) := by show _ ≤ _; omega
                have hk' : (k : Int) < (l.length : Int) := by omega
                have hk0' : (0 : Int) ≤ (k : Int) := Int.natCast_nonneg _
                clear hc' hx hl1
                go_wp2_with (at_builtin; refine wpList_append_own_at _ rfl _ _ 28 rfl W.heap.size 5 i0 (.int .u8 0) 1 1 Tryd.underlying28 hi hz0 hz1 hz2 rfl (by decide) _ _ _ rfl ((unhide HY).alloc _) ⟨wr.heap.size, 0, none⟩ 1 1 [.int .u8 (x : Int)] rfl rfl (cell_one_new _ _ _) (by simp [Value.oneCell']) (unhide O1) (unhide O2) (by rw [World.size_alloc]; omega) ?_; intro v4 w4 hown4 hgrow4 hdrop4 hat4; clear hdrop4; have Hown := hide hown4; have Hb4 : Hid (Below W.heap.size W w4) := below_grow0 (unhide HB) hszB hgrow4 (fun b hb => ((unhide HY).lt b hb).1); clear hown4 hgrow4 hat4)
                go_roundg (l.length - (k + 1))
                case measure => have := unhide Hgk2; omega
                case rel =>
                  refine ⟨k + 1, by go_num, rfl, by omega, ?_, Hb4⟩
                  show Bytes _ _ _ _
                  rw [unhide Hnk, ← List.append_assoc]
                  exact own_byteN rfl rfl (unhide Hown)
              · obtain rfl : k = l.length := by omega
                have hY := unhide HY
                rw [List.take_length, List.append_assoc, ← unhide Hpre, List.append_assoc, ← unhide Hnx] at hY
                have HY1 := hide hY
                clear hY HY
                go_wp2
                go_roundg (ls.length - (i + 1))
                case measure => have := unhide Hgk; omega
                case rel => exact ⟨i + 1, by go_num, rfl, by omega, HY1, HB⟩
          · obtain rfl : i = ls.length := by omega
            have hY := unhide HY
            rw [List.take_length] at hY
            have HY1 : Hid (Bytes W.heap.size wr u6 (frameL ls)) := hY
            clear hY HY
            go_wp2
            go_ret2
            exact ⟨_, _, rfl, unhide HB, .inl ⟨⟨by omega, hok⟩, rfl, unhide HY1⟩⟩
end Go.Proofs.YtoojchjfmnbdpabDoor
