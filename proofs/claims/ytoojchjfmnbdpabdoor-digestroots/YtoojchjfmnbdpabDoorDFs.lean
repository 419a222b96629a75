import Derived.Test.YtoojchjfmnbdpabDoorDFr
import Derived.Test.YtoojchjfmnbdpabDoorDH
import Derived.Laws.AppendOwnNone
namespace Go.Proofs.YtoojchjfmnbdpabDoor
open Go.RowKit
attribute [local go_sem ↓] Go.wp_at_zero Go.wp_at_succ

def BytA (ls : List (List Nat)) : Prop := ∀ l ∈ ls, Byt l
/-- What Frame answers. -/
def okF (ls : List (List Nat)) : Bool := decide (ls.length ≤ 65536 ∧ 4 + fsize ls ≤ 67108864)
theorem flat_take (ls : List (List Nat)) (n : Nat) : ((ls.take n).flatMap fun l => le4 l.length ++ l).length ≤ fsize ls := by rw [flat_len]; exact fsize_take ls n
set_option maxRecDepth 100000 in
set_option maxHeartbeats 4000000 in
theorem frame_ok {W : World} {v : Value} {ls : List (List Nat)} (h : HasBB W v ls) (h1 : ls.length ≤ 65536) (h2 : 4 + fsize ls ≤ 67108864) :
    Calls Tryd.prog 50 #[v] W fun e W' => ∃ v', e = .returned (.tuple #[v', .int .i64 0]) ∧ Bytes W.heap.size W' v' (frameL ls) ∧ Below W.heap.size W W' := by
  obtain ⟨i0, hi, hz0, hz1, hz2⟩ := info_parts Tryd.infoByte
  have hfs := frameSize_any h (by omega)
  obtain ⟨a, c, rfl, hm, h3⟩ := h
  obtain ⟨N, hN⟩ : ∃ N, 4 + fsize ls = N := ⟨_, rfl⟩
  rw [hN] at hfs h2
  have H3 := hide h3
  have Hfs := hide hfs
  have HN := hide hN
  have hc1 : c ≤ 9223372036854775807 := by have := hm.2.1; unfold maxLen at this; omega
  have hc2 := hm.1
  have q0 : decide (65536 < (ls.length : Int)) = false := by simp; omega
  have q1 : decide (67108864 < (N : Int)) = false := by simp; omega
  clear h3 hm hfs hN
  go_enter Tryd.func50, Tryd.ntmps50
  go_wp2_with fail
  refine (unhide Hfs).mono ?_
  rintro e w' ⟨rfl, he⟩
  obtain rfl : W = w' := he.symm
  go_wp2_with fail
  refine (unhide Hfs).mono ?_
  rintro e w' ⟨rfl, he'⟩
  obtain rfl : W = w' := he'.symm
  go_wp2_with (at_make; refine wpList_make_own _ rfl _ _ 28 rfl W.heap.size 5 i0 (.int .u8 0) 1 Tryd.underlying28 hi hz0 hz1 .i64 .i64 _ N rfl rfl rfl (by rw [hz2]; omega) (by unfold maxLen; omega) (Nat.le_refl _) ?_; intro w5 hown5 hgrow5; have H5 : Hid (Bytes W.heap.size w5 (.slice (some ⟨W.heap.size, 0, none⟩) 0 N) []) := hown5; have Hb5 : Hid (Below W.heap.size W w5) := ⟨hgrow5.os, hgrow5.tape, hgrow5.output, hgrow5.size, fun b hb => hgrow5.block b hb (by simp)⟩; clear hown5 hgrow5)
  refine (putNumber_any (unhide H5) (unhide Hb5).size ls.length (by omega) (by simp)).mono ?_
  rintro e w6 ⟨v6, rfl, hB6, hb6⟩
  have H6 : Hid (Bytes W.heap.size w6 v6 (le4 ls.length ++ (ls.take 0).flatMap fun l => le4 l.length ++ l)) := by show Bytes _ _ _ _; simpa using hB6
  have Hb6 : Hid (Below W.heap.size W w6) := (unhide Hb5).trans hb6
  clear hB6 hb6 H5 Hb5 Hfs he he'
  go_wp2
  go_loopg [4, 24] ls.length (fun gk v4 v24 wr => ∃ (i : Nat), v24 = .int .i64 (i : Int) ∧ gk = ls.length - i ∧ i ≤ ls.length ∧ Hid (Bytes W.heap.size wr v4 (le4 ls.length ++ (ls.take i).flatMap fun l => le4 l.length ++ l)) ∧ Hid (Below W.heap.size W wr))
  case atStart => exact ⟨0, rfl, rfl, by omega, H6, Hb6⟩
  case round =>
    clear H6 Hb6
    obtain ⟨i, rfl, hgk, hk, HY, HB⟩ := hrel
    have Hgk := hide hgk
    clear hgk
    have hsz := (unhide HB).size
    by_cases hlt : i < ls.length
    · obtain ⟨g, off, rfl, hg, hc⟩ := unhide H3 (by omega)
      obtain ⟨l, hl⟩ : ∃ x, ls[i]? = some x := ⟨_, List.getElem?_eq_getElem hlt⟩
      obtain ⟨u, hu, hBu⟩ := hc i l hl
      have hcell := ((unhide HB).cell (p := ⟨g, off + i, none⟩) hg).trans hu
      have Hnx : Hid ((ls.take (i + 1)).flatMap (fun l => le4 l.length ++ l) = ((ls.take i).flatMap fun l => le4 l.length ++ l) ++ (le4 l.length ++ l)) := by show _ = _; rw [List.take_add_one, hl, List.flatMap_append]; simp
      have hln := flat_take ls (i + 1)
      rw [unhide Hnx, List.length_append, List.length_append, le4_len] at hln
      have hNN := unhide HN
      have hle : (le4 ls.length ++ (ls.take i).flatMap fun l => le4 l.length ++ l).length + 4 + l.length ≤ N := by rw [List.length_append, le4_len]; omega
      obtain ⟨ua, uc, rfl, hum, hu3⟩ := hBu
      have Hu3 := hide hu3
      have Hum := hide hum
      have hi' : (i : Int) < (ls.length : Int) := by omega
      have hi0' : (0 : Int) ≤ (i : Int) := Int.natCast_nonneg _
      obtain ⟨pre, hpre⟩ : ∃ pre, (le4 ls.length ++ (ls.take i).flatMap fun l => le4 l.length ++ l) = pre := ⟨_, rfl⟩
      rw [hpre] at HY hle
      have Hpre := hide hpre
      clear hpre
      have hput := putNumber_any (unhide HY) hsz l.length (by omega) (by omega)
      have Hput := hide hput
      clear hc hl hu hln hNN hu3 hum hput HY
      go_wp2_with fail
      refine (unhide Hput).mono ?_
      rintro o w7 ⟨v7, rfl, hB7, hb7⟩
      have HB7 : Hid (Below W.heap.size W w7) := (unhide HB).trans hb7
      have HY7 := hide hB7
      have hsz7 := (unhide HB7).size
      have O1 : Hid ((pre ++ le4 l.length).length + l.length ≤ maxLen) := by show _ ≤ _; rw [List.length_append, le4_len]; unfold maxLen; omega
      have O2 : Hid (((pre ++ le4 l.length).length + l.length) * 1 ≤ 140737488355328) := by show _ ≤ _; rw [List.length_append, le4_len]; omega
      clear hB7 hb7 Hput HB hcell
      rcases ua with _ | ad
      · have hz : uc = 0 := (unhide Hum).2.2 rfl
        have hl0 : l = [] := List.eq_nil_of_length_eq_zero (by have := (unhide Hum).1; omega)
        subst hz hl0
        have HYn : Hid (Bytes W.heap.size w7 v7 (pre ++ le4 0 ++ [])) := by rw [List.append_nil]; exact HY7
        go_wp2_with (at_builtin; refine wpList_append_own_none rfl _ _ 28 rfl W.heap.size 5 i0 1 Tryd.underlying28 hi _ _ _ rfl (unhide HY7) rfl ?_)
        go_roundg (ls.length - (i + 1))
        case measure => have := unhide Hgk; omega
        case rel =>
          refine ⟨i + 1, by go_num, rfl, by omega, ?_, HB7⟩
          show Bytes _ _ _ _
          rw [unhide Hnx, ← List.append_assoc, ← List.append_assoc, unhide Hpre]
          exact unhide HYn
      · have hnews : ∀ j u, (nb l)[j]? = some u → w7.cell? (ad.add j) = some u := fun j u hu => by
          obtain ⟨ad', e1, hcc⟩ := src_of (unhide Hu3) (unhide HB7) (by have := (List.getElem?_eq_some_iff.1 hu).1; omega)
          obtain rfl : ad = ad' := Option.some.inj e1
          exact hcc j u hu
        have Hnews := hide hnews
        clear hnews
        go_wp2_with (at_builtin; refine wpList_append_own_at _ rfl _ _ 28 rfl W.heap.size 5 i0 (.int .u8 0) 1 1 Tryd.underlying28 hi hz0 hz1 hz2 rfl (by decide) _ _ _ rfl (unhide HY7) ad l.length uc (nb l) rfl (by rw [nb_len]; omega) (unhide Hnews) (nb_one _) (unhide O1) (unhide O2) hsz7 ?_; intro v8 w8 hown8 hgrow8 hdrop8 hat8; clear hdrop8 hat8; have Hown := hide hown8; have Hb8 : Hid (Below W.heap.size W w8) := (unhide HB7).trans ⟨hgrow8.os, hgrow8.tape, hgrow8.output, hgrow8.size, fun b hb => hgrow8.block b (by omega) (fun e => by have := ((unhide HY7).lt b e.symm).1; omega)⟩; clear hown8 hgrow8)
        go_roundg (ls.length - (i + 1))
        case measure => have := unhide Hgk; omega
        case rel =>
          refine ⟨i + 1, by go_num, rfl, by omega, ?_, Hb8⟩
          show Bytes _ _ _ _
          rw [unhide Hnx, ← List.append_assoc, ← List.append_assoc, unhide Hpre]
          have e := unhide Hown
          unfold Bytes
          rw [nb_append, List.length_append]
          exact e
    · obtain rfl : i = ls.length := by omega
      have hY := unhide HY
      rw [List.take_length] at hY
      have HY1 : Hid (Bytes W.heap.size wr u4 (frameL ls)) := hY
      clear hY HY
      go_wp2
      go_ret2
      exact ⟨_, rfl, unhide HY1, unhide HB⟩
end Go.Proofs.YtoojchjfmnbdpabDoor
