import Derived.Test.YtoojchjfmnbdpabDoorDBB
namespace Go.Proofs.YtoojchjfmnbdpabDoor
open Go.RowKit
attribute [local go_sem ↓] Go.wp_at_zero Go.wp_at_succ

def le4 (n : Nat) : List Nat := [n % 256, n / 256 % 256, n / 65536 % 256, n / 16777216 % 256]
def frameL (ls : List (List Nat)) : List Nat := le4 ls.length ++ ls.flatMap fun l => le4 l.length ++ l
def fsize (ls : List (List Nat)) : Nat := (ls.map fun l => 4 + l.length).sum
theorem le4_len (n : Nat) : (le4 n).length = 4 := rfl
theorem fsize_more (ls : List (List Nat)) (l : List Nat) : fsize (ls ++ [l]) = fsize ls + (4 + l.length) := by simp [fsize]
theorem fsize_take (ls : List (List Nat)) : ∀ n, fsize (ls.take n) ≤ fsize ls := fun n => by
  have h : fsize ls = fsize (ls.take n) + fsize (ls.drop n) := by unfold fsize; rw [← List.sum_append, ← List.map_append, List.take_append_drop]
  omega
theorem flat_len (ls : List (List Nat)) : (ls.flatMap fun l => le4 l.length ++ l).length = fsize ls := by
  induction ls with
  | nil => rfl
  | cons l ls ih => rw [List.flatMap_cons, List.length_append, ih]; simp [fsize, le4_len]
theorem frameL_len (ls : List (List Nat)) : (frameL ls).length = 4 + fsize ls := by unfold frameL; rw [List.length_append, flat_len, le4_len]
set_option maxRecDepth 100000 in
set_option maxHeartbeats 1000000 in
theorem frameSize_any {W : World} {v : Value} {ls : List (List Nat)} (h : HasBB W v ls) (hn : fsize ls ≤ 9223372036854775000) :
    Calls Tryd.prog 65 #[v] W fun e W' => e = .returned (.int .i64 ((4 + fsize ls : Nat) : Int)) ∧ W' = W := by
  obtain ⟨a, c, rfl, hm, h3⟩ := h
  have H3 := hide h3
  have hc1 : c ≤ 9223372036854775807 := by have := hm.2.1; unfold maxLen at this; omega
  have hc2 := hm.1
  clear h3 hm
  go_enter Tryd.func65, Tryd.ntmps65
  go_wp2
  go_loopg [3, 8] ls.length (fun gk v3 v8 wr => ∃ (i s : Nat), v8 = .int .i64 (i : Int) ∧ v3 = .int .i64 (s : Int) ∧ s = 4 + fsize (ls.take i) ∧ gk = ls.length - i ∧ i ≤ ls.length ∧ wr = W)
  case atStart => exact ⟨0, 4, rfl, rfl, rfl, rfl, by omega, rfl⟩
  case round =>
    obtain ⟨i, s, rfl, rfl, hs, hgk, hk, rfl⟩ := hrel
    have Hgk := hide hgk
    clear hgk
    by_cases hlt : i < ls.length
    · obtain ⟨g, off, rfl, hg, hc⟩ := unhide H3 (by omega)
      obtain ⟨l, hl⟩ : ∃ x, ls[i]? = some x := ⟨_, List.getElem?_eq_getElem hlt⟩
      obtain ⟨u, hu, hB⟩ := hc i l hl
      obtain ⟨ua, uc, rfl, hum, _⟩ := hB
      have hnx : fsize (ls.take (i + 1)) = fsize (ls.take i) + (4 + l.length) := by rw [List.take_add_one, hl]; exact fsize_more _ _
      have hle := fsize_take ls (i + 1)
      have hs1 : s + (4 + l.length) ≤ 9223372036854775004 := by omega
      have hi' : (i : Int) < (ls.length : Int) := by omega
      have hi0 : (0 : Int) ≤ (i : Int) := Int.natCast_nonneg _
      have Hnx := hide hnx
      have Hs := hide hs
      clear hc hl hnx hle hs
      go_wp2
      go_roundg (ls.length - (i + 1))
      case measure => have := unhide Hgk; omega
      case rel =>
        refine ⟨i + 1, s + (4 + l.length), by go_num, by go_num, ?_, rfl, by omega, rfl⟩
        rw [unhide Hnx, unhide Hs]
        omega
    · obtain rfl : i = ls.length := by omega
      rw [List.take_length] at hs
      subst hs
      go_wp2
      go_ret
      exact ⟨rfl, rfl⟩
set_option maxRecDepth 100000 in
set_option maxHeartbeats 1000000 in
theorem putNumber_any {W : World} {base : Nat} {v : Value} {l : List Nat} (h : Bytes base W v l) (hb : base ≤ W.heap.size) (n : Nat) (hn : n < 4294967296) (hl : l.length + 4 ≤ 140737488355328) :
    Calls Tryd.prog 66 #[v, .int .i64 (n : Int)] W fun e W' => ∃ v', e = .returned v' ∧ Bytes base W' v' (l ++ le4 n) ∧ Below base W W' := by
  obtain ⟨i0, hi, hz0, hz1, hz2⟩ := info_parts Tryd.infoByte
  have HY := hide h
  have o1 : l.length + 4 ≤ maxLen := by unfold maxLen; omega
  clear h
  go_enter Tryd.func66, Tryd.ntmps66
  go_wp2_with (at_builtin; refine wpList_append_own_at _ rfl _ _ 28 rfl base 5 i0 (.int .u8 0) 1 1 Tryd.underlying28 hi hz0 hz1 hz2 rfl (by decide) _ _ _ rfl ((unhide HY).alloc _) ⟨W.heap.size, 0, none⟩ 4 4 [.int .u8 ((n : Int) % 256), .int .u8 ((n : Int) / 256 % 256), .int .u8 ((n : Int) / 65536 % 256), .int .u8 ((n : Int) / 16777216)] rfl rfl (World.news_of_block (cs := #[.int .u8 ((n : Int) % 256), .int .u8 ((n : Int) / 256 % 256), .int .u8 ((n : Int) / 65536 % 256), .int .u8 ((n : Int) / 16777216)]) (heap_new _ _)) (by simp [Value.oneCell']) o1 (by omega) (by rw [World.size_alloc]; omega) ?_; intro v4 w4 hown4 hgrow4 hdrop4 hat4; clear hdrop4 hat4; have Hown := hide hown4; have Hb4 : Hid (Below base W w4) := below_grow0 (Below.refl _ _) hb hgrow4 (fun b hb => ((unhide HY).lt b hb).1); clear hown4 hgrow4)
  go_ret
  refine ⟨_, rfl, ?_, unhide Hb4⟩
  have e := unhide Hown
  unfold Bytes
  rw [nb_append, List.length_append, le4_len]
  have e4 : nb (le4 n) = [.int .u8 ((n : Int) % 256), .int .u8 ((n : Int) / 256 % 256), .int .u8 ((n : Int) / 65536 % 256), .int .u8 ((n : Int) / 16777216)] := by
    unfold nb le4
    simp only [List.map_cons, List.map_nil]
    rw [show ((n / 16777216 % 256 : Nat) : Int) = (n : Int) / 16777216 by omega]
    simp
  rw [e4]
  exact e
end Go.Proofs.YtoojchjfmnbdpabDoor
