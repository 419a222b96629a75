import Derived.Test.YtoojchjfmnbdpabDoorDSk
import Derived.Test.YtoojchjfmnbdpabDoorDBB
namespace Go.Proofs.YtoojchjfmnbdpabDoor
open Go.RowKit
attribute [local go_sem ↓] Go.wp_at_zero Go.wp_at_succ

theorem HasB.apart {W : World} {v : Value} {l : List Nat} (h : HasB W v l) {k : Nat} (hk : W.heap.size ≤ k) : ∀ g off n c, v = .slice (some ⟨g, off, none⟩) n c → 0 < l.length → g ≠ k := by
  intro g off n c hv hp
  obtain ⟨a, c', rfl, _, h3⟩ := h
  obtain ⟨g', off', rfl, h4, _⟩ := h3 hp
  injection hv with e1 _ _
  injection e1 with e1
  injection e1 with e1 _ _
  omega
set_option maxRecDepth 100000 in
set_option maxHeartbeats 1000000 in
theorem sumOf_any {W : World} (hK : HasK W) (hS : HasS W) {v : Value} {ls : List (List Nat)} (h : HasBB W v ls) (hb : ∀ l ∈ ls, Byt l) (hn : ls.flatten.length ≤ 140737488355328) :
    Calls Tryd.prog 49 #[v] W fun e W' => ∃ v', e = .returned v' ∧ Bytes W.heap.size W' v' (sha ls.flatten) ∧ Below W.heap.size W W' := by
  obtain ⟨a, c, rfl, hm, h3⟩ := id h
  have H3 := hide h3
  have Hb := hide hb
  have hm1 := hm.1
  have hm2 := hm.2.1
  unfold maxLen at hm2
  have hlen : ls.length ≤ 9223372036854775807 := by omega
  clear hm h3 h hb
  go_enter Tryd.func49, Tryd.ntmps49
  go_wp2_with fail
  refine (new_any hS).mono ?_
  rintro e w1 ⟨rfl, hH, hb1⟩
  have HH := hide hH
  have Hb1 := hide hb1
  clear hH hb1
  go_wp2
  go_loopg [5, 9] ls.length (fun gk _ v9 wr => ∃ (k : Nat), v9 = .int .i64 (k : Int) ∧ gk = ls.length - k ∧ k ≤ ls.length ∧ Hid (HashAt wr W.heap.size (ls.take k).flatten) ∧ Hid (Below W.heap.size W wr))
  case atStart => exact ⟨0, rfl, rfl, by omega, by simpa using HH, Hb1⟩
  case round =>
    obtain ⟨k, rfl, hgk, hk, HHk, HB⟩ := hrel
    have Hgk := hide hgk
    clear hgk HH Hb1
    by_cases hlt : k < ls.length
    · obtain ⟨g, off, rfl, hg, hc⟩ := unhide H3 (by omega)
      obtain ⟨l, hl⟩ : ∃ l, ls[k]? = some l := ⟨_, List.getElem?_eq_getElem hlt⟩
      obtain ⟨u, hu, hB⟩ := hc k l hl
      have hcell : wr.cell? ⟨g, off + k, none⟩ = some u := ((unhide HB).cell (p := ⟨g, off + k, none⟩) hg).trans hu
      have hus : ∃ ua un uc, u = .slice ua un uc := by obtain ⟨ua, uc, rfl, _⟩ := hB; exact ⟨_, _, _, rfl⟩
      obtain ⟨ua, un, uc, rfl⟩ := hus
      have hnext : (ls.take (k + 1)).flatten = (ls.take k).flatten ++ l := by rw [List.take_add_one, hl]; simp
      have htot : ls.flatten.length = (ls.take k).flatten.length + (l.length + (ls.drop (k + 1)).flatten.length) := by
        conv => lhs; rw [← List.take_append_drop (k + 1) ls, List.flatten_append, hnext]
        simp only [List.length_append]
        omega
      have hadd := add_any (W := wr) (hK.up (unhide HB)) (unhide HHk) (by have := hK.1; omega) (hB.up (unhide HB)) (hB.apart (Nat.le_refl _)) (unhide Hb l (List.mem_of_getElem? hl)) (by omega)
      have Hadd := hide hadd
      have Hnext := hide hnext
      clear hc hl hB hu hnext htot hadd
      have k0 : (0 : Int) ≤ (k : Int) := Int.natCast_nonneg _
      have k1 : (k : Int) < (ls.length : Int) := by omega
      go_wp2_with fail
      refine (unhide Hadd).mono ?_
      rintro e w2 ⟨rfl, hH2, hO2⟩
      have HH2 : Hid (HashAt w2 W.heap.size (ls.take (k + 1)).flatten) := by
        show HashAt _ _ _
        rw [unhide Hnext]
        exact hH2
      have HB2 : Hid (Below W.heap.size W w2) := (unhide HB).trans (hO2.below (unhide HB).size (Nat.le_refl _))
      clear hH2 hO2 Hadd Hnext hcell
      go_wp2
      go_roundg (ls.length - (k + 1))
      case measure => have := unhide Hgk; omega
      case rel => exact ⟨k + 1, by go_num, rfl, by omega, HH2, HB2⟩
    · obtain rfl : k = ls.length := by omega
      have hH9 := unhide HHk
      rw [List.take_length] at hH9
      have hsum := hsum_any (hK.up (unhide HB)) hH9 (by omega)
      have Hsum := hide hsum
      have hsz := (unhide HB).size
      clear hsum hH9
      go_wp2_with fail
      refine (unhide Hsum).mono ?_
      rintro e w2 ⟨v', rfl, hB2, hb2⟩
      have HB2 := hide hB2
      have HB3 : Hid (Below W.heap.size W w2) := (unhide HB).trans (hb2.mono hsz)
      clear hB2 hb2 Hsum
      go_wp2
      go_ret
      exact ⟨v', rfl, (unhide HB2).base hsz, unhide HB3⟩
set_option maxRecDepth 100000 in
set_option maxHeartbeats 1000000 in
theorem sum_any {W : World} (hK : HasK W) (hS : HasS W) {v : Value} {l : List Nat} (h : HasB W v l) (hb : Byt l) (hn : l.length ≤ 140737488355328) :
    Calls Tryd.prog 25 #[v] W fun e W' => ∃ v', e = .returned v' ∧ Bytes W.heap.size W' v' (sha l) ∧ Below W.heap.size W W' := by
  have hB0 : Below W.heap.size W (W.alloc (.cells #[v] 28)) := (Below.refl _ _).alloc (Nat.le_refl _) _
  have hs := sumOf_any (hK.up hB0) (hS.up hB0) (hasBB_one h 28) (fun x hx => by rw [List.mem_singleton.1 hx]; exact hb) (by simpa using hn)
  have Hs := hide hs
  have HB0 := hide hB0
  have hus : ∃ ua un uc, v = .slice ua un uc := by obtain ⟨ua, uc, rfl, _⟩ := h; exact ⟨_, _, _, rfl⟩
  obtain ⟨ua, un, uc, rfl⟩ := hus
  clear hs h hB0
  go_enter Tryd.func25, Tryd.ntmps25
  go_wp2_with fail
  refine (unhide Hs).mono ?_
  rintro e w2 ⟨v', rfl, hB2, hb2⟩
  rw [show [l].flatten = l by simp] at hB2
  have HB2 := hide (hB2.base (b' := W.heap.size) (by rw [World.size_alloc]; omega))
  have HB3 : Hid (Below W.heap.size W w2) := (unhide HB0).trans (hb2.mono (by rw [World.size_alloc]; omega))
  clear hB2 hb2 Hs
  go_wp2
  go_ret
  exact ⟨v', rfl, unhide HB2, unhide HB3⟩
end Go.Proofs.YtoojchjfmnbdpabDoor
