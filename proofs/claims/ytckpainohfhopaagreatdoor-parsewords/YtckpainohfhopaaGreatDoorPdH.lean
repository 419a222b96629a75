import Derived.Test.YtckpainohfhopaaGreatDoorJ46

namespace Go.Proofs.YtckpainohfhopaaGreatDoor
open Go.RowKit
attribute [local go_sem ↓] Go.wp_at_zero Go.wp_at_succ

theorem ident_a1 : identB ⟨#[97, 95, 49]⟩ = true := by kernel_rfl
set_option maxRecDepth 100000 in
set_option maxHeartbeats 2000000 in
theorem words_core {W : World} {v : Value} {l : List ByteArray} (h : HasS W v l) (hl : l.length ≤ 140737488351232) (hkn : Calls Tryz.prog 7 #[] W (SameP W)) : Calls Tryz.prog 5 #[v] W (SameP W) := by
  obtain ⟨a, c, rfl, hm, h3⟩ := id h
  have H3 := hide h3
  have HK := hide hkn
  clear hm h3 h hkn
  go_enter Tryz.func5, Tryz.ntmps5
  go_wp2_with fail
  refine (unhide HK).mono ?_
  rintro e w1 ⟨rfl, hb1⟩
  have Hb1 := hide hb1
  clear hb1 HK
  go_wp2_with fail
  refine (word_any w1 _).mono ?_
  rintro e w2 ⟨rfl, hw⟩
  obtain rfl : w1 = w2 := hw.symm
  clear hw
  rw [ident_a1]
  go_wp2
  go_loopg [3, 4] l.length (fun gk v3 _ wr => ∃ (k : Nat), v3 = .int .i64 (k : Int) ∧ gk = l.length - k ∧ k ≤ l.length ∧ Hid (Below W.heap.size W wr))
  case atStart => exact ⟨0, rfl, rfl, by omega, Hb1⟩
  case round =>
    obtain ⟨k, rfl, hgk, hk, HB⟩ := hrel
    have Hgk := hide hgk
    clear hgk
    by_cases hlt : k < l.length
    · obtain ⟨g, off, rfl, hg, hc⟩ := unhide H3 (by omega)
      obtain ⟨s, hs⟩ : ∃ s, l[k]? = some s := ⟨_, List.getElem?_eq_getElem hlt⟩
      have hcell : wr.cell? ⟨g, off + k, none⟩ = some (.string s) := ((unhide HB).cell (p := ⟨g, off + k, none⟩) hg).trans (hc k s hs)
      clear hc hs
      go_wp2_with fail
      refine (word_any wr s).mono ?_
      rintro e w2 ⟨rfl, hw⟩
      obtain rfl : wr = w2 := hw.symm
      clear hw
      go_wp2_with fail
      refine (yword_any wr s).mono ?_
      rintro e w2 ⟨rfl, hw⟩
      obtain rfl : wr = w2 := hw.symm
      clear hw
      obtain ⟨b, hb⟩ : ∃ b, identB s = b := ⟨_, rfl⟩
      rw [hb]
      have e0 : (b != b) = false := by simp
      clear hb
      go_wp2
      go_roundg (l.length - (k + 1))
      case measure => have := unhide Hgk; omega
      case rel => exact ⟨k + 1, by go_num, rfl, by omega, HB⟩
    · obtain rfl : k = l.length := by omega
      go_wp2
      go_ret
      exact ⟨rfl, unhide HB⟩
end Go.Proofs.YtckpainohfhopaaGreatDoor
