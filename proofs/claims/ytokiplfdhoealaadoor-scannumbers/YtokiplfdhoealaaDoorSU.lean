import Derived.Test.YtokiplfdhoealaaDoorST
import Derived.Test.YtokiplfdhoealaaDoorSO
namespace Go.Proofs.YtokiplfdhoealaaDoor
open Go.RowKit
attribute [local go_sem ↓] Go.wp_at_zero Go.wp_at_succ

theorem NumP.same {s : ByteArray} {n c m d : Int} (h : (65536 < s.size ∧ n = 0 ∧ c = 2) ∨ (s.size ≤ 65536 ∧ NumU (strN s) n c)) (k : (65536 < s.size ∧ m = 0 ∧ d = 2) ∨ (s.size ≤ 65536 ∧ NumU (strN s) m d)) : n = m ∧ c = d := by
  rcases h with ⟨h1, rfl, rfl⟩ | ⟨h1, h2⟩ <;> rcases k with ⟨k1, rfl, rfl⟩ | ⟨k1, k2⟩
  · exact ⟨rfl, rfl⟩
  · omega
  · omega
  · exact h2.same k2
theorem num_ex {n c : Int} (h : (65536 < (ByteArray.mk #[48, 120, 49, 102]).size ∧ n = 0 ∧ c = 2) ∨ ((ByteArray.mk #[48, 120, 49, 102]).size ≤ 65536 ∧ NumU (strN ⟨#[48, 120, 49, 102]⟩) n c)) : n = 31 ∧ c = 0 := by
  refine NumP.same h (.inr ⟨by decide, .inl ⟨31, ?_, rfl, rfl⟩⟩)
  show wv [48, 120, 49, 102] = some 31
  decide
set_option maxRecDepth 100000 in
set_option maxHeartbeats 1000000 in
theorem numbers_any {W : World} {v : Value} {l : List ByteArray} (hE : HasE W) (h : HasS W v l) (hl : l.length ≤ 140737488351232) :
    Calls Tryd.prog 3 #[v] W fun e W' => e = .returned (.bool true) ∧ Below W.heap.size W W' := by
  obtain ⟨a, c, rfl, hm, h3⟩ := id h
  have H3 := hide h3
  clear hm h3 h
  go_enter Tryd.func3, Tryd.ntmps3
  go_wp2_with fail
  refine (number_any hE _).mono ?_
  rintro e w1 ⟨hb1, n, c, rfl, hu⟩
  obtain ⟨rfl, rfl⟩ := num_ex hu
  have Hb1 := hide hb1
  clear hu hb1
  go_wp2
  go_loopg [5, 6, 7, 8, 9] l.length (fun gk v5 _ _ _ _ wr => ∃ (k : Nat), v5 = .int .i64 (k : Int) ∧ gk = l.length - k ∧ k ≤ l.length ∧ Hid (Below W.heap.size W wr))
  case atStart => exact ⟨0, rfl, rfl, by omega, Hb1⟩
  case round =>
    obtain ⟨k, rfl, hgk, hk, HB⟩ := hrel
    have Hgk := hide hgk
    clear hgk
    by_cases hlt : k < l.length
    · obtain ⟨g, off, rfl, hg, hc⟩ := unhide H3 (by omega)
      obtain ⟨s, hs⟩ : ∃ s, l[k]? = some s := ⟨_, List.getElem?_eq_getElem hlt⟩
      have hcell : wr.cell? ⟨g, off + k, none⟩ = some (.string s) := ((unhide HB).cell (p := ⟨g, off + k, none⟩) hg).trans (hc k s hs)
      have Hg : Hid (g < wr.heap.size) := Nat.lt_of_lt_of_le hg (unhide HB).size
      clear hc hs
      go_wp2_with fail
      refine (number_any (hE.up (unhide HB)) s).mono ?_
      rintro e w2 ⟨hb2, n, c, rfl, hu⟩
      have hcell2 : w2.cell? ⟨g, off + k, none⟩ = some (.string s) := (hb2.cell (p := ⟨g, off + k, none⟩) (unhide Hg)).trans hcell
      have HB2 : Hid (Below W.heap.size W w2) := (unhide HB).trans (hb2.mono (unhide HB).size)
      have Hu := hide hu
      clear hu hb2 hcell HB Hg
      go_wp2_with fail
      refine (xnumber_any w2 s).mono ?_
      rintro e w3 ⟨hb3, n', c', rfl, hu⟩
      obtain ⟨rfl, rfl⟩ := NumP.same (unhide Hu) hu
      have HB3 : Hid (Below W.heap.size W w3) := (unhide HB2).trans (hb3.mono (unhide HB2).size)
      have n1 : (n != n) = false := by simp
      have n2 : (c != c) = false := by simp
      clear hu Hu hb3 HB2 hcell2
      go_wp2
      go_roundg (l.length - (k + 1))
      case measure => have := unhide Hgk; omega
      case rel => exact ⟨k + 1, by go_num, rfl, by omega, HB3⟩
    · obtain rfl : k = l.length := by omega
      go_wp2
      go_ret
      exact ⟨rfl, unhide HB⟩
end Go.Proofs.YtokiplfdhoealaaDoor
