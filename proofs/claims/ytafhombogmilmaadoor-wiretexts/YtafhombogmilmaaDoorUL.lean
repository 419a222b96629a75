import Derived.Test.YtafhombogmilmaaDoorUP
import Derived.Test.YtafhombogmilmaaDoorSO
import Derived.Test.YtafhombogmilmaaDoorWTx
import Derived.Test.YtafhombogmilmaaDoorWKw
import Derived.Test.YtafhombogmilmaaDoorWX
import Derived.Test.YtafhombogmilmaaDoorWLaid
namespace Go.Proofs.YtafhombogmilmaaDoor
open Go.RowKit
attribute [local go_sem ↓] Go.wp_at_zero Go.wp_at_succ

theorem addNil : AddNil := fun _ _ _ _ _ _ _ r h => add_nil r h
theorem textU.same {W W' U U' : World} {s : ByteArray} {e e' : Ending} (h : TextU W s e W') (h' : TextU U s e' U') :
    ∃ v c v' bs, e = .returned (.tuple #[v, .int .i64 c]) ∧ e' = .returned (.tuple #[v', .int .i64 c]) ∧ HasB W' v bs ∧ HasB U' v' bs ∧ Below W.heap.size W W' ∧ Below U.heap.size U U' := by
  obtain ⟨v, c, rfl, hc, hb⟩ := h
  obtain ⟨v', c', rfl, hc', hb'⟩ := h'
  rcases hc with ⟨h1, rfl, h2⟩ | ⟨h1, rfl, rfl⟩ <;> rcases hc' with ⟨k1, rfl, k2⟩ | ⟨k1, rfl, rfl⟩
  · exact ⟨_, _, _, _, rfl, rfl, h2.has, k2.has, hb, hb'⟩
  · omega
  · omega
  · exact ⟨_, _, _, [], rfl, rfl, (Bytes.has (base := 0) ⟨rfl, .inl ⟨rfl, rfl⟩⟩), (Bytes.has (base := 0) ⟨rfl, .inl ⟨rfl, rfl⟩⟩), hb, hb'⟩
set_option maxRecDepth 100000 in
set_option maxHeartbeats 2000000 in
theorem texts_any {W : World} {v : Value} {l : List ByteArray} (hF : HasF W) (h : HasS W v l) (hz : ∀ s ∈ l, s.size ≤ 140737488351232) (hl : l.length ≤ 140737488351232) :
    Calls Tryd.prog 3 #[v] W fun e W' => e = .returned (.bool true) ∧ Below W.heap.size W W' := by
  obtain ⟨a, c, rfl, hm, h3⟩ := id h
  have H3 := hide h3
  have Hz := hide hz
  clear hm h3 h hz
  go_enter Tryd.func3, Tryd.ntmps3
  go_wp2_with fail
  refine (known_any addNil hF).mono ?_
  rintro e w1 ⟨rfl, hb1⟩
  have Hb1 := hide hb1
  clear hb1
  go_wp2
  go_loopg [3, 4, 5, 6, 7, 8] l.length (fun gk v3 _ _ _ _ _ wr => ∃ (k : Nat), v3 = .int .i64 (k : Int) ∧ gk = l.length - k ∧ k ≤ l.length ∧ Hid (Below W.heap.size W wr))
  case atStart => exact ⟨0, rfl, rfl, by omega, Hb1⟩
  case round =>
    obtain ⟨k, rfl, hgk, hk, HB⟩ := hrel
    have Hgk := hide hgk
    clear hgk
    by_cases hlt : k < l.length
    · obtain ⟨g, off, rfl, hg, hc⟩ := unhide H3 (by omega)
      obtain ⟨s, hs⟩ : ∃ s, l[k]? = some s := ⟨_, List.getElem?_eq_getElem hlt⟩
      have hss : s.size ≤ 140737488351232 := unhide Hz s (List.mem_of_getElem? hs)
      have Hcl : Hid (∀ w, Below W.heap.size W w → w.cell? ⟨g, off + k, none⟩ = some (.string s)) := fun w hw => (hw.cell (p := ⟨g, off + k, none⟩) hg).trans (hc k s hs)
      have hcell := unhide Hcl wr (unhide HB)
      clear hc hs hg
      go_wp2_with fail
      refine (textU wr s).mono ?_
      rintro e w2 hT
      have hT0 := hT
      obtain ⟨v1, c1, rfl, hx1, hb2⟩ := hT
      have HB2 : Hid (Below W.heap.size W w2) := (unhide HB).trans (hb2.mono (unhide HB).size)
      have HT := hide hT0
      have hcell2 := unhide Hcl w2 (unhide HB2)
      clear hT0 hx1 hb2 hcell
      go_wp2_with fail
      refine (xtextU w2 s).mono ?_
      rintro e w3 hT
      obtain ⟨p1, p2, p3, bs, he1, rfl, hB1, hB2, _, hb3⟩ := textU.same (unhide HT) hT
      obtain ⟨rfl, rfl⟩ : v1 = p1 ∧ c1 = p2 := by simpa using he1
      have HB3 : Hid (Below W.heap.size W w3) := (unhide HB2).trans (hb3.mono (unhide HB2).size)
      have hcell3 := unhide Hcl w3 (unhide HB3)
      have hB1' := hB1.up hb3
      obtain ⟨a1, cc1, e1, _⟩ := id hB1'
      obtain ⟨a2, cc2, e2, _⟩ := id hB2
      subst e1 e2
      have Hs1 := hide hB1'
      have Hs2 := hide hB2
      clear hB1 hB2 hB1' hb3 hT HT he1 hcell2 HB2
      go_wp2_with fail
      refine (utf8_any (hF.up (unhide HB3)) s hss).mono ?_
      rintro e w4 ⟨rfl, hb4⟩
      have HB4 : Hid (Below W.heap.size W w4) := (unhide HB3).trans (hb4.mono (unhide HB3).size)
      have hcell4 := unhide Hcl w4 (unhide HB4)
      have Hs3 := hide ((unhide Hs1).up hb4)
      have Hs4 := hide ((unhide Hs2).up hb4)
      clear hb4 hcell3 HB3 Hs1 Hs2
      go_wp2_with fail
      refine (same_any (unhide Hs3) (unhide Hs4)).mono ?_
      rintro e w5 ⟨rfl, hb5⟩
      have HB5 : Hid (Below W.heap.size W w5) := (unhide HB4).trans (hb5.mono (unhide HB4).size)
      have hcell5 := unhide Hcl w5 (unhide HB5)
      clear hb5 hcell4 HB4 Hs3 Hs4
      have n1 : (c1 != c1) = false := by simp
      go_wp2_with fail
      refine (xutf8_any w5 s hss).mono ?_
      rintro e w6 ⟨rfl, he6⟩
      obtain rfl : w5 = w6 := he6.symm
      obtain ⟨u, hu⟩ : ∃ u, u = utfAt s 0 := ⟨_, rfl⟩
      rw [← hu]
      have n2 : (u != u) = false := by simp
      clear hu
      go_wp2
      go_roundg (l.length - (k + 1))
      case measure => have := unhide Hgk; omega
      case rel => exact ⟨k + 1, by go_num, rfl, by omega, HB5⟩
    · obtain rfl : k = l.length := by omega
      go_wp2
      go_ret
      exact ⟨rfl, unhide HB⟩
end Go.Proofs.YtafhombogmilmaaDoor
