import Derived.Test.YtokiplfdhoealaaDoorSX
import Derived.Test.YtokiplfdhoealaaDoorSO
namespace Go.Proofs.YtokiplfdhoealaaDoor
open Go.RowKit Go.Lib
attribute [local go_sem ↓] Go.wp_at_zero Go.wp_at_succ

theorem quote_a : ofN (34 :: qAll ⟨#[97]⟩ 0 ++ [34]) = ⟨#[34, 97, 34]⟩ := by
  have hp : plainK ⟨#[97]⟩ 0 = 1 := by
    unfold plainK
    rw [if_neg (by decide), if_neg (by decide)]
  have h1 : qAll ⟨#[97]⟩ 0 = [97] := by
    rw [qAll_step (by decide)]
    have hq : qs ⟨#[97]⟩ 0 = [97] := by
      unfold qs
      rw [if_neg (by rw [hp]; decide), hp]
      rfl
    have hn : qn ⟨#[97]⟩ 0 = 1 := by
      unfold qn
      rw [if_neg (by rw [hp]; decide), hp]
    rw [hq, hn, qAll_end (by decide)]
    rfl
  rw [h1]
  rfl
set_option maxRecDepth 100000 in
set_option maxHeartbeats 1000000 in
theorem quotes_any {W : World} {v : Value} {l : List ByteArray} (hF : HasF W) (h : HasS W v l) (hz : ∀ s ∈ l, s.size ≤ 1048576) (hl : l.length ≤ 1048576) :
    Calls Tryd.prog 4 #[v] W fun e W' => e = .returned (.bool true) ∧ Below W.heap.size W W' := by
  obtain ⟨a, c, rfl, hm, h3⟩ := id h
  have H3 := hide h3
  have Hz := hide hz
  clear hm h3 h hz
  go_enter Tryd.func4, Tryd.ntmps4
  go_wp2_with fail
  refine (quote_any hF _ (by decide)).mono ?_
  rintro e w1 ⟨rfl, hb1⟩
  rw [quote_a]
  have Hb1 := hide hb1
  clear hb1
  go_wp2
  go_loopg [3] l.length (fun gk v3 wr => ∃ (k : Nat), v3 = .int .i64 (k : Int) ∧ gk = l.length - k ∧ k ≤ l.length ∧ Hid (Below W.heap.size W wr))
  case atStart => exact ⟨0, rfl, rfl, by omega, Hb1⟩
  case round =>
    obtain ⟨k, rfl, hgk, hk, HB⟩ := hrel
    have Hgk := hide hgk
    clear hgk
    by_cases hlt : k < l.length
    · obtain ⟨g, off, rfl, hg, hc⟩ := unhide H3 (by omega)
      obtain ⟨s, hs⟩ : ∃ s, l[k]? = some s := ⟨_, List.getElem?_eq_getElem hlt⟩
      have hss : s.size ≤ 1048576 := unhide Hz s (List.mem_of_getElem? hs)
      have Hcl : Hid (∀ w, Below W.heap.size W w → w.cell? ⟨g, off + k, none⟩ = some (.string s)) := fun w hw => (hw.cell (p := ⟨g, off + k, none⟩) hg).trans (hc k s hs)
      have hcell := unhide Hcl wr (unhide HB)
      clear hc hs hg
      obtain ⟨t, ht⟩ : ∃ t, t = ofN (34 :: qAll s 0 ++ [34]) := ⟨_, rfl⟩
      have HQ : Hid (∀ w, Below W.heap.size W w → Calls Tryd.prog 9 #[.string s] w fun e w' => e = .returned (.string t) ∧ Below w.heap.size w w') := fun w hw => by rw [ht]; exact quote_any (hF.up hw) s hss
      have HX : Hid (∀ w, Calls Tryd.prog 10 #[.string s] w fun e w' => e = .returned (.string t) ∧ Below w.heap.size w w') := fun w => by rw [ht]; exact xquote_any w s hss
      have hk0 : (0 : Int) ≤ (k : Int) := Int.natCast_nonneg _
      have hk1 : (k : Int) < (l.length : Int) := by omega
      clear ht
      go_wp2_with fail
      go_region_held3 (fun w' => w'.cell? ⟨g, off + k, none⟩ = some (.string s)) (first | go_keep | exact unhide Hcl _ hc2 | exact unhide Hcl _ hc1)
        (first
          | (go_at_call 9; refine (unhide HQ _ (by first | exact (unhide HB).drew | exact (unhide HB).drew.drew | exact (unhide HB).drew.drew.drew)).mono ?_; rintro e w2 ⟨rfl, hb2⟩; have hc1 : Below W.heap.size W w2 := (by first | exact ((unhide HB).drew).trans (hb2.mono (unhide HB).size) | exact ((unhide HB).drew.drew).trans (hb2.mono (unhide HB).size) | exact ((unhide HB).drew.drew.drew).trans (hb2.mono (unhide HB).size)); clear hb2)
          | (go_at_call 10; refine (unhide HX _).mono ?_; rintro e w3 ⟨rfl, hb3⟩; have hc2 : Below W.heap.size W w3 := hc1.trans (hb3.mono hc1.size); clear hb3))
      have HB3 := hide hc2
      go_wp2
      go_roundg (l.length - (k + 1))
      case measure => have := unhide Hgk; omega
      case rel => exact ⟨k + 1, by go_num, rfl, by omega, HB3⟩
    · obtain rfl : k = l.length := by omega
      go_wp2
      go_ret
      exact ⟨rfl, unhide HB⟩
end Go.Proofs.YtokiplfdhoealaaDoor
