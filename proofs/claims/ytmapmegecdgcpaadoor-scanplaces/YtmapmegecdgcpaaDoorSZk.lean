import Derived.Test.YtmapmegecdgcpaaDoorZIJ
import Derived.Test.YtmapmegecdgcpaaDoorSO
import Derived.Test.YtmapmegecdgcpaaDoorUXb
namespace Go.Proofs.YtmapmegecdgcpaaDoor
open Go.RowKit
attribute [local go_sem ↓] Go.wp_at_zero Go.wp_at_succ

theorem tok_head : tokR ⟨#[97, 61, 49]⟩ = .inl [⟨1, 0, ⟨#[97]⟩⟩, ⟨4, 1, ⟨#[61]⟩⟩, ⟨2, 2, ⟨#[49]⟩⟩, ⟨5, 3, ⟨#[]⟩⟩] := by
  have hz : (ByteArray.mk #[97, 61, 49]).size = 3 := rfl
  have b0 : byteAt ⟨#[97, 61, 49]⟩ 0 = 97 := rfl
  have b1 : byteAt ⟨#[97, 61, 49]⟩ 1 = 61 := rfl
  have b2 : byteAt ⟨#[97, 61, 49]⟩ 2 = 49 := rfl
  have hu : utfAt ⟨#[97, 61, 49]⟩ 0 = -1 := by
    refine utf_ascii (fun k hk => ?_) 3 0 (by rw [hz]; omega)
    rw [hz] at hk
    match k, hk with
    | 0, _ => decide
    | 1, _ => decide
    | 2, _ => decide
  have r0 : endRow ⟨#[97, 61, 49]⟩ 0 = 1 := by
    rw [endRow_step (by rw [hz]; omega) (by rw [b0]; decide), endRow_stop (by rw [b1]; decide)]
  have r2 : endRow ⟨#[97, 61, 49]⟩ 2 = 3 := by
    rw [endRow_step (by rw [hz]; omega) (by rw [b2]; decide), endRow_end (by rw [hz]; omega)]
  have o0 : oneF ⟨#[97, 61, 49]⟩ 0 = (1, 1, 0) := by unfold oneF; rw [b0, if_pos (by decide), r0]
  have o1 : oneF ⟨#[97, 61, 49]⟩ 1 = (4, 2, 0) := by unfold oneF; rw [b1, if_neg (by decide), if_neg (by decide), if_neg (by decide), if_pos (by decide)]
  have o2 : oneF ⟨#[97, 61, 49]⟩ 2 = (2, 3, 0) := by
    unfold oneF
    rw [b2, if_neg (by decide), if_pos (by decide), r2, if_neg (by decide)]
  have p : ∀ k, k < 3 → ¬ isBlk (byteAt ⟨#[97, 61, 49]⟩ k) → ¬ byteAt ⟨#[97, 61, 49]⟩ k = 47 → passF ⟨#[97, 61, 49]⟩ (ByteArray.mk #[97, 61, 49]).size k = (k, true) := fun k hk h1 h2 => pass_other (by rw [hz]; exact hk) h1 h2
  rw [tokR_ok (by rw [hz]; omega) (by rw [hu]; decide), tk_tok (by rw [hz]; omega) (p 0 (by omega) (by rw [b0]; decide) (by rw [b0]; decide)) (by omega) o0, tk_tok (by rw [hz]; omega) (p 1 (by omega) (by rw [b1]; decide) (by rw [b1]; decide)) (by omega) o1, tk_tok (by rw [hz]; omega) (p 2 (by omega) (by rw [b2]; decide) (by rw [b2]; decide)) (by omega) o2]
  have he := tk_end ⟨#[97, 61, 49]⟩ 3
  rw [hz] at he
  rw [he]
  rfl
set_option maxRecDepth 100000 in
set_option maxHeartbeats 2000000 in
theorem head_any {W : World} (hF : HasF W) (hE : HasE W) (hM : HasM W) :
    Calls Tryd.prog 8 #[] W fun e w => e = .returned (.bool true) ∧ Below W.heap.size W w := by
  go_enter Tryd.func8, Tryd.ntmps8
  go_wp2_with fail
  refine (tokens_any hF hE hM _).mono ?_
  rintro e w1 ⟨hb1, h2⟩
  rw [tok_head] at h2
  obtain ⟨v, rfl, h3⟩ := h2
  obtain ⟨a, c, rfl, hc, h4⟩ := hasTok_of h3
  obtain ⟨g, rfl, hg, hx⟩ := h4 (by decide)
  obtain ⟨x1, x2, x3⟩ := hx 0 ⟨1, 0, ⟨#[97]⟩⟩ rfl
  obtain ⟨y1, y2, y3⟩ := hx 3 ⟨5, 3, ⟨#[]⟩⟩ rfl
  have Hb1 := hide hb1
  clear h3 h4 hx hb1 hc
  simp only at x1 x2 x3 y1 y2 y3
  go_wp2
  go_ret
  exact ⟨rfl, unhide Hb1⟩
set_option maxRecDepth 100000 in
set_option maxHeartbeats 1000000 in
theorem scanTokens_any {W : World} {v : Value} {l : List ByteArray} (hF : HasF W) (hE : HasE W) (hM : HasM W) (h : HasS W v l) (hl : l.length ≤ 140737488351232) :
    Calls Tryd.prog 6 #[v] W fun e W' => e = .returned (.bool true) ∧ Below W.heap.size W W' := by
  obtain ⟨a, c, rfl, hm, h3⟩ := id h
  have H3 := hide h3
  have HF := hide hF
  have HE := hide hE
  have HM := hide hM
  clear hm h3 h
  go_enter Tryd.func6, Tryd.ntmps6
  go_wp2_with fail
  refine (head_any hF hE hM).mono ?_
  rintro e w1 ⟨rfl, hb1⟩
  have Hb1 := hide hb1
  clear hb1 hF hE hM
  go_wp2
  go_loopg [3, 4] l.length (fun gk v3 _ wr => ∃ (k : Nat), v3 = .int .i64 (k : Int) ∧ gk = l.length - k ∧ k ≤ l.length ∧ Hid (Below W.heap.size W wr))
  case atStart => exact ⟨0, rfl, rfl, by omega, Hb1⟩
  case round =>
    obtain ⟨k, rfl, hgk, hk, HB⟩ := hrel
    have Hgk := hide hgk
    clear hgk
    by_cases hlt : k < l.length
    · obtain ⟨g, off, rfl, hg, hc⟩ := unhide H3 (by omega)
      obtain ⟨s, hs⟩ : ∃ s, l[k]? = some s := ⟨_, List.getElem?_eq_getElem hlt⟩
      have hcell : wr.cell? ⟨g, off + k, none⟩ = some (.string s) := ((unhide HB).cell (p := ⟨g, off + k, none⟩) hg).trans (hc k s hs)
      clear hc hs
      go_wp2_with fail
      refine (scanned_any ((unhide HF).up (unhide HB)) ((unhide HE).up (unhide HB)) ((unhide HM).up (unhide HB) (unhide HM).1) s).mono ?_
      rintro e w2 ⟨rfl, hb2⟩
      have HB2 : Hid (Below W.heap.size W w2) := (unhide HB).trans (hb2.mono (unhide HB).size)
      clear hb2 hcell HB
      go_wp2
      go_roundg (l.length - (k + 1))
      case measure => have := unhide Hgk; omega
      case rel => exact ⟨k + 1, by go_num, rfl, by omega, HB2⟩
    · obtain rfl : k = l.length := by omega
      go_wp2
      go_ret
      exact ⟨rfl, unhide HB⟩
end Go.Proofs.YtmapmegecdgcpaaDoor
