import Derived.Test.YtkkbccdjbgjjaaaDoorZIJ
import Derived.Test.YtkkbccdjbgjjaaaDoorSO
import Derived.Test.YtkkbccdjbgjjaaaDoorUXJ

namespace Go.Proofs.YtkkbccdjbgjjaaaDoor
open Go.RowKit
attribute [local go_sem ↓] Go.wp_at_zero Go.wp_at_succ

theorem tok_head : tokR ⟨#[97, 61, 49]⟩ = .inl [⟨1, 0, ⟨#[97]⟩⟩, ⟨4, 1, ⟨#[61]⟩⟩, ⟨2, 2, ⟨#[49]⟩⟩, ⟨5, 3, ⟨#[]⟩⟩] := by
  have hz : (ByteArray.mk #[97, 61, 49]).size = 3 := rfl
  have b0 : byteAt ⟨#[97, 61, 49]⟩ 0 = 97 := rfl
  have b1 : byteAt ⟨#[97, 61, 49]⟩ 1 = 61 := rfl
  have b2 : byteAt ⟨#[97, 61, 49]⟩ 2 = 49 := rfl
  have hu : utfAt ⟨#[97, 61, 49]⟩ 0 = -1 := by
    refine utf_ascii (fun k hk => ?_) 3 0 (by rw [hz]; omega)
    rw [hz] at hk
    match k, hk with
    | 0, _ => decide
    | 1, _ => decide
    | 2, _ => decide
  have r0 : endRow ⟨#[97, 61, 49]⟩ 0 = 1 := by
    rw [endRow_step (by rw [hz]; omega) (by rw [b0]; decide), endRow_stop (by rw [b1]; decide)]
  have r2 : endRow ⟨#[97, 61, 49]⟩ 2 = 3 := by
    rw [endRow_step (by rw [hz]; omega) (by rw [b2]; decide), endRow_end (by rw [hz]; omega)]
  have o0 : oneF ⟨#[97, 61, 49]⟩ 0 = (1, 1, 0) := by unfold oneF; rw [b0, if_pos (by decide), r0]
  have o1 : oneF ⟨#[97, 61, 49]⟩ 1 = (4, 2, 0) := by unfold oneF; rw [b1, if_neg (by decide), if_neg (by decide), if_neg (by decide), if_pos (by decide)]
  have o2 : oneF ⟨#[97, 61, 49]⟩ 2 = (2, 3, 0) := by
    unfold oneF
    rw [b2, if_neg (by decide), if_pos (by decide), r2, if_neg (by decide)]
  have p : ∀ k, k < 3 → ¬ isBlk (byteAt ⟨#[97, 61, 49]⟩ k) → ¬ byteAt ⟨#[97, 61, 49]⟩ k = 47 → passF ⟨#[97, 61, 49]⟩ (ByteArray.mk #[97, 61, 49]).size k = (k, true) := fun k hk h1 h2 => pass_other (by rw [hz]; exact hk) h1 h2
  rw [tokR_ok (by rw [hz]; omega) (by rw [hu]; decide), tk_tok (by rw [hz]; omega) (p 0 (by omega) (by rw [b0]; decide) (by rw [b0]; decide)) (by omega) o0, tk_tok (by rw [hz]; omega) (p 1 (by omega) (by rw [b1]; decide) (by rw [b1]; decide)) (by omega) o1, tk_tok (by rw [hz]; omega) (p 2 (by omega) (by rw [b2]; decide) (by rw [b2]; decide)) (by omega) o2]
  have he := tk_end ⟨#[97, 61, 49]⟩ 3
  rw [hz] at he
  rw [he]
  rfl
set_option maxRecDepth 100000 in
set_option maxHeartbeats 2000000 in
theorem head_any {W : World} (hF : HasF W) (hE : HasE W) (hM : HasM W) :
    Calls Tryd.prog 4 #[] W fun e w => e = .returned (.bool true) ∧ Below W.heap.size W w := by
  go_enter Tryd.func4, Tryd.ntmps4
  go_wp2_with fail
  refine (tokens_any hF hE hM _).mono ?_
  rintro e w1 ⟨hb1, h2⟩
  rw [tok_head] at h2
  obtain ⟨v, rfl, h3⟩ := h2
  obtain ⟨a, c, rfl, hc, h4⟩ := hasTok_of h3
  obtain ⟨g, rfl, hg, hx⟩ := h4 (by decide)
  obtain ⟨x1, x2, x3⟩ := hx 0 ⟨1, 0, ⟨#[97]⟩⟩ rfl
  obtain ⟨y1, y2, y3⟩ := hx 3 ⟨5, 3, ⟨#[]⟩⟩ rfl
  have Hb1 := hide hb1
  clear h3 h4 hx hb1 hc
  simp only at x1 x2 x3 y1 y2 y3
  go_wp2
  go_ret
  exact ⟨rfl, unhide Hb1⟩
end Go.Proofs.YtkkbccdjbgjjaaaDoor
