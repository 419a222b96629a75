import Derived.Test.YtadmamfekodkaaaDoorHP

namespace Go.Proofs.YtadmamfekodkaaaDoor
open Go.RowKit
attribute [local go_sem ↓] Go.wp_at_zero Go.wp_at_succ

theorem wR_a : wR ⟨#[97]⟩ = ([ [97] ], 0) := by kernel_rfl
theorem ofN_a : ofN [97] = ⟨#[97]⟩ := by kernel_rfl
theorem one_str {W : World} {B : Nat} {v : Value} {x : List Nat} (h : W.ownsRow B 9 1 v 1 (wsC [x])) : ∃ g c, v = .slice (some ⟨g, 0, none⟩) 1 c ∧ W.cell? ⟨g, 0, none⟩ = some (.string (ofN x)) := by
  obtain ⟨g, c, z, e, h1, h2⟩ := row_str (i := 0) h rfl (by decide)
  obtain rfl : ofN x = z := Option.some.inj h2
  exact ⟨g, c, e, h1⟩
set_option maxRecDepth 100000 in
set_option maxHeartbeats 4000000 in
theorem words_core {W : World} (hE : HasE W) (s : ByteArray) : Calls Tryd.prog 3 #[.string s] W fun e w => e = .returned (.bool true) ∧ Below W.heap.size W w := by
  have HA := hide (hWords_any hE ⟨#[97]⟩)
  rw [wR_a] at HA
  have HE := hide hE
  clear hE
  go_enter Tryd.func3, Tryd.ntmps3
  go_wp2_with fail
  refine (unhide HA).mono ?_
  rintro e w1 ⟨v, rfl, ho, hb⟩
  obtain ⟨g, c, rfl, hc⟩ := one_str ho
  rw [ofN_a] at hc
  have HB1 := hide hb
  clear ho hb HA
  obtain ⟨R, hR⟩ : ∃ R, wR s = R := ⟨_, rfl⟩
  have HW := hide (hWords_any ((unhide HE).up (unhide HB1)) s)
  rw [hR] at HW
  go_wp2_with fail
  refine (unhide HW).mono ?_
  rintro e w2 ⟨v, rfl, ho, hb⟩
  have HO := hide ho
  have HB2 := hide hb
  obtain ⟨a, q, rfl⟩ := own_form ho
  have HX := hide (xWords_any w2 s)
  rw [hR] at HX
  clear ho hb HW hc
  go_wp2_with fail
  refine (unhide HX).mono ?_
  rintro e w3 ⟨v, rfl, ho, hb⟩
  have HO3 := hide ho
  obtain ⟨a', q', rfl⟩ := own_form ho
  have HO2 := hide (own_up (unhide HO) hb)
  have HB3 := hide ((unhide HB1).trans (((unhide HB2).trans (hb.mono (unhide HB2).size)).mono (unhide HB1).size))
  have HS := hide (lsame_any (unhide HO2) (unhide HO3))
  clear ho hb HX HO HO3 HB2 hR
  have k1 : ((R.2 : Int) == (R.2 : Int)) = true := by simp
  go_wp2_with fail
  refine (unhide HS).mono ?_
  rintro e w4 ⟨rfl, m, rfl⟩
  go_wp2
  go_ret
  exact ⟨rfl, below_drewN (unhide HB3) _⟩
theorem words_row {W : World} (hE : HasE W) {s : ByteArray} (_hn : s.size ≤ 140737488351232) : Calls Tryd.prog 3 #[.string s] W fun e w => e = .returned (.bool true) ∧ Below W.heap.size W w := words_core hE s
end Go.Proofs.YtadmamfekodkaaaDoor
