import Derived.Test.YtadmamfekodkaaaDoorHO

namespace Go.Proofs.YtadmamfekodkaaaDoor
open Go.RowKit
attribute [local go_sem ↓] Go.wp_at_zero Go.wp_at_succ

/-- A string of an own row, where it lies. -/
theorem row_str {W : World} {B n : Nat} {v : Value} {ws : List (List Nat)} (h : W.ownsRow B 9 1 v n (wsC ws)) (hn : n = ws.length) {i : Nat} (hi : i < n) : ∃ g c z, v = .slice (some ⟨g, 0, none⟩) n c ∧ W.cell? ⟨g, i, none⟩ = some (.string z) ∧ ws[i]?.map ofN = some z := by
  obtain ⟨h1, ⟨rfl, h0⟩ | ⟨g, cap, cur, rfl, h2, h3⟩⟩ := id h
  · omega
  · have hl : i < ws.length := by omega
    have hc := World.ownsRow.cellAt h i (by omega)
    rw [wsC, List.getElem?_map, List.getElem?_eq_getElem hl] at hc
    exact ⟨g, cap, ofN ws[i], rfl, hc, by rw [List.getElem?_eq_getElem hl]; rfl⟩
theorem row_max {W : World} {B n : Nat} {v : Value} {xs : List Value} (h : W.ownsRow B 9 1 v n xs) : n ≤ 9223372036854775807 := by
  obtain ⟨h1, ⟨rfl, h0⟩ | ⟨g, cap, cur, rfl, h2, h3, h4, h5, h6⟩⟩ := h
  · omega
  · unfold maxLen at h5; omega
set_option maxRecDepth 100000 in
set_option maxHeartbeats 2000000 in
theorem lsame_any {W : World} {B B' : Nat} {v u : Value} {ws : List (List Nat)} (h : W.ownsRow B 9 1 v ws.length (wsC ws)) (h' : W.ownsRow B' 9 1 u ws.length (wsC ws)) : Calls Tryd.prog 9 #[v, u] W fun e w => e = .returned (.bool true) ∧ ∃ m, w = W.drewN m := by
  obtain ⟨n, hn⟩ : ∃ n, ws.length = n := ⟨_, rfl⟩
  rw [hn] at h h'
  have HN := hide hn
  have Hm := hide (row_max h)
  have H := hide h
  have H' := hide h'
  obtain ⟨a, c, rfl⟩ := own_form h
  obtain ⟨a', c', rfl⟩ := own_form h'
  clear h h' hn
  go_enter Tryd.func9, Tryd.ntmps9
  go_wp2
  go_loopg [5] n (fun gk v5 wr => ∃ (i m : Nat), v5 = .int .i64 (i : Int) ∧ gk = n - i ∧ i ≤ n ∧ wr = W.drewN m)
  case atStart => exact ⟨0, 0, rfl, rfl, Nat.zero_le _, rfl⟩
  case round =>
    obtain ⟨i, m, rfl, hgk, hi, rfl⟩ := hrel
    have Hgk := hide hgk
    clear hgk
    by_cases hlt : i < n
    · obtain ⟨g, q, z, e1, x1, y1⟩ := row_str (unhide H) (unhide HN).symm hlt
      obtain ⟨g', q', z', e2, x2, y2⟩ := row_str (unhide H') (unhide HN).symm hlt
      obtain rfl : z = z' := Option.some.inj (y1.symm.trans y2)
      cases e1
      cases e2
      clear y1 y2 H H'
      have hm := unhide Hm
      have k0 : (0 : Int) ≤ (i : Int) := Int.natCast_nonneg _
      have k1 : (i : Int) < (n : Int) := by omega
      have Hlt := hide hlt
      have cz : (W.drewN m).cell? ⟨g, i, none⟩ = some (.string z) := x1
      have cz' : (W.drewN m).cell? ⟨g', i, none⟩ = some (.string z) := x2
      clear x1 x2
      obtain ⟨w1, hw1⟩ : ∃ w1, W.drewN m = w1 := ⟨_, rfl⟩
      rw [hw1] at cz cz' ⊢
      have Hw := hide hw1
      clear hw1
      go_wp2_with fail
      go_quiet (fail)
      go_wp2
      go_roundg (n - (i + 1))
      case measure => have := unhide Hgk; have := unhide Hlt; omega
      case rel => exact ⟨i + 1, m + nq, by go_num, rfl, unhide Hlt, by rw [← unhide Hw, World.drewN_drewN]⟩
    · have k1 : ¬ (i : Int) < (n : Int) := by omega
      go_wp2
      go_ret
      exact ⟨rfl, m, rfl⟩
end Go.Proofs.YtadmamfekodkaaaDoor
