import Derived.Test.YtadmamfekodkaaaDoorHI
import Derived.Test.YtadmamfekodkaaaDoorSQ

namespace Go.Proofs.YtadmamfekodkaaaDoor
open Go.RowKit
attribute [local go_sem ↓] Go.wp_at_zero Go.wp_at_succ

/-- The byte for which an escape stands, and its length; 0: there is none. -/
def EsQ (o : Option (Nat × Nat)) (W : World) (e : Ending) (w : World) : Prop := (∃ b n : Nat, e = .returned (.tuple #[.int .u8 (b : Int), .int .i64 (n : Int)]) ∧ b < 256 ∧ match o with
  | none => n = 0
  | some p => b = p.1 ∧ n = p.2 + 1) ∧ Below W.heap.size W w
theorem dg_hex {c d : Nat} (h : dgv c = some d) : (d < 16 → hexv c = (d : Int)) ∧ (16 ≤ d → hexv c < 0) := by
  unfold dgv at h
  unfold hexv
  split at h
  · cases h
    rename_i h1
    refine ⟨fun _ => by rw [if_pos h1]; omega, fun q => by omega⟩
  · rename_i h1
    split at h
    · cases h
      rename_i h2
      refine ⟨fun q => ?_, fun q => ?_⟩
      · rw [if_neg h1, if_neg (by omega), if_pos (by omega)]; omega
      · rw [if_neg h1, if_neg (by omega), if_neg (by omega)]; decide
    · rename_i h2
      split at h
      · cases h
        rename_i h3
        refine ⟨fun q => ?_, fun q => ?_⟩
        · rw [if_neg h1, if_pos (by omega)]; omega
        · rw [if_neg h1, if_neg (by omega), if_neg (by omega)]; decide
      · cases h
theorem dg_none {c : Nat} (h : dgv c = none) : hexv c < 0 := by
  unfold dgv at h
  unfold hexv
  split at h
  · cases h
  · rename_i h1
    split at h
    · cases h
    · rename_i h2
      split at h
      · cases h
      · rename_i h3
        rw [if_neg h1, if_neg (by omega), if_neg (by omega)]
        decide
theorem hex_nval (a b : Nat) : nval 16 255 [a, b] 0 = if hexv a < 0 ∨ hexv b < 0 then none else some (16 * hexv a + hexv b).toNat := by
  have ha := hexv_bd a
  have hb := hexv_bd b
  simp only [nval]
  cases h1 : dgv a with
  | none => rw [if_pos (.inl (dg_none h1))]
  | some d =>
    obtain ⟨p1, p2⟩ := dg_hex h1
    simp only
    by_cases q1 : d < 16
    · have e1 := p1 q1
      rw [if_pos ⟨q1, by omega⟩]
      cases h2 : dgv b with
      | none => rw [if_pos (.inr (dg_none h2))]
      | some d2 =>
        obtain ⟨p3, p4⟩ := dg_hex h2
        simp only
        by_cases q2 : d2 < 16
        · have e2 := p3 q2
          rw [if_pos ⟨q2, by omega⟩, if_neg (by omega)]
          congr 1
          omega
        · rw [if_neg (by omega), if_pos (.inr (p4 (by omega)))]
    · rw [if_neg (by omega), if_pos (.inl (p2 (by omega)))]
set_option maxRecDepth 100000 in
set_option maxHeartbeats 1000000 in
theorem hexE_any {W : World} (hE : HasE W) (s : ByteArray) (hs : s.size ≤ 65536) {r : List Nat} (h : strN s = 92 :: 120 :: r) : Calls Tryd.prog 39 #[.string s] W (EsQ (escP (120 :: r)) W) := by
  have hlen := congrArg List.length h
  rw [strN_len, List.length_cons, List.length_cons] at hlen
  by_cases h4 : s.size < 4
  · have f1 : decide ((s.size : Int) < 4) = true := by simp; omega
    have e : escP (120 :: r) = none := by
      match r, hlen with
      | [], _ => rfl
      | [a], _ => rfl
      | a :: b :: r', hlen => simp at hlen; omega
    rw [e]
    clear e h hlen h4
    go_enter Tryd.func39, Tryd.ntmps39
    go_wp2
    go_ret2
    exact ⟨⟨0, 0, rfl, by decide, rfl⟩, Below.refl _ _⟩
  · have f1 : decide ((s.size : Int) < 4) = false := by simp; omega
    obtain ⟨a, b, r', rfl⟩ : ∃ a b r', r = a :: b :: r' := by
      match r, hlen with
      | [], hl => simp at hl; omega
      | [a], hl => simp at hl; omega
      | a :: b :: r', _ => exact ⟨a, b, r', rfl⟩
    have hx : strN (s.extract 2 4) = [a, b] := by rw [strN_ext, h]; rfl
    have hP := sparse_any hE (s.extract 2 4) (by rw [ByteArray.size_extract]; omega) 16 255 16 8 (parseU (Ci := 1152921504606846976) (Mi := 255) (by unfold PBx; simp) W (s.extract 2 4) (by rw [ByteArray.size_extract]; omega))
    have HP := hide hP
    have Hx := hide hx
    have h24 : (4 : Int) ≤ (s.size : Int) := by omega
    clear h hlen h4 hP hx hE
    go_enter Tryd.func39, Tryd.ntmps39
    go_wp2_with fail
    refine (unhide HP).mono ?_
    rintro e w1 ⟨hb1, ⟨u, rfl, -, hu⟩ | ⟨u, p, rfl, hu⟩⟩
    · rw [unhide Hx, hex_nval] at hu
      have hfin : u < 256 ∧ escP (120 :: a :: b :: r') = some (u, 3) := by
        split at hu
        · cases hu
        · rename_i h1
          have := hexv_bd a
          have := hexv_bd b
          have e := Option.some.inj hu
          refine ⟨by omega, ?_⟩
          simp only [escP]
          rw [if_neg (by decide), if_neg (by decide), if_neg (by decide), if_pos trivial, if_neg h1, e]
      have i1 := wrap8 hfin.1
      have hfin2 : Hid (EsQ (escP (120 :: a :: b :: r')) W (.returned (.tuple #[.int .u8 (u : Int), .int .i64 4])) w1) := by
        rw [hfin.2]
        exact ⟨⟨u, 4, rfl, hfin.1, rfl, rfl⟩, hb1⟩
      clear hfin hu hb1 HP Hx
      go_wp2
      go_ret2
      exact unhide hfin2
    · have hfin2 : Hid (EsQ (escP (120 :: a :: b :: r')) W (.returned (.tuple #[.int .u8 0, .int .i64 0])) w1) := by
        have e : escP (120 :: a :: b :: r') = none := by
          rcases hu with hu | hu
          · have := congrArg List.length (unhide Hx)
            rw [strN_len, hu] at this
            simp at this
          · rw [unhide Hx, hex_nval] at hu
            simp only [escP]
            rw [if_neg (by decide), if_neg (by decide), if_neg (by decide), if_pos trivial]
            split at hu
            · rename_i h1
              rw [if_pos h1]
            · cases hu
        rw [e]
        exact ⟨⟨0, 0, rfl, by decide, rfl⟩, hb1⟩
      clear hu hb1 HP Hx
      go_wp2
      go_ret2
      exact unhide hfin2
set_option maxRecDepth 100000 in
set_option maxHeartbeats 1000000 in
theorem esc_any {W : World} (hE : HasE W) (s : ByteArray) (hs : s.size ≤ 65536) {L : List Nat} (h : strN s = 92 :: L) : Calls Tryd.prog 35 #[.string s] W (EsQ (escP L) W) := by
  have hlen := congrArg List.length h
  rw [strN_len, List.length_cons] at hlen
  cases L with
  | nil =>
    have f1 : decide ((s.size : Int) < 2) = true := by simp at hlen ⊢; omega
    clear h hlen
    go_enter Tryd.func35, Tryd.ntmps35
    go_wp2
    go_ret2
    exact ⟨⟨0, 0, rfl, by decide, rfl⟩, Below.refl _ _⟩
  | cons c r =>
    rw [List.length_cons] at hlen
    have f1 : decide ((s.size : Int) < 2) = false := by simp; omega
    have hs1 : 1 < s.size := by omega
    obtain ⟨x, hx, hx2, gx⟩ := strN_ex s 1 hs1
    obtain rfl : c = x := by
      rw [h] at hx
      exact Option.some.inj hx
    have H := hide h
    have HE := hide hE
    clear h hlen hx hE
    rcases (by omega : c = 92 ∨ c = 34 ∨ c = 110 ∨ c = 116 ∨ c = 120 ∨ (c ≠ 92 ∧ c ≠ 34 ∧ c ≠ 110 ∧ c ≠ 116 ∧ c ≠ 120)) with rfl | rfl | rfl | rfl | rfl | ⟨g1, g2, g3, g4, g5⟩
    · go_enter Tryd.func35, Tryd.ntmps35
      go_wp2
      go_ret2
      exact ⟨⟨92, 2, rfl, by decide, rfl, rfl⟩, Below.refl _ _⟩
    · go_enter Tryd.func35, Tryd.ntmps35
      go_wp2
      go_ret2
      exact ⟨⟨34, 2, rfl, by decide, rfl, rfl⟩, Below.refl _ _⟩
    · go_enter Tryd.func35, Tryd.ntmps35
      go_wp2
      go_ret2
      exact ⟨⟨10, 2, rfl, by decide, rfl, rfl⟩, Below.refl _ _⟩
    · go_enter Tryd.func35, Tryd.ntmps35
      go_wp2
      go_ret2
      exact ⟨⟨9, 2, rfl, by decide, rfl, rfl⟩, Below.refl _ _⟩
    · have HX := hide (hexE_any (unhide HE) s hs (unhide H))
      go_enter Tryd.func35, Tryd.ntmps35
      go_wp2_with fail
      refine (unhide HX).mono ?_
      rintro e w1 ⟨⟨b, n, rfl, hb, hm⟩, hbl⟩
      have HF : Hid (EsQ (escP (120 :: r)) W (.returned (.tuple #[.int .u8 (b : Int), .int .i64 (n : Int)])) w1) := ⟨⟨b, n, rfl, hb, hm⟩, hbl⟩
      clear hb hm hbl HX
      go_wp2
      go_ret2
      exact unhide HF
    · have e : escP (c :: r) = none := by
        simp only [escP]
        rw [if_neg (by omega), if_neg g3, if_neg g4, if_neg g5]
      rw [e]
      have n1 : ((c : Int) == 92) = false := beq_false_of_ne (by omega)
      have n2 : ((c : Int) == 34) = false := beq_false_of_ne (by omega)
      have n3 : ((c : Int) == 110) = false := beq_false_of_ne (by omega)
      have n4 : ((c : Int) == 116) = false := beq_false_of_ne (by omega)
      have n5 : ((c : Int) == 120) = false := beq_false_of_ne (by omega)
      clear e g1 g2 g3 g4 g5 H
      go_enter Tryd.func35, Tryd.ntmps35
      go_wp2
      go_ret2
      exact ⟨⟨0, 0, rfl, by decide, rfl⟩, Below.refl _ _⟩
end Go.Proofs.YtadmamfekodkaaaDoor
