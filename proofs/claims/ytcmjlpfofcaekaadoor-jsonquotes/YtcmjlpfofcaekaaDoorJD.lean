import Derived.Test.YtcmjlpfofcaekaaDoorJC

namespace Go.Proofs.YtcmjlpfofcaekaaDoor
open Go.RowKit
attribute [local go_sem ↓] Go.wp_at_zero Go.wp_at_succ

/-- What Quote answers. -/
noncomputable def jqR (s : ByteArray) : ByteArray × Int := if 67108864 < s.size then (⟨#[]⟩, 2) else if 0 ≤ utfAt s 0 then (⟨#[]⟩, 125) else (ofN (34 :: jAll (strN s) ++ [34]), 0)
set_option maxRecDepth 100000 in
theorem jQuote_any {W : World} (hF : HasF W) (s : ByteArray) (hs : s.size ≤ 140737488351232) : Calls Tryd.prog 4 #[.string s] W fun e w => e = .returned (.tuple #[.string (jqR s).1, .int .i64 (jqR s).2]) ∧ Below W.heap.size W w := by
  have hb0 := Below.refl W.heap.size W
  unfold jqR
  by_cases h1 : 67108864 < s.size
  · have e0 : decide ((67108864 : Int) < (s.size : Int)) = true := by simp; omega
    rw [if_pos h1]
    clear h1
    go_enter Tryd.func4, Tryd.ntmps4
    go_wp2
    go_ret2
    exact ⟨rfl, hb0⟩
  · have e0 : decide ((67108864 : Int) < (s.size : Int)) = false := by simp; omega
    rw [if_neg h1]
    have HU := hide (utf8_any hF s hs)
    have HQ : Hid (∀ w, Calls Tryd.prog 8 #[.string s] w fun e w' => e = .returned (.string (ofN (34 :: jAll (strN s) ++ [34]))) ∧ Below w.heap.size w w') := fun w => jquoted_any w s (by omega)
    clear h1
    by_cases h2 : 0 ≤ utfAt s 0
    · rw [if_pos h2]
      go_enter Tryd.func4, Tryd.ntmps4
      go_wp2_with fail
      refine (unhide HU).mono ?_
      rintro e w1 ⟨rfl, hb1⟩
      obtain ⟨u, hu⟩ : ∃ u, u = utfAt s 0 := ⟨_, rfl⟩
      rw [← hu] at h2 ⊢
      have e1 : decide (0 ≤ u) = true := by simpa using h2
      have HB := hide hb1
      clear hu h2 hb1
      go_wp2
      go_ret2
      exact ⟨rfl, unhide HB⟩
    · rw [if_neg h2]
      go_enter Tryd.func4, Tryd.ntmps4
      go_wp2_with fail
      refine (unhide HU).mono ?_
      rintro e w1 ⟨rfl, hb1⟩
      obtain ⟨u, hu⟩ : ∃ u, u = utfAt s 0 := ⟨_, rfl⟩
      rw [← hu] at h2 ⊢
      have e1 : decide (0 ≤ u) = false := by simpa using h2
      have HB := hide hb1
      clear hu h2 hb1
      go_wp2_with fail
      refine (unhide HQ _).mono ?_
      rintro e w2 ⟨rfl, hb⟩
      have HB2 := hide ((unhide HB).trans (hb.mono (unhide HB).size))
      clear hb
      go_wp2
      go_ret2
      exact ⟨rfl, unhide HB2⟩
set_option maxRecDepth 100000 in
theorem kQuote_any (W : World) (s : ByteArray) (hs : s.size ≤ 140737488351232) : Calls Tryd.prog 5 #[.string s] W fun e w => e = .returned (.tuple #[.string (jqR s).1, .int .i64 (jqR s).2]) ∧ Below W.heap.size W w := by
  have hb0 := Below.refl W.heap.size W
  unfold jqR
  by_cases h1 : 67108864 < s.size
  · have e0 : decide ((67108864 : Int) < (s.size : Int)) = true := by simp; omega
    rw [if_pos h1]
    clear h1
    go_enter Tryd.func5, Tryd.ntmps5
    go_wp2
    go_ret2
    exact ⟨rfl, hb0⟩
  · have e0 : decide ((67108864 : Int) < (s.size : Int)) = false := by simp; omega
    rw [if_neg h1]
    have HU := hide (xutf8_any W s hs)
    have HQ := hide (kquoted_any W s (by omega))
    have hby : Byt (34 :: jAll (strN s) ++ [34]) := by
      intro y hy
      rw [List.mem_append, List.mem_cons, List.mem_singleton] at hy
      rcases hy with (rfl | hy) | rfl
      · decide
      · exact jAll_byt (strN_byt s) y hy
      · decide
    have HBY := hide hby
    clear h1 hby
    by_cases h2 : 0 ≤ utfAt s 0
    · rw [if_pos h2]
      go_enter Tryd.func5, Tryd.ntmps5
      go_wp2_with fail
      refine (unhide HU).mono ?_
      rintro e w1 ⟨rfl, he⟩
      obtain rfl : W = w1 := he.symm
      obtain ⟨u, hu⟩ : ∃ u, u = utfAt s 0 := ⟨_, rfl⟩
      rw [← hu] at h2 ⊢
      have e1 : decide (0 ≤ u) = true := by simpa using h2
      clear hu h2
      go_wp2
      go_ret2
      exact ⟨rfl, hb0⟩
    · rw [if_neg h2]
      go_enter Tryd.func5, Tryd.ntmps5
      go_wp2_with fail
      refine (unhide HU).mono ?_
      rintro e w1 ⟨rfl, he⟩
      obtain rfl : W = w1 := he.symm
      obtain ⟨u, hu⟩ : ∃ u, u = utfAt s 0 := ⟨_, rfl⟩
      rw [← hu] at h2 ⊢
      have e1 : decide (0 ≤ u) = false := by simpa using h2
      clear hu h2
      go_wp2_with fail
      refine (unhide HQ).mono ?_
      rintro e w2 ⟨v, rfl, hY, hb⟩
      have cv := conv_any hY.has (unhide HBY)
      have HB := hide hb
      clear hb hY
      go_wp2
      go_ret2
      exact ⟨rfl, unhide HB⟩
set_option maxRecDepth 100000 in
theorem num_any (W : World) (n : Int) : Calls Tryd.prog 6 #[.int .i64 n] W fun e w => e = .returned (.int .i64 n) ∧ w = W := by
  go_enter Tryd.func6, Tryd.ntmps6
  go_wp2
  go_ret
  exact ⟨rfl, rfl⟩
theorem jq_ex : jqR ⟨#[97, 34, 10, 1]⟩ = (⟨#[34, 97, 92, 34, 92, 110, 92, 117, 48, 48, 48, 49, 34]⟩, 0) := by
  have hu : utfAt ⟨#[97, 34, 10, 1]⟩ 0 = -1 := by first | kernel_rfl | decide +kernel
  unfold jqR
  rw [if_neg (by decide), hu, if_neg (by decide)]
  rfl
set_option maxRecDepth 100000 in
set_option maxHeartbeats 1000000 in
theorem jsonQuotes_any {W : World} (hF : HasF W) (s : ByteArray) (hs : s.size ≤ 140737488351232) : Calls Tryd.prog 3 #[.string s] W fun e w => e = .returned (.bool true) ∧ Below W.heap.size W w := by
  have H1 := hide (jQuote_any hF s hs)
  have HF := hide hF
  clear hF
  go_enter Tryd.func3, Tryd.ntmps3
  go_wp2_with fail
  refine (unhide H1).mono ?_
  rintro e w1 ⟨rfl, hb1⟩
  obtain ⟨a, ha⟩ : ∃ a, a = (jqR s).1 := ⟨_, rfl⟩
  obtain ⟨c, hc⟩ : ∃ c, c = (jqR s).2 := ⟨_, rfl⟩
  have HK : Hid (Calls Tryd.prog 5 #[.string s] w1 fun e w => e = .returned (.tuple #[.string a, .int .i64 c]) ∧ Below w1.heap.size w1 w) := by rw [ha, hc]; exact kQuote_any w1 s hs
  rw [← ha, ← hc]
  have HB1 := hide hb1
  clear ha hc hb1 H1
  go_wp2_with fail
  refine (unhide HK).mono ?_
  rintro e w2 ⟨rfl, hb2⟩
  have hB2 := (unhide HB1).trans (hb2.mono (unhide HB1).size)
  have HB2 := hide hB2
  have H3 : Hid (Calls Tryd.prog 4 #[.string ⟨#[97, 34, 10, 1]⟩] w2 fun e w => e = .returned (.tuple #[.string ⟨#[34, 97, 92, 34, 92, 110, 92, 117, 48, 48, 48, 49, 34]⟩, .int .i64 0]) ∧ Below w2.heap.size w2 w) := by
    have := jQuote_any ((unhide HF).up hB2) ⟨#[97, 34, 10, 1]⟩ (by decide)
    rw [jq_ex] at this
    exact this
  clear hb2 hB2 HK HB1
  go_wp2_with fail
  refine (unhide H3).mono ?_
  rintro e w3 ⟨rfl, hb3⟩
  have Hend := hide ((unhide HB2).trans (hb3.mono (unhide HB2).size))
  have HN : Hid (∀ w n, Calls Tryd.prog 6 #[.int .i64 n] w fun e w' => e = .returned (.int .i64 n) ∧ w' = w) := num_any
  clear hb3 HB2 H3
  go_wp2_with (refine (unhide HN _ _).mono ?_; rintro e w4 ⟨rfl, rfl⟩)
  go_ret
  exact ⟨rfl, unhide Hend⟩
theorem jsonQuotes_row {W : World} {s : ByteArray} (hF : HasF W) (hs : s.size ≤ 140737488351232) : Calls Tryd.prog 3 #[.string s] W fun e w => e = .returned (.bool true) ∧ Below W.heap.size W w := jsonQuotes_any hF s hs
end Go.Proofs.YtcmjlpfofcaekaaDoor
