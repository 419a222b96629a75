import Derived.Test.YtkkbccdjbgjjaaaDoorSZf
import Derived.Test.YtkkbccdjbgjjaaaDoorNC

namespace Go.Proofs.YtkkbccdjbgjjaaaDoor
open Go.RowKit
attribute [local go_sem ↓] Go.wp_at_zero Go.wp_at_succ

theorem clone0_any (W : World) (s : ByteArray) (h : s.size ≤ 281474976710656) : Calls Tryd.prog 13 #[.string s] W fun e w => e = .returned (.string s) ∧ Below W.heap.size W w := AnyPu.stringslite_Clone Tryd.laysNC25 s W h
set_option maxRecDepth 100000 in
theorem clone_any (W : World) (s : ByteArray) (h : s.size ≤ 281474976710656) : Calls Tryd.prog 10 #[.string s] W fun e w => e = .returned (.string s) ∧ Below W.heap.size W w := by
  go_enter Tryd.func10, Tryd.ntmps10
  go_wp2_with fail
  refine (clone0_any W s h).mono ?_
  rintro e w ⟨rfl, hb⟩
  have Hb := hide hb
  clear hb
  go_wp2
  go_ret
  exact ⟨rfl, unhide Hb⟩
/-- What Tokens answers. -/
def TokA (n0 : Nat) (w : World) (e : Ending) : List Tok ⊕ (Nat × Nat) → Prop
  | .inl ts => ∃ v, e = .returned (.tuple #[v, .int .i64 0, .int .i64 0]) ∧ w.ownsRow n0 31 3 v ts.length (tcells ts)
  | .inr (k, c) => c ≠ 0 ∧ e = .returned (.tuple #[.slice none 0 0, .int .i64 (k : Int), .int .i64 (c : Int)])
def TokP (s : ByteArray) (W : World) (e : Ending) (w : World) : Prop := Below W.heap.size W w ∧ TokA W.heap.size w e (tokR s)
theorem tokR_long {s : ByteArray} (h : 65536 < s.size) : tokR s = .inr (0, 2) := by unfold tokR; rw [if_pos h]
theorem tokR_bad {s : ByteArray} (h : ¬ 65536 < s.size) (h2 : 0 ≤ utfAt s 0) : tokR s = .inr ((utfAt s 0).toNat, 44) := by unfold tokR; rw [if_neg h, if_pos h2]
theorem tokR_ok {s : ByteArray} (h : ¬ 65536 < s.size) (h2 : ¬ 0 ≤ utfAt s 0) : tokR s = tk s 0 0 := by unfold tokR; rw [if_neg h, if_neg h2]
set_option maxRecDepth 100000 in
set_option maxHeartbeats 2000000 in
theorem tokens_any {W : World} (hF : HasF W) (hE : HasE W) (hM : HasM W) (s : ByteArray) : Calls Tryd.prog 5 #[.string s] W (TokP s W) := by
  have hb0 := Below.refl W.heap.size W
  by_cases h0 : 65536 < s.size
  · have Hr := hide (tokR_long h0)
    have e0 := ltT (a := s.size) (k := 65536) (by omega)
    clear h0
    go_enter Tryd.func5, Tryd.ntmps5
    go_wp2
    go_ret3
    exact ⟨hb0, by rw [unhide Hr]; exact ⟨by decide, rfl⟩⟩
  · have e0 := ltF (a := s.size) (k := 65536) (by omega)
    have hs : s.size ≤ 65536 := by omega
    have H0 := hide h0
    clear h0
    go_enter Tryd.func5, Tryd.ntmps5
    go_wp2_with fail
    refine (utf8_any hF s (by omega)).mono ?_
    rintro e w1 ⟨rfl, hb1⟩
    have Hb1 := hide hb1
    clear hb1 hb0
    by_cases h1 : 0 ≤ utfAt s 0
    · have Hr := hide (tokR_bad (unhide H0) h1)
      obtain ⟨u, hu⟩ : ∃ u : Nat, utfAt s 0 = (u : Int) := ⟨(utfAt s 0).toNat, by omega⟩
      rw [hu] at Hr ⊢
      have e1 : decide (0 ≤ (u : Int)) = true := by simp
      clear hu h1
      go_wp2
      go_ret3
      exact ⟨unhide Hb1, by rw [unhide Hr]; exact ⟨by decide, rfl⟩⟩
    · have Hr := hide (tokR_ok (unhide H0) h1)
      obtain ⟨u, hu⟩ : ∃ u, u = utfAt s 0 := ⟨_, rfl⟩
      rw [← hu] at h1 ⊢
      have e1 : decide (0 ≤ u) = false := by simp; omega
      have HE := hide hE
      have HM := hide hM
      clear hu h1 hE hM
      go_wp2_with fail
      refine (clone_any w1 s (by omega)).mono ?_
      rintro e w2 ⟨rfl, hb2⟩
      have Hb2 : Hid (Below W.heap.size W w2) := (unhide Hb1).trans (hb2.mono (unhide Hb1).size)
      clear hb2
      go_wp2_with fail
      have hr := run_any (W0 := W) (W := w2.alloc (.cells #[.string s, .int .i64 0, .slice none 0 0] 37)) (b := w2.heap.size) (s := s) (unhide HE) (unhide HM) ((unhide Hb2).alloc (unhide Hb2).size _) (unhide Hb2).size (heap_new w2 _) hs
      have Hsz := hide (World.size_alloc w2 (.cells #[.string s, .int .i64 0, .slice none 0 0] 37))
      have HB0 : Hid (Below W.heap.size W (w2.alloc (.cells #[.string s, .int .i64 0, .slice none 0 0] 37))) := (unhide Hb2).alloc (unhide Hb2).size _
      have hle := (unhide Hb2).size
      have hb : ∃ b, w2.heap.size = b := ⟨_, rfl⟩
      obtain ⟨b, hb⟩ := hb
      rw [hb] at hr Hsz hle ⊢
      generalize w2.alloc (.cells #[.string s, .int .i64 0, .slice none 0 0] 37) = V at *
      clear hb Hb2
      refine hr.mono ?_
      rintro e w3 ⟨hx, hq⟩
      have hB3 : Below W.heap.size W w3 := (unhide HB0).trans (hx.below hle (unhide HB0).size)
      have HB3 := hide hB3
      have hVs : V.heap.size = b + 1 := unhide Hsz
      cases ht : tk s 0 0 with
      | inl ts =>
        rw [ht] at hq
        obtain ⟨rfl, k, v', h1, h2⟩ := hq
        have c2 := h1.c2
        have Hend : Hid (TokA W.heap.size w3 (.returned (.tuple #[v', .int .i64 0, .int .i64 0])) (tokR s)) := by
          show TokA _ _ _ _
          rw [unhide Hr, ht]
          exact ⟨v', rfl, rowBase h2 (by omega)⟩
        obtain ⟨va, vc, rfl⟩ := rowShape h2
        clear h1 h2 hx hB3 ht Hr hr
        go_wp2
        go_ret3
        exact ⟨unhide HB3, unhide Hend⟩
      | inr p =>
        obtain ⟨k, c⟩ := p
        rw [ht] at hq
        obtain ⟨hc, rfl, v', h1⟩ := hq
        have c1 := h1.c1
        have Hend : Hid (TokA W.heap.size w3 (.returned (.tuple #[.slice none 0 0, .int .i64 (k : Int), .int .i64 (c : Int)])) (tokR s)) := by
          show TokA _ _ _ _
          rw [unhide Hr, ht]
          exact ⟨hc, rfl⟩
        have q9 : ((c : Int) != 0) = true := by simp; omega
        clear h1 hx hB3 ht Hr hr hc
        go_wp2
        go_quiet (fail)
        go_wp2
        go_ret3
        exact ⟨below_drewN (unhide HB3) _, unhide Hend⟩
end Go.Proofs.YtkkbccdjbgjjaaaDoor
