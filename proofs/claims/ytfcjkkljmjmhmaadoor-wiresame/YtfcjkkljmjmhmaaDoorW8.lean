import Derived.Test.YtfcjkkljmjmhmaaDoorWZ
namespace Go.Proofs.YtfcjkkljmjmhmaaDoor
open Go.RowKit
attribute [local go_sem ↓] Go.wp_at_zero Go.wp_at_succ

/-- The forms of the characters. -/
def forms : List (Int × Int × Int × Int × Int) := [(0, 127, 0, 0, 0), (194, 223, 1, 128, 191), (224, 224, 2, 160, 191), (225, 236, 2, 128, 191), (237, 237, 2, 128, 159), (238, 239, 2, 128, 191), (240, 240, 3, 144, 191), (241, 243, 3, 128, 191), (244, 244, 3, 128, 143)]
/-- The package's table lies in its block. -/
def HasF (W : World) : Prop := 0 < W.heap.size ∧ ∀ i a b c d e, forms[i]? = some (a, b, c, d, e) → W.cell? ⟨0, i * 5, none⟩ = some (.int .u8 a) ∧ W.cell? ⟨0, i * 5 + 1, none⟩ = some (.int .u8 b) ∧ W.cell? ⟨0, i * 5 + 2, none⟩ = some (.int .u8 c) ∧ W.cell? ⟨0, i * 5 + 3, none⟩ = some (.int .u8 d) ∧ W.cell? ⟨0, i * 5 + 4, none⟩ = some (.int .u8 e)
theorem HasF.up {W w : World} (h : HasF W) (hb : Below W.heap.size W w) : HasF w :=
  ⟨Nat.lt_of_lt_of_le h.1 hb.size, fun i a b c d e hf => by
    obtain ⟨q0, q1, q2, q3, q4⟩ := h.2 i a b c d e hf
    exact ⟨(hb.cell (p := ⟨0, i * 5, none⟩) h.1).trans q0, (hb.cell (p := ⟨0, i * 5 + 1, none⟩) h.1).trans q1, (hb.cell (p := ⟨0, i * 5 + 2, none⟩) h.1).trans q2, (hb.cell (p := ⟨0, i * 5 + 3, none⟩) h.1).trans q3, (hb.cell (p := ⟨0, i * 5 + 4, none⟩) h.1).trans q4⟩⟩
theorem forms_len : forms.length = 9 := rfl
theorem forms_last : ∀ (i : Nat) (a b c d e : Int), forms[i]? = some (a, b, c, d, e) → a ≤ 255 ∧ b < 255 := by
  intro i a b c d e h
  have key : ∀ x ∈ forms, x.1 ≤ 255 ∧ x.2.1 < 255 := by decide
  exact key _ (List.mem_of_getElem? h)

set_option maxRecDepth 100000 in
set_option maxHeartbeats 4000000 in
/-- No character begins with the byte 255. -/
theorem char255 {W : World} (h : HasF W) (s : ByteArray) (hs : 0 < s.size) (h0 : s[0].toNat = 255) :
    Calls Tryd.prog 70 #[.string s] W fun e W' => e = .returned (.int .i64 0) ∧ Below W.heap.size W W' := by
  go_enter Tryd.func70, Tryd.ntmps70
  go_wp2
  go_loopg [5] 9 (fun gk v5 wr => ∃ (i : Nat), v5 = .int .i64 (i : Int) ∧ gk = 9 - i ∧ i ≤ 9 ∧ Below W.heap.size W wr)
  case atStart => exact ⟨0, rfl, rfl, by decide, Below.refl _ _⟩
  case round =>
    obtain ⟨i, rfl, hgk, hin, hB⟩ := hrel
    have Hgk := hide hgk
    clear hgk
    by_cases hlt : i < 9
    · obtain ⟨⟨a, b, c, d, e⟩, hf⟩ : ∃ x, forms[i]? = some x := ⟨_, List.getElem?_eq_getElem (by rw [forms_len]; exact hlt)⟩
      obtain ⟨q0, q1, q2, q3, q4⟩ := (h.up hB).2 i a b c d e hf
      obtain ⟨l1, l2⟩ := forms_last i a b c d e hf
      have hi0 : (0 : Int) ≤ (i : Int) := Int.natCast_nonneg _
      have hi1 : (i : Int) < 9 := by omega
      have e1 : a ≤ 255 := l1
      have e2 : decide ((255 : Int) ≤ b) = false := by simp; omega
      have hs' : (0 : Int) < (s.size : Int) := by omega
      clear hf l1 l2
      go_wp2_with fail
      go_quiet (fail)
      go_wp2
      go_roundg (9 - (i + 1))
      case measure => have := unhide Hgk; omega
      case rel => exact ⟨i + 1, by go_num, rfl, by omega, ⟨hB.os, hB.tape, hB.output, by rw [World.heap_drewN]; exact (hB.alloc hB.size _).size, fun k hk => (hB.alloc hB.size _).block k hk⟩⟩
    · obtain rfl : i = 9 := by omega
      go_wp2
      go_ret
      exact ⟨rfl, hB⟩

set_option maxRecDepth 100000 in
set_option maxHeartbeats 4000000 in
theorem length0 (W : World) (s : ByteArray) (hs : 0 < s.size) :
    Calls Tryd.prog 77 #[.agg #[.int .u8 0, .int .u8 127, .int .u8 0, .int .u8 0, .int .u8 0], .string s] W fun e W' => e = .returned (.int .i64 1) ∧ Below W.heap.size W W' := by
  have hs' : decide ((s.size : Int) < 1) = false := by simp; omega
  have hs2 : s.size ≠ 0 := by omega
  go_enter Tryd.func77, Tryd.ntmps77
  go_wp2_with fail
  go_quiet (fail)
  go_wp2
  refine wp_loop_rounds 1 ?_
  rw [rounds_succ]
  go_wp2
  go_ret
  refine ⟨rfl, ?_⟩
  have hB : Below W.heap.size W (W.alloc (.cells #[.int .u8 0, .int .u8 127, .int .u8 0, .int .u8 0, .int .u8 0] 123)) := (Below.refl _ _).alloc (Nat.le_refl _) _
  exact ⟨hB.os, hB.tape, hB.output, hB.size, hB.block⟩

set_option maxRecDepth 100000 in
set_option maxHeartbeats 4000000 in
theorem char97 {W : World} (h : HasF W) (s : ByteArray) (hs : 0 < s.size) (h0 : s[0].toNat = 97) :
    Calls Tryd.prog 70 #[.string s] W fun e W' => e = .returned (.int .i64 1) ∧ Below W.heap.size W W' := by
  obtain ⟨q0, q1, q2, q3, q4⟩ := h.2 0 0 127 0 0 0 rfl
  have hs' : (0 : Int) < (s.size : Int) := by omega
  go_enter Tryd.func70, Tryd.ntmps70
  go_wp2
  refine wp_loop_rounds 1 ?_
  rw [rounds_succ]
  go_wp2_with fail
  go_quiet (fail)
  go_wp2_with fail
  refine (length0 _ s hs).mono ?_
  rintro e w2 ⟨rfl, hb2⟩
  have hB : Below W.heap.size W (W.alloc (.cells #[.int .u8 0, .int .u8 127, .int .u8 0, .int .u8 0, .int .u8 0] 123)) := (Below.refl _ _).alloc (Nat.le_refl _) _
  have hB2 : Below W.heap.size W w2 := ⟨hb2.os.trans hB.os, hb2.tape.trans hB.tape, hb2.output.trans hB.output, Nat.le_trans hB.size hb2.size, fun k hk => (hb2.block k (Nat.lt_of_lt_of_le hk hB.size)).trans (hB.block k hk)⟩
  go_wp2
  go_ret
  exact ⟨rfl, hB2⟩

set_option maxRecDepth 100000 in
set_option maxHeartbeats 4000000 in
theorem utf8_0 {W : World} (h : HasF W) : Calls Tryd.prog 43 #[.string ⟨#[97, 255]⟩] W fun e W' => e = .returned (.int .i64 1) ∧ Below W.heap.size W W' := by
  have hsz : (⟨#[97, 255]⟩ : ByteArray).size = 2 := rfl
  go_enter Tryd.func43, Tryd.ntmps43
  go_wp2
  refine wp_loop_rounds 2 ?_
  rw [rounds_succ]
  go_wp2_with fail
  refine (char97 h _ (by decide) (by decide)).mono ?_
  rintro e w1 ⟨rfl, hb1⟩
  go_wp2_with fail
  rw [rounds_succ]
  go_wp2_with fail
  refine (char255 (h.up hb1) _ (by decide) (by decide)).mono ?_
  rintro e w2 ⟨rfl, hb2⟩
  go_wp2
  go_ret
  exact ⟨rfl, hb1.trans (hb2.mono hb1.size)⟩
end Go.Proofs.YtfcjkkljmjmhmaaDoor
