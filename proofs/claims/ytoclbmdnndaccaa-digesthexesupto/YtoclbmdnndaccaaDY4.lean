import Derived.Test.YtoclbmdnndaccaaDY3
namespace Go.Proofs.Ytoclbmdnndaccaa
open Go.RowKit
attribute [local go_sem ↓] Go.wp_at_zero Go.wp_at_succ

theorem unhU_fix {W1 W2 W3 W4 : World} {s : ByteArray} {e1 e2 : Ending} (h1 : UnhU W1 s e1 W2) (h2 : UnhU W3 s e2 W4) : ∃ v1 v2 c l, e1 = .returned (.tuple #[v1, .int .i64 c]) ∧ e2 = .returned (.tuple #[v2, .int .i64 c]) ∧ HasB W2 v1 l ∧ HasB W4 v2 l ∧ Byt l ∧ (c = 0 ∨ c = 31) ∧ Below W1.heap.size W1 W2 ∧ Below W3.heap.size W3 W4 := by
  obtain ⟨v1, c1, l1, rfl, hb1, hc1, hw1⟩ := h1
  obtain ⟨v2, c2, l2, rfl, hb2, hc2, hw2⟩ := h2
  rcases hc1 with ⟨q1, rfl⟩ | ⟨q1, rfl, rfl⟩ <;> rcases hc2 with ⟨q2, rfl⟩ | ⟨q2, rfl, rfl⟩
  · obtain rfl : l1 = l2 := Option.some.inj (q1.symm.trans q2)
    exact ⟨v1, v2, 0, l1, rfl, rfl, hb1, hb2, (unh_byt _ _ q1).1, .inl rfl, hw1, hw2⟩
  · rw [q1] at q2; cases q2
  · rw [q1] at q2; cases q2
  · exact ⟨v1, v2, 31, [], rfl, rfl, hb1, hb2, fun x hx => by simp at hx, .inr rfl, hw1, hw2⟩
def s6 : ByteArray := ⟨#[48, 48, 48, 102, 102, 102]⟩
theorem u6 : unh (strN s6) = some [0, 15, 255] := by decide
theorem hasB_three (w : World) : HasB (w.alloc (.cells #[.int .u8 0, .int .u8 15, .int .u8 255] 5)) (.slice (some ⟨w.heap.size, 0, none⟩) 3 3) [0, 15, 255] := hasB_lit (l := [0, 15, 255]) (heap_new _ _) 3 3 rfl (by decide)
set_option maxRecDepth 100000 in
set_option maxHeartbeats 1000000 in
theorem hexes_any {W : World} {v : Value} {l : List Nat} {s : ByteArray} (h : HasB W v l) (hl : Byt l) (hn : l.length ≤ 1048576) (hs : s.size ≤ 1048576) :
    Calls Try.prog 4 #[v, .string s] W fun e W' => e = .returned (.bool true) ∧ Below W.heap.size W W' := by
  go_enter Try.func4, Try.ntmps4
  go_wp2_with fail
  refine (roomy_any h (by omega)).mono ?_
  rintro e w1 ⟨rfl, hR, hb1⟩
  go_wp2_with fail
  refine (hex_any (hR.has (by omega)) hl (by omega)).mono ?_
  rintro e w2 ⟨rfl, hb⟩
  have hR2 := hR.up hb
  have hb2 : Below W.heap.size W w2 := hb1.trans (hb.mono hb1.size)
  clear hb hR hb1
  go_wp2_with fail
  refine (unhex_any w2 s (by omega)).mono ?_
  intro e w3 hU3
  obtain ⟨v3, c3, l3, rfl, hH3, hcs3, hb⟩ := id hU3
  have HU3 := hide hU3
  have hR3 := hR2.up hb
  have hb3 : Below W.heap.size W w3 := hb2.trans (hb.mono hb2.size)
  clear hb hR2 hcs3 hH3 hU3
  go_wp2_with fail
  refine (xunhex_any w3 s (by omega)).mono ?_
  intro e w4 hU4
  obtain ⟨v3', v4, c, r, q1, rfl, hA, hB4, hr, hc, _, hb⟩ := unhU_fix (unhide HU3) hU4
  simp only [Ending.returned.injEq, Value.tuple.injEq, Array.mk.injEq, List.cons.injEq, Value.int.injEq, and_true, true_and] at q1
  obtain ⟨rfl, rfl⟩ := q1
  have hR4 := hR3.up hb
  have hA4 := hA.up hb
  have hb4 : Below W.heap.size W w4 := hb3.trans (hb.mono hb3.size)
  clear hb hR3 HU3 hU4 hA hb3
  go_wp2_with fail
  refine (unhex_any w4 s6 (by decide)).mono ?_
  rintro e w5 ⟨v5, c5, l5, rfl, hH5, hcs5, hb⟩
  rw [u6] at hcs5
  obtain ⟨rfl, rfl⟩ : [0, 15, 255] = l5 ∧ c5 = 0 := by
    rcases hcs5 with ⟨q, rfl⟩ | ⟨q, _⟩
    · exact ⟨Option.some.inj q, rfl⟩
    · cases q
  have hR5 := hR4.up hb
  have hA5 := hA4.up hb
  have hB5 := hB4.up hb
  have hb5 : Below W.heap.size W w5 := hb4.trans (hb.mono hb4.size)
  clear hb hcs5 hR4 hA4 hB4 hb4 hb2
  go_wp2_with fail
  refine (xhex_any (h.up hb5) hl (by omega)).mono ?_
  rintro e w6 ⟨rfl, hb⟩
  have hR6 := hR5.up hb
  have hA6 := hA5.up hb
  have hB6 := hB5.up hb
  have hH6 := hH5.up hb
  have hb6 : Below W.heap.size W w6 := hb5.trans (hb.mono hb5.size)
  clear hb hR5 hA5 hB5 hH5 hb5
  have e1 : ((ofN (hexL l)).toList == (ofN (hexL l)).toList) = true := by simp
  go_wp2_with fail
  refine (kept_any hR6 (h.up hb6) hl (by omega)).mono ?_
  rintro e w7 ⟨rfl, hb⟩
  have hA7 := hA6.up hb
  have hB7 := hB6.up hb
  have hH7 := hH6.up hb
  have hb7 : Below W.heap.size W w7 := hb6.trans (hb.mono hb6.size)
  clear hb hR6 hA6 hB6 hH6 hb6
  go_wp2_with fail
  refine (same_any hA7 hB7 hr hr).mono ?_
  rintro e w' ⟨rfl, he⟩
  obtain rfl : w7 = w' := he.symm
  have e2 : decide (r = r) = true := by simp
  go_wp2_with fail
  refine (num_any w7 c3).mono ?_
  rintro e w' ⟨rfl, he⟩
  obtain rfl : w7 = w' := he.symm
  have e3 : (c3 == c3) = true := by simp
  go_wp2_with fail
  refine (num_any w7 0).mono ?_
  rintro e w' ⟨rfl, he⟩
  obtain rfl : w7 = w' := he.symm
  go_wp2_with fail
  refine (same_any (hH7.up ((Below.refl _ _).alloc (Nat.le_refl _) _)) (hasB_three w7) (by intro x hx; simp at hx; omega) (by intro x hx; simp at hx; omega)).mono ?_
  rintro e w8 ⟨rfl, he⟩
  subst he
  go_wp2
  go_ret
  exact ⟨rfl, hb7.trans (((Below.refl _ _).alloc (Nat.le_refl _) _).mono hb7.size)⟩
end Go.Proofs.Ytoclbmdnndaccaa
