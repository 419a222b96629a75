import Derived.Test.YtfcjkkljmjmhmaaDoorWPg
import Derived.Test.YtfcjkkljmjmhmaaDoorWX
namespace Go.Proofs.YtfcjkkljmjmhmaaDoor
open Go.RowKit
attribute [local go_sem ↓] Go.wp_at_zero Go.wp_at_succ

theorem read_gen {W : World} {l : List Nat} {g off c : Nat} {st : Bool} (hc : ∀ (i : Nat) (b : Int), (byB l)[i]? = some b → W.cell? ⟨g, off + i, none⟩ = some (.int .u8 b)) (hl : ∀ x ∈ l, x < 256) {e0 : Int} (he : e0 = if 1048576 < l.length then 2 else 0) :
    Calls Tryd.prog 17 #[.slice (some ⟨g, off, none⟩) l.length c, .bool st] W fun e W' => ∃ pt, e = .returned (.tuple #[.pointer pt, .int .i64 e0]) ∧ Below W.heap.size W W' := by
  by_cases h : 1048576 < l.length
  · rw [he, if_pos h]
    exact (read_long h).mono fun e w ⟨he, hw⟩ => ⟨none, he, by rw [hw]; exact Below.refl _ _⟩
  · rw [he, if_neg h]
    exact (read_at hc hl (by omega)).mono fun e w ⟨he, _, hb, _⟩ => ⟨_, he, hb⟩
set_option maxRecDepth 100000 in
set_option maxHeartbeats 16000000 in
theorem wireReads_long (hadd : AddNil) {W : World} {v0 v1 v2 v3 : Value} {l0 l1 : List Nat} (hF : HasF W) (h0 : HasBN W v0 l0) (b0 : ∀ x ∈ l0, x < 256) (n0 : l0.length ≤ 140737488351232) (h1 : HasBN W v1 l1) (b1 : ∀ x ∈ l1, x < 256) (n1 : l1.length ≤ 140737488351232) (hlg : 1048576 < l0.length ∨ 1048576 < l1.length) :
    Calls Tryd.prog 8 #[v0, v1, v2, v3] W fun e W' => e = .returned (.bool true) ∧ Below W.heap.size W W' := by
  have Hkn := hide (known_any hadd hF)
  have HH0 := hide h0.has
  have HH1 := hide h1.has
  have Hb0 := hide b0
  have Hb1 := hide b1
  obtain ⟨a0, q0, rfl, m0, r0⟩ := h0
  obtain ⟨a1, q1, rfl, m1, r1⟩ := h1
  obtain ⟨e0, he0⟩ : ∃ e0 : Int, e0 = if 1048576 < l0.length then 2 else 0 := ⟨_, rfl⟩
  obtain ⟨e1, he1⟩ : ∃ e1 : Int, e1 = if 1048576 < l1.length then 2 else 0 := ⟨_, rfl⟩
  obtain ⟨x0, d0⟩ : ∃ x, decide ((1048576 : Int) < (l0.length : Int)) = x := ⟨_, rfl⟩
  obtain ⟨x1, d1⟩ : ∃ x, decide ((1048576 : Int) < (l1.length : Int)) = x := ⟨_, rfl⟩
  have f0 : (e0 == 2) = x0 := by
    rw [he0, ← d0]
    by_cases h : 1048576 < l0.length
    · rw [if_pos h, decide_eq_true (by omega)]; rfl
    · rw [if_neg h, decide_eq_false (by omega)]; rfl
  have f1 : (e1 == 2) = x1 := by
    rw [he1, ← d1]
    by_cases h : 1048576 < l1.length
    · rw [if_pos h, decide_eq_true (by omega)]; rfl
    · rw [if_neg h, decide_eq_false (by omega)]; rfl
  have hx : x0 = true ∨ x1 = true := by
    rw [← d0, ← d1]
    rcases hlg with h | h
    · exact .inl (decide_eq_true (by omega))
    · exact .inr (decide_eq_true (by omega))
  have He0 := hide he0
  have He1 := hide he1
  obtain ⟨sb, hsb⟩ : ∃ sb, ((l0.length : Int) % 2 == 0) = sb := ⟨_, rfl⟩
  clear hF b0 b1 m0 r0 m1 r1 he0 he1 hlg
  have hxx : (x0 = true ∧ x1 = true) ∨ (x0 = true ∧ x1 = false) ∨ (x0 = false ∧ x1 = true) := by
    cases x0 <;> cases x1 <;> simp at hx ⊢
  clear hx
  rcases hxx with ⟨rfl, rfl⟩ | ⟨rfl, rfl⟩ | ⟨rfl, rfl⟩
  all_goals (
    go_enter Tryd.func8, Tryd.ntmps8
    go_wp2_with fail
    refine (unhide Hkn).mono ?_
    rintro e W1 ⟨rfl, hb1⟩
    have hz1 := hb1.size
    have Hbe1 := hide hb1
    clear hb1 Hkn
    go_wp2_with fail
    refine (hand_any ((unhide HH0).up (unhide Hbe1)) (by rw [byB_length]; omega)).mono ?_
    rintro e W2 ⟨he, hd2, hb2⟩
    rw [byB_length] at he
    subst he
    have hz2 : W1.heap.size < W2.heap.size := by
      obtain ⟨cur, e1, _⟩ := id hd2
      exact (Array.getElem?_eq_some_iff.1 e1).1
    have Hd2 := hide hd2
    have Hbe2 := hide ((unhide Hbe1).trans (hb2.mono hz1))
    clear hd2 hb2
    go_wp2_with fail
    refine (read_gen (W := W2) (l := l0) (g := W1.heap.size) (off := 0) (c := l0.length + 3) (st := true) (unhide Hd2).cells (unhide Hb0) (unhide He0)).mono ?_
    rintro e W3 ⟨pp, rfl, hb3⟩
    have hz3 := hb3.size
    have Hd3 := hide ((unhide Hd2).block (hb3.block _ hz2))
    have Hbe3 := hide ((unhide Hbe2).trans (hb3.mono (by omega)))
    clear hb3 Hd2
    go_wp2_with fail
    refine (read_gen (W := W3) (l := l0) (g := W1.heap.size) (off := 0) (c := l0.length + 3) (st := false) (unhide Hd3).cells (unhide Hb0) (unhide He0)).mono ?_
    rintro e W4 ⟨pq, rfl, hb4⟩
    have hz4 := hb4.size
    have Hbe4 := hide ((unhide Hbe3).trans (hb4.mono (by omega)))
    clear hb4 Hd3
    go_wp2_with fail
    refine (twin_any ((unhide HH1).up (unhide Hbe4)) (by rw [byB_length]; omega)).mono ?_
    rintro e W5 ⟨he, hy5, hb5⟩
    rw [byB_length] at he hy5
    subst he
    have hz5 := hb5.size
    have Hy5 := hide hy5
    have Hbe5 := hide ((unhide Hbe4).trans (hb5.mono (by omega)))
    clear hy5 hb5
    go_wp2_with fail
    refine (read_gen (W := W5) (l := l1) (g := W4.heap.size) (off := 0) (c := l1.length) (st := sb) (unhide Hy5).cellsB (unhide Hb1) (unhide He1)).mono ?_
    rintro e W6 ⟨pr, rfl, hb6⟩
    have hz6 := hb6.size
    have Hbe6 := hide ((unhide Hbe5).trans (hb6.mono (by omega)))
    clear hb6 Hy5
    go_wp2
    go_ret
    exact ⟨rfl, unhide Hbe6⟩)
/-- The law. -/
theorem wireReads_row {W : World} {v0 v1 v2 v3 : Value} {l0 l1 : List Nat} {os : List OpR} {ts : List Int} (hF : HasF W) (h0 : HasBN W v0 l0) (b0 : ∀ x ∈ l0, x < 256) (n0 : l0.length ≤ 140737488351232) (h1 : HasBN W v1 l1) (b1 : ∀ x ∈ l1, x < 256) (n1 : l1.length ≤ 140737488351232) (h2 : HasOp W v2 os) (h3 : HasI W v3 ts) (_b3 : ∀ z ∈ ts, -9223372036854775808 ≤ z ∧ z ≤ 9223372036854775807) (_n3 : ts.length ≤ 140737488351232) :
    Calls Tryd.prog 8 #[v0, v1, v2, v3] W fun e W' => e = .returned (.bool true) ∧ Below W.heap.size W W' := by
  by_cases hlg : 1048576 < l0.length ∨ 1048576 < l1.length
  · exact wireReads_long (fun _ _ _ _ _ _ _ r h => add_nil r h) hF h0 b0 n0 h1 b1 n1 hlg
  · exact wireReads_short (fun _ _ _ _ _ _ _ r h => add_nil r h) hF h0 b0 (by omega) h1 b1 (by omega) h2 h3
#print axioms wireReads_row
end Go.Proofs.YtfcjkkljmjmhmaaDoor
