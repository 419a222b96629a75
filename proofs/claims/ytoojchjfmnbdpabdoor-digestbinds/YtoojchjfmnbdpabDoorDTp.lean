import Derived.Test.YtoojchjfmnbdpabDoorDTo
namespace Go.Proofs.YtoojchjfmnbdpabDoor
open Go.RowKit
attribute [local go_sem ↓] Go.wp_at_zero Go.wp_at_succ

set_option maxRecDepth 100000 in
/-- Prove of a leaf that there is: a row of its own. -/
theorem prove_own {W : World} (hK : HasK W) (hS : HasS W) {v : Value} {ls : List (List Nat)} {at' : Nat} (h : HasBB W v ls) (hb : ∀ l ∈ ls, Byt l ∧ l.length ≤ 140737488351232) (ha : at' < ls.length) (hn : ls.length ≤ 65536) :
    Calls Tryd.prog 21 #[v, .int .i64 (at' : Int)] W fun e W' => ∃ v', e = .returned (.tuple #[v', .int .i64 0]) ∧ (∃ us, OwnBB W.heap.size W.heap.size W' v' us (wayF 65536 ls at')) ∧ Below W.heap.size W W' := by
  have q0 : decide (65536 < (ls.length : Int)) = false := decide_eq_false (by omega)
  have q1 : decide ((at' : Int) < 0) = false := decide_eq_false (by omega)
  have q2 : decide ((ls.length : Int) ≤ (at' : Int)) = false := decide_eq_false (by omega)
  have hr := wayOf_any 65536 (at' := at') hK hS h hb (by omega) (by omega) (by omega) (by omega) (by omega)
  have Hr := hide hr
  obtain ⟨va, vc, rfl, _, _⟩ := h
  clear hr
  go_enter Tryd.func21, Tryd.ntmps21
  go_wp2_with fail
  refine (unhide Hr).mono ?_
  rintro e w2 ⟨v2, rfl, ⟨us2, hO2⟩, hb2⟩
  obtain ⟨x, y, c, hv⟩ : ∃ x y z, v2 = .slice x y z := by obtain ⟨x, y, e, _⟩ := id hO2.has; exact ⟨_, _, _, e⟩
  subst hv
  have HB := hide hO2
  have Hb := hide hb2
  clear hO2 hb2 Hr
  go_wp2
  go_ret2
  exact ⟨_, rfl, ⟨_, unhide HB⟩, unhide Hb⟩
/-- Lists in a row that may be written. -/
def WBB (S : Nat) (W : World) (v : Value) (ls : List (List Nat)) : Prop := HasBB W v ls ∧ (0 < ls.length → ∃ (g c : Nat) (us rest : List Value), v = .slice (some ⟨g, 0, none⟩) ls.length c ∧ ls.length ≤ c ∧ c ≤ maxLen ∧ S ≤ g ∧ us.length = ls.length ∧ W.heap[g]? = some (.cells (us ++ rest).toArray 28 (0, 0)) ∧ ∀ (j : Nat) (u : Value) (l : List Nat), us[j]? = some u → ls[j]? = some l → HasB W u l ∧ u.ownBlock ≠ some g)
theorem OwnBB.wbb {S : Nat} {W : World} {v : Value} {us : List Value} {ls : List (List Nat)} (h : OwnBB S S W v us ls) : WBB S W v ls := by
  refine ⟨h.has, fun hp => ?_⟩
  have hl := h.len
  obtain ⟨h1, ⟨_, h0⟩ | ⟨g, c, cur, rfl, h2, h3, h4, h5, h6, h7⟩⟩ := id h.row
  · omega
  · refine ⟨g, c, us, cur.toList.drop (ls.length * 1), rfl, h4, h5, h2, hl, ?_, fun j u l hu hl' => ?_⟩
    · rw [h3, ← h7, List.take_append_drop]
    · obtain ⟨g1, g2⟩ := h.each j u l hu hl'
      exact ⟨g1, fun e => (g2 g e).2.2 rfl⟩
theorem WBB.set {S : Nat} {W : World} {v u : Value} {ls : List (List Nat)} {i : Nat} {l : List Nat} (h : WBB S W v ls) (hi : i < ls.length) (hu : HasB W u l) (hub : ∀ b, u.ownBlock = some b → b < S) :
    ∃ g c, v = .slice (some ⟨g, 0, none⟩) ls.length c ∧ S ≤ g ∧ c ≤ 9223372036854775807 ∧ W.frozen? ⟨g, i, none⟩ = false ∧ (∃ z, W.cell? ⟨g, i, none⟩ = some z) ∧ WBB S (W.setCell ⟨g, i, none⟩ u) v (ls.set i l) := by
  obtain ⟨h1, h2⟩ := h
  obtain ⟨g, c, us, rest, rfl, hc1, hc2, hS, hl, hrow, heach⟩ := h2 (by omega)
  have hgl : g < W.heap.size := (Array.getElem?_eq_some_iff.1 hrow).1
  have hrow2 := set_rowV (i := i) hrow u
  rw [List.set_append, if_pos (by omega)] at hrow2
  have hst : ∀ (z : Value) (m : List Nat), HasB W z m → z.ownBlock ≠ some g → HasB (W.setCell ⟨g, i, none⟩ u) z m := fun z m hz hn => hz.stays (by rw [World.size_setCell]; exact Nat.le_refl _) (fun b hb _ => heap_setCell_other W ⟨g, i, none⟩ b u (by intro e; exact hn (by rw [hb]; exact congrArg some e)))
  have hev : ∀ (j : Nat) (z : Value) (m : List Nat), (us.set i u)[j]? = some z → (ls.set i l)[j]? = some m → HasB (W.setCell ⟨g, i, none⟩ u) z m ∧ z.ownBlock ≠ some g := fun j z m hz hm => by
    rw [List.getElem?_set] at hz hm
    by_cases e : i = j
    · rw [if_pos e, if_pos (by omega)] at hz hm
      obtain rfl := Option.some.inj hz
      obtain rfl := Option.some.inj hm
      have hn : u.ownBlock ≠ some g := fun e => by have := hub g e; omega
      exact ⟨hst _ _ hu hn, hn⟩
    · rw [if_neg e] at hz hm
      obtain ⟨g1, g2⟩ := heach j z m hz hm
      exact ⟨hst _ _ g1 g2, g2⟩
  refine ⟨g, c, rfl, hS, by unfold maxLen at hc2; omega, row_frozen i hrow, ⟨us[i], row_cellV hrow (by rw [List.getElem?_append_left (by omega)]; exact List.getElem?_eq_getElem (by omega))⟩, ⟨some ⟨g, 0, none⟩, c, by rw [List.length_set], by rw [List.length_set]; exact ⟨hc1, hc2, nofun⟩, fun _ => ⟨g, 0, rfl, by rw [World.size_setCell]; exact hgl, fun j m hm => ?_⟩⟩, fun _ => ⟨g, c, us.set i u, rest, by rw [List.length_set], by rw [List.length_set]; exact hc1, hc2, hS, by rw [List.length_set, List.length_set]; exact hl, hrow2, hev⟩⟩
  have hj : j < (us.set i u).length := by
    have := (List.getElem?_eq_some_iff.1 hm).1
    rw [List.length_set] at this ⊢
    omega
  refine ⟨(us.set i u)[j], ?_, (hev j _ m (List.getElem?_eq_getElem hj) hm).1⟩
  rw [Nat.zero_add]
  exact row_cellV hrow2 (by rw [List.getElem?_append_left hj]; exact List.getElem?_eq_getElem hj)
end Go.Proofs.YtoojchjfmnbdpabDoor
