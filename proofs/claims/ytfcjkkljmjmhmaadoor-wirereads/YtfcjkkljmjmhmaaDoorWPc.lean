import Derived.Test.YtfcjkkljmjmhmaaDoorWPb
import Derived.Test.YtfcjkkljmjmhmaaDoorWLb
namespace Go.Proofs.YtfcjkkljmjmhmaaDoor
open Go.RowKit
attribute [local go_sem ↓] Go.wp_at_zero Go.wp_at_succ

/-- Bytes with three places of room behind them, the first j of them marked. -/
def HdAt (W : World) (g : Nat) (l : List Int) (j : Nat) : Prop := ∃ cur : Array Value, W.heap[g]? = some (.cells cur 5 (0, 0)) ∧ cur.size = l.length + 3 ∧ (∀ (i : Nat) (x : Int), l[i]? = some x → cur[i]? = some (Value.int .u8 x)) ∧ (∀ i : Nat, l.length ≤ i → i < l.length + j → cur[i]? = some (Value.int .u8 171))
theorem HdAt.set {W : World} {g : Nat} {l : List Int} {j : Nat} (h : HdAt W g l j) (hj3 : j < 3) : HdAt (W.setCell ⟨g, l.length + j, none⟩ (.int .u8 171)) g l (j + 1) := by
  obtain ⟨cur, h1, h2, h3, h4⟩ := h
  refine ⟨_, heap_setCell_same W g (l.length + j) cur _ _ h1, by simpa using h2, fun i x hx => ?_, fun i hi hj => ?_⟩
  · have hl := (List.getElem?_eq_some_iff.1 hx).1
    rw [Array.getElem?_setIfInBounds_ne (by omega)]
    exact h3 i x hx
  · by_cases e : i = l.length + j
    · subst e
      rw [Array.getElem?_setIfInBounds_self_of_lt (by omega)]
    · rw [Array.getElem?_setIfInBounds_ne (by omega)]
      exact h4 i hi (by omega)
theorem HdAt.cell {W : World} {g : Nat} {l : List Int} {j i : Nat} (h : HdAt W g l j) (hi : i < l.length + 3) : ∃ x, W.cell? ⟨g, i, none⟩ = some x ∧ W.frozen? ⟨g, i, none⟩ = false := by
  obtain ⟨cur, h1, h2, _⟩ := h
  exact ⟨cur[i]'(by omega), by rw [cell_of_row W g i cur _ _ h1, Array.getElem?_eq_getElem (by omega)], frozen_of_row W g i _ _ h1⟩
theorem HdAt.has {W : World} {g : Nat} {l : List Int} {j : Nat} (h : HdAt W g l j) (hn : l.length ≤ 140737488351232) : HasB W (.slice (some ⟨g, 0, none⟩) l.length (l.length + 3)) l := by
  obtain ⟨cur, h1, h2, h3, _⟩ := h
  exact ⟨_, _, rfl, by unfold maxLen; omega, fun _ => ⟨g, 0, rfl, (Array.getElem?_eq_some_iff.1 h1).1, fun i b hb => by rw [Nat.zero_add, cell_of_row W g i cur _ _ h1]; exact h3 i b hb⟩⟩
theorem HdAt.mark {W : World} {g : Nat} {l : List Int} {i : Nat} (h : HdAt W g l 3) (h1 : l.length ≤ i) (h2 : i < l.length + 3) : W.cell? ⟨g, i, none⟩ = some (.int .u8 171) := by
  obtain ⟨cur, e1, _, _, e4⟩ := h
  rw [cell_of_row W g i cur _ _ e1]
  exact e4 i h1 h2
theorem HdAt.block {W w : World} {g : Nat} {l : List Int} {j : Nat} (h : HdAt W g l j) (e : w.heap[g]? = W.heap[g]?) : HdAt w g l j := by
  obtain ⟨cur, h1, h2⟩ := h
  exact ⟨cur, e.trans h1, h2⟩
set_option maxRecDepth 100000 in
set_option maxHeartbeats 4000000 in
theorem hand_any {W : World} {v : Value} {l : List Int} (h : HasB W v l) (hn : l.length ≤ 140737488351232) :
    Calls Tryd.prog 33 #[v] W fun e W' => e = .returned (.slice (some ⟨W.heap.size, 0, none⟩) l.length (l.length + 3)) ∧ HdAt W' W.heap.size l 3 ∧ Below W.heap.size W W' := by
  obtain ⟨i0, hi, hz0, hz1, hz2⟩ := info_parts Tryd.infoByte
  obtain ⟨a, c, rfl, hm, h3⟩ := h
  have H3 := hide h3
  clear h3 hm
  have hsz : (Tryd.prog.info? 5).map (·.size) = some 1 := by rw [hi]; simp [hz1]
  obtain ⟨N, hN⟩ : ∃ N, l.length + 3 = N := ⟨_, rfl⟩
  have eN : (l.length : Int) + 3 = (N : Int) := by omega
  have eN2 : wrap64 (N : Int) = (N : Int) := wrap64_id (by omega) (by omega)
  have hlN : l.length ≤ N := by omega
  have hlN2 : (l.length : Int) ≤ (N : Int) := by omega
  rw [hN]
  have HN := hide hN
  clear hN
  go_enter Tryd.func33, Tryd.ntmps33
  go_wp2_with (at_make; refine wpList_make_full _ rfl _ _ 23 rfl W.heap.size 5 i0 (.int .u8 0) 1 Tryd.underlying23 hi hz0 hz1 .i64 .i64 _ _ N rfl rfl (by first | rfl | simp) (by first | rfl | simp) (by rw [hz2]; have := unhide HN; omega) (by have := unhide HN; unfold maxLen; omega) (Nat.le_refl _) ?_; intro w5 hown5 hgrow5; have Hr := hide (made_row hown5); have Hb : Hid (Below W.heap.size W w5) := ⟨hgrow5.os, hgrow5.tape, hgrow5.output, hgrow5.size, fun b hb => hgrow5.block b hb (by simp)⟩; clear hown5 hgrow5)
  obtain ⟨w6, hrun, hr6, hb6, _⟩ := copy_run (P := Tryd.prog) (w := w5) (w0 := W) (dT := 23) (sT := 23) (ty := 3) Tryd.underlying23 hsz (some ⟨W.heap.size, 0, none⟩) a N N l.length c W.heap.size 0 (ib (List.replicate N 0)) 5 (unhide Hr) (ib l) (by rw [ib_len]; exact (Nat.min_eq_left hlN).symm) (fun hp => ⟨rfl, src_of (unhide H3) (unhide Hb) hp⟩) (by simp [ib]; exact hlN) (ib_one l) W.heap.size (unhide Hb) (Nat.le_refl _)
  rw [hrun]
  have H6 : Hid (HdAt w6 W.heap.size l 0) := by
    refine ⟨_, hr6, ?_, fun i x hx => ?_, fun i h1 h2 => by omega⟩
    · have := unhide HN
      simp [splice, ib]
      omega
    · have hl := (List.getElem?_eq_some_iff.1 hx).1
      simp only [splice, List.take_zero, List.nil_append, Nat.zero_add, List.getElem?_toArray]
      rw [List.getElem?_append_left (by rw [ib_len]; exact hl), ib_at, hx]
      rfl
  have HB6 := hide hb6
  clear hrun Hr Hb H3 hr6 hb6
  go_wp2
  go_loopg [4] 3 (fun gk v4 wr => ∃ j : Nat, v4 = .int .i64 ((l.length + j : Nat) : Int) ∧ gk = 3 - j ∧ j ≤ 3 ∧ Hid (HdAt wr W.heap.size l j) ∧ Hid (Below W.heap.size W wr))
  case atStart => exact ⟨0, rfl, rfl, by omega, H6, HB6⟩
  case round =>
    obtain ⟨j, rfl, hgk, hj, HH, HB⟩ := hrel
    clear H6 HB6
    have Hgk := hide hgk
    clear hgk
    have hN := unhide HN
    by_cases hlt : j < 3
    · obtain ⟨x, hx, hf⟩ := (unhide HH).cell (i := l.length + j) (by omega)
      obtain ⟨q, hq⟩ : ∃ q, l.length + j = q := ⟨_, rfl⟩
      have HH2 : Hid (HdAt (wr.setCell ⟨W.heap.size, q, none⟩ (.int .u8 171)) W.heap.size l (j + 1)) := by have e := (unhide HH).set hlt; rw [hq] at e; exact e
      have HB2 : Hid (Below W.heap.size W (wr.setCell ⟨W.heap.size, q, none⟩ (.int .u8 171))) := (unhide HB).setCell (p := ⟨W.heap.size, q, none⟩) (Nat.le_refl _) _
      have Hq := hide hq
      have q1 : (0 : Int) ≤ (q : Int) := by omega
      have q2 : (q : Int) < (N : Int) := by omega
      have q3 : q < N := by omega
      rw [hq] at hx hf ⊢
      clear hq hN HH HB
      go_wp2
      go_roundg (3 - (j + 1))
      case measure => have := unhide Hgk; omega
      case rel => exact ⟨j + 1, by have := unhide Hq; go_num, rfl, by omega, HH2, HB2⟩
    · obtain rfl : j = 3 := by omega
      rw [hN]
      clear hN
      go_wp2
      go_ret
      exact ⟨rfl, unhide HH, unhide HB⟩
end Go.Proofs.YtfcjkkljmjmhmaaDoor
