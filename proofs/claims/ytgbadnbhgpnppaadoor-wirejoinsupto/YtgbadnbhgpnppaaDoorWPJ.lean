import Derived.Test.YtgbadnbhgpnppaaDoorWPA
import Derived.Test.YtgbadnbhgpnppaaDoorWLb
namespace Go.Proofs.YtgbadnbhgpnppaaDoor
open Go.RowKit
attribute [local go_sem ↓] Go.wp_at_zero Go.wp_at_succ

/-- Bytes with three places of room behind them, the first j of them marked. -/
def HdAt (W : World) (g : Nat) (l : List Int) (j : Nat) : Prop := ∃ cur : Array Value, W.heap[g]? = some (.cells cur 5 (0, 0)) ∧ cur.size = l.length + 3 ∧ (∀ (i : Nat) (x : Int), l[i]? = some x → cur[i]? = some (Value.int .u8 x)) ∧ (∀ i : Nat, l.length ≤ i → i < l.length + j → cur[i]? = some (Value.int .u8 171))
theorem HdAt.set {W : World} {g : Nat} {l : List Int} {j : Nat} (h : HdAt W g l j) (hj3 : j < 3) : HdAt (W.setCell ⟨g, l.length + j, none⟩ (.int .u8 171)) g l (j + 1) := by
  obtain ⟨cur, h1, h2, h3, h4⟩ := h
  refine ⟨_, heap_setCell_same W g (l.length + j) cur _ _ h1, by simpa using h2, fun i x hx => ?_, fun i hi hj => ?_⟩
  · have hl := (List.getElem?_eq_some_iff.1 hx).1
    rw [Array.getElem?_setIfInBounds_ne (by omega)]
    exact h3 i x hx
  · by_cases e : i = l.length + j
    · subst e
      rw [Array.getElem?_setIfInBounds_self_of_lt (by omega)]
    · rw [Array.getElem?_setIfInBounds_ne (by omega)]
      exact h4 i hi (by omega)
theorem HdAt.cell {W : World} {g : Nat} {l : List Int} {j i : Nat} (h : HdAt W g l j) (hi : i < l.length + 3) : ∃ x, W.cell? ⟨g, i, none⟩ = some x ∧ W.frozen? ⟨g, i, none⟩ = false := by
  obtain ⟨cur, h1, h2, _⟩ := h
  exact ⟨cur[i]'(by omega), by rw [cell_of_row W g i cur _ _ h1, Array.getElem?_eq_getElem (by omega)], frozen_of_row W g i _ _ h1⟩
theorem HdAt.has {W : World} {g : Nat} {l : List Int} {j : Nat} (h : HdAt W g l j) (hn : l.length ≤ 140737488351232) : HasB W (.slice (some ⟨g, 0, none⟩) l.length (l.length + 3)) l := by
  obtain ⟨cur, h1, h2, h3, _⟩ := h
  exact ⟨_, _, rfl, by unfold maxLen; omega, fun _ => ⟨g, 0, rfl, (Array.getElem?_eq_some_iff.1 h1).1, fun i b hb => by rw [Nat.zero_add, cell_of_row W g i cur _ _ h1]; exact h3 i b hb⟩⟩
theorem HdAt.mark {W : World} {g : Nat} {l : List Int} {i : Nat} (h : HdAt W g l 3) (h1 : l.length ≤ i) (h2 : i < l.length + 3) : W.cell? ⟨g, i, none⟩ = some (.int .u8 171) := by
  obtain ⟨cur, e1, _, _, e4⟩ := h
  rw [cell_of_row W g i cur _ _ e1]
  exact e4 i h1 h2
theorem HdAt.block {W w : World} {g : Nat} {l : List Int} {j : Nat} (h : HdAt W g l j) (e : w.heap[g]? = W.heap[g]?) : HdAt w g l j := by
  obtain ⟨cur, h1, h2⟩ := h
  exact ⟨cur, e.trans h1, h2⟩
set_option maxRecDepth 100000 in
set_option maxHeartbeats 4000000 in
theorem hand_any {W : World} {v : Value} {l : List Int} (h : HasB W v l) (hn : l.length ≤ 140737488351232) :
    Calls Tryd.prog 13 #[v] W fun e W' => e = .returned (.slice (some ⟨W.heap.size, 0, none⟩) l.length (l.length + 3)) ∧ HdAt W' W.heap.size l 3 ∧ Below W.heap.size W W' := by
  obtain ⟨i0, hi, hz0, hz1, hz2⟩ := info_parts Tryd.infoByte
  obtain ⟨a, c, rfl, hm, h3⟩ := h
  have H3 := hide h3
  clear h3 hm
  have hsz : (Tryd.prog.info? 5).map (·.size) = some 1 := by rw [hi]; simp [hz1]
  obtain ⟨N, hN⟩ : ∃ N, l.length + 3 = N := ⟨_, rfl⟩
  have eN : (l.length : Int) + 3 = (N : Int) := by omega
  have eN2 : wrap64 (N : Int) = (N : Int) := wrap64_id (by omega) (by omega)
  have hlN : l.length ≤ N := by omega
  have hlN2 : (l.length : Int) ≤ (N : Int) := by omega
  rw [hN]
  have HN := hide hN
  clear hN
  go_enter Tryd.func13, Tryd.ntmps13
  go_wp2_with (at_make; refine wpList_make_full _ rfl _ _ 26 rfl W.heap.size 5 i0 (.int .u8 0) 1 Tryd.underlying26 hi hz0 hz1 .i64 .i64 _ _ N rfl rfl (by first | rfl | simp) (by first | rfl | simp) (by rw [hz2]; have := unhide HN; omega) (by have := unhide HN; unfold maxLen; omega) (Nat.le_refl _) ?_; intro w5 hown5 hgrow5; have Hr := hide (made_row hown5); have Hb : Hid (Below W.heap.size W w5) := ⟨hgrow5.os, hgrow5.tape, hgrow5.output, hgrow5.size, fun b hb => hgrow5.block b hb (by simp)⟩; clear hown5 hgrow5)
  obtain ⟨w6, hrun, hr6, hb6, _⟩ := copy_run (P := Tryd.prog) (w := w5) (w0 := W) (dT := 26) (sT := 26) (ty := 3) Tryd.underlying26 hsz (some ⟨W.heap.size, 0, none⟩) a N N l.length c W.heap.size 0 (ib (List.replicate N 0)) 5 (unhide Hr) (ib l) (by rw [ib_len]; exact (Nat.min_eq_left hlN).symm) (fun hp => ⟨rfl, src_of (unhide H3) (unhide Hb) hp⟩) (by simp [ib]; exact hlN) (ib_one l) W.heap.size (unhide Hb) (Nat.le_refl _)
  rw [hrun]
  have H6 : Hid (HdAt w6 W.heap.size l 0) := by
    refine ⟨_, hr6, ?_, fun i x hx => ?_, fun i h1 h2 => by omega⟩
    · have := unhide HN
      simp [splice, ib]
      omega
    · have hl := (List.getElem?_eq_some_iff.1 hx).1
      simp only [splice, List.take_zero, List.nil_append, Nat.zero_add, List.getElem?_toArray]
      rw [List.getElem?_append_left (by rw [ib_len]; exact hl), ib_at, hx]
      rfl
  have HB6 := hide hb6
  clear hrun Hr Hb H3 hr6 hb6
  go_wp2
  go_loopg [4] 3 (fun gk v4 wr => ∃ j : Nat, v4 = .int .i64 ((l.length + j : Nat) : Int) ∧ gk = 3 - j ∧ j ≤ 3 ∧ Hid (HdAt wr W.heap.size l j) ∧ Hid (Below W.heap.size W wr))
  case atStart => exact ⟨0, rfl, rfl, by omega, H6, HB6⟩
  case round =>
    obtain ⟨j, rfl, hgk, hj, HH, HB⟩ := hrel
    clear H6 HB6
    have Hgk := hide hgk
    clear hgk
    have hN := unhide HN
    by_cases hlt : j < 3
    · obtain ⟨x, hx, hf⟩ := (unhide HH).cell (i := l.length + j) (by omega)
      obtain ⟨q, hq⟩ : ∃ q, l.length + j = q := ⟨_, rfl⟩
      have HH2 : Hid (HdAt (wr.setCell ⟨W.heap.size, q, none⟩ (.int .u8 171)) W.heap.size l (j + 1)) := by have e := (unhide HH).set hlt; rw [hq] at e; exact e
      have HB2 : Hid (Below W.heap.size W (wr.setCell ⟨W.heap.size, q, none⟩ (.int .u8 171))) := (unhide HB).setCell (p := ⟨W.heap.size, q, none⟩) (Nat.le_refl _) _
      have Hq := hide hq
      have q1 : (0 : Int) ≤ (q : Int) := by omega
      have q2 : (q : Int) < (N : Int) := by omega
      have q3 : q < N := by omega
      rw [hq] at hx hf ⊢
      clear hq hN HH HB
      go_wp2
      go_roundg (3 - (j + 1))
      case measure => have := unhide Hgk; omega
      case rel => exact ⟨j + 1, by have := unhide Hq; go_num, rfl, by omega, HH2, HB2⟩
    · obtain rfl : j = 3 := by omega
      rw [hN]
      clear hN
      go_wp2
      go_ret
      exact ⟨rfl, unhide HH, unhide HB⟩
end Go.Proofs.YtgbadnbhgpnppaaDoor
namespace Go.Proofs.YtgbadnbhgpnppaaDoor
open Go.RowKit
attribute [local go_sem ↓] Go.wp_at_zero Go.wp_at_succ

theorem upd_cell {W w : World} {g i : Nat} {cur : Array Value} {t : TypeId} (h : Upd W g (.cells cur t (0, 0)) w) (x : Value) : Upd W g (.cells (cur.setIfInBounds i x) t (0, 0)) (w.setCell ⟨g, i, none⟩ x) :=
  ⟨h.os, h.tape, h.output, by rw [World.size_setCell]; exact h.size, heap_setCell_same w g i cur t x h.at', fun q hq hn => (heap_setCell_other w ⟨g, i, none⟩ q x hn).trans (h.far q hq hn)⟩
set_option maxRecDepth 100000 in
set_option maxHeartbeats 4000000 in
theorem back_any {W : World} {g : Nat} {v : Value} {l : List Int} (h : HdAt W g l 3) (hv : HasB W v l) (hn : l.length ≤ 140737488351232) :
    Calls Tryd.prog 16 #[.slice (some ⟨g, 0, none⟩) l.length (l.length + 3), v] W fun e W' => e = .returned (.bool true) ∧ ∃ cur, Upd W g (.cells cur 5 (0, 0)) W' := by
  have Hsame := hide (same_any (h.has hn) hv)
  obtain ⟨a, c, rfl, hm, h3⟩ := hv
  have HM0 : Hid (∀ w1 : World, Below W.heap.size W w1 → (∀ i, l.length ≤ i → i < l.length + 3 → w1.cell? ⟨g, i, none⟩ = some (.int .u8 171)) ∧ ∃ cur : Array Value, cur.size = l.length + 3 ∧ Upd W g (.cells cur 5 (0, 0)) w1) := by
    intro w1 hb
    obtain ⟨cur, h1, h2, _⟩ := id h
    have hg := (Array.getElem?_eq_some_iff.1 h1).1
    exact ⟨fun i q1 q2 => (h.block (hb.block g hg)).mark q1 q2, cur, h2, hb.os, hb.tape, hb.output, hb.size, (hb.block g hg).trans h1, fun q hq _ => hb.block q hq⟩
  obtain ⟨N, hN⟩ : ∃ N, l.length + 3 = N := ⟨_, rfl⟩
  have eN : (l.length : Int) + 3 = (N : Int) := by omega
  have eN2 : wrap64 (N : Int) = (N : Int) := wrap64_id (by omega) (by omega)
  have hlN0 : (0 : Int) ≤ (N : Int) := by omega
  have hlN : l.length ≤ N := by omega
  have hlN2 : (l.length : Int) ≤ (N : Int) := by omega
  rw [hN] at HM0 Hsame ⊢
  have HN := hide hN
  clear hN h hm h3
  go_enter Tryd.func16, Tryd.ntmps16
  go_wp2_with fail
  refine (unhide Hsame).mono ?_
  rintro e w1 ⟨rfl, hw⟩
  obtain ⟨hM, hU0⟩ := unhide HM0 w1 hw
  have HM := hide hM
  have HU0 := hide hU0
  clear hw Hsame hM hU0 HM0
  go_wp2
  go_loopg [5, 7] 3 (fun gk v5 v7 wr => ∃ j : Nat, v5 = .bool true ∧ v7 = .int .i64 ((l.length + j : Nat) : Int) ∧ gk = 3 - j ∧ j ≤ 3 ∧ w1 = wr)
  case atStart => exact ⟨0, rfl, rfl, rfl, by omega, rfl⟩
  case round =>
    obtain ⟨j, rfl, rfl, hgk, hj, rfl⟩ := hrel
    have Hgk := hide hgk
    clear hgk
    have hN := unhide HN
    by_cases hlt : j < 3
    · have hx := unhide HM (l.length + j) (by omega) (by omega)
      obtain ⟨q, hq⟩ : ∃ q, l.length + j = q := ⟨_, rfl⟩
      have Hq := hide hq
      have q1 : (0 : Int) ≤ (q : Int) := by omega
      have q2 : (q : Int) < (N : Int) := by omega
      have q3 : q < N := by omega
      rw [hq] at hx ⊢
      clear hq hN
      go_wp2
      go_roundg (3 - (j + 1))
      case measure => have := unhide Hgk; omega
      case rel => exact ⟨j + 1, rfl, by have := unhide Hq; go_num, rfl, by omega, rfl⟩
    · obtain rfl : j = 3 := by omega
      rw [hN]
      clear hN
      go_wp2
      go_loopg [8] N (fun gk v8 w8 => ∃ j : Nat, v8 = .int .i64 (j : Int) ∧ gk = N - j ∧ j ≤ N ∧ Hid (∃ cur : Array Value, cur.size = N ∧ Upd W g (.cells cur 5 (0, 0)) w8))
      case atStart => exact ⟨0, rfl, rfl, by omega, HU0⟩
      case round =>
        obtain ⟨i, rfl, hgk2, hi, HU⟩ := hrel
        have Hgk2 := hide hgk2
        clear hgk2 HU0
        by_cases hlt2 : i < N
        · obtain ⟨cur, hc1, hc2⟩ := unhide HU
          have hx := cell_of_row _ g i cur _ _ hc2.at'
          rw [Array.getElem?_eq_getElem (by omega)] at hx
          have hf := frozen_of_row _ g i _ _ hc2.at'
          have HU2 : Hid (∃ cur' : Array Value, cur'.size = N ∧ Upd W g (.cells cur' 5 (0, 0)) (World.setCell _ ⟨g, i, none⟩ (.int .u8 213))) := ⟨cur.setIfInBounds i (.int .u8 213), by simpa using hc1, upd_cell hc2 _⟩
          have q1 : (0 : Int) ≤ (i : Int) := by omega
          have q2 : (i : Int) < (N : Int) := by omega
          generalize cur[i] = xx at hx
          clear hc1 hc2
          go_wp2
          go_roundg (N - (i + 1))
          case measure => have := unhide Hgk2; omega
          case rel => exact ⟨i + 1, by go_num, rfl, by omega, HU2⟩
        · obtain rfl : i = N := by omega
          go_wp2
          go_ret
          obtain ⟨cur, _, hc2⟩ := unhide HU
          exact ⟨rfl, cur, hc2⟩
set_option maxRecDepth 100000 in
set_option maxHeartbeats 2000000 in
theorem read_at {W : World} {l : List Nat} {g off c : Nat} {st : Bool} (hc : ∀ (i : Nat) (b : Int), (byB l)[i]? = some b → W.cell? ⟨g, off + i, none⟩ = some (.int .u8 b)) (hl : ∀ x ∈ l, x < 256) (hn : l.length ≤ 1048576) :
    Calls Tryd.prog 14 #[.slice (some ⟨g, off, none⟩) l.length c, .bool st] W fun e W' => e = .returned (.tuple #[.pointer (some ⟨W.heap.size, 0, none⟩), .int .i64 0]) ∧ RdAt W' W.heap.size (sOf l) 0 st ∧ Below W.heap.size W W' ∧ W'.heap.size = W.heap.size + 1 := by
  have hcv0 := run_convert_bytes_back (P := Tryd.prog) W 26 9 5 ⟨g, off, none⟩ c (l.map Nat.toUInt8) Tryd.underlying26 Tryd.underlying5 Tryd.underlying9 (fun j hj => by
      rw [Go.WideShapes.add_plain]
      have hj' : j < l.length := by simpa using hj
      have hx := hc j (l[j] : Int) (by unfold byB; rw [List.getElem?_map, List.getElem?_eq_getElem hj']; rfl)
      rw [hx]
      have := hl l[j] (List.getElem_mem hj')
      simp [Nat.toUInt8]
      omega)
  have hcv : (convert 26 9 (.slice (some ⟨g, off, none⟩) l.length c)).run Tryd.prog W = .ok (.string (sOf l)) W := by
    rw [List.length_map] at hcv0
    exact hcv0
  have hlen : decide ((1048576 : Int) < (l.length : Int)) = false := by simp; omega
  have hnw := heap_alloc_new W (.cells #[.string (sOf l), .int .i64 0, .bool st] 70)
  have hB : Below W.heap.size W (W.alloc (.cells #[.string (sOf l), .int .i64 0, .bool st] 70)) := (Below.refl _ _).alloc (Nat.le_refl _) _
  have Hnw := hide hnw
  have HB := hide hB
  clear hnw hB hcv0 hc hl
  generalize sOf l = S at *
  go_enter Tryd.func14, Tryd.ntmps14
  go_wp2
  go_ret2
  exact ⟨rfl, unhide Hnw, unhide HB, World.size_alloc _ _⟩
set_option maxRecDepth 100000 in
theorem read_long {W : World} {a : Option Addr} {n c : Nat} {st : Bool} (hn : 1048576 < n) :
    Calls Tryd.prog 14 #[.slice a n c, .bool st] W fun e W' => e = .returned (.tuple #[.pointer none, .int .i64 2]) ∧ W' = W := by
  have hlen : decide ((1048576 : Int) < (n : Int)) = true := by simp; omega
  clear hn
  go_enter Tryd.func14, Tryd.ntmps14
  go_wp2
  go_ret2
  exact ⟨rfl, rfl⟩
set_option maxRecDepth 100000 in
theorem open_any {W : World} {a : Option Addr} {n c : Nat} {st : Bool} :
    Calls Tryd.prog 17 #[.slice a n c, .bool st] W fun e W' => e = .returned (.pointer (some ⟨W.heap.size, 0, none⟩)) ∧ W'.heap[W.heap.size]? = some (.cells #[.slice a n c, .int .i64 0, .int .i64 (n : Int), .bool st] 72 (0, 0)) ∧ Below W.heap.size W W' ∧ W'.heap.size = W.heap.size + 1 := by
  have hnw := heap_alloc_new W (.cells #[.slice a n c, .int .i64 0, .int .i64 (n : Int), .bool st] 72)
  have hB : Below W.heap.size W (W.alloc (.cells #[.slice a n c, .int .i64 0, .int .i64 (n : Int), .bool st] 72)) := (Below.refl _ _).alloc (Nat.le_refl _) _
  have Hnw := hide hnw
  have HB := hide hB
  clear hnw hB
  go_enter Tryd.func17, Tryd.ntmps17
  go_wp2
  go_ret
  exact ⟨rfl, unhide Hnw, unhide HB, World.size_alloc _ _⟩
end Go.Proofs.YtgbadnbhgpnppaaDoor
