import Derived.Test.YtobomdokdajbaaaDoorJ00
import Derived.Lib.SlBytesConst
import Derived.Laws.CopyOwn
import Derived.Laws.Tables
import Derived.Test.YtobomdokdajbaaaDoorWPb
import Derived.Test.YtobomdokdajbaaaDoorRows
import Derived.ProofKit
import Derived.OpenShut
import Derived.ShutString
import Derived.SizedLaws
import Derived.SliceStrings
import Derived.Deep.Slices
import Derived.WalkKit
import Derived.Below

namespace Go.Proofs.YtobomdokdajbaaaDoor
open Go.RowKit
attribute [local go_sem ↓] Go.wp_at_zero Go.wp_at_succ

def ib (l : List Int) : List Value := l.map fun b => .int .u8 b
theorem ib_len (l : List Int) : (ib l).length = l.length := by simp [ib]
theorem ib_at (l : List Int) (i : Nat) : (ib l)[i]? = l[i]?.map fun b => .int .u8 b := by simp [ib]
theorem ib_one (l : List Int) : ∀ v ∈ ib l, v.oneCell' = true := by
  intro v hv
  obtain ⟨b, _, rfl⟩ := List.mem_map.1 hv
  rfl
theorem made_row {W : World} {base g n : Nat} (h : W.ownsRow base 5 1 (.slice (some ⟨g, 0, none⟩) n n) n (madeCells (Value.cells (.int .u8 0)) (n * 1)).toList) : W.heap[g]? = some (.cells (ib (List.replicate n 0)).toArray 5 (0, 0)) := by
  obtain ⟨_, ⟨h0, _⟩ | ⟨g', c, cur, e, _, hg, _, _, hs, ht⟩⟩ := h
  · simp at h0
  · simp only [Value.slice.injEq, Option.some.injEq, Addr.mk.injEq] at e
    obtain ⟨⟨rfl, _⟩, _, rfl⟩ := e
    rw [hg]
    have e1 : (madeCells (Value.cells (.int .u8 0)) (n * 1)).toList = ib (List.replicate n 0) := by
      rw [show Value.cells (.int .u8 0) = #[.int .u8 0] from rfl, toList_madeCells_one]
      simp [ib]
    rw [e1, List.take_of_length_le (by simp; omega)] at ht
    rw [← ht]
theorem src_of {W w : World} {a : Option Addr} {l : List Int} (h3 : 0 < l.length → ∃ g off, a = some ⟨g, off, none⟩ ∧ g < W.heap.size ∧ ∀ i b, l[i]? = some b → W.cell? ⟨g, off + i, none⟩ = some (.int .u8 b)) (hb : Below W.heap.size W w) (hp : 0 < (ib l).length) : ∃ ad, a = some ad ∧ ∀ j v, (ib l)[j]? = some v → w.cell? (ad.add j) = some v := by
  obtain ⟨g, off, rfl, hg, hc⟩ := h3 (by simpa [ib] using hp)
  refine ⟨_, rfl, fun j v hj => ?_⟩
  rw [ib_at] at hj
  obtain ⟨b, hb', rfl⟩ := Option.map_eq_some_iff.1 hj
  rw [Go.WideShapes.add_plain]
  exact (hb.cell (p := ⟨g, off + j, none⟩) hg).trans (hc j b hb')
theorem copy_run {P : Program} {w w0 : World} {dT sT ty elem : TypeId} (hu : P.underlying dT = some (.slice elem)) (hsz : (P.info? elem).map (·.size) = some 1) (dp sp : Option Addr) (dLen dCap sLen sCap : Nat)
    (g off : Nat) (cur : List Value) (t : TypeId) (hg : w.heap[g]? = some (.cells cur.toArray t (0, 0))) (cs : List Value) (hn : cs.length = Nat.min sLen dLen)
    (hpos : 0 < cs.length → dp = some ⟨g, off, none⟩ ∧ ∃ ad, sp = some ad ∧ ∀ j v, cs[j]? = some v → w.cell? (ad.add j) = some v)
    (hfit : off + cs.length ≤ cur.length) (h1 : ∀ v ∈ cs, v.oneCell' = true) (B : Nat) (hb : Below B w0 w) (hBg : B ≤ g) :
    ∃ w', (Builtin.copy_ #[dT, sT] ty #[.slice dp dLen dCap, .slice sp sLen sCap]).run P w = .ok (goInt cs.length) w' ∧ w'.heap[g]? = some (.cells (splice cur off cs).toArray t (0, 0)) ∧ Below B w0 w' ∧ w'.heap.size = w.heap.size := by
  by_cases h0 : cs.length = 0
  · obtain rfl : cs = [] := List.eq_nil_of_length_eq_zero h0
    exact ⟨w, run_copy_none (P := P) w dT sT ty elem dp sp dLen dCap sLen sCap hu hsz (by simpa using hn.symm), by simpa [splice] using hg, hb, rfl⟩
  · obtain ⟨rfl, ad, rfl, hsrc⟩ := hpos (by omega)
    exact ⟨_, run_copy_row (P := P) w dT sT ty elem g off dLen dCap ad sLen sCap cur.toArray t cs hu hsz hg hn hsrc (by simpa using hfit) h1, by simpa [splice] using setRow_heap w g _ _ t _ hg, below_setRow hb hBg _, by simp [World.setRow]⟩
set_option maxRecDepth 100000 in
set_option maxHeartbeats 4000000 in
theorem twin_any {W : World} {v : Value} {l : List Int} (h : HasB W v l) (hn : l.length ≤ 140737488351232) :
    Calls Tryd.prog 15 #[v] W fun e W' => e = .returned (.slice (some ⟨W.heap.size, 0, none⟩) l.length l.length) ∧ Bytes W.heap.size W' (.slice (some ⟨W.heap.size, 0, none⟩) l.length l.length) l ∧ Below W.heap.size W W' := by
  obtain ⟨i0, hi, hz0, hz1, hz2⟩ := info_parts Tryd.infoByte
  obtain ⟨a, c, rfl, hm, h3⟩ := h
  have H3 := hide h3
  clear h3 hm
  have hsz : (Tryd.prog.info? 5).map (·.size) = some 1 := by rw [hi]; simp [hz1]
  go_enter Tryd.func15, Tryd.ntmps15
  go_wp2_with (at_make; refine wpList_make_full _ rfl _ _ 24 rfl W.heap.size 5 i0 (.int .u8 0) 1 Tryd.underlying24 hi hz0 hz1 .i64 .i64 _ _ l.length rfl rfl (by first | rfl | simp) (by first | rfl | simp) (by rw [hz2]; omega) (by unfold maxLen; omega) (Nat.le_refl _) ?_; intro w5 hown5 hgrow5; have Hr := hide (made_row hown5); have Hb : Hid (Below W.heap.size W w5) := ⟨hgrow5.os, hgrow5.tape, hgrow5.output, hgrow5.size, fun b hb => hgrow5.block b hb (by simp)⟩; clear hown5 hgrow5)
  obtain ⟨w6, hrun, hr6, hb6, _⟩ := copy_run (P := Tryd.prog) (w := w5) (w0 := W) (dT := 24) (sT := 24) (ty := 3) Tryd.underlying24 hsz (some ⟨W.heap.size, 0, none⟩) a l.length l.length l.length c W.heap.size 0 (ib (List.replicate l.length 0)) 5 (unhide Hr) (ib l) (by rw [ib_len]; exact (Nat.min_self _).symm) (fun hp => ⟨rfl, src_of (unhide H3) (unhide Hb) hp⟩) (by simp [ib]) (ib_one l) W.heap.size (unhide Hb) (Nat.le_refl _)
  rw [hrun]
  have e6 : splice (ib (List.replicate l.length 0)) 0 (ib l) = ib l := by simp [splice, ib]
  rw [e6] at hr6
  have Hr6 := hide hr6
  have Hb6 := hide hb6
  clear hrun Hr Hb e6 H3 hr6 hb6
  go_wp2
  go_ret
  refine ⟨rfl, ⟨by simp, .inr ⟨_, _, _, rfl, Nat.le_refl _, unhide Hr6, Nat.le_refl _, by unfold maxLen; omega, by simp [ib], ?_⟩⟩, unhide Hb6⟩
  show (ib l).take (l.length * 1) = ib l
  rw [Nat.mul_one]
  exact List.take_of_length_le (by rw [ib_len]; exact Nat.le_refl _)
/-- A byte of bytes of one's own is written. -/
theorem bytes_set {base : Nat} {W : World} {g n c : Nat} {l : List Int} (h : Bytes base W (.slice (some ⟨g, 0, none⟩) n c) l) (i : Nat) (b : Int) : Bytes base (W.setCell ⟨g, i, none⟩ (.int .u8 b)) (.slice (some ⟨g, 0, none⟩) n c) (l.set i b) := by
  unfold Bytes at h ⊢
  obtain ⟨h1, ⟨q, _⟩ | ⟨g', cap, cur, e, h2, h3, h4, h5, h6, h7⟩⟩ := h
  · cases q
  · have eg : g' = g ∧ cap = c ∧ l.length = n := by
      injection e with e1 e2 e3
      injection e1 with e1
      injection e1 with e1
      exact ⟨e1.symm, e3.symm, e2.symm⟩
    obtain ⟨rfl, rfl, rfl⟩ := eg
    refine ⟨by simp, .inr ⟨g', cap, cur.setIfInBounds i (.int .u8 b), by simp, h2, heap_setCell_same W g' i cur _ _ h3, by simpa using h4, h5, by simpa using h6, ?_⟩⟩
    rw [Array.toList_setIfInBounds, List.take_set, List.length_set, h7, List.map_set]
theorem bytes_cell {base : Nat} {W : World} {g n c i : Nat} {l : List Int} {b : Int} (h : Bytes base W (.slice (some ⟨g, 0, none⟩) n c) l) (hb : l[i]? = some b) : W.cell? ⟨g, i, none⟩ = some (.int .u8 b) ∧ W.frozen? ⟨g, i, none⟩ = false ∧ base ≤ g ∧ g < W.heap.size := by
  unfold Bytes at h
  obtain ⟨h1, ⟨q, _⟩ | ⟨g', cap, cur, e, h2, h3, h4, h5, h6, h7⟩⟩ := h
  · cases q
  · have eg : g' = g := by
      injection e with e1 e2 e3
      injection e1 with e1
      injection e1 with e1
      exact e1.symm
    subst eg
    refine ⟨?_, ?_, h2, (Array.getElem?_eq_some_iff.1 h3).1⟩
    · rw [cell_of_row _ _ _ _ _ _ h3, ← Array.getElem?_toList]
      have hj : (l.map fun b => Value.int .u8 b)[i]? = some (.int .u8 b) := by rw [List.getElem?_map, hb]; rfl
      rw [← h7, List.getElem?_take] at hj
      split at hj
      · exact hj
      · cases hj
    · unfold World.frozen?
      rw [h3]
      simp
end Go.Proofs.YtobomdokdajbaaaDoor

namespace Go.Proofs.YtobomdokdajbaaaDoor
open Go.RowKit
attribute [local go_sem ↓] Go.wp_at_zero Go.wp_at_succ

/-- Bytes with three places of room behind them, the first j of them marked. -/
def HdAt (W : World) (g : Nat) (l : List Int) (j : Nat) : Prop := ∃ cur : Array Value, W.heap[g]? = some (.cells cur 5 (0, 0)) ∧ cur.size = l.length + 3 ∧ (∀ (i : Nat) (x : Int), l[i]? = some x → cur[i]? = some (Value.int .u8 x)) ∧ (∀ i : Nat, l.length ≤ i → i < l.length + j → cur[i]? = some (Value.int .u8 171))
theorem HdAt.set {W : World} {g : Nat} {l : List Int} {j : Nat} (h : HdAt W g l j) (hj3 : j < 3) : HdAt (W.setCell ⟨g, l.length + j, none⟩ (.int .u8 171)) g l (j + 1) := by
  obtain ⟨cur, h1, h2, h3, h4⟩ := h
  refine ⟨_, heap_setCell_same W g (l.length + j) cur _ _ h1, by simpa using h2, fun i x hx => ?_, fun i hi hj => ?_⟩
  · have hl := (List.getElem?_eq_some_iff.1 hx).1
    rw [Array.getElem?_setIfInBounds_ne (by omega)]
    exact h3 i x hx
  · by_cases e : i = l.length + j
    · subst e
      rw [Array.getElem?_setIfInBounds_self_of_lt (by omega)]
    · rw [Array.getElem?_setIfInBounds_ne (by omega)]
      exact h4 i hi (by omega)
theorem HdAt.cell {W : World} {g : Nat} {l : List Int} {j i : Nat} (h : HdAt W g l j) (hi : i < l.length + 3) : ∃ x, W.cell? ⟨g, i, none⟩ = some x ∧ W.frozen? ⟨g, i, none⟩ = false := by
  obtain ⟨cur, h1, h2, _⟩ := h
  exact ⟨cur[i]'(by omega), by rw [cell_of_row W g i cur _ _ h1, Array.getElem?_eq_getElem (by omega)], frozen_of_row W g i _ _ h1⟩
theorem HdAt.has {W : World} {g : Nat} {l : List Int} {j : Nat} (h : HdAt W g l j) (hn : l.length ≤ 140737488351232) : HasB W (.slice (some ⟨g, 0, none⟩) l.length (l.length + 3)) l := by
  obtain ⟨cur, h1, h2, h3, _⟩ := h
  exact ⟨_, _, rfl, by unfold maxLen; omega, fun _ => ⟨g, 0, rfl, (Array.getElem?_eq_some_iff.1 h1).1, fun i b hb => by rw [Nat.zero_add, cell_of_row W g i cur _ _ h1]; exact h3 i b hb⟩⟩
theorem HdAt.mark {W : World} {g : Nat} {l : List Int} {i : Nat} (h : HdAt W g l 3) (h1 : l.length ≤ i) (h2 : i < l.length + 3) : W.cell? ⟨g, i, none⟩ = some (.int .u8 171) := by
  obtain ⟨cur, e1, _, _, e4⟩ := h
  rw [cell_of_row W g i cur _ _ e1]
  exact e4 i h1 h2
theorem HdAt.block {W w : World} {g : Nat} {l : List Int} {j : Nat} (h : HdAt W g l j) (e : w.heap[g]? = W.heap[g]?) : HdAt w g l j := by
  obtain ⟨cur, h1, h2⟩ := h
  exact ⟨cur, e.trans h1, h2⟩
set_option maxRecDepth 100000 in
set_option maxHeartbeats 4000000 in
theorem hand_any {W : World} {v : Value} {l : List Int} (h : HasB W v l) (hn : l.length ≤ 140737488351232) :
    Calls Tryd.prog 22 #[v] W fun e W' => e = .returned (.slice (some ⟨W.heap.size, 0, none⟩) l.length (l.length + 3)) ∧ HdAt W' W.heap.size l 3 ∧ Below W.heap.size W W' := by
  obtain ⟨i0, hi, hz0, hz1, hz2⟩ := info_parts Tryd.infoByte
  obtain ⟨a, c, rfl, hm, h3⟩ := h
  have H3 := hide h3
  clear h3 hm
  have hsz : (Tryd.prog.info? 5).map (·.size) = some 1 := by rw [hi]; simp [hz1]
  obtain ⟨N, hN⟩ : ∃ N, l.length + 3 = N := ⟨_, rfl⟩
  have eN : (l.length : Int) + 3 = (N : Int) := by omega
  have eN2 : wrap64 (N : Int) = (N : Int) := wrap64_id (by omega) (by omega)
  have hlN : l.length ≤ N := by omega
  have hlN2 : (l.length : Int) ≤ (N : Int) := by omega
  rw [hN]
  have HN := hide hN
  clear hN
  go_enter Tryd.func22, Tryd.ntmps22
  go_wp2_with (at_make; refine wpList_make_full _ rfl _ _ 24 rfl W.heap.size 5 i0 (.int .u8 0) 1 Tryd.underlying24 hi hz0 hz1 .i64 .i64 _ _ N rfl rfl (by first | rfl | simp) (by first | rfl | simp) (by rw [hz2]; have := unhide HN; omega) (by have := unhide HN; unfold maxLen; omega) (Nat.le_refl _) ?_; intro w5 hown5 hgrow5; have Hr := hide (made_row hown5); have Hb : Hid (Below W.heap.size W w5) := ⟨hgrow5.os, hgrow5.tape, hgrow5.output, hgrow5.size, fun b hb => hgrow5.block b hb (by simp)⟩; clear hown5 hgrow5)
  obtain ⟨w6, hrun, hr6, hb6, _⟩ := copy_run (P := Tryd.prog) (w := w5) (w0 := W) (dT := 24) (sT := 24) (ty := 3) Tryd.underlying24 hsz (some ⟨W.heap.size, 0, none⟩) a N N l.length c W.heap.size 0 (ib (List.replicate N 0)) 5 (unhide Hr) (ib l) (by rw [ib_len]; exact (Nat.min_eq_left hlN).symm) (fun hp => ⟨rfl, src_of (unhide H3) (unhide Hb) hp⟩) (by simp [ib]; exact hlN) (ib_one l) W.heap.size (unhide Hb) (Nat.le_refl _)
  rw [hrun]
  have H6 : Hid (HdAt w6 W.heap.size l 0) := by
    refine ⟨_, hr6, ?_, fun i x hx => ?_, fun i h1 h2 => by omega⟩
    · have := unhide HN
      simp [splice, ib]
      omega
    · have hl := (List.getElem?_eq_some_iff.1 hx).1
      simp only [splice, List.take_zero, List.nil_append, Nat.zero_add, List.getElem?_toArray]
      rw [List.getElem?_append_left (by rw [ib_len]; exact hl), ib_at, hx]
      rfl
  have HB6 := hide hb6
  clear hrun Hr Hb H3 hr6 hb6
  go_wp2
  go_loopg [4] 3 (fun gk v4 wr => ∃ j : Nat, v4 = .int .i64 ((l.length + j : Nat) : Int) ∧ gk = 3 - j ∧ j ≤ 3 ∧ Hid (HdAt wr W.heap.size l j) ∧ Hid (Below W.heap.size W wr))
  case atStart => exact ⟨0, rfl, rfl, by omega, H6, HB6⟩
  case round =>
    obtain ⟨j, rfl, hgk, hj, HH, HB⟩ := hrel
    clear H6 HB6
    have Hgk := hide hgk
    clear hgk
    have hN := unhide HN
    by_cases hlt : j < 3
    · obtain ⟨x, hx, hf⟩ := (unhide HH).cell (i := l.length + j) (by omega)
      obtain ⟨q, hq⟩ : ∃ q, l.length + j = q := ⟨_, rfl⟩
      have HH2 : Hid (HdAt (wr.setCell ⟨W.heap.size, q, none⟩ (.int .u8 171)) W.heap.size l (j + 1)) := by have e := (unhide HH).set hlt; rw [hq] at e; exact e
      have HB2 : Hid (Below W.heap.size W (wr.setCell ⟨W.heap.size, q, none⟩ (.int .u8 171))) := (unhide HB).setCell (p := ⟨W.heap.size, q, none⟩) (Nat.le_refl _) _
      have Hq := hide hq
      have q1 : (0 : Int) ≤ (q : Int) := by omega
      have q2 : (q : Int) < (N : Int) := by omega
      have q3 : q < N := by omega
      rw [hq] at hx hf ⊢
      clear hq hN HH HB
      go_wp2
      go_roundg (3 - (j + 1))
      case measure => have := unhide Hgk; omega
      case rel => exact ⟨j + 1, by have := unhide Hq; go_num, rfl, by omega, HH2, HB2⟩
    · obtain rfl : j = 3 := by omega
      rw [hN]
      clear hN
      go_wp2
      go_ret
      exact ⟨rfl, unhide HH, unhide HB⟩
end Go.Proofs.YtobomdokdajbaaaDoor

namespace Go.Proofs.YtobomdokdajbaaaDoor
open Go.RowKit
attribute [local go_sem ↓] Go.wp_at_zero Go.wp_at_succ

theorem upd_cell {W w : World} {g i : Nat} {cur : Array Value} {t : TypeId} (h : Upd W g (.cells cur t (0, 0)) w) (x : Value) : Upd W g (.cells (cur.setIfInBounds i x) t (0, 0)) (w.setCell ⟨g, i, none⟩ x) :=
  ⟨h.os, h.tape, h.output, by rw [World.size_setCell]; exact h.size, heap_setCell_same w g i cur t x h.at', fun q hq hn => (heap_setCell_other w ⟨g, i, none⟩ q x hn).trans (h.far q hq hn)⟩
set_option maxRecDepth 100000 in
set_option maxHeartbeats 4000000 in
theorem back_any {W : World} {g : Nat} {v : Value} {l : List Int} (h : HdAt W g l 3) (hv : HasB W v l) (hn : l.length ≤ 140737488351232) :
    Calls Tryd.prog 24 #[.slice (some ⟨g, 0, none⟩) l.length (l.length + 3), v] W fun e W' => e = .returned (.bool true) ∧ ∃ cur, Upd W g (.cells cur 5 (0, 0)) W' := by
  have Hsame := hide (same_any (h.has hn) hv)
  obtain ⟨a, c, rfl, hm, h3⟩ := hv
  have HM0 : Hid (∀ w1 : World, Below W.heap.size W w1 → (∀ i, l.length ≤ i → i < l.length + 3 → w1.cell? ⟨g, i, none⟩ = some (.int .u8 171)) ∧ ∃ cur : Array Value, cur.size = l.length + 3 ∧ Upd W g (.cells cur 5 (0, 0)) w1) := by
    intro w1 hb
    obtain ⟨cur, h1, h2, _⟩ := id h
    have hg := (Array.getElem?_eq_some_iff.1 h1).1
    exact ⟨fun i q1 q2 => (h.block (hb.block g hg)).mark q1 q2, cur, h2, hb.os, hb.tape, hb.output, hb.size, (hb.block g hg).trans h1, fun q hq _ => hb.block q hq⟩
  obtain ⟨N, hN⟩ : ∃ N, l.length + 3 = N := ⟨_, rfl⟩
  have eN : (l.length : Int) + 3 = (N : Int) := by omega
  have eN2 : wrap64 (N : Int) = (N : Int) := wrap64_id (by omega) (by omega)
  have hlN0 : (0 : Int) ≤ (N : Int) := by omega
  have hlN : l.length ≤ N := by omega
  have hlN2 : (l.length : Int) ≤ (N : Int) := by omega
  rw [hN] at HM0 Hsame ⊢
  have HN := hide hN
  clear hN h hm h3
  go_enter Tryd.func24, Tryd.ntmps24
  go_wp2_with fail
  refine (unhide Hsame).mono ?_
  rintro e w1 ⟨rfl, hw⟩
  obtain ⟨hM, hU0⟩ := unhide HM0 w1 hw
  have HM := hide hM
  have HU0 := hide hU0
  clear hw Hsame hM hU0 HM0
  go_wp2
  go_loopg [5, 7] 3 (fun gk v5 v7 wr => ∃ j : Nat, v5 = .bool true ∧ v7 = .int .i64 ((l.length + j : Nat) : Int) ∧ gk = 3 - j ∧ j ≤ 3 ∧ w1 = wr)
  case atStart => exact ⟨0, rfl, rfl, rfl, by omega, rfl⟩
  case round =>
    obtain ⟨j, rfl, rfl, hgk, hj, rfl⟩ := hrel
    have Hgk := hide hgk
    clear hgk
    have hN := unhide HN
    by_cases hlt : j < 3
    · have hx := unhide HM (l.length + j) (by omega) (by omega)
      obtain ⟨q, hq⟩ : ∃ q, l.length + j = q := ⟨_, rfl⟩
      have Hq := hide hq
      have q1 : (0 : Int) ≤ (q : Int) := by omega
      have q2 : (q : Int) < (N : Int) := by omega
      have q3 : q < N := by omega
      rw [hq] at hx ⊢
      clear hq hN
      go_wp2
      go_roundg (3 - (j + 1))
      case measure => have := unhide Hgk; omega
      case rel => exact ⟨j + 1, rfl, by have := unhide Hq; go_num, rfl, by omega, rfl⟩
    · obtain rfl : j = 3 := by omega
      rw [hN]
      clear hN
      go_wp2
      go_loopg [8] N (fun gk v8 w8 => ∃ j : Nat, v8 = .int .i64 (j : Int) ∧ gk = N - j ∧ j ≤ N ∧ Hid (∃ cur : Array Value, cur.size = N ∧ Upd W g (.cells cur 5 (0, 0)) w8))
      case atStart => exact ⟨0, rfl, rfl, by omega, HU0⟩
      case round =>
        obtain ⟨i, rfl, hgk2, hi, HU⟩ := hrel
        have Hgk2 := hide hgk2
        clear hgk2 HU0
        by_cases hlt2 : i < N
        · obtain ⟨cur, hc1, hc2⟩ := unhide HU
          have hx := cell_of_row _ g i cur _ _ hc2.at'
          rw [Array.getElem?_eq_getElem (by omega)] at hx
          have hf := frozen_of_row _ g i _ _ hc2.at'
          have HU2 : Hid (∃ cur' : Array Value, cur'.size = N ∧ Upd W g (.cells cur' 5 (0, 0)) (World.setCell _ ⟨g, i, none⟩ (.int .u8 213))) := ⟨cur.setIfInBounds i (.int .u8 213), by simpa using hc1, upd_cell hc2 _⟩
          have q1 : (0 : Int) ≤ (i : Int) := by omega
          have q2 : (i : Int) < (N : Int) := by omega
          generalize cur[i] = xx at hx
          clear hc1 hc2
          go_wp2
          go_roundg (N - (i + 1))
          case measure => have := unhide Hgk2; omega
          case rel => exact ⟨i + 1, by go_num, rfl, by omega, HU2⟩
        · obtain rfl : i = N := by omega
          go_wp2
          go_ret
          obtain ⟨cur, _, hc2⟩ := unhide HU
          exact ⟨rfl, cur, hc2⟩
set_option maxRecDepth 100000 in
set_option maxHeartbeats 2000000 in
theorem read_at {W : World} {l : List Nat} {g off c : Nat} {st : Bool} (hc : ∀ (i : Nat) (b : Int), (byB l)[i]? = some b → W.cell? ⟨g, off + i, none⟩ = some (.int .u8 b)) (hl : ∀ x ∈ l, x < 256) (hn : l.length ≤ 1048576) :
    Calls Tryd.prog 23 #[.slice (some ⟨g, off, none⟩) l.length c, .bool st] W fun e W' => e = .returned (.tuple #[.pointer (some ⟨W.heap.size, 0, none⟩), .int .i64 0]) ∧ RdAt W' W.heap.size (sOf l) 0 st ∧ Below W.heap.size W W' ∧ W'.heap.size = W.heap.size + 1 := by
  have hcv0 := run_convert_bytes_back (P := Tryd.prog) W 24 9 5 ⟨g, off, none⟩ c (l.map Nat.toUInt8) Tryd.underlying24 Tryd.underlying5 Tryd.underlying9 (fun j hj => by
      rw [Go.WideShapes.add_plain]
      have hj' : j < l.length := by simpa using hj
      have hx := hc j (l[j] : Int) (by unfold byB; rw [List.getElem?_map, List.getElem?_eq_getElem hj']; rfl)
      rw [hx]
      have := hl l[j] (List.getElem_mem hj')
      simp [Nat.toUInt8]
      omega)
  have hcv : (convert 24 9 (.slice (some ⟨g, off, none⟩) l.length c)).run Tryd.prog W = .ok (.string (sOf l)) W := by
    rw [List.length_map] at hcv0
    exact hcv0
  have hlen : decide ((1048576 : Int) < (l.length : Int)) = false := by simp; omega
  have hnw := heap_alloc_new W (.cells #[.string (sOf l), .int .i64 0, .bool st] 78)
  have hB : Below W.heap.size W (W.alloc (.cells #[.string (sOf l), .int .i64 0, .bool st] 78)) := (Below.refl _ _).alloc (Nat.le_refl _) _
  have Hnw := hide hnw
  have HB := hide hB
  clear hnw hB hcv0 hc hl
  generalize sOf l = S at *
  go_enter Tryd.func23, Tryd.ntmps23
  go_wp2
  go_ret2
  exact ⟨rfl, unhide Hnw, unhide HB, World.size_alloc _ _⟩
set_option maxRecDepth 100000 in
theorem read_long {W : World} {a : Option Addr} {n c : Nat} {st : Bool} (hn : 1048576 < n) :
    Calls Tryd.prog 23 #[.slice a n c, .bool st] W fun e W' => e = .returned (.tuple #[.pointer none, .int .i64 2]) ∧ W' = W := by
  have hlen : decide ((1048576 : Int) < (n : Int)) = true := by simp; omega
  clear hn
  go_enter Tryd.func23, Tryd.ntmps23
  go_wp2
  go_ret2
  exact ⟨rfl, rfl⟩
set_option maxRecDepth 100000 in
theorem open_any {W : World} {a : Option Addr} {n c : Nat} {st : Bool} :
    Calls Tryd.prog 25 #[.slice a n c, .bool st] W fun e W' => e = .returned (.pointer (some ⟨W.heap.size, 0, none⟩)) ∧ W'.heap[W.heap.size]? = some (.cells #[.slice a n c, .int .i64 0, .int .i64 (n : Int), .bool st] 88 (0, 0)) ∧ Below W.heap.size W W' ∧ W'.heap.size = W.heap.size + 1 := by
  have hnw := heap_alloc_new W (.cells #[.slice a n c, .int .i64 0, .int .i64 (n : Int), .bool st] 88)
  have hB : Below W.heap.size W (W.alloc (.cells #[.slice a n c, .int .i64 0, .int .i64 (n : Int), .bool st] 88)) := (Below.refl _ _).alloc (Nat.le_refl _) _
  have Hnw := hide hnw
  have HB := hide hB
  clear hnw hB
  go_enter Tryd.func25, Tryd.ntmps25
  go_wp2
  go_ret
  exact ⟨rfl, unhide Hnw, unhide HB, World.size_alloc _ _⟩
end Go.Proofs.YtobomdokdajbaaaDoor

namespace Go.Proofs.YtobomdokdajbaaaDoor
open Go.ChangeShapes Go.WideShapes Go.ChangeAt Go.RowKit

/-- Numbers that can be read. -/
def HasI (W : World) (v : Value) (l : List Int) : Prop := ∃ a c, v = .slice a l.length c ∧ (l.length ≤ c ∧ c ≤ maxLen ∧ (a = none → c = 0)) ∧ (0 < l.length → ∃ g off, a = some ⟨g, off, none⟩ ∧ g < W.heap.size ∧ ∀ i s, l[i]? = some s → W.cell? ⟨g, off + i, none⟩ = some (.int .i64 s))
theorem hasI_nil (W : World) : HasI W (.slice none 0 0) [] := ⟨none, 0, rfl, ⟨Nat.le_refl _, Nat.zero_le _, fun _ => rfl⟩, fun h => by simp at h⟩
theorem HasI.up {W w : World} {v : Value} {l : List Int} (h : HasI W v l) (hb : Below W.heap.size W w) : HasI w v l := by
  obtain ⟨a, c, rfl, hm, h3⟩ := h
  refine ⟨a, c, rfl, hm, fun hp => ?_⟩
  obtain ⟨g, off, rfl, h4, h5⟩ := h3 hp
  exact ⟨g, off, rfl, Nat.lt_of_lt_of_le h4 hb.size, fun i k hk => (hb.cell (p := ⟨g, off + i, none⟩) h4).trans (h5 i k hk)⟩


theorem cellsOfInt : Tryd.prog.cellsOf 3 = 1 := by kernel_rfl
theorem bytesOfInt : 1 ≤ Tryd.prog.bytesOf 3 := of_decide_eq_true (by kernel_rfl)
/-- An []int that came in. -/
theorem open_hasI {H : Type} {enc : TypeId × Value → H} {W : World} {base fuel len cap : Nat} {spare : Nat → Bool} {held : Bool} {a : Option Addr} {x : DataW H × List MemPlace}
    (hf : DataW.trod enc Tryd.prog W base spare held fuel 22 (Value.slice a len cap).cells.toList = some x) :
    ∃ l, HasI W (.slice a len cap) l ∧ (∀ z ∈ l, -9223372036854775808 ≤ z ∧ z ≤ 9223372036854775807) ∧ (l.length = 0 ∨ ∃ e s, x.1 = .slice e s ∧ l.length = e.length) := by
  rcases open_ints Tryd.underlying22 Tryd.underlying3 cellsOfInt hf with ⟨hcs, rfl⟩ | ⟨y, n, c, zs, hcs, _, hl, hm, hz, rfl, hcell, hwf⟩
  · simp [Value.cells] at hcs
    obtain ⟨rfl, rfl, rfl⟩ := hcs
    exact ⟨[], hasI_nil _, fun z hz => by simp at hz, .inl rfl⟩
  · simp [Value.cells] at hcs
    obtain ⟨rfl, rfl, rfl⟩ := hcs
    have hlz : len ≤ zs.length := by rw [hz]; split <;> omega
    have hlen : (zs.take len).length = len := by rw [List.length_take]; omega
    refine ⟨zs.take len, ⟨some y, cap, by rw [hlen], ⟨by omega, by omega, nofun⟩, fun hp => ?_⟩, fun z hz' => ?_, .inr ⟨_, _, rfl, by simp [lits]⟩⟩
    · obtain ⟨b, off, rfl, hc⟩ := ints_at hcell (by omega)
      refine ⟨b, off, rfl, World.block_lt_of_cell? W _ (hc 0 (by omega)), fun i k hk => ?_⟩
      rw [List.getElem?_take] at hk
      split at hk
      · have h1 := hc i (by omega)
        rw [List.getD_eq_getElem?_getD, hk] at h1
        exact h1
      · cases hk
    · have := bounds_i64 (hwf z (List.mem_of_mem_take hz')); omega
theorem sized_hasI {H : Type} {ts : List TypeId} {ds : List (DataW H)} (h : (DataW.weightsEach Tryd.prog ts ds).all (· ≤ reachBytes) = true) {j : Nat} {d : DataW H} {n : Nat} (ht : ts[j]? = some 22) (hd : ds[j]? = some d)
    (hl : n = 0 ∨ ∃ e s, d = .slice e s ∧ n = e.length) : n ≤ 140737488351232 := by
  rcases hl with h0 | ⟨e, s, rfl, hl⟩
  · omega
  · have h1 := sized_slice h ht hd Tryd.underlying22
    have h2 := Nat.mul_le_mul_left (e.length + s.length) bytesOfInt
    rw [reachBytes] at h1
    omega
end Go.Proofs.YtobomdokdajbaaaDoor

namespace Go.Proofs.YtobomdokdajbaaaDoor
open Go.ChangeShapes Go.WideShapes Go.ChangeAt Go.RowKit

theorem bytesOfByteW : Tryd.prog.bytesOf 5 = 1 := by kernel_rfl
theorem cellsOfByteW : Tryd.prog.cellsOf 5 = 1 := by kernel_rfl
/-- Bytes that came in. -/
def HasBN (W : World) (v : Value) (l : List Nat) : Prop := ∃ a c, v = .slice a l.length c ∧ (l.length ≤ c ∧ c ≤ maxLen ∧ (a = none → c = 0)) ∧ (0 < l.length → ∃ g off, a = some ⟨g, off, none⟩ ∧ g < W.heap.size ∧ ∀ (i k : Nat), l[i]? = some k → W.cell? ⟨g, off + i, none⟩ = some (.int .u8 (k : Int)))
theorem hasBN_nil (W : World) : HasBN W (.slice none 0 0) [] := ⟨none, 0, rfl, ⟨Nat.le_refl _, Nat.zero_le _, fun _ => rfl⟩, fun h => by simp at h⟩
theorem HasBN.has {W : World} {v : Value} {l : List Nat} (h : HasBN W v l) : HasB W v (byB l) := by
  obtain ⟨a, c, rfl, hm, h3⟩ := h
  have hbl : (byB l).length = l.length := by simp [byB]
  refine ⟨a, c, by rw [hbl], by rw [hbl]; omega, fun hp => ?_⟩
  obtain ⟨g, off, rfl, hg, hc⟩ := h3 (by rw [hbl] at hp; exact hp)
  refine ⟨g, off, rfl, hg, fun i b hb => ?_⟩
  unfold byB at hb
  rw [List.getElem?_map] at hb
  obtain ⟨x, hx, rfl⟩ := Option.map_eq_some_iff.1 hb
  exact hc i x hx
theorem HasBN.bs {W : World} {v : Value} {l : List Nat} (h : HasBN W v l) (hl : ∀ x ∈ l, x < 256) : Bs W v (sOf l) := by
  refine bs_of h.has hl fun a n c e => ?_
  obtain ⟨a', c', e', hm, _⟩ := h
  rw [e'] at e
  injection e with _ e2 e3
  omega
theorem open_hasBN {H : Type} {enc : TypeId × Value → H} {W : World} {base fuel len cap : Nat} {spare : Nat → Bool} {held : Bool} {a : Option Addr} {x : DataW H × List MemPlace}
    (hf : DataW.trod enc Tryd.prog W base spare held fuel 24 (Value.slice a len cap).cells.toList = some x) :
    ∃ l, HasBN W (.slice a len cap) l ∧ (∀ x ∈ l, x < 256) ∧ (l.length = 0 ∨ ∃ e s, x.1 = .slice e s ∧ l.length = e.length) := by
  rcases open_ints Tryd.underlying24 Tryd.underlying5 cellsOfByteW hf with ⟨hcs, rfl⟩ | ⟨y, n, c, zs, hcs, _, hl, hm, hz, rfl, hcell, hwf⟩
  · simp [Value.cells] at hcs
    obtain ⟨rfl, rfl, rfl⟩ := hcs
    exact ⟨[], hasBN_nil _, fun x hx => by simp at hx, .inl rfl⟩
  · simp [Value.cells] at hcs
    obtain ⟨rfl, rfl, rfl⟩ := hcs
    have hlz : len ≤ zs.length := by rw [hz]; split <;> omega
    have hlen : ((zs.take len).map Int.toNat).length = len := by rw [List.length_map, List.length_take]; omega
    have hel : (lits (H := H) .u8 (zs.take len)).length = len := by simp [lits]; omega
    refine ⟨(zs.take len).map Int.toNat, ⟨some y, cap, by rw [hlen], ⟨by omega, by omega, nofun⟩, fun hp => ?_⟩, fun x hx => ?_, .inr ⟨_, _, rfl, by rw [hlen, hel]⟩⟩
    · obtain ⟨b, off, rfl, hc⟩ := ints_at hcell (by omega)
      refine ⟨b, off, rfl, World.block_lt_of_cell? W _ (hc 0 (by omega)), fun i k hk => ?_⟩
      rw [List.getElem?_map, List.getElem?_take] at hk
      split at hk
      · rename_i hi
        obtain ⟨z, hz', rfl⟩ := Option.map_eq_some_iff.1 hk
        have h1 := hc i (by omega)
        rw [List.getD_eq_getElem?_getD, hz'] at h1
        have h2 := bounds_u8 (hwf z (List.mem_of_getElem? hz'))
        rw [h1]
        simp
        omega
      · cases hk
    · obtain ⟨z, hz', rfl⟩ := List.mem_map.1 hx
      have h2 := bounds_u8 (hwf z (List.mem_of_mem_take hz'))
      omega
theorem sized_hasBN {H : Type} {ts : List TypeId} {ds : List (DataW H)} (h : (DataW.weightsEach Tryd.prog ts ds).all (· ≤ reachBytes) = true) {j : Nat} {d : DataW H} {l : List Nat} (ht : ts[j]? = some 24) (hd : ds[j]? = some d)
    (hl : l.length = 0 ∨ ∃ e s, d = .slice e s ∧ l.length = e.length) : l.length ≤ 140737488351232 := by
  rcases hl with h0 | ⟨e, s, rfl, hl⟩
  · omega
  · have := sized_slice h ht hd Tryd.underlying24
    rw [bytesOfByteW, reachBytes] at this
    omega
/-- One operation of the script. -/
structure OpR where
  kind : Int
  a : Int
  b : Int
  c : Int
instance : Inhabited OpR := ⟨⟨0, 0, 0, 0⟩⟩
theorem cellsOpR : Tryd.prog.cellsOf 59 = 4 := by kernel_rfl
theorem cellsIntW : Tryd.prog.cellsOf 3 = 1 := by kernel_rfl
/-- Operations that can be read. -/
def HasOp (W : World) (v : Value) (ts : List OpR) : Prop := ∃ a c, v = .slice a ts.length c ∧ (ts.length ≤ c ∧ c ≤ maxLen) ∧ (0 < ts.length → ∃ b off, a = some ⟨b, off, none⟩ ∧ b < W.heap.size ∧
  ∀ (i : Nat) (o : OpR), ts[i]? = some o → W.cell? ⟨b, off + i * 4, none⟩ = some (.int .i64 o.kind) ∧ W.cell? ⟨b, off + i * 4 + 1, none⟩ = some (.int .i64 o.a) ∧ W.cell? ⟨b, off + i * 4 + 2, none⟩ = some (.int .i64 o.b) ∧ W.cell? ⟨b, off + i * 4 + 3, none⟩ = some (.int .i64 o.c))
set_option maxRecDepth 100000 in
theorem open_op {H : Type} {enc : TypeId × Value → H} {w : World} {base : Nat} {spare : Nat → Bool} {held : Bool} {n : Nat} {a : Addr} {cs : List Value} {x : DataW H × List MemPlace}
    (h1 : w.cells? base a 4 = some cs) (h2 : DataW.trod enc Tryd.prog w base spare held n 59 cs = some x) :
    ∃ o : OpR, w.cell? (a.add 0) = some (.int .i64 o.kind) ∧ w.cell? (a.add 1) = some (.int .i64 o.a) ∧ w.cell? (a.add 2) = some (.int .i64 o.b) ∧ w.cell? (a.add 3) = some (.int .i64 o.c) := by
  obtain ⟨_, hlen, hcell⟩ := World.cells?_some h1
  obtain ⟨xs, k, _, _, _, hxl, hf⟩ := DataW.trod_struct Tryd.underlying59 h2
  match xs, hxl, cs, hlen with
  | [y0, y1, y2, y3], _, [v0, v1, v2, v3], _ =>
    have g0 := hf 0 _ rfl
    have g1 := hf 1 _ rfl
    have g2 := hf 2 _ rfl
    have g3 := hf 3 _ rfl
    simp [cellsIntW] at g0 g1 g2 g3
    obtain ⟨n0, e0, _, f0⟩ := DataW.trod_int Tryd.underlying3 g0
    obtain ⟨n1, e1, _, f1⟩ := DataW.trod_int Tryd.underlying3 g1
    obtain ⟨n2, e2, _, f2⟩ := DataW.trod_int Tryd.underlying3 g2
    obtain ⟨n3, e3, _, f3⟩ := DataW.trod_int Tryd.underlying3 g3
    simp at e0 e1 e2 e3
    subst e0 e1 e2 e3
    exact ⟨⟨n0, n1, n2, n3⟩, hcell 0 (by omega), hcell 1 (by omega), hcell 2 (by omega), hcell 3 (by omega)⟩
theorem lt_of_cellW {w : World} {b i : Nat} {v : Value} (h : w.cell? ⟨b, i, none⟩ = some v) : b < w.heap.size := World.block_lt_of_cell? w _ h
/-- Operations that came in. -/
theorem open_hasOp {H : Type} {enc : TypeId × Value → H} {w : World} {base fuel len cap : Nat} {spare : Nat → Bool} {held : Bool} {a : Option Addr} {x : DataW H × List MemPlace}
    (h : DataW.trod enc Tryd.prog w base spare held fuel 48 (Value.slice a len cap).cells.toList = some x) : ∃ ts, HasOp w (.slice a len cap) ts := by
  rcases Go.Deep.open_slice Tryd.underlying48 h with ⟨hcs, rfl⟩ | ⟨y, n, c, m, n', D, Pl, hcs, _, hl, hm, hmm, rfl, hx⟩
  · simp [Value.cells] at hcs
    obtain ⟨rfl, rfl, rfl⟩ := hcs
    exact ⟨[], ⟨none, 0, rfl, ⟨Nat.le_refl _, Nat.zero_le _⟩, fun hp => by simp at hp⟩⟩
  · simp [Value.cells] at hcs
    obtain ⟨rfl, rfl, rfl⟩ := hcs
    have hlm : len ≤ m := by rw [hmm]; split <;> omega
    have each : ∀ i, i < m → ∃ o : OpR, w.cell? ((y.add (i * 4)).add 0) = some (.int .i64 o.kind) ∧ w.cell? ((y.add (i * 4)).add 1) = some (.int .i64 o.a) ∧ w.cell? ((y.add (i * 4)).add 2) = some (.int .i64 o.b) ∧ w.cell? ((y.add (i * 4)).add 3) = some (.int .i64 o.c) := by
      intro i hi
      obtain ⟨cs', h1, h2⟩ := hx i hi
      rw [cellsOpR] at h1
      exact open_op h1 h2
    obtain ⟨q, hq⟩ := Go.Deep.choose_lt each
    have hat : ∀ i o, ((List.range len).map q)[i]? = some o → i < len ∧ o = q i := by
      intro i o ho
      rw [List.getElem?_map, Option.map_eq_some_iff] at ho
      obtain ⟨j, hj, rfl⟩ := ho
      rw [List.getElem?_eq_some_iff] at hj
      obtain ⟨hj, e⟩ := hj
      simp at hj e
      exact ⟨hj, by rw [e]⟩
    refine ⟨(List.range len).map q, some y, cap, by simp, ⟨by simpa using hl, hm⟩, fun hp => ?_⟩
    have hp : 0 < len := by simpa using hp
    have h0 := (hq 0 (by omega)).1
    obtain ⟨b, off, spot⟩ := y
    have hspot : spot = none := by simpa [Addr.add] using World.cell?_spot h0
    subst hspot
    refine ⟨b, off, rfl, ?_, fun i o ho => ?_⟩
    · rw [Go.Deep.add_add, Go.WideShapes.add_plain] at h0
      exact lt_of_cellW h0
    · obtain ⟨hi, rfl⟩ := hat i o ho
      have := hq i (by omega)
      simp only [Go.WideShapes.add_plain] at this
      simpa [Nat.add_assoc] using this
end Go.Proofs.YtobomdokdajbaaaDoor
