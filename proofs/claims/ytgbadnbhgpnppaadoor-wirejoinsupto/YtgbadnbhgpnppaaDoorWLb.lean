import Derived.Test.YtgbadnbhgpnppaaDoorWBJ
import Derived.Lib.SlBytesConst
import Derived.Laws.CopyOwn
import Derived.Laws.Tables
namespace Go.Proofs.YtgbadnbhgpnppaaDoor
open Go.RowKit
attribute [local go_sem ↓] Go.wp_at_zero Go.wp_at_succ

def ib (l : List Int) : List Value := l.map fun b => .int .u8 b
theorem ib_len (l : List Int) : (ib l).length = l.length := by simp [ib]
theorem ib_at (l : List Int) (i : Nat) : (ib l)[i]? = l[i]?.map fun b => .int .u8 b := by simp [ib]
theorem ib_one (l : List Int) : ∀ v ∈ ib l, v.oneCell' = true := by
  intro v hv
  obtain ⟨b, _, rfl⟩ := List.mem_map.1 hv
  rfl
theorem made_row {W : World} {base g n : Nat} (h : W.ownsRow base 5 1 (.slice (some ⟨g, 0, none⟩) n n) n (madeCells (Value.cells (.int .u8 0)) (n * 1)).toList) : W.heap[g]? = some (.cells (ib (List.replicate n 0)).toArray 5 (0, 0)) := by
  obtain ⟨_, ⟨h0, _⟩ | ⟨g', c, cur, e, _, hg, _, _, hs, ht⟩⟩ := h
  · simp at h0
  · simp only [Value.slice.injEq, Option.some.injEq, Addr.mk.injEq] at e
    obtain ⟨⟨rfl, _⟩, _, rfl⟩ := e
    rw [hg]
    have e1 : (madeCells (Value.cells (.int .u8 0)) (n * 1)).toList = ib (List.replicate n 0) := by
      rw [show Value.cells (.int .u8 0) = #[.int .u8 0] from rfl, toList_madeCells_one]
      simp [ib]
    rw [e1, List.take_of_length_le (by simp; omega)] at ht
    rw [← ht]
theorem src_of {W w : World} {a : Option Addr} {l : List Int} (h3 : 0 < l.length → ∃ g off, a = some ⟨g, off, none⟩ ∧ g < W.heap.size ∧ ∀ i b, l[i]? = some b → W.cell? ⟨g, off + i, none⟩ = some (.int .u8 b)) (hb : Below W.heap.size W w) (hp : 0 < (ib l).length) : ∃ ad, a = some ad ∧ ∀ j v, (ib l)[j]? = some v → w.cell? (ad.add j) = some v := by
  obtain ⟨g, off, rfl, hg, hc⟩ := h3 (by simpa [ib] using hp)
  refine ⟨_, rfl, fun j v hj => ?_⟩
  rw [ib_at] at hj
  obtain ⟨b, hb', rfl⟩ := Option.map_eq_some_iff.1 hj
  rw [Go.WideShapes.add_plain]
  exact (hb.cell (p := ⟨g, off + j, none⟩) hg).trans (hc j b hb')
theorem copy_run {P : Program} {w w0 : World} {dT sT ty elem : TypeId} (hu : P.underlying dT = some (.slice elem)) (hsz : (P.info? elem).map (·.size) = some 1) (dp sp : Option Addr) (dLen dCap sLen sCap : Nat)
    (g off : Nat) (cur : List Value) (t : TypeId) (hg : w.heap[g]? = some (.cells cur.toArray t (0, 0))) (cs : List Value) (hn : cs.length = Nat.min sLen dLen)
    (hpos : 0 < cs.length → dp = some ⟨g, off, none⟩ ∧ ∃ ad, sp = some ad ∧ ∀ j v, cs[j]? = some v → w.cell? (ad.add j) = some v)
    (hfit : off + cs.length ≤ cur.length) (h1 : ∀ v ∈ cs, v.oneCell' = true) (B : Nat) (hb : Below B w0 w) (hBg : B ≤ g) :
    ∃ w', (Builtin.copy_ #[dT, sT] ty #[.slice dp dLen dCap, .slice sp sLen sCap]).run P w = .ok (goInt cs.length) w' ∧ w'.heap[g]? = some (.cells (splice cur off cs).toArray t (0, 0)) ∧ Below B w0 w' ∧ w'.heap.size = w.heap.size := by
  by_cases h0 : cs.length = 0
  · obtain rfl : cs = [] := List.eq_nil_of_length_eq_zero h0
    exact ⟨w, run_copy_none (P := P) w dT sT ty elem dp sp dLen dCap sLen sCap hu hsz (by simpa using hn.symm), by simpa [splice] using hg, hb, rfl⟩
  · obtain ⟨rfl, ad, rfl, hsrc⟩ := hpos (by omega)
    exact ⟨_, run_copy_row (P := P) w dT sT ty elem g off dLen dCap ad sLen sCap cur.toArray t cs hu hsz hg hn hsrc (by simpa using hfit) h1, by simpa [splice] using setRow_heap w g _ _ t _ hg, below_setRow hb hBg _, by simp [World.setRow]⟩
set_option maxRecDepth 100000 in
set_option maxHeartbeats 4000000 in
theorem twin_any {W : World} {v : Value} {l : List Int} (h : HasB W v l) (hn : l.length ≤ 140737488351232) :
    Calls Tryd.prog 15 #[v] W fun e W' => e = .returned (.slice (some ⟨W.heap.size, 0, none⟩) l.length l.length) ∧ Bytes W.heap.size W' (.slice (some ⟨W.heap.size, 0, none⟩) l.length l.length) l ∧ Below W.heap.size W W' := by
  obtain ⟨i0, hi, hz0, hz1, hz2⟩ := info_parts Tryd.infoByte
  obtain ⟨a, c, rfl, hm, h3⟩ := h
  have H3 := hide h3
  clear h3 hm
  have hsz : (Tryd.prog.info? 5).map (·.size) = some 1 := by rw [hi]; simp [hz1]
  go_enter Tryd.func15, Tryd.ntmps15
  go_wp2_with (at_make; refine wpList_make_full _ rfl _ _ 26 rfl W.heap.size 5 i0 (.int .u8 0) 1 Tryd.underlying26 hi hz0 hz1 .i64 .i64 _ _ l.length rfl rfl (by first | rfl | simp) (by first | rfl | simp) (by rw [hz2]; omega) (by unfold maxLen; omega) (Nat.le_refl _) ?_; intro w5 hown5 hgrow5; have Hr := hide (made_row hown5); have Hb : Hid (Below W.heap.size W w5) := ⟨hgrow5.os, hgrow5.tape, hgrow5.output, hgrow5.size, fun b hb => hgrow5.block b hb (by simp)⟩; clear hown5 hgrow5)
  obtain ⟨w6, hrun, hr6, hb6, _⟩ := copy_run (P := Tryd.prog) (w := w5) (w0 := W) (dT := 26) (sT := 26) (ty := 3) Tryd.underlying26 hsz (some ⟨W.heap.size, 0, none⟩) a l.length l.length l.length c W.heap.size 0 (ib (List.replicate l.length 0)) 5 (unhide Hr) (ib l) (by rw [ib_len]; exact (Nat.min_self _).symm) (fun hp => ⟨rfl, src_of (unhide H3) (unhide Hb) hp⟩) (by simp [ib]) (ib_one l) W.heap.size (unhide Hb) (Nat.le_refl _)
  rw [hrun]
  have e6 : splice (ib (List.replicate l.length 0)) 0 (ib l) = ib l := by simp [splice, ib]
  rw [e6] at hr6
  have Hr6 := hide hr6
  have Hb6 := hide hb6
  clear hrun Hr Hb e6 H3 hr6 hb6
  go_wp2
  go_ret
  refine ⟨rfl, ⟨by simp, .inr ⟨_, _, _, rfl, Nat.le_refl _, unhide Hr6, Nat.le_refl _, by unfold maxLen; omega, by simp [ib], ?_⟩⟩, unhide Hb6⟩
  show (ib l).take (l.length * 1) = ib l
  rw [Nat.mul_one]
  exact List.take_of_length_le (by rw [ib_len]; exact Nat.le_refl _)
/-- A byte of bytes of one's own is written. -/
theorem bytes_set {base : Nat} {W : World} {g n c : Nat} {l : List Int} (h : Bytes base W (.slice (some ⟨g, 0, none⟩) n c) l) (i : Nat) (b : Int) : Bytes base (W.setCell ⟨g, i, none⟩ (.int .u8 b)) (.slice (some ⟨g, 0, none⟩) n c) (l.set i b) := by
  unfold Bytes at h ⊢
  obtain ⟨h1, ⟨q, _⟩ | ⟨g', cap, cur, e, h2, h3, h4, h5, h6, h7⟩⟩ := h
  · cases q
  · have eg : g' = g ∧ cap = c ∧ l.length = n := by
      injection e with e1 e2 e3
      injection e1 with e1
      injection e1 with e1
      exact ⟨e1.symm, e3.symm, e2.symm⟩
    obtain ⟨rfl, rfl, rfl⟩ := eg
    refine ⟨by simp, .inr ⟨g', cap, cur.setIfInBounds i (.int .u8 b), by simp, h2, heap_setCell_same W g' i cur _ _ h3, by simpa using h4, h5, by simpa using h6, ?_⟩⟩
    rw [Array.toList_setIfInBounds, List.take_set, List.length_set, h7, List.map_set]
theorem bytes_cell {base : Nat} {W : World} {g n c i : Nat} {l : List Int} {b : Int} (h : Bytes base W (.slice (some ⟨g, 0, none⟩) n c) l) (hb : l[i]? = some b) : W.cell? ⟨g, i, none⟩ = some (.int .u8 b) ∧ W.frozen? ⟨g, i, none⟩ = false ∧ base ≤ g ∧ g < W.heap.size := by
  unfold Bytes at h
  obtain ⟨h1, ⟨q, _⟩ | ⟨g', cap, cur, e, h2, h3, h4, h5, h6, h7⟩⟩ := h
  · cases q
  · have eg : g' = g := by
      injection e with e1 e2 e3
      injection e1 with e1
      injection e1 with e1
      exact e1.symm
    subst eg
    refine ⟨?_, ?_, h2, (Array.getElem?_eq_some_iff.1 h3).1⟩
    · rw [cell_of_row _ _ _ _ _ _ h3, ← Array.getElem?_toList]
      have hj : (l.map fun b => Value.int .u8 b)[i]? = some (.int .u8 b) := by rw [List.getElem?_map, hb]; rfl
      rw [← h7, List.getElem?_take] at hj
      split at hj
      · exact hj
      · cases hj
    · unfold World.frozen?
      rw [h3]
      simp
end Go.Proofs.YtgbadnbhgpnppaaDoor
