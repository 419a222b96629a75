import Derived.Test.YtobomdokdajbaaaDoorJ09
import Derived.BigRegion
import Derived.Deep.AppendLies

namespace Go.Proofs.YtobomdokdajbaaaDoor
open Go.RowKit
attribute [local go_sem ↓] Go.wp_at_zero Go.wp_at_succ

set_option maxRecDepth 100000 in
set_option maxHeartbeats 2000000 in
theorem wback_any {W : World} {b wb : Nat} {s : ByteArray} {k t c : Nat} {st : Bool} {depth num0 : Int} {v ag : Value} (h : RdAt W b s k st) (hw : WkS W wb b (t : Int) depth num0 v ag) :
    Calls Tryd.prog 94 #[.pointer (some ⟨wb, 0, none⟩), .int .i64 (c : Int)] W fun e W' => e = .returned (.int .i64 (c : Int)) ∧ Upd W b (.cells #[.string s, .int .i64 (t : Int), .bool st] 78 (0, 0)) W' := by
  obtain ⟨c0, c1, c2, c3, c4, c5, c6, f1⟩ := walk_cells hw
  obtain ⟨d0, d1, d2, g0, g1, g2⟩ := cells3_of h
  have hu : ∀ n, Upd W b (.cells #[.string s, .int .i64 (t : Int), .bool st] 78 (0, 0)) ((W.drewN n).setCell ⟨b, 1, none⟩ (.int .i64 (t : Int))) := fun n => upd_set (o := 1) h n (.int .i64 (t : Int))
  have Hu := hide hu
  clear hw h hu
  go_enter Tryd.func94, Tryd.ntmps94
  go_wp2
  go_region
  all_goals (
    go_wp2
    go_ret
    exact ⟨rfl, unhide Hu _⟩)
end Go.Proofs.YtobomdokdajbaaaDoor

namespace Go.Proofs.YtobomdokdajbaaaDoor
open Go.RowKit
attribute [local go_sem ↓] Go.wp_at_zero Go.wp_at_succ

theorem Tryd.infoGroup : (Tryd.prog.info? 80).map (fun i => (i.zero, i.size, i.bytes)) = some (some (.agg #[.int .i64 0, .slice none 0 0]), 2, 32) := by kernel_rfl
theorem news_new (X : World) (cs : Array Value) (t : TypeId) (j : Nat) (u : Value) (hj : cs.toList[j]? = some u) : (X.alloc (.cells cs t)).cell? (Addr.add ⟨X.heap.size, 0, none⟩ j) = some u := by
  rw [Go.WideShapes.add_plain, Nat.zero_add, cell_of_row _ _ _ _ _ _ (heap_alloc_new X _), ← Array.getElem?_toList]
  exact hj
/-- All blocks below B but b are as they were. -/
structure BX (B b : Nat) (w w' : World) : Prop where
  os : w'.os = w.os
  tape : w'.tape = w.tape
  output : w'.output = w.output
  size : w.heap.size ≤ w'.heap.size
  block : ∀ q, q < B → q ≠ b → w'.heap[q]? = w.heap[q]?
theorem BX.refl (B b : Nat) (w : World) : BX B b w w := ⟨rfl, rfl, rfl, Nat.le_refl _, fun _ _ _ => rfl⟩
theorem BX.trans {B b : Nat} {u v w : World} (h : BX B b u v) (k : BX B b v w) : BX B b u w := ⟨k.os.trans h.os, k.tape.trans h.tape, k.output.trans h.output, Nat.le_trans h.size k.size, fun i hi hb => (k.block i hi hb).trans (h.block i hi hb)⟩
theorem BX.of {n B b : Nat} {u w : World} (h : Below n u w) (hn : B ≤ n) : BX B b u w := ⟨h.os, h.tape, h.output, h.size, fun q hq _ => h.block q (by omega)⟩
theorem BX.set {B b : Nat} {u w : World} (h : BX B b u w) (i : Nat) (v : Value) : BX B b u (w.setCell ⟨b, i, none⟩ v) := ⟨h.os, h.tape, h.output, by rw [World.size_setCell]; exact h.size, fun q hq hb => (heap_setCell_other w ⟨b, i, none⟩ q v (by simpa using hb)).trans (h.block q hq hb)⟩
theorem BX.below {n B b : Nat} {u w : World} (h : BX B b u w) (hb : n ≤ b) (hB : n ≤ B) : Below n u w := ⟨h.os, h.tape, h.output, h.size, fun q hq => h.block q (by omega) (by omega)⟩
theorem rowUp {B : Nat} {W w : World} {e : TypeId} {z m : Nat} {v : Value} {xs : List Value} (h : W.ownsRow B e z v m xs) (hb : Below W.heap.size W w) : w.ownsRow B e z v m xs := by
  obtain ⟨h1, ⟨rfl, h0⟩ | ⟨g, c, cur, rfl, h2, h3, h4⟩⟩ := h
  · exact ⟨h1, .inl ⟨rfl, h0⟩⟩
  · exact ⟨h1, .inr ⟨g, c, cur, rfl, h2, (hb.block g (Array.getElem?_eq_some_iff.1 h3).1).trans h3, h4⟩⟩
theorem row_frozenT {W : World} {g : Nat} (i : Nat) {cs : Array Value} {t : TypeId} (h : W.heap[g]? = some (.cells cs t (0, 0))) : W.frozen? ⟨g, i, none⟩ = false := by
  unfold World.frozen?
  rw [h]
  simp
theorem row_set {W : World} {B b g c n i z : Nat} {e : TypeId} {xs : List Value} {u : Value} (hgb : g ≠ b) (h : W.ownsRow B e z (.slice (some ⟨g, 0, none⟩) n c) n xs) : (W.setCell ⟨b, i, none⟩ u).ownsRow B e z (.slice (some ⟨g, 0, none⟩) n c) n xs := by
  obtain ⟨h1, ⟨q, _⟩ | ⟨g', cap, cur, e1, h3, h4, h5⟩⟩ := h
  · cases q
  · refine ⟨h1, .inr ⟨g', cap, cur, e1, h3, ?_, h5⟩⟩
    have eg : g' = g := by injection e1 with e1; injection e1 with e1; injection e1 with e1; exact e1.symm
    subst eg
    exact (heap_setCell_other W ⟨b, i, none⟩ g' u (by simpa using hgb)).trans h4
/-- A walk, whether it keeps or not. -/
def WkB (W : World) (wb b : Nat) (tag depth : Int) (kp : Bool) (num0 : Int) (iv ag : Value) : Prop := W.heap[wb]? = some (.cells #[.pointer (some ⟨b, 0, none⟩), .int .i64 tag, .int .i64 depth, .bool kp, .int .i64 num0, iv, ag] 83 (0, 0))
set_option maxRecDepth 100000 in
set_option maxHeartbeats 2000000 in
theorem begin_deep {W : World} {b wb : Nat} {s : ByteArray} {k t n m gc : Nat} {st : Bool} {depth num0 : Int} {v : Value} {ga : Option Addr} (h : RdAt W b s k st) (hw : WkS W wb b (t : Int) depth num0 v (.slice ga m gc)) (hd : depth ≤ (m : Int)) :
    Calls Tryd.prog 87 #[.pointer (some ⟨wb, 0, none⟩), .int .i64 (n : Int)] W fun e W' => TkA W b s t st e W' (.inr 4) := by
  obtain ⟨c0, c1, c2, c3, c4, c5, c6, f1⟩ := walk_cells hw
  have d1 : decide (depth ≤ (m : Int)) = true := decide_eq_true hd
  have hbk := fun q => wback_any (W := W.drewN q) (c := 4) h hw
  have Hbk := hide hbk
  clear h hw hbk hd
  go_enter Tryd.func87, Tryd.ntmps87
  go_wp2
  go_quiet (fail)
  go_wp2_with fail
  refine (unhide Hbk nq).mono ?_
  rintro e w1 ⟨rfl, hU⟩
  have HU := hide hU
  clear hU Hbk
  go_wp2
  go_ret
  exact ⟨rfl, by decide, (unhide HU).os, (unhide HU).tape, (unhide HU).output, (unhide HU).size, (unhide HU).at', (unhide HU).far⟩
set_option maxRecDepth 100000 in
set_option maxHeartbeats 4000000 in
theorem begin_any {W : World} {B b wb m n : Nat} {tag depth num0 : Int} {kp : Bool} {ia : Option Addr} {il ic : Nat} {ag : Value} {xs : List Value} (hw : WkB W wb b tag depth kp num0 (.slice ia il ic) ag) (hB : wb < B) (hBW : B ≤ W.heap.size) (hrow : W.ownsRow B 80 2 ag m xs) (hd : (m : Int) < depth) (hm : m ≤ 2097152) :
    Calls Tryd.prog 87 #[.pointer (some ⟨wb, 0, none⟩), .int .i64 (n : Int)] W fun e w => e = .returned (.int .i64 0) ∧ ∃ ag', WkB w wb b tag depth kp (n : Int) (.slice none 0 0) ag' ∧ w.ownsRow B 80 2 ag' (m + 1) (xs ++ [.int .i64 num0, .slice ia il ic]) ∧ BX B wb W w := by
  obtain ⟨i0, hi, hz0, hz1, hz2⟩ := info_parts Tryd.infoGroup
  have hvb : ag.ownBlock ≠ some wb := fun e => by have := (hrow.lt wb e).1; omega
  obtain ⟨c0, c1, c2, c3, c4, c5, c6, f1⟩ := walk_cells hw
  have hbl : wb < W.heap.size := (Array.getElem?_eq_some_iff.1 hw).1
  obtain ⟨va, vc, hv⟩ : ∃ a c, ag = .slice a m c := by
    obtain ⟨_, ⟨e, h0⟩ | ⟨g, c, _, e, _⟩⟩ := hrow
    · exact ⟨none, 0, by rw [e, h0]⟩
    · exact ⟨_, _, e⟩
  subst hv
  have d1 : decide (depth ≤ (m : Int)) = false := decide_eq_false (by omega)
  have Hrow := hide hrow
  have Hw := hide hw
  have O1 : Hid (m + 1 ≤ maxLen) := by show _ ≤ _; unfold maxLen; omega
  have O2 : Hid ((m + 1) * 32 ≤ 140737488355328) := by show _ ≤ _; omega
  have hsz2 : ∀ (n : Nat) (ob : Obj), ((W.drewN n).alloc ob).heap.size = W.heap.size + 1 := fun n ob => World.size_alloc _ _
  have Hsz2 := hide hsz2
  have hcA : ∀ (n : Nat) (ob : Obj), WkB ((W.drewN n).alloc ob) wb b tag depth kp num0 (.slice ia il ic) (.slice va m vc) := fun n ob => (Below.heap_alloc W ob wb hbl).trans hw
  have hc4 : ∀ (n : Nat) (ob : Obj), ((W.drewN n).alloc ob).cell? ⟨wb, 4, none⟩ = some (.int .i64 num0) := fun n ob => (walk_cells (hcA n ob)).2.2.2.2.1
  have hc5 : ∀ (n : Nat) (ob : Obj), ((W.drewN n).alloc ob).cell? ⟨wb, 5, none⟩ = some (.slice ia il ic) := fun n ob => (walk_cells (hcA n ob)).2.2.2.2.2.1
  have hc6 : ∀ (n : Nat) (ob : Obj), ((W.drewN n).alloc ob).cell? ⟨wb, 6, none⟩ = some (.slice va m vc) := fun n ob => (walk_cells (hcA n ob)).2.2.2.2.2.2.1
  clear hw hrow hsz2 hcA hd
  go_enter Tryd.func87, Tryd.ntmps87
  go_wp2_with fail
  go_quiet (fail)
  go_wp2_with fail
  go_region_law (refine step_append_lies _ rfl (.tmp 21) (.tmp 26) 81 rfl B 80 i0 (.agg #[.int .i64 0, .slice none 0 0]) 2 32 Tryd.underlying81 hi hz0 hz1 hz2 rfl (by decide) (.slice va m vc) m xs (by first | rfl | simp [Act.eval, Act.put] | simp [Act.eval, Act.put, Array.getElem?_setIfInBounds] | (simp [Act.eval]; rfl) | (simp [Act.eval]; go_simp)) ((unhide Hrow).alloc _) ⟨W.heap.size, 0, none⟩ 1 1 [.int .i64 num0, .slice ia il ic] (by first | rfl | simp [Act.eval, Act.put] | simp [Act.eval, Act.put, Array.getElem?_setIfInBounds] | (simp [Act.eval]; rfl) | (simp [Act.eval]; go_simp)) rfl (fun j u hj => news_new _ #[.int .i64 num0, .slice ia il ic] 80 j u hj) (by simp [Value.oneCell']) (by decide) (unhide O1) (unhide O2) (by rw [unhide Hsz2]; omega) (W.heap.size + 1) (unhide Hsz2 _ _) ?_; intro g9 c9 w9 hown9 hg9 hat9 hlt9; have hb9 : w9.heap[wb]? = W.heap[wb]? := (hg9.block wb (by rw [unhide Hsz2]; omega) (fun e => hvb e.symm)).trans (Below.heap_alloc W _ wb hbl); have hw9 : WkB w9 wb b tag depth kp num0 (.slice ia il ic) (.slice va m vc) := hb9.trans (unhide Hw); have e6 := (walk_cells hw9).2.2.2.2.2.2.1; have e5 := (walk_cells hw9).2.2.2.2.2.1; have e4 := (walk_cells hw9).2.2.2.2.1; have f46 := row_frozenT 6 hw9; have f44 := row_frozenT 4 hw9; have f45 := row_frozenT 5 hw9; have gb : g9 ≠ wb := (fun e => hat9.elim (fun q => hvb (by rw [q, e])) (fun q => by omega)); have Hw9 := hide hw9; have Hown := hide hown9; have HB9 : Hid (BX B wb W w9) := ⟨hg9.os, hg9.tape, hg9.output, (by have := hg9.size; rw [unhide Hsz2] at this; omega), fun q hq _ => (hg9.block q (by rw [unhide Hsz2]; omega) (fun e => by have := ((unhide Hrow).lt q e.symm).1; omega)).trans (Below.heap_alloc W _ q (by omega))⟩; clear hown9 hg9 hat9 hb9 hw9)
  all_goals go_wp2
  all_goals go_ret
  all_goals exact ⟨rfl, .slice (some ⟨g9, 0, none⟩) (m + 1) c9, heap_setCell_same _ wb 5 _ _ (.slice none 0 0) (heap_setCell_same _ wb 4 _ _ (.int .i64 (n : Int)) (heap_setCell_same _ wb 6 _ _ (.slice (some ⟨g9, 0, none⟩) (m + 1) c9) (unhide Hw9))), row_set gb (row_set gb (row_set gb (unhide Hown))), (((unhide HB9).set 6 _).set 4 _).set 5 _⟩
end Go.Proofs.YtobomdokdajbaaaDoor

namespace Go.Proofs.YtobomdokdajbaaaDoor
open Go.RowKit
attribute [local go_sem ↓] Go.wp_at_zero Go.wp_at_succ

theorem row_pop {W : World} {B g m gc : Nat} {e : TypeId} {xs : List Value} {x y : Value} (hx : xs.length = m * 2) (h : W.ownsRow B e 2 (.slice (some ⟨g, 0, none⟩) (m + 1) gc) (m + 1) (xs ++ [x, y])) :
    W.cell? ⟨g, m * 2, none⟩ = some x ∧ W.cell? ⟨g, m * 2 + 1, none⟩ = some y ∧ m + 1 ≤ gc ∧ gc ≤ maxLen ∧ B ≤ g ∧ g < W.heap.size ∧ W.ownsRow B e 2 (.slice (some ⟨g, 0, none⟩) m gc) m xs := by
  obtain ⟨h1, ⟨q, _⟩ | ⟨g', cap, cur, e1, h3, h4, h5, h6, h7, h8⟩⟩ := h
  · cases q
  · injection e1 with e1 _ e2
    injection e1 with e1
    injection e1 with e1
    subst e1 e2
    have hat : ∀ i z, (xs ++ [x, y])[i]? = some z → cur[i]? = some z := fun i z hz => by
      rw [← h8] at hz
      have hi : i < (m + 1) * 2 := by
        have := (List.getElem?_eq_some_iff.1 hz).1
        simp at this
        omega
      rw [List.getElem?_take_of_lt hi] at hz
      rw [← Array.getElem?_toList]
      exact hz
    have c1 := hat (m * 2) x (by rw [List.getElem?_append_right (by omega), hx]; simp)
    have c2 := hat (m * 2 + 1) y (by rw [List.getElem?_append_right (by omega), hx]; simp)
    refine ⟨(cell_of_row _ _ _ _ _ _ h4).trans c1, (cell_of_row _ _ _ _ _ _ h4).trans c2, h5, h6, h3, (Array.getElem?_eq_some_iff.1 h4).1, hx, .inr ⟨g, gc, cur, rfl, h3, h4, by omega, h6, h7, ?_⟩⟩
    have : (cur.toList.take ((m + 1) * 2)).take (m * 2) = cur.toList.take (m * 2) := by rw [List.take_take]; congr 1; omega
    rw [← this, h8, List.take_append_of_le_length (by omega), ← hx, List.take_length]
theorem end_wrong {W : World} {b wb : Nat} {s : ByteArray} {k t n : Nat} {st : Bool} {depth num0 : Int} {v ag : Value} (h : RdAt W b s k st) (hw : WkS W wb b (t : Int) depth num0 v ag) (hd : num0 ≠ (n : Int)) :
    Calls Tryd.prog 88 #[.pointer (some ⟨wb, 0, none⟩), .int .i64 (n : Int)] W fun e W' => TkA W b s t st e W' (.inr 25) := by
  obtain ⟨c0, c1, c2, c3, c4, c5, c6, f1⟩ := walk_cells hw
  have d1 : (num0 != (n : Int)) = true := by simpa using hd
  have hbk := wback_any (c := 25) h hw
  have Hbk := hide hbk
  clear h hw hbk hd
  go_enter Tryd.func88, Tryd.ntmps88
  go_wp2_with fail
  refine (unhide Hbk).mono ?_
  rintro e w1 ⟨rfl, hU⟩
  have HU := hide hU
  clear hU Hbk
  go_wp2
  go_ret
  exact ⟨rfl, by decide, unhide HU⟩
set_option maxRecDepth 100000 in
set_option maxHeartbeats 4000000 in
theorem end_any {W : World} {B b wb g m n gc : Nat} {tag depth num1 : Int} {ia ja : Option Addr} {il ic jl jc : Nat} {xs : List Value} (hw : WkS W wb b tag depth (n : Int) (.slice ia il ic) (.slice (some ⟨g, 0, none⟩) (m + 1) gc)) (hB : wb < B) (hBW : B ≤ W.heap.size) (hx : xs.length = m * 2) (hrow : W.ownsRow B 80 2 (.slice (some ⟨g, 0, none⟩) (m + 1) gc) (m + 1) (xs ++ [.int .i64 num1, .slice ja jl jc])) (hm : m ≤ 2097152) :
    Calls Tryd.prog 88 #[.pointer (some ⟨wb, 0, none⟩), .int .i64 (n : Int)] W fun e w => e = .returned (.int .i64 0) ∧ WkS w wb b tag depth num1 (.slice ja jl jc) (.slice (some ⟨g, 0, none⟩) m gc) ∧ w.ownsRow B 80 2 (.slice (some ⟨g, 0, none⟩) m gc) m xs ∧ BX B wb W w := by
  obtain ⟨c0, c1, c2, c3, c4, c5, c6, f1⟩ := walk_cells hw
  obtain ⟨r0, r1, r2, r3, r4, r5, r6⟩ := row_pop hx hrow
  have hbl : wb < W.heap.size := (Array.getElem?_eq_some_iff.1 hw).1
  have d1 : ((n : Int) != (n : Int)) = false := by simp
  unfold maxLen at r3
  have hgc : ¬ gc = 0 := by omega
  have hm0 : (0 : Int) ≤ (m : Int) := Int.natCast_nonneg _
  have hm1 : (m : Int) ≤ (gc : Int) := by omega
  have hm2 : (m : Int) < ((m + 1 : Nat) : Int) := by omega
  have em : ((m + 1 : Nat) : Int) - 1 = (m : Int) := by omega
  obtain ⟨X, hX⟩ : ∃ X, X = W.alloc (.cells #[.int .i64 (n : Int), .int .i64 3, .int .i64 0, .string ⟨#[]⟩, .slice ia il ic] 35) := ⟨_, rfl⟩
  have hXB : Below W.heap.size W X := by rw [hX]; exact (Below.refl _ _).alloc (Nat.le_refl _) _
  have hXw : WkS X wb b tag depth (n : Int) (.slice ia il ic) (.slice (some ⟨g, 0, none⟩) (m + 1) gc) := (hXB.block wb hbl).trans hw
  obtain ⟨x0, x1, x2, x3, x4, x5, x6, xf1⟩ := walk_cells hXw
  have y0 := (hXB.cell (p := ⟨g, m * 2, none⟩) r5).trans r0
  have y1 := (hXB.cell (p := ⟨g, m * 2 + 1, none⟩) r5).trans r1
  have xf4 := row_frozenT 4 hXw
  have xf5 := row_frozenT 5 hXw
  have xf6 := row_frozenT 6 hXw
  have hgw : g ≠ wb := by omega
  have zrow := rowUp r6 hXB
  have HXw := hide hXw
  have HXB := hide hXB
  have Zrow := hide zrow
  have hcr : X.cell? ⟨W.heap.size, 0, none⟩ = some (.int .i64 (n : Int)) ∧ X.cell? ⟨W.heap.size, 1, none⟩ = some (.int .i64 3) ∧ X.cell? ⟨W.heap.size, 2, none⟩ = some (.int .i64 0) ∧ X.cell? ⟨W.heap.size, 3, none⟩ = some (.string ⟨#[]⟩) ∧ X.cell? ⟨W.heap.size, 4, none⟩ = some (.slice ia il ic) := by
    rw [hX]
    refine ⟨?_, ?_, ?_, ?_, ?_⟩ <;> exact cell_of_row _ _ _ _ _ _ (heap_alloc_new _ _)
  obtain ⟨k0, k1, k2, k3, k4⟩ := hcr
  have HX := hide hX
  clear hw hrow r6 zrow hXB hXw hx r0 r1 r2 r3 r4 hX
  go_enter Tryd.func88, Tryd.ntmps88
  go_wp2_with fail
  rw [← unhide HX]
  clear c0 c1 c2 c3 c4 c5 c6 f1
  go_region
  all_goals go_wp2_with fail
  all_goals (
    have hwE : WkS ((((X.setCell ⟨wb, 4, none⟩ (.int .i64 num1)).setCell ⟨wb, 5, none⟩ (.slice ja jl jc)).setCell ⟨wb, 6, none⟩ (.slice (some ⟨g, 0, none⟩) m gc)).drew) wb b tag depth num1 (.slice ja jl jc) (.slice (some ⟨g, 0, none⟩) m gc) := heap_setCell_same _ wb 6 _ _ _ (heap_setCell_same _ wb 5 _ _ _ (heap_setCell_same _ wb 4 _ _ _ (unhide HXw)))
    have hrE : ((((X.setCell ⟨wb, 4, none⟩ (.int .i64 num1)).setCell ⟨wb, 5, none⟩ (.slice ja jl jc)).setCell ⟨wb, 6, none⟩ (.slice (some ⟨g, 0, none⟩) m gc)).drew).ownsRow B 80 2 (.slice (some ⟨g, 0, none⟩) m gc) m xs := row_set hgw (row_set hgw (row_set hgw (unhide Zrow)))
    have hbE : BX B wb W ((((X.setCell ⟨wb, 4, none⟩ (.int .i64 num1)).setCell ⟨wb, 5, none⟩ (.slice ja jl jc)).setCell ⟨wb, 6, none⟩ (.slice (some ⟨g, 0, none⟩) m gc)).drew) := by
      have q := ((((BX.of (b := wb) (unhide HXB) hBW).set 4 (.int .i64 num1)).set 5 (.slice ja jl jc)).set 6 (.slice (some ⟨g, 0, none⟩) m gc))
      exact ⟨q.os, q.tape, q.output, q.size, q.block⟩
    have HwE := hide hwE
    have HrE := hide hrE
    have HbE := hide hbE
    clear hwE hrE hbE
    refine (add_skip (c := 0) (unhide HwE)).mono ?_
    rintro e w2 ⟨rfl, hb⟩
    have Hend : Hid (WkS w2 wb b tag depth num1 (.slice ja jl jc) (.slice (some ⟨g, 0, none⟩) m gc) ∧ w2.ownsRow B 80 2 (.slice (some ⟨g, 0, none⟩) m gc) m xs ∧ BX B wb W w2) := ⟨(hb.block wb (Array.getElem?_eq_some_iff.1 (unhide HwE)).1).trans (unhide HwE), rowUp (unhide HrE) hb, (unhide HbE).trans (BX.of hb (Nat.le_trans hBW (unhide HbE).size))⟩
    clear hb
    go_wp2
    go_ret
    exact ⟨rfl, unhide Hend⟩)
end Go.Proofs.YtobomdokdajbaaaDoor

namespace Go.Proofs.YtobomdokdajbaaaDoor
open Go.RowKit
attribute [local go_sem ↓] Go.wp_at_zero Go.wp_at_succ

/-- The groups around, as they lie in memory when nothing is kept. -/
def gcells : List Nat → List Value
  | [] => []
  | x :: ar => .int .i64 (x : Int) :: .slice none 0 0 :: gcells ar
theorem gcells_snoc (x : Nat) : ∀ ar : List Nat, gcells (ar ++ [x]) = gcells ar ++ [.int .i64 (x : Int), .slice none 0 0]
  | [] => rfl
  | a :: ar => by
    show Value.int .i64 (a : Int) :: .slice none 0 0 :: gcells (ar ++ [x]) = _
    rw [gcells_snoc x ar]
    rfl
theorem gcells_len : ∀ ar : List Nat, (gcells ar).length = ar.length * 2
  | [] => rfl
  | a :: ar => by
    have h := gcells_len ar
    simp only [gcells, List.length_cons]
    omega
/-- All blocks below B but two are as they were. -/
structure BZ (B b c : Nat) (w w' : World) : Prop where
  os : w'.os = w.os
  tape : w'.tape = w.tape
  output : w'.output = w.output
  size : w.heap.size ≤ w'.heap.size
  block : ∀ q, q < B → q ≠ b → q ≠ c → w'.heap[q]? = w.heap[q]?
theorem BZ.refl (B b c : Nat) (w : World) : BZ B b c w w := ⟨rfl, rfl, rfl, Nat.le_refl _, fun _ _ _ _ => rfl⟩
theorem BZ.trans {B b c : Nat} {u v w : World} (h : BZ B b c u v) (k : BZ B b c v w) : BZ B b c u w := ⟨k.os.trans h.os, k.tape.trans h.tape, k.output.trans h.output, Nat.le_trans h.size k.size, fun i hi h1 h2 => (k.block i hi h1 h2).trans (h.block i hi h1 h2)⟩
theorem BZ.of {n B b c : Nat} {u w : World} (h : Below n u w) (hn : B ≤ n) : BZ B b c u w := ⟨h.os, h.tape, h.output, h.size, fun q hq _ _ => h.block q (by omega)⟩
theorem BZ.ofX {B b c : Nat} {u w : World} (h : BX B c u w) : BZ B b c u w := ⟨h.os, h.tape, h.output, h.size, fun q hq _ h2 => h.block q hq h2⟩
theorem BZ.ofU {B b c : Nat} {o : Obj} {u w : World} (h : Upd u b o w) (hB : B ≤ u.heap.size) : BZ B b c u w := ⟨h.os, h.tape, h.output, h.size, fun q hq h1 _ => h.far q (by omega) h1⟩
/-- A reader and a walk that keeps nothing, in memory. -/
structure SkSt (W : World) (B b wb : Nat) (s : ByteArray) (st : Bool) (t : Nat) (depth : Int) (k num : Nat) (ar : List Nat) : Prop where
  rd : RdAt W b s k st
  wk : ∃ ag, WkS W wb b (t : Int) depth (num : Int) (.slice none 0 0) ag ∧ W.ownsRow B 80 2 ag ar.length (gcells ar)
  hb : b < B
  hwb : wb < B
  hne : wb ≠ b
  hB : B ≤ W.heap.size
theorem rowUpd {B b : Nat} {o : Obj} {W w : World} {e : TypeId} {z m : Nat} {v : Value} {xs : List Value} (h : W.ownsRow B e z v m xs) (hb : Upd W b o w) (hB : b < B) : w.ownsRow B e z v m xs := by
  obtain ⟨h1, ⟨rfl, h0⟩ | ⟨g, c, cur, rfl, h2, h3, h4⟩⟩ := h
  · exact ⟨h1, .inl ⟨rfl, h0⟩⟩
  · exact ⟨h1, .inr ⟨g, c, cur, rfl, h2, (hb.far g (Array.getElem?_eq_some_iff.1 h3).1 (by omega)).trans h3, h4⟩⟩
theorem SkSt.up {W X : World} {B b wb t k num : Nat} {s : ByteArray} {st : Bool} {depth : Int} {ar : List Nat} (h : SkSt W B b wb s st t depth k num ar) (hb : Below W.heap.size W X) : SkSt X B b wb s st t depth k num ar := by
  obtain ⟨ag, h1, h2⟩ := h.wk
  exact ⟨(hb.block b (Array.getElem?_eq_some_iff.1 h.rd).1).trans h.rd, ⟨ag, (hb.block wb (Array.getElem?_eq_some_iff.1 h1).1).trans h1, rowUp h2 hb⟩, h.hb, h.hwb, h.hne, Nat.le_trans h.hB hb.size⟩
theorem SkSt.upd {W X : World} {B b wb t k k' num : Nat} {s : ByteArray} {st : Bool} {depth : Int} {ar : List Nat} (h : SkSt W B b wb s st t depth k num ar) (hU : Upd W b (.cells #[.string s, .int .i64 (k' : Int), .bool st] 78 (0, 0)) X) : SkSt X B b wb s st t depth k' num ar := by
  obtain ⟨ag, h1, h2⟩ := h.wk
  exact ⟨hU.at', ⟨ag, (hU.far wb (Array.getElem?_eq_some_iff.1 h1).1 h.hne).trans h1, rowUpd h2 hU h.hb⟩, h.hb, h.hwb, h.hne, Nat.le_trans h.hB hU.size⟩
/-- What is behind a tag, taken off: the place, the group, those around it; or the error and its place. -/
def plcM (num : Nat) (ar : List Nat) (k : Nat) : Nat ⊕ Nat → (Nat × Nat × List Nat) ⊕ (Nat × Nat)
  | .inl k' => .inl (k', num, ar)
  | .inr c => .inr (c, k)
def tkM (s : ByteArray) (st : Bool) (depth : Int) (t k num : Nat) (ar : List Nat) (n kd : Nat) : (Nat × Nat × List Nat) ⊕ (Nat × Nat) :=
  if kd = 3 then (if depth ≤ (ar.length : Int) then .inr (4, t) else .inl (k, n, ar ++ [num]))
  else if kd = 4 then (if num ≠ n then .inr (25, t) else match ar.getLast? with
    | some x => .inl (k, x, ar.dropLast)
    | none => .inr (25, t))
  else plcM num ar k (if kd = 0 then plc (vAt s st k) else if kd = 1 then plc (xAt s k 8) else if kd = 2 then plc (tAt s st k) else plc (xAt s k 4))
def MA (W : World) (B b wb : Nat) (s : ByteArray) (st : Bool) (t : Nat) (depth : Int) (e : Ending) (w : World) : (Nat × Nat × List Nat) ⊕ (Nat × Nat) → Prop
  | .inl (k', num', ar') => e = .returned (.int .i64 0) ∧ SkSt w B b wb s st t depth k' num' ar' ∧ BZ B b wb W w
  | .inr (c, p) => e = .returned (.int .i64 (c : Int)) ∧ c ≠ 0 ∧ RdAt w b s p st ∧ BZ B b wb W w
theorem MA.ret {W : World} {B b wb : Nat} {s : ByteArray} {st : Bool} {t : Nat} {depth : Int} {e : Ending} {w : World} {r : (Nat × Nat × List Nat) ⊕ (Nat × Nat)} (h : MA W B b wb s st t depth e w r) : ∃ c : Int, e = .returned (.int .i64 c) := by
  match r, h with
  | .inl (_, _, _), h => exact ⟨_, h.1⟩
  | .inr (_, _), h => exact ⟨_, h.1⟩
theorem MA.of {W X : World} {B b wb : Nat} {s : ByteArray} {st : Bool} {t : Nat} {depth : Int} {e : Ending} {w : World} {r : (Nat × Nat × List Nat) ⊕ (Nat × Nat)} (hX : BZ B b wb W X) (h : MA X B b wb s st t depth e w r) : MA W B b wb s st t depth e w r := by
  match r, h with
  | .inl (_, _, _), h => exact ⟨h.1, h.2.1, hX.trans h.2.2⟩
  | .inr (_, _), h => exact ⟨h.1, h.2.1, h.2.2.1, hX.trans h.2.2.2⟩
theorem plain_take {W : World} {B b wb t k num : Nat} {s : ByteArray} {st : Bool} {depth : Int} {ar : List Nat} {e : Ending} {w : World} {r : Nat ⊕ Nat} (h : SkSt W B b wb s st t depth k num ar) (hT : TkA W b s k st e w r) : MA W B b wb s st t depth e w (plcM num ar k r) := by
  match r, hT with
  | .inl k', hT => exact ⟨hT.1, h.upd hT.2, .ofU hT.2 h.hB⟩
  | .inr c, hT => exact ⟨hT.1, hT.2.1, hT.2.2.at', .ofU hT.2.2 h.hB⟩
/-- Take, of a walk that keeps nothing. -/
theorem wtake_skip {W : World} {B b wb t k num n kd : Nat} {s : ByteArray} {st : Bool} {depth : Int} {ar : List Nat} (h : SkSt W B b wb s st t depth k num ar) (hk : k ≤ s.size) (hs : s.size ≤ 1048576) (hkd : kd ≤ 5) (har : ar.length ≤ 2097152) (hnum : ar = [] → num ≠ n) :
    Calls Tryd.prog 66 #[.pointer (some ⟨wb, 0, none⟩), .int .i64 (n : Int), .int .i64 (kd : Int)] W fun e w => MA W B b wb s st t depth e w (tkM s st depth t k num ar n kd) := by
  have key : ∀ {f : Nat} {i : Int}, (∀ {R : World → Ending → World → Prop}, (∀ X, Below W.heap.size W X → Calls Tryd.prog f #[.pointer (some ⟨wb, 0, none⟩), .int .i64 (n : Int)] X (R X)) → (∀ X e w, R X e w → ∃ c : Int, e = .returned (.int .i64 c)) → Calls Tryd.prog 66 #[.pointer (some ⟨wb, 0, none⟩), .int .i64 (n : Int), .int .i64 i] W fun e W' => ∃ X, Below W.heap.size W X ∧ R X e W') → (∀ X, SkSt X B b wb s st t depth k num ar → Calls Tryd.prog f #[.pointer (some ⟨wb, 0, none⟩), .int .i64 (n : Int)] X fun e w => MA X B b wb s st t depth e w (tkM s st depth t k num ar n kd)) → Calls Tryd.prog 66 #[.pointer (some ⟨wb, 0, none⟩), .int .i64 (n : Int), .int .i64 i] W fun e w => MA W B b wb s st t depth e w (tkM s st depth t k num ar n kd) := by
    intro f i hw hR
    have q := hw (R := fun X e w => Below W.heap.size W X ∧ MA X B b wb s st t depth e w (tkM s st depth t k num ar n kd)) (fun X hX => (hR X (h.up hX)).mono fun e w hM => ⟨hX, hM⟩) (fun X e w hM => hM.2.ret)
    exact q.mono fun e w ⟨X, hX, _, hM⟩ => hM.of (.of hX h.hB)
  have h6 : kd = 0 ∨ kd = 1 ∨ kd = 2 ∨ kd = 5 ∨ kd = 3 ∨ kd = 4 := by omega
  rcases h6 with rfl | rfl | rfl | rfl | rfl | rfl
  · refine key (fun a b => wtake_any a b) fun X hX => ?_
    obtain ⟨ag, h1, h2⟩ := hX.wk
    unfold tkM
    rw [if_neg (by decide), if_neg (by decide), if_pos rfl]
    exact (take0_skip hX.rd hk hs h1).mono fun e w hT => plain_take hX hT
  · refine key (fun a b => wtake1 a b) fun X hX => ?_
    obtain ⟨ag, h1, h2⟩ := hX.wk
    unfold tkM
    rw [if_neg (by decide), if_neg (by decide), if_neg (by decide), if_pos rfl]
    exact (take1_skip hX.rd hk hs h1).mono fun e w hT => plain_take hX hT
  · refine key (fun a b => wtake2 a b) fun X hX => ?_
    obtain ⟨ag, h1, h2⟩ := hX.wk
    unfold tkM
    rw [if_neg (by decide), if_neg (by decide), if_neg (by decide), if_neg (by decide), if_pos rfl]
    exact (take2_skip hX.rd hk hs h1).mono fun e w hT => plain_take hX hT
  · refine key (fun a b => wtake5 a b) fun X hX => ?_
    obtain ⟨ag, h1, h2⟩ := hX.wk
    unfold tkM
    rw [if_neg (by decide), if_neg (by decide), if_neg (by decide), if_neg (by decide), if_neg (by decide)]
    exact (take5_skip hX.rd hk hs h1).mono fun e w hT => plain_take hX hT
  · refine key (fun a b => wtake3 a b) fun X hX => ?_
    obtain ⟨ag, h1, h2⟩ := hX.wk
    unfold tkM
    rw [if_pos rfl]
    by_cases hd : depth ≤ (ar.length : Int)
    · rw [if_pos hd]
      obtain ⟨va, vc, rfl⟩ : ∃ a c, ag = .slice a ar.length c := by
        obtain ⟨_, ⟨e, h0⟩ | ⟨g, c, _, e, _⟩⟩ := h2
        · exact ⟨none, 0, by rw [e, h0]⟩
        · exact ⟨_, _, e⟩
      exact (begin_deep hX.rd h1 hd).mono fun e w hT => ⟨hT.1, hT.2.1, hT.2.2.at', .ofU hT.2.2 hX.hB⟩
    · rw [if_neg hd]
      refine (begin_any (kp := false) h1 hX.hwb hX.hB h2 (by omega) har).mono ?_
      rintro e w ⟨rfl, ag', q1, q2, q3⟩
      refine ⟨rfl, ⟨(q3.block b hX.hb (fun e => hX.hne e.symm)).trans hX.rd, ⟨ag', q1, ?_⟩, hX.hb, hX.hwb, hX.hne, Nat.le_trans hX.hB q3.size⟩, .ofX q3⟩
      rw [gcells_snoc, List.length_append]
      exact q2
  · refine key (fun a b => wtake4 a b) fun X hX => ?_
    obtain ⟨ag, h1, h2⟩ := hX.wk
    unfold tkM
    rw [if_neg (by decide), if_pos rfl]
    by_cases hd : num ≠ n
    · rw [if_pos hd]
      exact (end_wrong hX.rd h1 (by omega)).mono fun e w hT => ⟨hT.1, hT.2.1, hT.2.2.at', .ofU hT.2.2 hX.hB⟩
    · rw [if_neg hd]
      obtain rfl : num = n := by omega
      rcases List.eq_nil_or_concat ar with rfl | ⟨l, x, rfl⟩
      · exact absurd rfl (hnum rfl)
      · rw [List.concat_eq_append] at *
        simp only [List.getLast?_append, List.getLast?_singleton, Option.some_or, List.dropLast_concat]
        rw [gcells_snoc, List.length_append] at h2
        obtain ⟨g, c, rfl⟩ : ∃ g c, ag = .slice (some ⟨g, 0, none⟩) (l.length + 1) c := by
          obtain ⟨_, ⟨e, h0⟩ | ⟨g, c, _, e, _⟩⟩ := h2
          · simp at h0
          · exact ⟨_, _, e⟩
        refine (end_any h1 hX.hwb hX.hB (gcells_len l) h2 (by simp at har; omega)).mono ?_
        rintro e w ⟨rfl, q1, q2, q3⟩
        exact ⟨rfl, ⟨(q3.block b hX.hb (fun e => hX.hne e.symm)).trans hX.rd, ⟨_, q1, q2⟩, hX.hb, hX.hwb, hX.hne, Nat.le_trans hX.hB q3.size⟩, .ofX q3⟩
#print axioms wtake_skip
end Go.Proofs.YtobomdokdajbaaaDoor
