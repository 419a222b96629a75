import Derived.Test.YtobomdokdajbaaaDoorWSa
import Derived.BigRegion
import Derived.Test.YtobomdokdajbaaaDoorWMs

namespace Go.Proofs.YtobomdokdajbaaaDoor
open Go.RowKit
attribute [local go_sem ↓] Go.wp_at_zero Go.wp_at_succ

/-- All blocks but those of X are as they were. -/
structure Fr (W w : World) (X : Nat → Prop) : Prop where
  os : w.os = W.os
  tape : w.tape = W.tape
  output : w.output = W.output
  size : W.heap.size ≤ w.heap.size
  far : ∀ q, q < W.heap.size → ¬ X q → w.heap[q]? = W.heap[q]?
theorem Fr.refl (W : World) (X : Nat → Prop) : Fr W W X := ⟨rfl, rfl, rfl, Nat.le_refl _, fun _ _ _ => rfl⟩
theorem Fr.trans {A B C : World} {X : Nat → Prop} (h : Fr A B X) (k : Fr B C X) : Fr A C X := ⟨k.os.trans h.os, k.tape.trans h.tape, k.output.trans h.output, Nat.le_trans h.size k.size, fun q hq hn => (k.far q (Nat.lt_of_lt_of_le hq h.size) hn).trans (h.far q hq hn)⟩
theorem Fr.wide {A B : World} {X Y : Nat → Prop} (h : Fr A B X) (hx : ∀ q, q < A.heap.size → X q → Y q) : Fr A B Y := ⟨h.os, h.tape, h.output, h.size, fun q hq hn => h.far q hq (fun x => hn (hx q hq x))⟩
theorem Fr.set {A B : World} {X : Nat → Prop} {b : Nat} (h : Fr A B X) (hb : X b) (i : Nat) (v : Value) : Fr A (B.setCell ⟨b, i, none⟩ v) X := ⟨h.os, h.tape, h.output, by rw [World.size_setCell]; exact h.size, fun q hq hn => (heap_setCell_other B ⟨b, i, none⟩ q v (fun e => hn (by have e' : q = b := e; rw [e']; exact hb))).trans (h.far q hq hn)⟩
theorem Fr.below {A B : World} {X : Nat → Prop} (h : Below A.heap.size A B) : Fr A B X := ⟨h.os, h.tape, h.output, h.size, fun q hq _ => h.block q hq⟩
theorem AddA.fr {W : World} {wb B : Nat} {iv : Value} {w : World} {v' : Value} (h : AddA W wb B iv w v') : Fr W w (fun q => q = wb ∨ some q = iv.ownBlock) := ⟨h.os, h.tape, h.output, h.size, fun q hq hn => h.far q hq (fun e => hn (.inl e)) (fun e => hn (.inr e))⟩
set_option maxRecDepth 100000 in
set_option maxHeartbeats 4000000 in
theorem begin_keep {W : World} {B b wb m n : Nat} {tag depth num0 : Int} {kp : Bool} {ia : Option Addr} {il ic : Nat} {ag : Value} {xs : List Value} (hw : WkB W wb b tag depth kp num0 (.slice ia il ic) ag) (hB : wb < B) (hBW : B ≤ W.heap.size) (hrow : W.ownsRow B 80 2 ag m xs) (hd : (m : Int) < depth) (hm : m ≤ 2097152) :
    Calls Tryd.prog 87 #[.pointer (some ⟨wb, 0, none⟩), .int .i64 (n : Int)] W fun e w => e = .returned (.int .i64 0) ∧ ∃ ag', WkB w wb b tag depth kp (n : Int) (.slice none 0 0) ag' ∧ w.ownsRow B 80 2 ag' (m + 1) (xs ++ [.int .i64 num0, .slice ia il ic]) ∧ Fr W w (fun q => q = wb ∨ some q = ag.ownBlock) ∧ (ag'.ownBlock = ag.ownBlock ∨ ∃ g, ag'.ownBlock = some g ∧ W.heap.size ≤ g) := by
  obtain ⟨i0, hi, hz0, hz1, hz2⟩ := info_parts Tryd.infoGroup
  have hvb : ag.ownBlock ≠ some wb := fun e => by have := (hrow.lt wb e).1; omega
  obtain ⟨c0, c1, c2, c3, c4, c5, c6, f1⟩ := walk_cells hw
  have hbl : wb < W.heap.size := (Array.getElem?_eq_some_iff.1 hw).1
  obtain ⟨va, vc, hv⟩ : ∃ a c, ag = .slice a m c := by
    obtain ⟨_, ⟨e, h0⟩ | ⟨g, c, _, e, _⟩⟩ := hrow
    · exact ⟨none, 0, by rw [e, h0]⟩
    · exact ⟨_, _, e⟩
  subst hv
  have d1 : decide (depth ≤ (m : Int)) = false := decide_eq_false (by omega)
  have Hrow := hide hrow
  have Hw := hide hw
  have O1 : Hid (m + 1 ≤ maxLen) := by show _ ≤ _; unfold maxLen; omega
  have O2 : Hid ((m + 1) * 32 ≤ 140737488355328) := by show _ ≤ _; omega
  have hsz2 : ∀ (n : Nat) (ob : Obj), ((W.drewN n).alloc ob).heap.size = W.heap.size + 1 := fun n ob => World.size_alloc _ _
  have Hsz2 := hide hsz2
  have hcA : ∀ (n : Nat) (ob : Obj), WkB ((W.drewN n).alloc ob) wb b tag depth kp num0 (.slice ia il ic) (.slice va m vc) := fun n ob => (Below.heap_alloc W ob wb hbl).trans hw
  have hc4 : ∀ (n : Nat) (ob : Obj), ((W.drewN n).alloc ob).cell? ⟨wb, 4, none⟩ = some (.int .i64 num0) := fun n ob => (walk_cells (hcA n ob)).2.2.2.2.1
  have hc5 : ∀ (n : Nat) (ob : Obj), ((W.drewN n).alloc ob).cell? ⟨wb, 5, none⟩ = some (.slice ia il ic) := fun n ob => (walk_cells (hcA n ob)).2.2.2.2.2.1
  have hc6 : ∀ (n : Nat) (ob : Obj), ((W.drewN n).alloc ob).cell? ⟨wb, 6, none⟩ = some (.slice va m vc) := fun n ob => (walk_cells (hcA n ob)).2.2.2.2.2.2.1
  clear hw hrow hsz2 hcA hd
  go_enter Tryd.func87, Tryd.ntmps87
  go_wp2_with fail
  go_quiet (fail)
  go_wp2_with fail
  go_region_law (refine step_append_lies _ rfl (.tmp 21) (.tmp 26) 81 rfl B 80 i0 (.agg #[.int .i64 0, .slice none 0 0]) 2 32 Tryd.underlying81 hi hz0 hz1 hz2 rfl (by decide) (.slice va m vc) m xs (by first | rfl | simp [Act.eval, Act.put] | simp [Act.eval, Act.put, Array.getElem?_setIfInBounds] | (simp [Act.eval]; rfl) | (simp [Act.eval]; go_simp)) ((unhide Hrow).alloc _) ⟨W.heap.size, 0, none⟩ 1 1 [.int .i64 num0, .slice ia il ic] (by first | rfl | simp [Act.eval, Act.put] | simp [Act.eval, Act.put, Array.getElem?_setIfInBounds] | (simp [Act.eval]; rfl) | (simp [Act.eval]; go_simp)) rfl (fun j u hj => news_new _ #[.int .i64 num0, .slice ia il ic] 80 j u hj) (by simp [Value.oneCell']) (by decide) (unhide O1) (unhide O2) (by rw [unhide Hsz2]; omega) (W.heap.size + 1) (unhide Hsz2 _ _) ?_; intro g9 c9 w9 hown9 hg9 hat9 hlt9; have hb9 : w9.heap[wb]? = W.heap[wb]? := (hg9.block wb (by rw [unhide Hsz2]; omega) (fun e => hvb e.symm)).trans (Below.heap_alloc W _ wb hbl); have hw9 : WkB w9 wb b tag depth kp num0 (.slice ia il ic) (.slice va m vc) := hb9.trans (unhide Hw); have e6 := (walk_cells hw9).2.2.2.2.2.2.1; have e5 := (walk_cells hw9).2.2.2.2.2.1; have e4 := (walk_cells hw9).2.2.2.2.1; have f46 := row_frozenT 6 hw9; have f44 := row_frozenT 4 hw9; have f45 := row_frozenT 5 hw9; have gb : g9 ≠ wb := (fun e => hat9.elim (fun q => hvb (by rw [q, e])) (fun q => by omega)); have Hw9 := hide hw9; have Hown := hide hown9; have HB9 : Hid (Fr W w9 (fun q => q = wb ∨ some q = (Value.slice va m vc).ownBlock)) := ⟨hg9.os, hg9.tape, hg9.output, (by have := hg9.size; rw [unhide Hsz2] at this; omega), fun q hq hn => (hg9.block q (by rw [unhide Hsz2]; omega) (fun e => hn (.inr e))).trans (Below.heap_alloc W _ q hq)⟩; have HT9 : Hid ((Value.slice (some ⟨g9, 0, none⟩) (m + 1) c9).ownBlock = (Value.slice va m vc).ownBlock ∨ ∃ g, (Value.slice (some ⟨g9, 0, none⟩) (m + 1) c9).ownBlock = some g ∧ W.heap.size ≤ g) := hat9.elim (fun q => .inl q.symm) (fun q => .inr ⟨g9, rfl, by omega⟩); clear hown9 hg9 hat9 hb9 hw9)
  all_goals go_wp2
  all_goals go_ret
  all_goals exact ⟨rfl, .slice (some ⟨g9, 0, none⟩) (m + 1) c9, heap_setCell_same _ wb 5 _ _ (.slice none 0 0) (heap_setCell_same _ wb 4 _ _ (.int .i64 (n : Int)) (heap_setCell_same _ wb 6 _ _ (.slice (some ⟨g9, 0, none⟩) (m + 1) c9) (unhide Hw9))), row_set gb (row_set gb (row_set gb (unhide Hown))), (((unhide HB9).set (.inl rfl) 6 _).set (.inl rfl) 4 _).set (.inl rfl) 5 _, unhide HT9⟩
end Go.Proofs.YtobomdokdajbaaaDoor

namespace Go.Proofs.YtobomdokdajbaaaDoor
open Go.RowKit
attribute [local go_sem ↓] Go.wp_at_zero Go.wp_at_succ

/-- A row stays where its block stays. -/
theorem row_keep {B : Nat} {W w : World} {e : TypeId} {z m : Nat} {v : Value} {xs : List Value} (h : W.ownsRow B e z v m xs) (hf : ∀ q, q < W.heap.size → v.ownBlock = some q → w.heap[q]? = W.heap[q]?) : w.ownsRow B e z v m xs := by
  obtain ⟨h1, ⟨rfl, h0⟩ | ⟨g, c, cur, rfl, h2, h3, h4⟩⟩ := h
  · exact ⟨h1, .inl ⟨rfl, h0⟩⟩
  · exact ⟨h1, .inr ⟨g, c, cur, rfl, h2, (hf g (Array.getElem?_eq_some_iff.1 h3).1 rfl).trans h3, h4⟩⟩
set_option maxRecDepth 100000 in
set_option maxHeartbeats 4000000 in
theorem end_keep {W : World} {B b wb g m n gc : Nat} {tag depth num1 : Int} {ia ja : Option Addr} {il ic jl jc : Nat} {xs ys : List Value} (hw : WkB W wb b tag depth true (n : Int) (.slice ia il ic) (.slice (some ⟨g, 0, none⟩) (m + 1) gc)) (hB : wb < B) (hBW : B ≤ W.heap.size) (hx : xs.length = m * 2) (hrow : W.ownsRow B 80 2 (.slice (some ⟨g, 0, none⟩) (m + 1) gc) (m + 1) (xs ++ [.int .i64 num1, .slice ja jl jc])) (hm : m ≤ 2097152) (hrec : W.ownsRow B 35 5 (.slice ja jl jc) jl ys) (hjl : jl ≤ 1048576) (hgj : (Value.slice ja jl jc).ownBlock ≠ some g) :
    Calls Tryd.prog 88 #[.pointer (some ⟨wb, 0, none⟩), .int .i64 (n : Int)] W fun e w => e = .returned (.int .i64 0) ∧ ∃ v', WkB w wb b tag depth true num1 v' (.slice (some ⟨g, 0, none⟩) m gc) ∧ w.ownsRow B 80 2 (.slice (some ⟨g, 0, none⟩) m gc) m xs ∧ w.ownsRow B 35 5 v' (jl + 1) (ys ++ [.int .i64 (n : Int), .int .i64 3, .int .i64 0, .string ⟨#[]⟩, .slice ia il ic]) ∧ Fr W w (fun q => q = wb ∨ some q = (Value.slice ja jl jc).ownBlock) ∧ (v'.ownBlock = (Value.slice ja jl jc).ownBlock ∨ ∃ g', v'.ownBlock = some g' ∧ W.heap.size ≤ g') := by
  obtain ⟨c0, c1, c2, c3, c4, c5, c6, f1⟩ := walk_cells hw
  obtain ⟨r0, r1, r2, r3, r4, r5, r6⟩ := row_pop hx hrow
  have hbl : wb < W.heap.size := (Array.getElem?_eq_some_iff.1 hw).1
  have d1 : ((n : Int) != (n : Int)) = false := by simp
  unfold maxLen at r3
  have hgc : ¬ gc = 0 := by omega
  have hm0 : (0 : Int) ≤ (m : Int) := Int.natCast_nonneg _
  have hm1 : (m : Int) ≤ (gc : Int) := by omega
  have hm2 : (m : Int) < ((m + 1 : Nat) : Int) := by omega
  have em : ((m + 1 : Nat) : Int) - 1 = (m : Int) := by omega
  obtain ⟨X, hX⟩ : ∃ X, X = W.alloc (.cells #[.int .i64 (n : Int), .int .i64 3, .int .i64 0, .string ⟨#[]⟩, .slice ia il ic] 35) := ⟨_, rfl⟩
  have hXB : Below W.heap.size W X := by rw [hX]; exact (Below.refl _ _).alloc (Nat.le_refl _) _
  have hXw : WkB X wb b tag depth true (n : Int) (.slice ia il ic) (.slice (some ⟨g, 0, none⟩) (m + 1) gc) := (hXB.block wb hbl).trans hw
  obtain ⟨x0, x1, x2, x3, x4, x5, x6, xf1⟩ := walk_cells hXw
  have y0 := (hXB.cell (p := ⟨g, m * 2, none⟩) r5).trans r0
  have y1 := (hXB.cell (p := ⟨g, m * 2 + 1, none⟩) r5).trans r1
  have xf4 := row_frozenT 4 hXw
  have xf5 := row_frozenT 5 hXw
  have xf6 := row_frozenT 6 hXw
  have hgw : g ≠ wb := by omega
  have zrow := rowUp r6 hXB
  have zrec := rowUp hrec hXB
  have Zrec := hide zrec
  have HXw := hide hXw
  have HXB := hide hXB
  have Zrow := hide zrow
  have hcr : X.cell? ⟨W.heap.size, 0, none⟩ = some (.int .i64 (n : Int)) ∧ X.cell? ⟨W.heap.size, 1, none⟩ = some (.int .i64 3) ∧ X.cell? ⟨W.heap.size, 2, none⟩ = some (.int .i64 0) ∧ X.cell? ⟨W.heap.size, 3, none⟩ = some (.string ⟨#[]⟩) ∧ X.cell? ⟨W.heap.size, 4, none⟩ = some (.slice ia il ic) := by
    rw [hX]
    refine ⟨?_, ?_, ?_, ?_, ?_⟩ <;> exact cell_of_row _ _ _ _ _ _ (heap_alloc_new _ _)
  obtain ⟨k0, k1, k2, k3, k4⟩ := hcr
  have HX := hide hX
  clear hw hrow r6 zrow zrec hrec hXB hXw hx r0 r1 r2 r3 r4 hX
  go_enter Tryd.func88, Tryd.ntmps88
  go_wp2_with fail
  rw [← unhide HX]
  clear c0 c1 c2 c3 c4 c5 c6 f1
  go_region
  all_goals go_wp2_with fail
  all_goals (
    have hwE : WkB ((((X.setCell ⟨wb, 4, none⟩ (.int .i64 num1)).setCell ⟨wb, 5, none⟩ (.slice ja jl jc)).setCell ⟨wb, 6, none⟩ (.slice (some ⟨g, 0, none⟩) m gc)).drew) wb b tag depth true num1 (.slice ja jl jc) (.slice (some ⟨g, 0, none⟩) m gc) := heap_setCell_same _ wb 6 _ _ _ (heap_setCell_same _ wb 5 _ _ _ (heap_setCell_same _ wb 4 _ _ _ (unhide HXw)))
    have hrE : ((((X.setCell ⟨wb, 4, none⟩ (.int .i64 num1)).setCell ⟨wb, 5, none⟩ (.slice ja jl jc)).setCell ⟨wb, 6, none⟩ (.slice (some ⟨g, 0, none⟩) m gc)).drew).ownsRow B 80 2 (.slice (some ⟨g, 0, none⟩) m gc) m xs := row_set hgw (row_set hgw (row_set hgw (unhide Zrow)))
    have hcE : ((((X.setCell ⟨wb, 4, none⟩ (.int .i64 num1)).setCell ⟨wb, 5, none⟩ (.slice ja jl jc)).setCell ⟨wb, 6, none⟩ (.slice (some ⟨g, 0, none⟩) m gc)).drew).ownsRow B 35 5 (.slice ja jl jc) jl ys := rowSetB (rowSetB (rowSetB (unhide Zrec) hB) hB) hB
    have hbE : Fr W ((((X.setCell ⟨wb, 4, none⟩ (.int .i64 num1)).setCell ⟨wb, 5, none⟩ (.slice ja jl jc)).setCell ⟨wb, 6, none⟩ (.slice (some ⟨g, 0, none⟩) m gc)).drew) (fun q => q = wb ∨ some q = (Value.slice ja jl jc).ownBlock) := by
      have q := ((((Fr.below (X := fun q => q = wb ∨ some q = (Value.slice ja jl jc).ownBlock) (unhide HXB)).set (.inl rfl) 4 (.int .i64 num1)).set (.inl rfl) 5 (.slice ja jl jc)).set (.inl rfl) 6 (.slice (some ⟨g, 0, none⟩) m gc))
      exact ⟨q.os, q.tape, q.output, q.size, q.far⟩
    have HwE := hide hwE
    have HrE := hide hrE
    have HcE := hide hcE
    have HbE := hide hbE
    clear hwE hrE hbE hcE
    refine (add_keep (unhide HwE) (unhide HcE) hB (Nat.le_trans hBW (unhide HbE).size) hjl).mono ?_
    rintro e w2 ⟨rfl, v', hfin⟩
    obtain ⟨f1, f2, f3⟩ := hfin
    have Hend : Hid (∃ v', WkB w2 wb b tag depth true num1 v' (.slice (some ⟨g, 0, none⟩) m gc) ∧ w2.ownsRow B 80 2 (.slice (some ⟨g, 0, none⟩) m gc) m xs ∧ w2.ownsRow B 35 5 v' (jl + 1) (ys ++ [.int .i64 (n : Int), .int .i64 3, .int .i64 0, .string ⟨#[]⟩, .slice ia il ic]) ∧ Fr W w2 (fun q => q = wb ∨ some q = (Value.slice ja jl jc).ownBlock) ∧ (v'.ownBlock = (Value.slice ja jl jc).ownBlock ∨ ∃ g', v'.ownBlock = some g' ∧ W.heap.size ≤ g')) := by
      refine ⟨v', f1, row_keep (unhide HrE) (fun q hq hn => f3.far q hq (by have := (unhide HrE).lt q hn; omega) (fun e => hgj (by rw [← e, ← hn]; rfl))), f2, (unhide HbE).trans f3.fr, ?_⟩
      rcases f3.blk with q | ⟨g', q1, q2⟩
      · exact .inl q
      · exact .inr ⟨g', q1, Nat.le_trans (unhide HbE).size q2⟩
    clear f1 f2 f3
    go_wp2
    go_ret
    exact ⟨rfl, unhide Hend⟩)
end Go.Proofs.YtobomdokdajbaaaDoor

namespace Go.Proofs.YtobomdokdajbaaaDoor
open Go.RowKit

/-- A record, with what lies in it. -/
inductive Rt where
  | mk (number kind : Nat) (num : Int) (text : ByteArray) (inner : List Rt)
def Rt.inner : Rt → List Rt | .mk _ _ _ _ l => l
def numT (n kd : Nat) : (Nat × Nat) ⊕ Nat → (Rt × Nat) ⊕ Nat
  | .inl (u, k') => .inl (.mk n kd (wrap64 (u : Int)) .empty [], k')
  | .inr c => .inr c
def texT (n : Nat) : (ByteArray × Nat) ⊕ Nat → (Rt × Nat) ⊕ Nat
  | .inl (t, k') => .inl (.mk n 2 0 t [], k')
  | .inr c => .inr c
/-- What is behind a tag that is no group's, with the record. -/
def bodyT (s : ByteArray) (st : Bool) (n k kd : Nat) : (Rt × Nat) ⊕ Nat := if kd = 0 then numT n 0 (vAt s st k) else if kd = 1 then numT n 1 (xAt s k 8) else if kd = 2 then texT n (tAt s st k) else numT n 5 (xAt s k 4)
def plcT (k : Nat) : (Rt × Nat) ⊕ Nat → (Rt × Nat) ⊕ (Nat × Nat)
  | .inl x => .inl x
  | .inr c => .inr (c, k)
def grpT (n : Nat) : (List Rt × Nat) ⊕ (Nat × Nat) → (Rt × Nat) ⊕ (Nat × Nat)
  | .inl (ts, k) => .inl (.mk n 3 0 .empty ts, k)
  | .inr x => .inr x
/-- The reference's records, with the records. -/
def recT (s : ByteArray) (st : Bool) (most : Int) : Nat → Nat → Nat → Nat → List Rt → (List Rt × Nat) ⊕ (Nat × Nat)
  | 0, _, _, k, _ => .inr (0, k)
  | f + 1, g, o, k, acc => if k = s.size then (if g = 0 then .inl (acc, k) else .inr (20, k)) else
    match tagR s st k with
    | .inr c => .inr (c, k)
    | .inl (n, kd, k') => if kd = 4 then (if n = g then .inl (acc, k') else .inr (25, k)) else if kd = 3 ∧ (o : Int) = most then .inr (4, k)
      else match (if kd = 3 then grpT n (recT s st most f n (o + 1) k' []) else plcT k' (bodyT s st n k' kd)) with
        | .inr x => .inr x
        | .inl (t, k2) => recT s st most f g o k2 (acc ++ [t])
/-- One step of the machine that keeps. -/
def tkT (s : ByteArray) (st : Bool) (depth : Int) (t k num : Nat) (acc : List Rt) (stk : List (Nat × List Rt)) (n kd : Nat) : (Nat × Nat × List Rt × List (Nat × List Rt)) ⊕ (Nat × Nat) :=
  if kd = 3 then (if depth ≤ (stk.length : Int) then .inr (4, t) else .inl (k, n, [], stk ++ [(num, acc)]))
  else if kd = 4 then (if num ≠ n then .inr (25, t) else match stk.getLast? with
    | some (x, a) => .inl (k, x, a ++ [.mk n 3 0 .empty acc], stk.dropLast)
    | none => .inr (25, t))
  else match bodyT s st n k kd with
    | .inl (r, k') => .inl (k', num, acc ++ [r], stk)
    | .inr c => .inr (c, k)
def stepT (s : ByteArray) (st : Bool) (depth : Int) (k num : Nat) (acc : List Rt) (stk : List (Nat × List Rt)) : (Nat × Nat × List Rt × List (Nat × List Rt)) ⊕ (Nat × Nat) :=
  match tagR s st k with
  | .inr c => .inr (c, k)
  | .inl (n, kd, k') => tkT s st depth k k' num acc stk n kd
def runT (s : ByteArray) (st : Bool) (depth : Int) : Nat → (Nat × Nat × List Rt × List (Nat × List Rt)) ⊕ (Nat × Nat) → (List Rt × Nat) ⊕ (Nat × Nat)
  | _, .inr x => .inr x
  | 0, .inl (k, _, _, _) => .inr (0, k)
  | f + 1, .inl (k, num, acc, stk) => if k = s.size then (if stk = [] then .inl (acc, k) else .inr (20, k)) else runT s st depth f (stepT s st depth k num acc stk)
theorem bodyT_lt {s : ByteArray} {st : Bool} {n k kd k' : Nat} {r : Rt} (h : bodyT s st n k kd = .inl (r, k')) : k ≤ k' ∧ k' ≤ s.size := by
  unfold bodyT at h
  split at h
  · generalize hv : vAt s st k = q at h
    match q, h with
    | .inl (u, k2), h =>
      have := vAt_lt hv
      obtain ⟨_, rfl⟩ := Prod.mk.inj (Sum.inl.inj h)
      omega
  · split at h
    · generalize hv : xAt s k 8 = q at h
      match q, h with
      | .inl (u, k2), h =>
        obtain ⟨_, rfl⟩ := Prod.mk.inj (Sum.inl.inj h)
        exact xAt_lt hv
    · split at h
      · generalize hv : tAt s st k = q at h
        match q, h with
        | .inl (u, k2), h =>
          obtain ⟨_, rfl⟩ := Prod.mk.inj (Sum.inl.inj h)
          exact tAt_lt hv
      · generalize hv : xAt s k 4 = q at h
        match q, h with
        | .inl (u, k2), h =>
          obtain ⟨_, rfl⟩ := Prod.mk.inj (Sum.inl.inj h)
          exact xAt_lt hv
theorem recT_lt (s : ByteArray) (st : Bool) (most : Int) : ∀ (F g o k : Nat) (acc ts : List Rt) (k2 : Nat), g ≠ 0 → k ≤ s.size → recT s st most F g o k acc = .inl (ts, k2) → k < k2 ∧ k2 ≤ s.size := by
  intro F
  induction F with
  | zero => intro g o k acc ts k2 _ _ h; cases h
  | succ F ih =>
    intro g o k acc ts k2 hg hk h
    rw [recT] at h
    split at h
    · first | (cases h; done) | (rw [if_neg hg] at h; cases h)
    · split at h
      · cases h
      · rename_i n kd k' ht
        have hb := tagR_lt ht
        split at h
        · split at h
          · obtain ⟨_, rfl⟩ := Prod.mk.inj (Sum.inl.inj h)
            omega
          · cases h
        · split at h
          · cases h
          · split at h
            · cases h
            · rename_i t k3 h3
              have hk3 : k' ≤ k3 ∧ k3 ≤ s.size := by
                split at h3
                · generalize hr : recT s st most F n (o + 1) k' [] = r at h3
                  match r, h3 with
                  | .inl (ts', k4), h3 =>
                    obtain ⟨_, rfl⟩ := Prod.mk.inj (Sum.inl.inj h3)
                    have := ih _ _ _ _ _ _ (by omega) hb.2.2.2.2 hr
                    omega
                · generalize hr : bodyT s st n k' kd = r at h3
                  match r, h3 with
                  | .inl (r', k4), h3 =>
                    obtain ⟨_, rfl⟩ := Prod.mk.inj (Sum.inl.inj h3)
                    exact bodyT_lt hr
              have := ih _ _ _ _ _ _ hg hk3.2 h
              omega
theorem runT_err (s : ByteArray) (st : Bool) (depth : Int) (f : Nat) (x : Nat × Nat) : runT s st depth f (.inr x) = .inr x := by cases f <;> rfl
theorem stepT_lt {s : ByteArray} {st : Bool} {depth : Int} {k num k2 num2 : Nat} {acc acc2 : List Rt} {stk stk2 : List (Nat × List Rt)} (h : stepT s st depth k num acc stk = .inl (k2, num2, acc2, stk2)) : k < k2 ∧ k2 ≤ s.size := by
  unfold stepT at h
  split at h
  · cases h
  · rename_i n kd k' ht
    have hb := tagR_lt ht
    unfold tkT at h
    split at h
    · split at h
      · cases h
      · obtain ⟨rfl, _⟩ := Prod.mk.inj (Sum.inl.inj h)
        omega
    · split at h
      · split at h
        · cases h
        · split at h
          · obtain ⟨rfl, _⟩ := Prod.mk.inj (Sum.inl.inj h)
            omega
          · cases h
      · split at h
        · rename_i r k4 hr
          obtain ⟨rfl, _⟩ := Prod.mk.inj (Sum.inl.inj h)
          have := bodyT_lt hr
          omega
        · cases h
/-- The fuel does not matter where there is enough. -/
theorem runT_fuel (s : ByteArray) (st : Bool) (depth : Int) : ∀ (f f' k num : Nat) (acc : List Rt) (stk : List (Nat × List Rt)), k ≤ s.size → s.size < k + f → s.size < k + f' → runT s st depth f (.inl (k, num, acc, stk)) = runT s st depth f' (.inl (k, num, acc, stk)) := by
  intro f
  induction f with
  | zero => intro f' k num acc stk hk h1 h2; omega
  | succ f ih =>
    intro f' k num acc stk hk h1 h2
    obtain ⟨f', rfl⟩ : ∃ q, f' = q + 1 := ⟨f' - 1, by omega⟩
    rw [runT, runT]
    by_cases hke : k = s.size
    · rw [if_pos hke, if_pos hke]
    · rw [if_neg hke, if_neg hke]
      generalize hr : stepT s st depth k num acc stk = r
      match r, hr with
      | .inr x, _ => rw [runT_err, runT_err]
      | .inl (k2, num2, acc2, stk2), hr =>
        have := stepT_lt hr
        exact ih f' k2 num2 acc2 stk2 this.2 (by omega) (by omega)
def goOnT (s : ByteArray) (st : Bool) (depth : Int) (f num : Nat) (acc0 : List Rt) (g : Nat) (stk : List (Nat × List Rt)) : (List Rt × Nat) ⊕ (Nat × Nat) → (List Rt × Nat) ⊕ (Nat × Nat)
  | .inr x => .inr x
  | .inl (ts, k2) => runT s st depth f (.inl (k2, num, acc0 ++ [.mk g 3 0 .empty ts], stk))
theorem recT_run (s : ByteArray) (st : Bool) (depth : Int) : ∀ (F g num k f f' : Nat) (acc acc0 : List Rt) (stk : List (Nat × List Rt)), k ≤ s.size → g ≠ 0 → (stk.length : Int) < depth → s.size < k + F → s.size < k + f → s.size < k + f' →
    runT s st depth f (.inl (k, g, acc, stk ++ [(num, acc0)])) = goOnT s st depth f' num acc0 g stk (recT s st depth F g (stk.length + 1) k acc) := by
  intro F
  induction F with
  | zero => intro g num k f f' acc acc0 stk hk _ _ h1; omega
  | succ F ih =>
    intro g num k f f' acc acc0 stk hk hg hd h1 h2 h3
    obtain ⟨f, rfl⟩ : ∃ q, f = q + 1 := ⟨f - 1, by omega⟩
    rw [runT, recT]
    by_cases hke : k = s.size
    · rw [if_pos hke, if_pos hke, if_neg (by simp), if_neg hg]
      rfl
    · rw [if_neg hke, if_neg hke]
      unfold stepT
      generalize ht : tagR s st k = r
      match r, ht with
      | .inr c, _ => exact runT_err _ _ _ _ _
      | .inl (n, kd, k'), ht =>
        have hb := tagR_lt ht
        show runT s st depth f (tkT s st depth k k' g acc (stk ++ [(num, acc0)]) n kd) = goOnT s st depth f' num acc0 g stk (if kd = 4 then (if n = g then .inl (acc, k') else .inr (25, k)) else if kd = 3 ∧ ((stk.length + 1 : Nat) : Int) = depth then .inr (4, k) else match (if kd = 3 then grpT n (recT s st depth F n (stk.length + 1 + 1) k' []) else plcT k' (bodyT s st n k' kd)) with | .inr x => .inr x | .inl (t, k2) => recT s st depth F g (stk.length + 1) k2 (acc ++ [t]))
        by_cases h4 : kd = 4
        · rw [if_pos h4]
          unfold tkT
          rw [if_neg (by omega), if_pos h4]
          by_cases hn : n = g
          · rw [if_pos hn, if_neg (by omega)]
            simp only [List.getLast?_append, List.getLast?_singleton, Option.some_or, List.dropLast_concat]
            rw [hn]
            exact runT_fuel s st depth f f' k' num _ stk hb.2.2.2.2 (by omega) (by omega)
          · rw [if_neg hn, if_pos (fun q => hn q.symm)]
            exact runT_err _ _ _ _ _
        · rw [if_neg h4]
          by_cases h3' : kd = 3
          · by_cases hm : ((stk.length + 1 : Nat) : Int) = depth
            · rw [if_pos ⟨h3', hm⟩]
              unfold tkT
              rw [if_pos h3', if_pos (by rw [List.length_append, List.length_singleton]; omega)]
              exact runT_err _ _ _ _ _
            · rw [if_neg (fun q => hm q.2), if_pos h3']
              unfold tkT
              rw [if_pos h3', if_neg (by rw [List.length_append, List.length_singleton]; omega)]
              have q := ih n g k' f f [] acc (stk ++ [(num, acc0)]) hb.2.2.2.2 (by omega) (by rw [List.length_append, List.length_singleton]; omega) (by omega) (by omega) (by omega)
              rw [q, List.length_append, List.length_singleton]
              generalize hr : recT s st depth F n (stk.length + 1 + 1) k' [] = r2
              match r2, hr with
              | .inr x, _ => rfl
              | .inl (ts, k2), hr =>
                have hk2 := recT_lt s st depth F _ _ _ _ _ _ (by omega) hb.2.2.2.2 hr
                exact ih g num k2 f f' (acc ++ [.mk n 3 0 .empty ts]) acc0 stk hk2.2 hg hd (by omega) (by omega) (by omega)
          · rw [if_neg (fun q => h3' q.1), if_neg h3']
            unfold tkT
            rw [if_neg h3', if_neg h4]
            generalize hr : bodyT s st n k' kd = r2
            match r2, hr with
            | .inr c, _ => exact runT_err _ _ _ _ _
            | .inl (t, k2), hr =>
              have hk2 := bodyT_lt hr
              exact ih g num k2 f f' (acc ++ [t]) acc0 stk hk2.2 hg hd (by omega) (by omega) (by omega)
/-- The machine from the top is the recursion. -/
theorem recT_top (s : ByteArray) (st : Bool) (depth : Int) (hd : 0 < depth) : ∀ (F k f : Nat) (acc : List Rt), k ≤ s.size → s.size < k + F → s.size < k + f → runT s st depth f (.inl (k, 0, acc, [])) = recT s st depth F 0 0 k acc := by
  intro F
  induction F with
  | zero => intro k f acc hk h1; omega
  | succ F ih =>
    intro k f acc hk h1 h2
    obtain ⟨f, rfl⟩ : ∃ q, f = q + 1 := ⟨f - 1, by omega⟩
    rw [runT, recT]
    by_cases hke : k = s.size
    · rw [if_pos hke, if_pos hke, if_pos rfl, if_pos rfl]
    · rw [if_neg hke, if_neg hke]
      unfold stepT
      generalize ht : tagR s st k = r
      match r, ht with
      | .inr c, _ => exact runT_err _ _ _ _ _
      | .inl (n, kd, k'), ht =>
        have hb := tagR_lt ht
        show runT s st depth f (tkT s st depth k k' 0 acc [] n kd) = (if kd = 4 then (if n = 0 then .inl (acc, k') else .inr (25, k)) else if kd = 3 ∧ ((0 : Nat) : Int) = depth then .inr (4, k) else match (if kd = 3 then grpT n (recT s st depth F n (0 + 1) k' []) else plcT k' (bodyT s st n k' kd)) with | .inr x => .inr x | .inl (t, k2) => recT s st depth F 0 0 k2 (acc ++ [t]))
        by_cases h4 : kd = 4
        · rw [if_pos h4, if_neg (by omega)]
          unfold tkT
          rw [if_neg (by omega), if_pos h4, if_pos (by omega)]
          exact runT_err _ _ _ _ _
        · rw [if_neg h4]
          by_cases h3' : kd = 3
          · rw [if_neg (fun q => by have := q.2; omega), if_pos h3']
            unfold tkT
            rw [if_pos h3', if_neg (by simp; omega)]
            have q := recT_run s st depth F n 0 k' f f [] acc [] hb.2.2.2.2 (by omega) (by simpa using hd) (by omega) (by omega) (by omega)
            show runT s st depth f (.inl (k', n, [], [] ++ [(0, acc)])) = _
            rw [q]
            show goOnT s st depth f 0 acc n [] (recT s st depth F n (0 + 1) k' []) = _
            generalize hr : recT s st depth F n (0 + 1) k' [] = r2
            match r2, hr with
            | .inr x, _ => rfl
            | .inl (ts, k2), hr =>
              have hk2 := recT_lt s st depth F _ _ _ _ _ _ (by omega) hb.2.2.2.2 hr
              exact ih k2 f (acc ++ [.mk n 3 0 .empty ts]) hk2.2 (by omega) (by omega)
          · rw [if_neg (fun q => h3' q.1), if_neg h3']
            unfold tkT
            rw [if_neg h3', if_neg h4]
            generalize hr : bodyT s st n k' kd = r2
            match r2, hr with
            | .inr c, _ => exact runT_err _ _ _ _ _
            | .inl (t, k2), hr =>
              have hk2 := bodyT_lt hr
              exact ih k2 f (acc ++ [t]) hk2.2 (by omega) (by omega)
#print axioms recT_top
end Go.Proofs.YtobomdokdajbaaaDoor
