import Derived.Test.YtlblllghgdfpoaaDoorJ14
import Derived.OrdersHeld
import Derived.Deep.MidRow

namespace Go.Proofs.YtlblllghgdfpoaaDoor
open Go.RowKit
attribute [local go_sem ↓] Go.wp_at_zero Go.wp_at_succ

theorem run_ok : ∀ (n : Nat) (s : St) (l : List Nat), s.Ok → (run n s l).Ok
  | 0, _, _, h => h
  | n + 1, s, l, _ => run_ok n _ _ ⟨Nat.mod_lt _ (by decide), Nat.mod_lt _ (by decide), Nat.mod_lt _ (by decide), Nat.mod_lt _ (by decide), Nat.mod_lt _ (by decide), Nat.mod_lt _ (by decide), Nat.mod_lt _ (by decide), Nat.mod_lt _ (by decide)⟩
theorem st0_ok : st0.Ok := by constructor <;> decide
theorem stOf_ok (l : List Nat) : (stOf l).Ok := run_ok _ _ _ st0_ok
theorem run_append : ∀ (n : Nat) (s : St) (a b : List Nat), a.length = 64 * n → run (n + 1) s (a ++ b) = block (run n s a) (wordsL 16 (b.take 64))
  | 0, s, a, b, h => by
    obtain rfl : a = [] := List.eq_nil_of_length_eq_zero (by omega)
    simp [run]
  | n + 1, s, a, b, h => by
    show run (n + 1) (block s (wordsL 16 ((a ++ b).take 64))) ((a ++ b).drop 64) = _
    rw [List.take_append_of_le_length (by omega), List.drop_append_of_le_length (by omega), run_append n _ (a.drop 64) b (by rw [List.length_drop]; omega)]
    rfl
theorem run_prefix : ∀ (n : Nat) (s : St) (a b : List Nat), 64 * n ≤ a.length → run n s (a ++ b) = run n s a
  | 0, _, _, _, _ => rfl
  | n + 1, s, a, b, h => by
    show run n (block s (wordsL 16 ((a ++ b).take 64))) ((a ++ b).drop 64) = _
    rw [List.take_append_of_le_length (by omega), List.drop_append_of_le_length (by omega), run_prefix n _ (a.drop 64) b (by rw [List.length_drop]; omega)]
    rfl
/-- No block is filled. -/
theorem stOf_more (a b : List Nat) (h : (a ++ b).length / 64 = a.length / 64) : stOf (a ++ b) = stOf a := by
  unfold stOf
  rw [h]
  exact run_prefix _ _ _ _ (by omega)
/-- A block is filled. -/
theorem stOf_full (a b : List Nat) (h : (a ++ b).length = 64 * (a.length / 64) + 64) : stOf (a ++ b) = block (stOf a) (wordsL 16 ((a ++ b).drop (64 * (a.length / 64)))) := by
  unfold stOf
  generalize hn : a.length / 64 = n at *
  have hq : (a ++ b).length / 64 = n + 1 := by omega
  rw [hq]
  have e1 : a ++ b = a.take (64 * n) ++ (a ++ b).drop (64 * n) := by
    conv => lhs; rw [← List.take_append_drop (64 * n) (a ++ b)]
    rw [List.take_append_of_le_length (by omega)]
  have e2 : ((a ++ b).drop (64 * n)).take 64 = (a ++ b).drop (64 * n) := List.take_of_length_le (by rw [List.length_drop]; omega)
  rw [e1, run_append n st0 _ _ (by rw [List.length_take]; omega), ← e1, e2]
  congr 1
  have e3 := run_prefix n st0 (a.take (64 * n)) (a.drop (64 * n)) (by rw [List.length_take]; omega)
  rw [List.take_append_drop] at e3
  exact e3.symm
/-- A hash's cells. -/
def hashCells (s : St) (r : List Nat) (n : Nat) : List Value := nw s.list ++ (nb r ++ [.int .i64 (n : Int)])
def HashAt (W : World) (h : Nat) (L : List Nat) : Prop := ∃ r : List Nat, r.length = 64 ∧ Byt r ∧ r.take (L.length % 64) = L.drop (64 * (L.length / 64)) ∧ W.heap[h]? = some (.cells (hashCells (stOf L) r L.length).toArray 86 (0, 0))
theorem hash_len (s : St) (r : List Nat) (n : Nat) (h : r.length = 64) : (hashCells s r n).length = 73 := by unfold hashCells; simp [h, St.list]
/-- The bytes that are copied. -/
theorem splice_hash (s : St) (r c : List Nat) (n o : Nat) (hr : r.length = 64) (hc : o + c.length ≤ 64) : splice (hashCells s r n) (8 + o) (nb c) = hashCells s (splice r o c) n := by
  unfold splice hashCells
  have hs : (nw s.list).length = 8 := by simp [St.list]
  rw [List.take_append, List.take_of_length_le (l := nw s.list) (by omega), hs, show 8 + o - 8 = o by omega, List.take_append_of_le_length (by rw [nb_len]; omega), List.drop_append, List.drop_eq_nil_of_le (by rw [nb_len]; omega), hs, nb_len, show 8 + o + c.length - 8 = o + c.length by omega, List.drop_append_of_le_length (by rw [nb_len]; omega)]
  unfold nb
  simp
theorem splice_len {α : Type} (r c : List α) (o : Nat) (h : o + c.length ≤ r.length) : (splice r o c).length = r.length := by unfold splice; simp; omega
end Go.Proofs.YtlblllghgdfpoaaDoor

namespace Go.Proofs.YtlblllghgdfpoaaDoor
open Go.RowKit
attribute [local go_sem ↓] Go.wp_at_zero Go.wp_at_succ

theorem only_setRow {A w : World} {g : Nat} (h : Only A g w) (cs : Array Value) : Only A g (w.setRow g cs) :=
  ⟨h.os, h.tape, h.output, by have := h.size; simpa [World.setRow] using this, fun k hk hn => (setRow_other w g k cs hn).trans (h.far k hk hn)⟩
theorem w_frozen' {W : World} {g : Nat} (i : Nat) {cs : Array Value} {t : TypeId} (h : W.heap[g]? = some (.cells cs t (0, 0))) : W.frozen? ⟨g, i, none⟩ = false := by
  unfold World.frozen?
  rw [h]
  simp
theorem slice_rest (w : World) (h o : Nat) (ho : o < 64) : (Instr.sliceAt 84 (.pointer (some ⟨h, 8, none⟩)) (some (.int .i64 (o : Int))) none none).run Tryd.prog w = .ok (.slice (some ⟨h, 8 + o, none⟩) (64 - o) (64 - o)) w := by
  have hsz : (Tryd.prog.info? 5).map (·.size) = some 1 := by kernel_rfl
  obtain ⟨i0, hi0, hi1⟩ := Option.map_eq_some_iff.1 hsz
  have h3 : ¬ 64 = o := by omega
  have h4 : (⟨h, 8, none⟩ : Addr).add o = ⟨h, 8 + o, none⟩ := Addr.add_mid h 8 o
  have hb : (Instr.sliceBound (.int .i64 (o : Int)) 64 BoundsCode.sliceB).run Tryd.prog w = .ok o w := by
    have := run_sliceBound (P := Tryd.prog) (w := w) .i64 (o : Int) 64 BoundsCode.sliceB (by omega) (by omega)
    simpa using this
  simp [Instr.sliceAt, Instr.sureAddr, run_underlying Tryd.underlying84, Instr.sliceBounds, sizeOf, typeInfo, hi0, hi1, hb, h3, h4]
theorem min_cases (m o : Nat) (hm : 0 < m) (ho : o < 64) : ∃ n, Nat.min m (64 - o) = n ∧ n ≤ m ∧ n ≤ 64 - o ∧ 0 < n ∧ (n = m ∨ n = 64 - o) := by
  by_cases q : m ≤ 64 - o
  · exact ⟨m, Nat.min_eq_left q, by omega, by omega, by omega, .inl rfl⟩
  · exact ⟨64 - o, Nat.min_eq_right (by omega), by omega, by omega, by omega, .inr rfl⟩
theorem step_copy_only {P : Program} {ops : Array Oper} {o : Oper} {a : Act} {w : World} {K : Act → World → Prop} {Q : Exit → Act → World → Prop} {E : Prop} (hgd : o.guard = none) (d s : Operand) (dT sT : TypeId)
    (ho : o.op = .call { callee := .builtin .copy, args := #[d, s], argTypes := #[dT, sT] }) (elem : TypeId) (hu : P.underlying dT = some (.slice elem)) (hsz : (P.info? elem).map (·.size) = some 1)
    (ad : Addr) (dLen dCap sLen sCap : Nat) (g off : Nat) (hd : a.eval d = .slice (some ⟨g, off, none⟩) dLen dCap) (hs : a.eval s = .slice (some ad) sLen sCap)
    (cur : List Value) (t : TypeId) (hg : w.heap[g]? = some (.cells cur.toArray t (0, 0))) (cs : List Value) (hn : cs.length = Nat.min sLen dLen)
    (hsrc : ∀ j v, cs[j]? = some v → w.cell? (ad.add j) = some v)
    (hfit : off + cs.length ≤ cur.length) (h1 : ∀ v ∈ cs, v.oneCell' = true) (w0 : World) (hb : Only w0 g w)
    (h : ∀ w', Hid (w'.heap[g]? = some (.cells (splice cur off cs).toArray t (0, 0))) → Only w0 g w' → K (a.put o.dst (goInt cs.length)) w') :
    if Region.wanted o (yielded ops a.tmps) = true then Oper.wp P o a w K Q else E := by
  have hw : Region.wanted o (yielded ops a.tmps) = true := by simp [Region.wanted, hgd]
  rw [if_pos hw]
  have hrun := run_copy_row (P := P) w dT sT o.type elem g off dLen dCap ad sLen sCap cur.toArray t cs hu hsz hg hn hsrc (by simpa using hfit) h1
  unfold Oper.wp
  simp [execOp, ho, resolve, invoke, builtin, hd, hs, hrun, Result.andThen]
  exact h _ (show _ = _ by simpa [splice] using setRow_heap w g _ _ t _ hg) (only_setRow hb _)

theorem rest_step {M cs r : List Nat} {o : Nat} (hr : r.length = 64) (ho : o = M.length % 64) (hrt : r.take o = M.drop (64 * (M.length / 64))) : (splice r o cs).take (o + cs.length) = (M ++ cs).drop (64 * (M.length / 64)) := by
  have h1 : (r.take o).length = o := by rw [List.length_take]; omega
  unfold splice
  rw [← List.append_assoc, List.take_append_of_le_length (by rw [List.length_append, h1]; omega), List.take_of_length_le (by rw [List.length_append, h1]; omega), List.drop_append_of_le_length (by omega), hrt]
theorem hash_set (s : St) (r : List Nat) (n n' : Nat) (hr : r.length = 64) : (hashCells s r n).set 72 (.int .i64 (n' : Int)) = hashCells s r n' := by
  unfold hashCells
  have h1 : (nw s.list).length = 8 := by simp [St.list]
  rw [List.set_append, if_neg (by omega), List.set_append, if_neg (by rw [nb_len]; omega), h1, nb_len, hr]
  rfl
theorem splice_byt {r c : List Nat} (hr : Byt r) (hc : Byt c) (o : Nat) : Byt (splice r o c) := by
  intro x hx
  unfold splice at hx
  rcases List.mem_append.1 hx with q | q
  · exact hr x (List.mem_of_mem_take q)
  · rcases List.mem_append.1 q with q | q
    · exact hc x q
    · exact hr x (List.mem_of_mem_drop q)
theorem hash_range (W : World) (h : Nat) (s : St) (r : List Nat) (n : Nat) (hr : r.length = 64) (hb : W.heap[h]? = some (.cells (hashCells s r n).toArray 86 (0, 0))) : W.rangeAt h 0 (nw s.list) ∧ W.rangeAt h 8 (nb r) ∧ W.there h 0 8 := by
  have h1 : (nw s.list).length = 8 := by simp [St.list]
  refine ⟨fun j v hv => ?_, fun j v hv => ?_, fun j hj => ⟨?_, w_frozen' _ hb⟩⟩
  · rw [Nat.zero_add, cell_of_row _ _ _ _ _ _ hb, List.getElem?_toArray]
    unfold hashCells
    rw [List.getElem?_append_left (List.getElem?_eq_some_iff.1 hv).1]
    exact hv
  · rw [cell_of_row _ _ _ _ _ _ hb, List.getElem?_toArray]
    unfold hashCells
    rw [List.getElem?_append_right (by omega), h1, show 8 + j - 8 = j by omega, List.getElem?_append_left (List.getElem?_eq_some_iff.1 hv).1]
    exact hv
  · rw [Nat.zero_add, cell_of_row _ _ _ _ _ _ hb, List.getElem?_toArray, List.getElem?_eq_getElem (by rw [hash_len _ _ _ hr]; omega)]
    rfl

theorem hash_store {W : World} {h : Nat} {s : St} {r : List Nat} {n : Nat} (hr : r.length = 64) (hb : W.heap[h]? = some (.cells (hashCells s r n).toArray 86 (0, 0))) (n' : Nat) : (W.setCell ⟨h, 72, none⟩ (.int .i64 (n' : Int))).heap[h]? = some (.cells (hashCells s r n').toArray 86 (0, 0)) := by
  rw [heap_setCell_same _ h 72 _ _ _ hb]
  congr 2
  rw [← hash_set s r n n' hr]
  simp
theorem only_set {A w : World} {g : Nat} (h : Only A g w) (i : Nat) (v : Value) : Only A g (w.setCell ⟨g, i, none⟩ v) := only_setCells g [v] i A w h
/-- A hash behind some more bytes. -/
theorem hash_more {W : World} {h : Nat} {M cs r : List Nat} {o n : Nat} (hr : r.length = 64) (hrb : Byt r) (ho : o = M.length % 64) (hrt : r.take o = M.drop (64 * (M.length / 64))) (hcs : cs.length = n) (hcb : Byt cs) (hn : o + n < 64)
    (hb : W.heap[h]? = some (.cells (hashCells (stOf M) (splice r o cs) (M.length + n)).toArray 86 (0, 0))) : HashAt W h (M ++ cs) := by
  have hl : (M ++ cs).length = M.length + n := by rw [List.length_append, hcs]
  refine ⟨splice r o cs, by rw [splice_len _ _ _ (by omega), hr], splice_byt hrb hcb o, ?_, ?_⟩
  · have := rest_step (cs := cs) hr ho hrt
    rw [hl, show (M.length + n) % 64 = o + cs.length by omega, show (M.length + n) / 64 = M.length / 64 by omega]
    exact this
  · rw [stOf_more M cs (by rw [hl]; omega), hl]
    exact hb
theorem hash_full {W : World} {h : Nat} {M cs r : List Nat} {o n : Nat} (hr : r.length = 64) (hrb : Byt r) (ho : o = M.length % 64) (hrt : r.take o = M.drop (64 * (M.length / 64))) (hcs : cs.length = n) (hcb : Byt cs) (hn : o + n = 64)
    (hb : W.heap[h]? = some (.cells (hashCells (block (stOf M) (wordsL 16 (splice r o cs))) (splice r o cs) (M.length + n)).toArray 86 (0, 0))) : HashAt W h (M ++ cs) := by
  have hl : (M ++ cs).length = M.length + n := by rw [List.length_append, hcs]
  have hsl : (splice r o cs).length = 64 := by rw [splice_len _ _ _ (by omega), hr]
  have hst := rest_step (cs := cs) hr ho hrt
  rw [List.take_of_length_le (by omega)] at hst
  refine ⟨splice r o cs, hsl, splice_byt hrb hcb o, ?_, ?_⟩
  · rw [hl, show (M.length + n) % 64 = 0 by omega, List.take_zero, List.drop_eq_nil_of_le (by rw [hl]; omega)]
  · rw [stOf_full M cs (by rw [hl]; omega), hl, ← hst]
    exact hb
end Go.Proofs.YtlblllghgdfpoaaDoor

namespace Go.Proofs.YtlblllghgdfpoaaDoor
open Go.RowKit
attribute [local go_sem ↓] Go.wp_at_zero Go.wp_at_succ

theorem step_call {P : Program} {ops : Array Oper} {o : Oper} {a : Act} {w : World} {K : Act → World → Prop} {Q : Exit → Act → World → Prop} {E : Prop} (hgd : o.guard = none) (f : FuncId) (hfn : ∀ vs, (callFunc f vs).run P w = .ok (.enter f vs) w) (args : Array Operand) (tys : Array TypeId)
    (ho : o.op = .call { callee := .value (.func f), args := args, argTypes := tys }) (vs : Array Value) (hv : args.map a.eval = vs) {R : Ending → World → Prop} (hc : Calls P f vs w R) (hK : ∀ e w', R e w' → ∃ v, e = .returned v ∧ K (a.put o.dst v) w') :
    if Region.wanted o (yielded ops a.tmps) = true then Oper.wp P o a w K Q else E := by
  have hw : Region.wanted o (yielded ops a.tmps) = true := by simp [Region.wanted, hgd]
  rw [if_pos hw]
  have h2 : Oper.wp P o a w K Q = o.upon P a K Q (.ok (.enter f vs) w) := by
    unfold Oper.wp
    simp [execOp, ho, resolve, invoke, ← hv, Act.eval, Deferred.ofValue, hfn]
  rw [h2, Oper.upon_enter]
  refine hc.mono ?_
  intro e w' hr
  obtain ⟨v, rfl, hk⟩ := hK e w' hr
  exact hk
theorem step_load_mid {P : Program} {ops : Array Oper} {o : Oper} {a : Act} {w : World} {K : Act → World → Prop} {Q : Exit → Act → World → Prop} {E : Prop} (hgd : o.guard = none) (ty : TypeId) (x : Operand) (ho : o.op = .load ty x)
    (b off : Nat) (hx : a.eval x = .pointer (some ⟨b, off, none⟩)) (cs : List Value) (d : TypeDesc) (hc : w.rangeAt b off cs) (hu : P.underlying ty = some d) (hd : d.isRow = true) (hi : (P.info? ty).map (·.size) = some cs.length)
    (h : K (a.put o.dst (.agg cs.toArray)) w) : if Region.wanted o (yielded ops a.tmps) = true then Oper.wp P o a w K Q else E := by
  have hw : Region.wanted o (yielded ops a.tmps) = true := by simp [Region.wanted, hgd]
  rw [if_pos hw]
  exact wp_load_mid ty x ho b off hx cs d hc hu hd hi h
theorem callW (w : World) (vs : Array Value) : (callFunc 60 vs).run Tryd.prog w = .ok (.enter 60 vs) w := by
  have hn : ¬ Tryd.f60.name = "runtime.NumGoroutine" := by decide +kernel
  have hb : Tryd.f60.body.isSome = true := by kernel_rfl
  obtain ⟨c, hc⟩ := Option.isSome_iff_exists.1 hb
  simp [callFunc, Tryd.func60, hn, hc]
theorem callA (w : World) (vs : Array Value) : (callFunc 59 vs).run Tryd.prog w = .ok (.enter 59 vs) w := by
  have hn : ¬ Tryd.f59.name = "runtime.NumGoroutine" := by decide +kernel
  have hb : Tryd.f59.body.isSome = true := by kernel_rfl
  obtain ⟨c, hc⟩ := Option.isSome_iff_exists.1 hb
  simp [callFunc, Tryd.func59, hn, hc]
theorem keep8 {w : World} {h : Nat} {l : List Value} (x0 x1 x2 x3 x4 x5 x6 x7 : Value) (hq : w.rangeAt h 8 l ∧ w.there h 0 8) : (((((((((w.setCell ⟨h, 0, none⟩ x0).setCell ⟨h, 1, none⟩ x1).setCell ⟨h, 2, none⟩ x2).setCell ⟨h, 3, none⟩ x3).setCell ⟨h, 4, none⟩ x4).setCell ⟨h, 5, none⟩ x5).setCell ⟨h, 6, none⟩ x6).setCell ⟨h, 7, none⟩ x7)).rangeAt h 8 l ∧ (((((((((w.setCell ⟨h, 0, none⟩ x0).setCell ⟨h, 1, none⟩ x1).setCell ⟨h, 2, none⟩ x2).setCell ⟨h, 3, none⟩ x3).setCell ⟨h, 4, none⟩ x4).setCell ⟨h, 5, none⟩ x5).setCell ⟨h, 6, none⟩ x6).setCell ⟨h, 7, none⟩ x7)).there h 0 8 :=
  ⟨World.rangeAt_setCells_apart hq.1 h 0 [x0, x1, x2, x3, x4, x5, x6, x7] (.inr (.inr (by simp))), World.there_setCells hq.2 h 0 [x0, x1, x2, x3, x4, x5, x6, x7]⟩
theorem after_lit {W : World} (hK : HasK W) (sa sb sc sd se sf sg sh : Nat) (hok : (⟨sa, sb, sc, sd, se, sf, sg, sh⟩ : St).Ok) (w16 : List Nat) (hl : w16.length = 16) (hw : W32 w16) :
    Calls Tryd.prog 59 #[.agg #[.int .u32 (sa : Int), .int .u32 (sb : Int), .int .u32 (sc : Int), .int .u32 (sd : Int), .int .u32 (se : Int), .int .u32 (sf : Int), .int .u32 (sg : Int), .int .u32 (sh : Int)], .agg (nw w16).toArray] W fun e W' => ∃ (ta tb tc td te tf tg th : Nat), e = .returned (.agg #[.int .u32 (ta : Int), .int .u32 (tb : Int), .int .u32 (tc : Int), .int .u32 (td : Int), .int .u32 (te : Int), .int .u32 (tf : Int), .int .u32 (tg : Int), .int .u32 (th : Int)]) ∧ Hid (block ⟨sa, sb, sc, sd, se, sf, sg, sh⟩ w16 = ⟨ta, tb, tc, td, te, tf, tg, th⟩) ∧ Below W.heap.size W W' := by
  refine (after_any hK ⟨sa, sb, sc, sd, se, sf, sg, sh⟩ hok w16 hl hw).mono ?_
  rintro e W' ⟨he, hb⟩
  generalize block (⟨sa, sb, sc, sd, se, sf, sg, sh⟩ : St) w16 = bk at *
  obtain ⟨ta, tb, tc, td, te, tf, tg, th⟩ := bk
  exact ⟨ta, tb, tc, td, te, tf, tg, th, he, hide rfl, hb⟩
theorem eight {W : World} {b sa sb sc sd se sf sg sh : Nat} (h : Arr W b (St.list ⟨sa, sb, sc, sd, se, sf, sg, sh⟩)) : (W.cell? ⟨b, 0, none⟩ = some (.int .u32 (sa : Int)) ∧ W.cell? ⟨b, 1, none⟩ = some (.int .u32 (sb : Int)) ∧ W.cell? ⟨b, 2, none⟩ = some (.int .u32 (sc : Int)) ∧ W.cell? ⟨b, 3, none⟩ = some (.int .u32 (sd : Int)) ∧ W.cell? ⟨b, 4, none⟩ = some (.int .u32 (se : Int)) ∧ W.cell? ⟨b, 5, none⟩ = some (.int .u32 (sf : Int)) ∧ W.cell? ⟨b, 6, none⟩ = some (.int .u32 (sg : Int)) ∧ W.cell? ⟨b, 7, none⟩ = some (.int .u32 (sh : Int))) ∧ (W.frozen? ⟨b, 0, none⟩ = false ∧ W.frozen? ⟨b, 1, none⟩ = false ∧ W.frozen? ⟨b, 2, none⟩ = false ∧ W.frozen? ⟨b, 3, none⟩ = false ∧ W.frozen? ⟨b, 4, none⟩ = false ∧ W.frozen? ⟨b, 5, none⟩ = false ∧ W.frozen? ⟨b, 6, none⟩ = false ∧ W.frozen? ⟨b, 7, none⟩ = false) :=
  ⟨⟨h.cell (i := 0) rfl, h.cell (i := 1) rfl, h.cell (i := 2) rfl, h.cell (i := 3) rfl, h.cell (i := 4) rfl, h.cell (i := 5) rfl, h.cell (i := 6) rfl, h.cell (i := 7) rfl⟩, ⟨h.frozen (i := 0) (by show _ < 8; decide), h.frozen (i := 1) (by show _ < 8; decide), h.frozen (i := 2) (by show _ < 8; decide), h.frozen (i := 3) (by show _ < 8; decide), h.frozen (i := 4) (by show _ < 8; decide), h.frozen (i := 5) (by show _ < 8; decide), h.frozen (i := 6) (by show _ < 8; decide), h.frozen (i := 7) (by show _ < 8; decide)⟩⟩
theorem hash_now {W : World} {h n : Nat} {r : List Nat} {sa sb sc sd se sf sg sh : Nat} (hb : W.heap[h]? = some (.cells (hashCells ⟨sa, sb, sc, sd, se, sf, sg, sh⟩ r n).toArray 86 (0, 0))) (ta tb tc td te tf tg th : Nat) : ((((((((W.setCell ⟨h, 0, none⟩ (.int .u32 (ta : Int))).setCell ⟨h, 1, none⟩ (.int .u32 (tb : Int))).setCell ⟨h, 2, none⟩ (.int .u32 (tc : Int))).setCell ⟨h, 3, none⟩ (.int .u32 (td : Int))).setCell ⟨h, 4, none⟩ (.int .u32 (te : Int))).setCell ⟨h, 5, none⟩ (.int .u32 (tf : Int))).setCell ⟨h, 6, none⟩ (.int .u32 (tg : Int))).setCell ⟨h, 7, none⟩ (.int .u32 (th : Int))).heap[h]? = some (.cells (hashCells ⟨ta, tb, tc, td, te, tf, tg, th⟩ r n).toArray 86 (0, 0)) ∧ Only W h ((((((((W.setCell ⟨h, 0, none⟩ (.int .u32 (ta : Int))).setCell ⟨h, 1, none⟩ (.int .u32 (tb : Int))).setCell ⟨h, 2, none⟩ (.int .u32 (tc : Int))).setCell ⟨h, 3, none⟩ (.int .u32 (td : Int))).setCell ⟨h, 4, none⟩ (.int .u32 (te : Int))).setCell ⟨h, 5, none⟩ (.int .u32 (tf : Int))).setCell ⟨h, 6, none⟩ (.int .u32 (tg : Int))).setCell ⟨h, 7, none⟩ (.int .u32 (th : Int))) := by
  refine ⟨?_, only_setCells h [.int .u32 (ta : Int), .int .u32 (tb : Int), .int .u32 (tc : Int), .int .u32 (td : Int), .int .u32 (te : Int), .int .u32 (tf : Int), .int .u32 (tg : Int), .int .u32 (th : Int)] 0 W W (Only.refl _ _)⟩
  rw [(heap_setCell_same _ h 7 _ _ _ (heap_setCell_same _ h 6 _ _ _ (heap_setCell_same _ h 5 _ _ _ (heap_setCell_same _ h 4 _ _ _ (heap_setCell_same _ h 3 _ _ _ (heap_setCell_same _ h 2 _ _ _ (heap_setCell_same _ h 1 _ _ _ (heap_setCell_same _ h 0 _ _ _ hb))))))))]
  have e : ((((((((hashCells ⟨sa, sb, sc, sd, se, sf, sg, sh⟩ r n).set 0 (.int .u32 (ta : Int))).set 1 (.int .u32 (tb : Int))).set 2 (.int .u32 (tc : Int))).set 3 (.int .u32 (td : Int))).set 4 (.int .u32 (te : Int))).set 5 (.int .u32 (tf : Int))).set 6 (.int .u32 (tg : Int))).set 7 (.int .u32 (th : Int)) = hashCells ⟨ta, tb, tc, td, te, tf, tg, th⟩ r n := rfl
  simp only [List.setIfInBounds_toArray]
  rw [e]
theorem hasK_only {W w : World} {h : Nat} (hK : HasK W) (hO : Only W h w) (hne : 2 ≠ h) : HasK w := ⟨Nat.lt_of_lt_of_le hK.1 hO.size, fun i k hk => (cell_heap (p := ⟨2, i, none⟩) (hO.far _ hK.1 hne)).trans (hK.2 i k hk)⟩
end Go.Proofs.YtlblllghgdfpoaaDoor

namespace Go.Proofs.YtlblllghgdfpoaaDoor
open Go.RowKit
attribute [local go_sem ↓] Go.wp_at_zero Go.wp_at_succ

section
variable {P : Program} {ops : Array Oper} {Q : Exit → Act → World → Prop} {md : Region.Mode} {T : World → Prop} {z : Nat}
/-- Every order from here on, and T holds behind each operation but number z. -/
def wpAnyZ (P : Program) (md : Region.Mode) (ops : Array Oper) (Q : Exit → Act → World → Prop) (T : World → Prop) (z : Nat) : Nat → Array Bool → Act → World → Prop
  | 0, d, a, w => Region.ready md ops d = [] ∧ Q .normal a w
  | n + 1, d, a, w => (Region.ready md ops d = [] → Q .normal a w) ∧ ∀ i ∈ Region.ready md ops d, wpOp P ops Q i (fun a' w' => (i ≠ z → T w') ∧ wpAnyZ P md ops Q T z n (d.setIfInBounds i true) a' w') a w
theorem wpAny_of_Z : ∀ (n : Nat) (d : Array Bool) (a : Act) (w : World), wpAnyZ P md ops Q T z n d a w → wpAny P md ops Q n d a w
  | 0, _, _, _, h => h
  | n + 1, _, _, _, h => ⟨h.1, fun i hi => wpOp_mono (fun a' w' h' => wpAny_of_Z n _ a' w' h'.2) (h.2 i hi)⟩
/-- Number i comes first: all that z does comes behind it. -/
theorem wpAnyZ_go {i : Nat} {oi oz : Oper} {v : Value} (hi : ops[i]? = some oi) (hz : ops[z]? = some oz) (hw : ∃ e ∈ oz.after, Region.binds md e = true ∧ e.on = i) (hs : ∀ (j : Nat) (o : Oper) cs b, ops[j]? = some o → o.op ≠ .select cs b)
    (hQ : ∀ c a w, Q (.panic c) (a.put oi.dst v) w → Q (.panic c) a w) : ∀ (n : Nat) (d : Array Bool) (a : Act) (w : World),
      (∀ j oj, ops[j]? = some oj → j ≠ i → d.getD j true = false → (∀ e ∈ oj.after, Region.binds md e = true → e.on ≠ i) → oi.apart ops oj = true) → i ∈ Region.ready md ops d → YieldsIf P ops T oi v a → T w →
      wpAnyZ P md ops Q T z n (d.setIfInBounds i true) (a.put oi.dst v) w → wpAnyZ P md ops Q T z (n + 1) d a w := by
  intro n
  induction n with
  | zero =>
    intro d a w _ hr hy hT H
    refine ⟨fun h => (by rw [h] at hr; cases hr), fun j hj => ?_⟩
    by_cases e : j = i
    · rw [e]; exact hy.wpOp hi hT ⟨fun _ => hT, H⟩
    · have q := ready_mono hj e
      rw [H.1] at q
      cases q
  | succ n ih =>
    intro d a w hf hr hy hT H
    refine ⟨fun h => (by rw [h] at hr; cases hr), fun j hj => ?_⟩
    by_cases e : j = i
    · rw [e]; exact hy.wpOp hi hT ⟨fun _ => hT, H⟩
    · obtain ⟨hd, oj, hoj, hall⟩ := mem_ready.1 hj
      have hd0 := (mem_ready.1 hr).1
      have hno : ∀ x ∈ oj.after, Region.binds md x = true → x.on ≠ i := fun x hx hb hxi => by
        have q := hall x hx hb
        rw [hxi] at q
        rcases Nat.lt_or_ge i d.size with q1 | q1
        · simp [q1] at hd0 q
          rw [hd0] at q
          cases q
        · simp [Array.getElem?_eq_none q1] at q
      have hjz : j ≠ z := fun q => by
        subst q
        obtain ⟨x, hx, hb, hxi⟩ := hw
        rw [hz] at hoj
        obtain rfl := Option.some.inj hoj
        exact hno x hx hb hxi
      have h2 := wpOp_putIf hoj (hf j oj hoj e hd hno) (fun cs b => hs i oi cs b hi) (fun cs b => hs j oj cs b hoj) hQ hy (H.2 j (ready_mono hj e))
      refine wpOp_mono (fun a' w' h3 => ⟨h3.2.1, ih (d.setIfInBounds j true) a' w' (fun k ok hk hki hun hn => hf k ok hk hki ?_ hn) (ready_mono hr (Ne.symm e)) h3.1 (h3.2.1 hjz) ?_⟩) h2
      · by_cases hjk : j = k
        · rw [← hjk]; exact hd
        · rwa [getD_set_ne true hjk] at hun
      · rw [Array.setIfInBounds_comm _ _ e]
        exact h3.2.2
/-- The number waits for i. -/
def waits (md : Region.Mode) (ops : Array Oper) (z i : Nat) : Bool := match ops[z]? with
  | none => false
  | some o => o.after.any fun e => Region.binds md e && e.on == i
theorem wpAnyZ_take (i : Nat) {oi : Oper} (v : Value) (x : Tmp) {n : Nat} {d : Array Bool} {a : Act} {w : World} (hi : ops[i]? = some oi) (hx : oi.dst = some x) (hw : waits md ops z i = true) (hs : Region.noSelect ops = true) (hf : Region.free md ops d i = true) (hr : (Region.ready md ops d).contains i = true)
    (hQ : ∀ c a w, Q (.panic c) (a.put (some x) v) w → Q (.panic c) a w) (hy : YieldsIf P ops T oi v a) (hT : T w) (h : wpAnyZ P md ops Q T z n (d.setIfInBounds i true) (a.put (some x) v) w) : wpAnyZ P md ops Q T z (n + 1) d a w := by
  rw [← hx] at hQ h
  unfold waits at hw
  split at hw
  · cases hw
  · rename_i oz hz
    obtain ⟨e, he, hb⟩ := Array.any_eq_true'.1 hw
    simp only [Bool.and_eq_true, beq_iff_eq] at hb
    exact wpAnyZ_go hi hz ⟨e, he, hb.1, hb.2⟩ (Region.noSelect_spec hs) hQ n d a w (Region.free_spec hi hf) (by simpa using hr) hy hT h
/-- One alone may come up. -/
theorem wpAnyZ_one (i : Nat) {o : Oper} {n : Nat} {d : Array Bool} {a : Act} {w : World} (hr : Region.ready md ops d = [i]) (ho : ops[i]? = some o)
    (h : ∀ K : Act → World → Prop, (∀ a' w', ((i ≠ z → T w') ∧ wpAnyZ P md ops Q T z n (d.setIfInBounds i true) a' w') → K a' w') → if Region.wanted o (yielded ops a.tmps) = true then Oper.wp P o a w K Q else K (a.put o.dst undef) w) : wpAnyZ P md ops Q T z (n + 1) d a w := by
  refine ⟨fun h0 => (by rw [h0] at hr; cases hr), fun j hj => ?_⟩
  rw [hr] at hj
  obtain rfl : j = i := by simpa using hj
  exact wpOp_step ho h
theorem step_callD {o : Oper} {a : Act} {w : World} {K : Act → World → Prop} {E : Prop} (x : Tmp) (hx : o.dst = some x) (hgd : o.guard = none) (f : FuncId) (hfn : ∀ vs, (callFunc f vs).run P w = .ok (.enter f vs) w) (args : Array Operand) (tys : Array TypeId)
    (ho : o.op = .call { callee := .value (.func f), args := args, argTypes := tys }) (vs : Array Value) (hv : args.map a.eval = vs) {R : Ending → World → Prop} (hc : Calls P f vs w R) (hK : ∀ e w', R e w' → ∃ v, e = .returned v ∧ K (a.put (some x) v) w') :
    if Region.wanted o (yielded ops a.tmps) = true then Oper.wp P o a w K Q else E :=
  step_call hgd f hfn args tys ho vs hv hc (by rw [hx]; exact hK)
theorem wpAnyZ_done {n : Nat} {d : Array Bool} {a : Act} {w : World} (hr : Region.ready md ops d = []) (h : Q .normal a w) : wpAnyZ P md ops Q T z n d a w := by
  cases n with
  | zero => exact ⟨hr, h⟩
  | succ n => exact ⟨fun _ => h, fun i hi => by rw [hr] at hi; cases hi⟩
end
end Go.Proofs.YtlblllghgdfpoaaDoor
