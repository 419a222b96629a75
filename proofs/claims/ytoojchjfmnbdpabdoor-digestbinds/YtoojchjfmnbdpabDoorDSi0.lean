import Derived.Test.YtoojchjfmnbdpabDoorDSh
namespace Go.Proofs.YtoojchjfmnbdpabDoor
open Go.RowKit
attribute [local go_sem ↓] Go.wp_at_zero Go.wp_at_succ

theorem step_call {P : Program} {ops : Array Oper} {o : Oper} {a : Act} {w : World} {K : Act → World → Prop} {Q : Exit → Act → World → Prop} {E : Prop} (hgd : o.guard = none) (f : FuncId) (hfn : ∀ vs, (callFunc f vs).run P w = .ok (.enter f vs) w) (args : Array Operand) (tys : Array TypeId)
    (ho : o.op = .call { callee := .value (.func f), args := args, argTypes := tys }) (vs : Array Value) (hv : args.map a.eval = vs) {R : Ending → World → Prop} (hc : Calls P f vs w R) (hK : ∀ e w', R e w' → ∃ v, e = .returned v ∧ K (a.put o.dst v) w') :
    if Region.wanted o (yielded ops a.tmps) = true then Oper.wp P o a w K Q else E := by
  have hw : Region.wanted o (yielded ops a.tmps) = true := by simp [Region.wanted, hgd]
  rw [if_pos hw]
  have h2 : Oper.wp P o a w K Q = o.upon P a K Q (.ok (.enter f vs) w) := by
    unfold Oper.wp
    simp [execOp, ho, resolve, invoke, ← hv, Act.eval, Deferred.ofValue, hfn]
  rw [h2, Oper.upon_enter]
  refine hc.mono ?_
  intro e w' hr
  obtain ⟨v, rfl, hk⟩ := hK e w' hr
  exact hk
theorem step_load_mid {P : Program} {ops : Array Oper} {o : Oper} {a : Act} {w : World} {K : Act → World → Prop} {Q : Exit → Act → World → Prop} {E : Prop} (hgd : o.guard = none) (ty : TypeId) (x : Operand) (ho : o.op = .load ty x)
    (b off : Nat) (hx : a.eval x = .pointer (some ⟨b, off, none⟩)) (cs : List Value) (d : TypeDesc) (hc : w.rangeAt b off cs) (hu : P.underlying ty = some d) (hd : d.isRow = true) (hi : (P.info? ty).map (·.size) = some cs.length)
    (h : K (a.put o.dst (.agg cs.toArray)) w) : if Region.wanted o (yielded ops a.tmps) = true then Oper.wp P o a w K Q else E := by
  have hw : Region.wanted o (yielded ops a.tmps) = true := by simp [Region.wanted, hgd]
  rw [if_pos hw]
  exact wp_load_mid ty x ho b off hx cs d hc hu hd hi h
theorem callW (w : World) (vs : Array Value) : (callFunc 37 vs).run Tryd.prog w = .ok (.enter 37 vs) w := by
  have hn : ¬ Tryd.f37.name = "runtime.NumGoroutine" := by decide +kernel
  have hb : Tryd.f37.body.isSome = true := by kernel_rfl
  obtain ⟨c, hc⟩ := Option.isSome_iff_exists.1 hb
  simp [callFunc, Tryd.func37, hn, hc]
theorem callA (w : World) (vs : Array Value) : (callFunc 36 vs).run Tryd.prog w = .ok (.enter 36 vs) w := by
  have hn : ¬ Tryd.f36.name = "runtime.NumGoroutine" := by decide +kernel
  have hb : Tryd.f36.body.isSome = true := by kernel_rfl
  obtain ⟨c, hc⟩ := Option.isSome_iff_exists.1 hb
  simp [callFunc, Tryd.func36, hn, hc]
theorem keep8 {w : World} {h : Nat} {l : List Value} (x0 x1 x2 x3 x4 x5 x6 x7 : Value) (hq : w.rangeAt h 8 l ∧ w.there h 0 8) : (((((((((w.setCell ⟨h, 0, none⟩ x0).setCell ⟨h, 1, none⟩ x1).setCell ⟨h, 2, none⟩ x2).setCell ⟨h, 3, none⟩ x3).setCell ⟨h, 4, none⟩ x4).setCell ⟨h, 5, none⟩ x5).setCell ⟨h, 6, none⟩ x6).setCell ⟨h, 7, none⟩ x7)).rangeAt h 8 l ∧ (((((((((w.setCell ⟨h, 0, none⟩ x0).setCell ⟨h, 1, none⟩ x1).setCell ⟨h, 2, none⟩ x2).setCell ⟨h, 3, none⟩ x3).setCell ⟨h, 4, none⟩ x4).setCell ⟨h, 5, none⟩ x5).setCell ⟨h, 6, none⟩ x6).setCell ⟨h, 7, none⟩ x7)).there h 0 8 :=
  ⟨World.rangeAt_setCells_apart hq.1 h 0 [x0, x1, x2, x3, x4, x5, x6, x7] (.inr (.inr (by simp))), World.there_setCells hq.2 h 0 [x0, x1, x2, x3, x4, x5, x6, x7]⟩
theorem after_lit {W : World} (hK : HasK W) (sa sb sc sd se sf sg sh : Nat) (hok : (⟨sa, sb, sc, sd, se, sf, sg, sh⟩ : St).Ok) (w16 : List Nat) (hl : w16.length = 16) (hw : W32 w16) :
    Calls Tryd.prog 36 #[.agg #[.int .u32 (sa : Int), .int .u32 (sb : Int), .int .u32 (sc : Int), .int .u32 (sd : Int), .int .u32 (se : Int), .int .u32 (sf : Int), .int .u32 (sg : Int), .int .u32 (sh : Int)], .agg (nw w16).toArray] W fun e W' => ∃ (ta tb tc td te tf tg th : Nat), e = .returned (.agg #[.int .u32 (ta : Int), .int .u32 (tb : Int), .int .u32 (tc : Int), .int .u32 (td : Int), .int .u32 (te : Int), .int .u32 (tf : Int), .int .u32 (tg : Int), .int .u32 (th : Int)]) ∧ Hid (block ⟨sa, sb, sc, sd, se, sf, sg, sh⟩ w16 = ⟨ta, tb, tc, td, te, tf, tg, th⟩) ∧ Below W.heap.size W W' := by
  refine (after_any hK ⟨sa, sb, sc, sd, se, sf, sg, sh⟩ hok w16 hl hw).mono ?_
  rintro e W' ⟨he, hb⟩
  generalize block (⟨sa, sb, sc, sd, se, sf, sg, sh⟩ : St) w16 = bk at *
  obtain ⟨ta, tb, tc, td, te, tf, tg, th⟩ := bk
  exact ⟨ta, tb, tc, td, te, tf, tg, th, he, hide rfl, hb⟩
theorem eight {W : World} {b sa sb sc sd se sf sg sh : Nat} (h : Arr W b (St.list ⟨sa, sb, sc, sd, se, sf, sg, sh⟩)) : (W.cell? ⟨b, 0, none⟩ = some (.int .u32 (sa : Int)) ∧ W.cell? ⟨b, 1, none⟩ = some (.int .u32 (sb : Int)) ∧ W.cell? ⟨b, 2, none⟩ = some (.int .u32 (sc : Int)) ∧ W.cell? ⟨b, 3, none⟩ = some (.int .u32 (sd : Int)) ∧ W.cell? ⟨b, 4, none⟩ = some (.int .u32 (se : Int)) ∧ W.cell? ⟨b, 5, none⟩ = some (.int .u32 (sf : Int)) ∧ W.cell? ⟨b, 6, none⟩ = some (.int .u32 (sg : Int)) ∧ W.cell? ⟨b, 7, none⟩ = some (.int .u32 (sh : Int))) ∧ (W.frozen? ⟨b, 0, none⟩ = false ∧ W.frozen? ⟨b, 1, none⟩ = false ∧ W.frozen? ⟨b, 2, none⟩ = false ∧ W.frozen? ⟨b, 3, none⟩ = false ∧ W.frozen? ⟨b, 4, none⟩ = false ∧ W.frozen? ⟨b, 5, none⟩ = false ∧ W.frozen? ⟨b, 6, none⟩ = false ∧ W.frozen? ⟨b, 7, none⟩ = false) :=
  ⟨⟨h.cell (i := 0) rfl, h.cell (i := 1) rfl, h.cell (i := 2) rfl, h.cell (i := 3) rfl, h.cell (i := 4) rfl, h.cell (i := 5) rfl, h.cell (i := 6) rfl, h.cell (i := 7) rfl⟩, ⟨h.frozen (i := 0) (by show _ < 8; decide), h.frozen (i := 1) (by show _ < 8; decide), h.frozen (i := 2) (by show _ < 8; decide), h.frozen (i := 3) (by show _ < 8; decide), h.frozen (i := 4) (by show _ < 8; decide), h.frozen (i := 5) (by show _ < 8; decide), h.frozen (i := 6) (by show _ < 8; decide), h.frozen (i := 7) (by show _ < 8; decide)⟩⟩
theorem hash_now {W : World} {h n : Nat} {r : List Nat} {sa sb sc sd se sf sg sh : Nat} (hb : W.heap[h]? = some (.cells (hashCells ⟨sa, sb, sc, sd, se, sf, sg, sh⟩ r n).toArray 65 (0, 0))) (ta tb tc td te tf tg th : Nat) : ((((((((W.setCell ⟨h, 0, none⟩ (.int .u32 (ta : Int))).setCell ⟨h, 1, none⟩ (.int .u32 (tb : Int))).setCell ⟨h, 2, none⟩ (.int .u32 (tc : Int))).setCell ⟨h, 3, none⟩ (.int .u32 (td : Int))).setCell ⟨h, 4, none⟩ (.int .u32 (te : Int))).setCell ⟨h, 5, none⟩ (.int .u32 (tf : Int))).setCell ⟨h, 6, none⟩ (.int .u32 (tg : Int))).setCell ⟨h, 7, none⟩ (.int .u32 (th : Int))).heap[h]? = some (.cells (hashCells ⟨ta, tb, tc, td, te, tf, tg, th⟩ r n).toArray 65 (0, 0)) ∧ Only W h ((((((((W.setCell ⟨h, 0, none⟩ (.int .u32 (ta : Int))).setCell ⟨h, 1, none⟩ (.int .u32 (tb : Int))).setCell ⟨h, 2, none⟩ (.int .u32 (tc : Int))).setCell ⟨h, 3, none⟩ (.int .u32 (td : Int))).setCell ⟨h, 4, none⟩ (.int .u32 (te : Int))).setCell ⟨h, 5, none⟩ (.int .u32 (tf : Int))).setCell ⟨h, 6, none⟩ (.int .u32 (tg : Int))).setCell ⟨h, 7, none⟩ (.int .u32 (th : Int))) := by
  refine ⟨?_, only_setCells h [.int .u32 (ta : Int), .int .u32 (tb : Int), .int .u32 (tc : Int), .int .u32 (td : Int), .int .u32 (te : Int), .int .u32 (tf : Int), .int .u32 (tg : Int), .int .u32 (th : Int)] 0 W W (Only.refl _ _)⟩
  rw [(heap_setCell_same _ h 7 _ _ _ (heap_setCell_same _ h 6 _ _ _ (heap_setCell_same _ h 5 _ _ _ (heap_setCell_same _ h 4 _ _ _ (heap_setCell_same _ h 3 _ _ _ (heap_setCell_same _ h 2 _ _ _ (heap_setCell_same _ h 1 _ _ _ (heap_setCell_same _ h 0 _ _ _ hb))))))))]
  have e : ((((((((hashCells ⟨sa, sb, sc, sd, se, sf, sg, sh⟩ r n).set 0 (.int .u32 (ta : Int))).set 1 (.int .u32 (tb : Int))).set 2 (.int .u32 (tc : Int))).set 3 (.int .u32 (td : Int))).set 4 (.int .u32 (te : Int))).set 5 (.int .u32 (tf : Int))).set 6 (.int .u32 (tg : Int))).set 7 (.int .u32 (th : Int)) = hashCells ⟨ta, tb, tc, td, te, tf, tg, th⟩ r n := rfl
  simp only [List.setIfInBounds_toArray]
  rw [e]
theorem hasK_only {W w : World} {h : Nat} (hK : HasK W) (hO : Only W h w) (hne : 1 ≠ h) : HasK w := ⟨Nat.lt_of_lt_of_le hK.1 hO.size, fun i k hk => (cell_heap (p := ⟨1, i, none⟩) (hO.far _ hK.1 hne)).trans (hK.2 i k hk)⟩
end Go.Proofs.YtoojchjfmnbdpabDoor
