import Derived.Test.YthodjkeppobcmaaDoorKL
import Derived.Defers
import Derived.Recover
import Derived.Laws.Pointers

namespace Go.Proofs.YthodjkeppobcmaaDoor
open Go.RowKit Go.Lib
attribute [local go_sem ↓] Go.wp_at_zero Go.wp_at_succ

def fltA (er sp : Int) : Array Value := #[.int .i64 er, .int .i64 0, .int .i64 sp, .string ⟨#[]⟩]
def set4 (w : World) (b : Nat) (v0 v1 v2 v3 : Value) : World := (((w.setCell ⟨b, 0, none⟩ v0).setCell ⟨b, 1, none⟩ v1).setCell ⟨b, 2, none⟩ v2).setCell ⟨b, 3, none⟩ v3
theorem grown_two {A B C : World} {b : Nat} (h : A.grownBy B (some b)) (k : B.grownBy C (some b)) : A.grownBy C (some b) := ⟨k.os.trans h.os, k.tape.trans h.tape, k.output.trans h.output, Nat.le_trans h.size k.size, fun d hd hn => (k.block d (Nat.lt_of_lt_of_le hd h.size) hn).trans (h.block d hd hn)⟩
theorem set4_block {W : World} {b : Nat} {a0 a1 a2 a3 : Value} {t : TypeId} (h : W.heap[b]? = some (.cells #[a0, a1, a2, a3] t (0, 0))) (v0 v1 v2 v3 : Value) : (set4 W b v0 v1 v2 v3).heap[b]? = some (.cells #[v0, v1, v2, v3] t (0, 0)) ∧ W.grownBy (set4 W b v0 v1 v2 v3) (some b) := by
  obtain ⟨h0, g0⟩ := set_block (j := 0) h v0
  obtain ⟨h1, g1⟩ := set_block (j := 1) h0 v1
  obtain ⟨h2, g2⟩ := set_block (j := 2) h1 v2
  obtain ⟨h3, g3⟩ := set_block (j := 3) h2 v3
  exact ⟨h3, grown_two (grown_two (grown_two g0 g1) g2) g3⟩
theorem cells4 {W : World} {b : Nat} {a0 a1 a2 a3 : Value} {t : TypeId} (h : W.heap[b]? = some (.cells #[a0, a1, a2, a3] t (0, 0))) : (W.cell? ⟨b, 0, none⟩ = some a0 ∧ W.cell? ⟨b, 1, none⟩ = some a1 ∧ W.cell? ⟨b, 2, none⟩ = some a2 ∧ W.cell? ⟨b, 3, none⟩ = some a3) ∧ ∀ j, W.frozen? ⟨b, j, none⟩ = false := by
  refine ⟨⟨?_, ?_, ?_, ?_⟩, fun j => by simp [World.frozen?, h]⟩ <;> rw [cell_of_row _ _ _ _ _ _ h] <;> rfl
theorem iface_neq_nil (w : World) (t : TypeId) (v : Value) : Sem.run Tryd.prog (binOp BinOp.neq 20 (.iface t v) .nilIface) w = .ok (.bool true) w := by
  go_simp
theorem ta_fault (w : World) (v : Value) : (Instr.typeAssert (.iface 24 v) 20 24 false).run Tryd.prog w = .ok v w := by
  unfold Instr.typeAssert
  simp [run_underlying Tryd.underlying24]
noncomputable def rcTail : Code := match Tryd.f24.body with
  | some (.seq _ t) => t
  | _ => .skip
noncomputable def rcHead : Code := match Tryd.f24.body with
  | some (.seq a _) => a
  | _ => .skip
theorem rc_split : Tryd.f24.body = some (.seq rcHead rcTail) := rfl
set_option maxRecDepth 100000 in
set_option maxHeartbeats 1000000 in
theorem rcTail_p {p : Nat} {er sp : Int} {w : World} {b0 b1 b2 b3 : Value} (h3 : w.heap[p]? = some (.cells #[b0, b1, b2, b3] 24 (0, 0))) {u : Nat → Value} {Q : Exit → Act → World → Prop}
    (hQ : ∀ tm, Q .normal ⟨tm, []⟩ (set4 w p (.int .i64 er) (.int .i64 0) (.int .i64 sp) (.string ⟨#[]⟩))) : rcTail.wp Tryd.prog Q ⟨#[.pointer (some ⟨p, 0, none⟩), .iface 24 (.agg (fltA er sp)), u 2, u 3, u 4, u 5, u 6], []⟩ w := by
  have HQ := hide hQ
  unfold set4 at HQ
  obtain ⟨⟨z0, z1, z2, z3⟩, zf⟩ := cells4 h3
  have e0 := zf 0
  have e1 := zf 1
  have e2 := zf 2
  have e3 := zf 3
  have hfn := iface_neq_nil
  have hta := ta_fault
  unfold fltA
  clear zf h3 hQ
  unfold rcTail
  dsimp only [Tryd.f24]
  go_wp2
  exact unhide HQ _
set_option maxRecDepth 100000 in
theorem rcTail_i {p : Nat} {w : World} {u : Nat → Value} {Q : Exit → Act → World → Prop} (hQ : ∀ tm, Q .normal ⟨tm, []⟩ w) : rcTail.wp Tryd.prog Q ⟨#[.pointer (some ⟨p, 0, none⟩), .nilIface, u 2, u 3, u 4, u 5, u 6], []⟩ w := by
  have HQ := hide hQ
  clear hQ
  unfold rcTail
  dsimp only [Tryd.f24]
  go_wp2
  exact unhide HQ _
set_option maxRecDepth 100000 in
set_option maxHeartbeats 1000000 in
theorem catch_p {p : Nat} {er sp : Int} {w : World} {b0 b1 b2 b3 : Value} (h3 : w.heap[p]? = some (.cells #[b0, b1, b2, b3] 24 (0, 0))) :
    CallsD Tryd.prog 24 #[.pointer (some ⟨p, 0, none⟩)] (.panicking [{ v := .iface 24 (.agg (fltA er sp)), recovered := false }]) w fun e u' w' =>
      e = .returned (.tuple #[]) ∧ u' = .panicking [{ v := .iface 24 (.agg (fltA er sp)), recovered := true }] ∧ w' = set4 w p (.int .i64 er) (.int .i64 0) (.int .i64 sp) (.string ⟨#[]⟩) := by
  refine callsD_of_wpS Tryd.func24 rc_split fun c₀ cs hu => ?_
  apply wpS_seq
  obtain ⟨tl, htl⟩ : ∃ t, rcTail = t := ⟨_, rfl⟩
  rw [htl]
  unfold rcHead
  dsimp only [Tryd.f24]
  apply wpS_region
  simp [wpOpsS, go_sem, recoverD, hu, Exit.thenS]
  rw [← htl]
  refine wpS_of_wp ?_
  simp only [Array.replicate_succ, Array.replicate_zero, List.push_toArray, List.append_toArray, List.nil_append, List.cons_append, List.setIfInBounds_toArray, List.set_cons_zero, List.set_cons_succ]
  refine rcTail_p (u := fun i => [undef, undef, .iface 24 (.agg (fltA er sp))].getD i undef) h3 ?_
  intro tm
  refine ⟨rfl, _, rfl, .tuple #[], ?_, rfl, rfl, rfl⟩
  simp [results]
set_option maxRecDepth 100000 in
set_option maxHeartbeats 1000000 in
theorem catch_i {p : Nat} {w : World} :
    CallsD Tryd.prog 24 #[.pointer (some ⟨p, 0, none⟩)] .returning w fun e u' w' => e = .returned (.tuple #[]) ∧ u' = .returning ∧ w' = w := by
  refine callsD_of_wpS Tryd.func24 rc_split fun c₀ cs hu => ?_
  apply wpS_seq
  obtain ⟨tl, htl⟩ : ∃ t, rcTail = t := ⟨_, rfl⟩
  rw [htl]
  unfold rcHead
  dsimp only [Tryd.f24]
  apply wpS_region
  simp [wpOpsS, go_sem, recoverD, hu, Exit.thenS]
  rw [← htl]
  refine wpS_of_wp ?_
  simp only [Array.replicate_succ, Array.replicate_zero, List.push_toArray, List.append_toArray, List.nil_append, List.cons_append, List.setIfInBounds_toArray, List.set_cons_zero, List.set_cons_succ]
  refine rcTail_i (u := fun i => [undef, undef, .nilIface].getD i undef) ?_
  intro tm
  refine ⟨rfl, .returning, ?_, .tuple #[], ?_, rfl, rfl, rfl⟩
  · cases c₀
    simp_all
  · simp [results]
end Go.Proofs.YthodjkeppobcmaaDoor
