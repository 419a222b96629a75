import Derived.Test.YtlblllghgdfpoaaDoorEP
import Derived.Test.YtlblllghgdfpoaaDoorJ38
import Derived.Test.YtlblllghgdfpoaaDoorJ36
import Derived.Deep.DeepCutAuto

namespace Go.Proofs.YtlblllghgdfpoaaDoor
open Go.RowKit

theorem unhex_lit (w : World) : Calls Tryd.prog 14 #[.string ⟨#[48, 48, 102, 102, 49, 55, 48, 48]⟩] w fun e w' => ∃ v', e = .returned (.tuple #[v', .int .i64 0]) ∧ Bytes w.heap.size w' v' [0, 255, 23, 0] ∧ Below w.heap.size w w' := by
  refine (unhex_own w ⟨#[48, 48, 102, 102, 49, 55, 48, 48]⟩ (by decide)).mono ?_
  rintro e w' ⟨v', c, l, rfl, h1, h2, h3⟩
  have hu : unh (strN ⟨#[48, 48, 102, 102, 49, 55, 48, 48]⟩) = some [0, 255, 23, 0] := by kernel_rfl
  rw [hu] at h2
  rcases h2 with ⟨e, rfl⟩ | ⟨e, -⟩
  · obtain rfl := Option.some.inj e
    exact ⟨v', rfl, h1, h3⟩
  · cases e
theorem hasB_lit4 (w : World) : HasB (w.alloc (.cells #[.int .u8 0, .int .u8 255, .int .u8 23, .int .u8 0] 5)) (.slice (some ⟨w.heap.size, 0, none⟩) 4 4) [0, 255, 23, 0] := by
  refine ⟨some ⟨w.heap.size, 0, none⟩, 4, rfl, ⟨Nat.le_refl _, by unfold maxLen; decide, nofun⟩, fun _ => ⟨w.heap.size, 0, rfl, by rw [World.size_alloc]; omega, fun a x hx => ?_⟩⟩
  rw [Nat.zero_add]
  refine (cell_of_row _ _ _ _ _ _ (heap_new w _)).trans ?_
  match a, hx with
  | 0, hx => simp at hx; subst hx; rfl
  | 1, hx => simp at hx; subst hx; rfl
  | 2, hx => simp at hx; subst hx; rfl
  | 3, hx => simp at hx; subst hx; rfl
theorem QK.kl {B : Nat} {W w : World} {K : Nat → Prop} {n q : Nat} {vL vW : Value} (h : QK B W K n w vL vW) (hq : K q) : q < w.heap.size := by obtain ⟨xs, ls, -, -, h3⟩ := h; exact (h3 q hq).1
theorem OwnBA.row_no {B : Nat} {W : World} {v : Value} {us : List Value} {ls : List (List Nat)} (h : OwnBA B W v us ls) {q : Nat} (e : v.ownBlock = some q) : ¬ InB us q := fun ⟨j, x, hx, ex⟩ => by
  have hx2 := (List.getElem?_eq_some_iff.1 hx).1
  exact (h.bb.each j x _ hx (List.getElem?_eq_getElem (by rw [← h.bb.len]; exact hx2))).2 q ex |>.2.2 e.symm
theorem two_of {K : Nat → Prop} {B : Nat} {w wa wb : World} {vc vd : Value} {us vs : List Value} {cs : List (List Nat)} (h1 : OwnBA w.heap.size wa vc us cs) (h2 : OwnBA wa.heap.size wb vd vs cs) (hba : Below w.heap.size w wa) (hbb : Below wa.heap.size wa wb) (hle : B ≤ w.heap.size) (hk : ∀ q, K q → q < w.heap.size) : Two K B wb vc vd us vs cs := by
  have s1 := hba.size
  have r1 : ∀ q, InB us q → w.heap.size ≤ q ∧ q < wa.heap.size := fun q e => h1.lb.lt e
  have r2 : ∀ q, InB vs q → wa.heap.size ≤ q ∧ q < wb.heap.size := fun q e => h2.lb.lt e
  refine ⟨(h1.lb.keep (fun q hq _ => hbb.block q hq)).lower hle, h2.lb.lower (by omega), fun q hq => ⟨fun e => by have := hk q hq; have := r1 q e; omega, fun e => by have := hk q hq; have := r2 q e; omega⟩, fun q hq => ?_, fun q e e2 => by have := r1 q e; have := r2 q e2; omega⟩
  rcases hq with e | e
  · exact ⟨h1.row_no e, fun e2 => by have := (h1.bb.row.lt q e).2; have := r2 q e2; omega⟩
  · exact ⟨fun e2 => by have := (h2.bb.row.lt q e).1; have := r1 q e2; omega, h2.row_no e⟩
theorem two_in {K : Nat → Prop} {w wa wb : World} {vc vd : Value} {us vs : List Value} {cs : List (List Nat)} {q : Nat} (h1 : OwnBA w.heap.size wa vc us cs) (h2 : OwnBA wa.heap.size wb vd vs cs) (hba : Below w.heap.size w wa) (hbb : Below wa.heap.size wa wb) (hq : KL K vc vd us vs 0 q) : K q ∨ (w.heap.size ≤ q ∧ q < wb.heap.size) := by
  have s1 := hba.size
  have s2 := hbb.size
  rcases hq with k | k | k | k | k
  · exact .inl k
  · have := h1.bb.row.lt q k; exact .inr (by omega)
  · have := h2.bb.row.lt q k; exact .inr (by omega)
  · have := h1.lb.lt (inB_drop k); exact .inr (by omega)
  · have := h2.lb.lt (inB_drop k); exact .inr (by omega)
theorem row_cells {B e n m c : Nat} {wa wb : World} {a : Option Addr} {xs : List Value} (h : wa.ownsRow B e 1 (.slice a n c) m xs) (hb : Below wa.heap.size wa wb) : 0 < n → ∃ g, a = some ⟨g, 0, none⟩ ∧ ∀ w' : World, w'.heap[g]? = wb.heap[g]? → ∀ (k : Nat) (x : Value), xs[k]? = some x → w'.cell? ⟨g, k, none⟩ = some x := fun hp => by
  obtain ⟨a', c', e, -, -, h3⟩ := own_form h
  injection e with e1 e2 e3
  subst e1 e2 e3
  obtain ⟨g, rfl, hc⟩ := h3 hp
  refine ⟨g, rfl, fun w' hw k x hx => ?_⟩
  exact (World.cell?_of_block (a := ⟨g, k, none⟩) (hw.trans (hb.block g (h.lt g rfl).2))).trans (hc k x hx)
end Go.Proofs.YtlblllghgdfpoaaDoor

namespace Go.Proofs.YtlblllghgdfpoaaDoor
open Go.RowKit
attribute [local go_sem ↓] Go.wp_at_zero Go.wp_at_succ

theorem Zz.stepG {P : Program} {ops : Array Oper} {Q : Exit → Act → World → Prop} {o : Oper} {a : Act} {w : World} {K : Act → World → Prop} {E : Prop} (x : Tmp) (hx : o.dst = some x) (hw : Region.wanted o (yielded ops a.tmps) = true) (f : FuncId) (hfn : ∀ vs, (callFunc f vs).run P w = .ok (.enter f vs) w) (args : Array Operand) (tys : Array TypeId)
    (ho : o.op = .call { callee := .value (.func f), args := args, argTypes := tys }) (vs : Array Value) (hv : args.map a.eval = vs) {R : Ending → World → Prop} (hc : Calls P f vs w R) (hK : ∀ e w', R e w' → ∃ v, e = .returned v ∧ K (a.put (some x) v) w') :
    if Region.wanted o (yielded ops a.tmps) = true then Oper.wp P o a w K Q else E := by
  rw [if_pos hw]
  have h2 : Oper.wp P o a w K Q = o.upon P a K Q (.ok (.enter f vs) w) := by
    unfold Oper.wp
    simp [execOp, ho, resolve, invoke, ← hv, Act.eval, Deferred.ofValue, hfn]
  rw [h2, Oper.upon_enter]
  refine hc.mono ?_
  intro e w' hr
  obtain ⟨v, rfl, hk⟩ := hK e w' hr
  rw [hx]
  exact hk

theorem Zz.lt {P : Program} {ops : Array Oper} {Q : Exit → Act → World → Prop} {a : Act} {w : World} {rest : List Oper} {o : Oper} (x : Tmp) (v : Value) (hx : o.dst = some x) (hw : Region.wanted o (yielded ops a.tmps) = true) (hy : (execOp a.eval o).run P w = .ok (.value v) w) (h : wpList P ops Q rest (a.put (some x) v) w) : wpList P ops Q (o :: rest) a w :=
  wpList_step fun K hK => by
    rw [if_pos hw]
    have h1 : K (a.put o.dst v) w := by rw [hx]; exact hK _ _ h
    simp only [Oper.wp, hy, Oper.upon]
    first | exact h1 | exact Or.inl h1
theorem Zz.ls {P : Program} {ops : Array Oper} {Q : Exit → Act → World → Prop} {a : Act} {w : World} {rest : List Oper} {o : Oper} (x : Tmp) (hx : o.dst = some x) (hw : Region.wanted o (yielded ops a.tmps) = false) (h : wpList P ops Q rest (a.put (some x) undef) w) : wpList P ops Q (o :: rest) a w :=
  wpList_skip hw (by rw [hx]; exact h)
theorem Zz.lc {P : Program} {ops : Array Oper} {Q : Exit → Act → World → Prop} {a : Act} {w : World} {rest : List Oper} {o : Oper} (x : Tmp) (hx : o.dst = some x) (hw : Region.wanted o (yielded ops a.tmps) = true) (f : FuncId) (hfn : ∀ vs, (callFunc f vs).run P w = .ok (.enter f vs) w) (args : Array Operand) (tys : Array TypeId)
    (ho : o.op = .call { callee := .value (.func f), args := args, argTypes := tys }) (vs : Array Value) (hv : args.map a.eval = vs) {R : Ending → World → Prop} (hc : Calls P f vs w R) (hK : ∀ e w', R e w' → ∃ v, e = .returned v ∧ wpList P ops Q rest (a.put (some x) v) w') : wpList P ops Q (o :: rest) a w :=
  wpList_step fun K hk => Zz.stepG x hx hw f hfn args tys ho vs hv hc fun e w' hr => by
    obtain ⟨v, he, h⟩ := hK e w' hr
    exact ⟨v, he, hk _ _ h⟩
theorem fsize_mem0 {ls : List (List Nat)} {l : List Nat} (h : l ∈ ls) : l.length ≤ fsize ls := by
  induction ls with
  | nil => cases h
  | cons a ls ih =>
    have e : fsize (a :: ls) = (4 + a.length) + fsize ls := by simp [fsize]
    rw [e]
    rcases List.mem_cons.1 h with rfl | h
    · omega
    · have := ih h; omega
theorem partsA_frame {ls : List (List Nat)} (h : 4 + fsize ls ≤ 67108864) (hn : ls.length ≤ 65536) : partsA (frameL ls) = (0, ls) := by
  unfold partsA
  rw [if_neg (by rw [frameL_len]; omega), parts_frame (fun l hl => ?_) hn]
  have := (show l.length ≤ fsize ls from fsize_mem0 hl)
  omega
theorem domA_ok (s : ByteArray) (ls : List (List Nat)) : Byt (domainA s ls).2 ∧ (domainA s ls).2.length ≤ 32 := by
  unfold domainA
  split
  · exact ⟨sha_byt _, by rw [sha_len]; exact Nat.le_refl _⟩
  · exact ⟨fun x hx => (by cases hx), Nat.zero_le _⟩
theorem domA_z (s : ByteArray) (ls : List (List Nat)) : (domainA s ls).1 = 0 ∨ (domainA s ls).1 = 2 := by
  unfold domainA
  split
  · exact .inl rfl
  · exact .inr rfl
theorem Zz.la {P : Program} {ops : Array Oper} {Q : Exit → Act → World → Prop} {a : Act} {w : World} {rest : List Oper} {o : Oper} (x : Tmp) (v : Value) (w' : World) (hx : o.dst = some x) (hw : Region.wanted o (yielded ops a.tmps) = true) (hy : (execOp a.eval o).run P w = .ok (.value v) w') (h : wpList P ops Q rest (a.put (some x) v) w') : wpList P ops Q (o :: rest) a w :=
  wpList_step fun K hK => by
    rw [if_pos hw]
    have h1 : K (a.put o.dst v) w' := by rw [hx]; exact hK _ _ h
    simp only [Oper.wp, hy, Oper.upon]
    first | exact h1 | exact Or.inl h1
set_option maxRecDepth 100000 in
set_option maxHeartbeats 2000000 in
theorem mustFrame_any {W : World} {v : Value} {ls : List (List Nat)} (h : HasBB W v ls) (hn : ls.length ≤ 65536 → fsize ls ≤ 9223372036854775000) :
    Calls Tryd.prog 19 #[v] W fun e W' => ∃ v', e = .returned v' ∧ Bytes W.heap.size W' v' (frameA ls).2 ∧ Below W.heap.size W W' := by
  have Hf := hide (frame_own h hn)
  obtain ⟨va, vc, rfl, -⟩ := h
  clear hn
  obtain ⟨z, hz⟩ : ∃ z, (frameA ls).1 = z := ⟨_, rfl⟩
  obtain ⟨L, hL⟩ : ∃ z, (frameA ls).2 = z := ⟨_, rfl⟩
  rw [hz, hL] at Hf
  rw [hL]
  clear hz hL
  go_enter Tryd.func19, Tryd.ntmps19
  go_wp2_with fail
  refine (unhide Hf).mono ?_
  rintro e w1 ⟨vf, rfl, hf, hbf⟩
  obtain ⟨af, cf, rfl, -⟩ := bytes_shape hf
  have HE := hide (And.intro hf hbf)
  clear hf hbf Hf
  go_wp2
  go_ret
  exact ⟨_, rfl, (unhide HE).1, (unhide HE).2⟩
theorem mb_start {W : World} {b : Nat} (hb : b = W.heap.size) (n : Int) (hn : n = 0) : Mb W.heap.size W (W.alloc (.cells #[.int .i64 n, .slice none 0 0, .slice none 0 0] 27)) b (.slice none 0 0) (.slice none 0 0) [] [] (.slice none 0 0) [] [] := by
  subst hb hn
  refine ⟨⟨heap_new _ _, Nat.le_refl _, World.ownsRow_nil _ _ _ _, World.ownsRow_nil _ _ _ _, fun i v l h => by simp at h, fun q ⟨i, x, h, _⟩ => by simp at h, fun e => (by cases e), fun e => (by cases e), fun q e => (by cases e), fun q ⟨i, x, h, _⟩ => by simp at h⟩, rfl, (Below.refl _ _).alloc (Nat.le_refl _) _, World.ownsRow_nil _ _ _ _, ⟨rfl, fun i v l h => by simp at h, fun i j v u q h => by simp at h⟩, fun q e => (by cases e), fun q ⟨i, x, h, _⟩ => by simp at h, fun q e => ?_⟩
  rcases e with (e | e | e | e) | e | e
  · subst e; exact ⟨Nat.le_refl _, by rw [World.size_alloc]; omega⟩
  · cases e
  · cases e
  · obtain ⟨i, x, h, _⟩ := e; simp at h
  · cases e
  · obtain ⟨i, x, h, _⟩ := e; simp at h
end Go.Proofs.YtlblllghgdfpoaaDoor
