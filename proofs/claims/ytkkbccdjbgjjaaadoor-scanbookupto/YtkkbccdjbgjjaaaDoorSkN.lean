import Derived.Test.YtkkbccdjbgjjaaaDoorSFM

namespace Go.Proofs.YtkkbccdjbgjjaaaDoor
open Go.RowKit
attribute [local go_sem ↓] Go.wp_at_zero Go.wp_at_succ

theorem op_bs {P : Program} {ops : Array Oper} {Q : Exit → Act → World → Prop} {i : Nat} {o : Oper} {a : Act} {w w' : World} {K : Act → World → Prop} {v : Value} (ho : ops[i]? = some o) (hg : o.guard = none) (t : TypeId) (len : Nat) (parts : Array (Nat × Operand)) (hop : o.op = .buildSlice t len parts) (vs : Array (Nat × Value)) (hv : (parts.map fun p => (p.1, a.eval p.2)) = vs) (hr : (Instr.buildSlice t len vs).run P w = .ok v w') (hK : K (a.put o.dst v) w') : wpOp P ops Q i K a w := by
  refine op_run ho hg (v := v) (w' := w') ?_ hK
  simp only [execOp, hop, hv]
  exact run_v hr
theorem run_bs1 (w : World) (t : Tk) : (Instr.buildSlice 25 1 #[(0, t.val)]).run Tryd.prog w = .ok (.slice (some ⟨w.heap.size, 0, none⟩) 1 1) (w.alloc (.cells #[.int .i64 t.kind, .int .i64 t.spot, .string t.text] 31)) := by
  unfold Tk.val
  go_simp
theorem run_bs2 (w : World) (t : Tk) : (Instr.buildSlice 25 2 #[(0, t.val), (1, t.val)]).run Tryd.prog w = .ok (.slice (some ⟨w.heap.size, 0, none⟩) 2 2) (w.alloc (.cells #[.int .i64 t.kind, .int .i64 t.spot, .string t.text, .int .i64 t.kind, .int .i64 t.spot, .string t.text] 31)) := by
  unfold Tk.val
  go_simp
theorem run_bs3 (w : World) (t : Tk) : (Instr.buildSlice 25 3 #[(0, t.val), (1, t.val), (2, t.val)]).run Tryd.prog w = .ok (.slice (some ⟨w.heap.size, 0, none⟩) 3 3) (w.alloc (.cells #[.int .i64 t.kind, .int .i64 t.spot, .string t.text, .int .i64 t.kind, .int .i64 t.spot, .string t.text, .int .i64 t.kind, .int .i64 t.spot, .string t.text] 31)) := by
  unfold Tk.val
  go_simp
theorem run_bsL (w : World) (a0 a1 a2 a3 a4 : Option Addr) (n0 n1 n2 n3 n4 c0 c1 c2 c3 c4 : Nat) : (Instr.buildSlice 24 5 #[(0, .slice a0 n0 c0), (1, .slice a1 n1 c1), (2, .slice a2 n2 c2), (3, .slice a3 n3 c3), (4, .slice a4 n4 c4)]).run Tryd.prog w = .ok (.slice (some ⟨w.heap.size, 0, none⟩) 5 5) (w.alloc (.cells #[.slice a0 n0 c0, .slice a1 n1 c1, .slice a2 n2 c2, .slice a3 n3 c3, .slice a4 n4 c4] 25)) := by
  go_simp
/-- A list of marks that was written out. -/
def LitT (W : World) (t : Tk) (m : Nat) (x : Value) (w : World) : Prop := ∃ b, x = .slice (some ⟨b, 0, none⟩) m m ∧ W.heap.size ≤ b ∧ b < w.heap.size ∧ ∀ j u, (kcells (List.replicate m t))[j]? = some u → w.cell? ((⟨b, 0, none⟩ : Addr).add j) = some u
/-- What an append came out with. -/
def ResT (v3 : Value) (t : Tk) (n : Nat) (x : Value) (w : World) : Prop := MkL w t x n ∧ ∀ b, x.ownBlock = some b → some b ≠ v3.ownBlock
theorem ResT.up' {v3 x : Value} {t : Tk} {n : Nat} {w w' : World} (h : ResT v3 t n x w) (hb : Below w.heap.size w w') : ResT v3 t n x w' := ⟨h.1.up hb, h.2⟩
theorem news_arr (w : World) (cs : Array Value) (ty : TypeId) : ∀ j u, cs.toList[j]? = some u → (w.alloc (.cells cs ty)).cell? ((⟨w.heap.size, 0, none⟩ : Addr).add j) = some u := World.news_of_block (heap_new w _)
theorem lit_new1 {W : World} (w : World) (t : Tk) (h : W.heap.size ≤ w.heap.size) : LitT W t 1 (.slice (some ⟨w.heap.size, 0, none⟩) 1 1) (w.alloc (.cells #[.int .i64 t.kind, .int .i64 t.spot, .string t.text] 31)) := ⟨w.heap.size, rfl, h, by rw [World.size_alloc]; omega, news_arr w _ _⟩
theorem lit_new2 {W : World} (w : World) (t : Tk) (h : W.heap.size ≤ w.heap.size) : LitT W t 2 (.slice (some ⟨w.heap.size, 0, none⟩) 2 2) (w.alloc (.cells #[.int .i64 t.kind, .int .i64 t.spot, .string t.text, .int .i64 t.kind, .int .i64 t.spot, .string t.text] 31)) := ⟨w.heap.size, rfl, h, by rw [World.size_alloc]; omega, news_arr w _ _⟩
theorem lit_new3 {W : World} (w : World) (t : Tk) (h : W.heap.size ≤ w.heap.size) : LitT W t 3 (.slice (some ⟨w.heap.size, 0, none⟩) 3 3) (w.alloc (.cells #[.int .i64 t.kind, .int .i64 t.spot, .string t.text, .int .i64 t.kind, .int .i64 t.spot, .string t.text, .int .i64 t.kind, .int .i64 t.spot, .string t.text] 31)) := ⟨w.heap.size, rfl, h, by rw [World.size_alloc]; omega, news_arr w _ _⟩
theorem five_new (w : World) (x0 x1 x2 x3 x4 : Value) (ty : TypeId) : ∀ j u, [x0, x1, x2, x3, x4][j]? = some u → (w.alloc (.cells #[x0, x1, x2, x3, x4] ty)).cell? ((⟨w.heap.size, 0, none⟩ : Addr).add j) = some u := news_arr w #[x0, x1, x2, x3, x4] ty
/-- What the region finds, and leaves. -/
structure EnI (B B0 Bm L bx : Nat) (v3 vl vm : Value) (t : Tk) (us : List Value) (w : World) : Prop where
  row : RowT B0 w vl (List.replicate L t)
  more : RowT Bm w vm (List.replicate 96 t)
  st : St B w v3 us
  x : XAt w bx t
theorem EnI.up {B B0 Bm L bx : Nat} {v3 vl vm : Value} {t : Tk} {us : List Value} {w w' : World} (h : EnI B B0 Bm L bx v3 vl vm t us w) (hb : Below w.heap.size w w') : EnI B B0 Bm L bx v3 vl vm t us w' := ⟨h.row.up hb, h.more.up hb, h.st.up hb, h.x.up hb⟩
/-- Two blocks alone may have been written on, one of them with the mark. -/
structure Mv (g h : Option Nat) (t : Tk) (w w' : World) : Prop where
  size : w.heap.size ≤ w'.heap.size
  block : ∀ k, k < w.heap.size → some k ≠ g → some k ≠ h → w'.heap[k]? = w.heap[k]?
  cells : ∀ k j, g = some k → w'.cell? ⟨k, j, none⟩ = w.cell? ⟨k, j, none⟩ ∨ w'.cell? ⟨k, j, none⟩ = t.cells[j % 3]?
theorem Mv.trans {g h : Option Nat} {t : Tk} {a b c : World} (p : Mv g h t a b) (q : Mv g h t b c) : Mv g h t a c :=
  ⟨Nat.le_trans p.size q.size, fun k hk h1 h2 => (q.block k (Nat.lt_of_lt_of_le hk p.size) h1 h2).trans (p.block k hk h1 h2), fun k j e => (q.cells k j e).elim (fun r => (p.cells k j e).imp r.trans r.trans) .inr⟩
def RlE (B B0 Bm L bx : Nat) (v3 vl vm : Value) (t : Tk) (us : List Value) (w w' : World) : Prop := Mv vl.ownBlock v3.ownBlock t w w' ∧ (EnI B B0 Bm L bx v3 vl vm t us w → EnI B B0 Bm L bx v3 vl vm t us w') ∧ Below B w w'
theorem RlE.trans {B B0 Bm L bx : Nat} {v3 vl vm : Value} {t : Tk} {us : List Value} {a b c : World} (p : RlE B B0 Bm L bx v3 vl vm t us a b) (q : RlE B B0 Bm L bx v3 vl vm t us b c) : RlE B B0 Bm L bx v3 vl vm t us a c := ⟨p.1.trans q.1, fun h => q.2.1 (p.2.1 h), p.2.2.trans q.2.2⟩
theorem rlE_refl (B B0 Bm L bx : Nat) (v3 vl vm : Value) (t : Tk) (us : List Value) (w : World) : RlE B B0 Bm L bx v3 vl vm t us w w := ⟨⟨Nat.le_refl _, fun _ _ _ _ => rfl, fun _ _ _ => .inl rfl⟩, fun h => h, Below.refl _ _⟩
theorem rlE_below {B B0 Bm L bx : Nat} {v3 vl vm : Value} {t : Tk} {us : List Value} {w w' : World} (hlt : ∀ k, vl.ownBlock = some k → k < w.heap.size) (hB : B ≤ w.heap.size) (hb : Below w.heap.size w w') : RlE B B0 Bm L bx v3 vl vm t us w w' :=
  ⟨⟨hb.size, fun k hk _ _ => hb.block k hk, fun k j e => .inl (hb.cell (p := ⟨k, j, none⟩) (hlt k e))⟩, fun h => h.up hb, hb.mono hB⟩
theorem own_ne {v : Value} {row : Option Nat} (h : ∀ k, v.ownBlock = some k → some k ≠ row) : v.ownBlock = none ∨ v.ownBlock ≠ row := by
  cases e : v.ownBlock with
  | none => exact .inl rfl
  | some k => exact .inr (h k e)
theorem rlE_app {B B0 Bm L bx : Nat} {v3 vl vm : Value} {t : Tk} {us : List Value} {w w' : World} (dl3 : ∀ k, vl.ownBlock = some k → some k ≠ v3.ownBlock) (du : ∀ v ∈ us, ∀ b, v.ownBlock = some b → some b ≠ vl.ownBlock) (dm : ∀ k, vm.ownBlock = some k → some k ≠ vl.ownBlock ∧ some k ≠ v3.ownBlock) (dx : some bx ≠ vl.ownBlock ∧ some bx ≠ v3.ownBlock)
    (hlo : ∀ k, vl.ownBlock = some k → B ≤ k) (hB : B ≤ w.heap.size) (hg : w.grownBy w' vl.ownBlock) (hk : Stp vl.ownBlock t w w' ∧ RowT B0 w' vl (List.replicate L t)) : RlE B B0 Bm L bx v3 vl vm t us w w' :=
  ⟨⟨hg.size, fun k hk h1 _ => hg.block k hk h1, hk.1.cells⟩, fun h => ⟨hk.2, h.more.kept hg (own_ne fun k e => (dm k e).1), ⟨h.st.o3.kept hg (own_ne fun k e q => dl3 k q.symm e.symm), fun k v hv => by obtain ⟨n, h1, h2⟩ := h.st.k k v hv; exact ⟨n, h1, h2.kept hg (du v (List.mem_of_getElem? hv))⟩, h.st.n3⟩, h.x.grown hg dx.1⟩, hk.1.below hB hlo⟩
theorem rlE_last {B B0 Bm L bx : Nat} {v3 vl vm : Value} {t : Tk} {us : List Value} {w w' : World} (dl3 : ∀ k, vl.ownBlock = some k → some k ≠ v3.ownBlock) (dm : ∀ k, vm.ownBlock = some k → some k ≠ vl.ownBlock ∧ some k ≠ v3.ownBlock) (dx : some bx ≠ vl.ownBlock ∧ some bx ≠ v3.ownBlock)
    (hlt : ∀ k, vl.ownBlock = some k → k < w.heap.size) (hB : B ≤ w.heap.size) (hg : w.grownBy w' v3.ownBlock) (ho : w'.ownsRow B 25 1 v3 us.length us) : RlE B B0 Bm L bx v3 vl vm t us w w' :=
  ⟨⟨hg.size, fun k hk _ h2 => hg.block k hk h2, fun k j e => .inl (World.cell?_of_block (a := ⟨k, j, none⟩) (hg.block k (hlt k e) (dl3 k e)))⟩, fun h => ⟨h.row.kept hg (own_ne dl3), h.more.kept hg (own_ne fun k e => (dm k e).2), ⟨ho, fun k v hv => by obtain ⟨n, h1, h2⟩ := h.st.k k v hv; exact ⟨n, h1, h2.kept hg (h.st.n3 v (List.mem_of_getElem? hv))⟩, h.st.n3⟩, h.x.grown hg dx.2⟩,
    ⟨hg.os, hg.tape, hg.output, hg.size, fun k hk => hg.block k (by omega) (fun e => by have := (ho.lt k e.symm).1; omega)⟩⟩
theorem MkL.mv {g h : Option Nat} {t : Tk} {w w' : World} {v : Value} {n : Nat} (p : MkL w t v n) (q : Mv g h t w w') (hne : ∀ b, v.ownBlock = some b → some b ≠ h) : MkL w' t v n := by
  obtain ⟨a, c, rfl, h1, h2⟩ := p
  refine ⟨a, c, rfl, fun b e => Nat.lt_of_lt_of_le (h1 b e) q.size, fun hp => ?_⟩
  obtain ⟨b, rfl, h3⟩ := h2 hp
  refine ⟨b, rfl, fun j hj => ?_⟩
  by_cases e : g = some b
  · exact (q.cells b j e).elim (fun r => r.trans (h3 j hj)) id
  · exact (World.cell?_of_block (a := ⟨b, j, none⟩) (q.block b (h1 b rfl) (fun r => e r.symm) (hne b rfl))).trans (h3 j hj)
theorem ResT.mv {g : Option Nat} {v3 x : Value} {t : Tk} {n : Nat} {w w' : World} (p : ResT v3 t n x w) (q : Mv g v3.ownBlock t w w') : ResT v3 t n x w' := ⟨p.1.mv q p.2, p.2⟩
theorem block_mv {g h : Option Nat} {t : Tk} {W w w' : World} {b : Nat} (q : Mv g h t w w') (hg : ∀ k, g = some k → k < W.heap.size) (hh : ∀ k, h = some k → k < W.heap.size) (hb : W.heap.size ≤ b) (hl : b < w.heap.size) : w'.heap[b]? = w.heap[b]? :=
  q.block b hl (fun e => by have := hg b e.symm; omega) (fun e => by have := hh b e.symm; omega)
theorem LitT.mv {g h : Option Nat} {t : Tk} {W w w' : World} {m : Nat} {x : Value} (p : LitT W t m x w) (q : Mv g h t w w') (hg : ∀ k, g = some k → k < W.heap.size) (hh : ∀ k, h = some k → k < W.heap.size) : LitT W t m x w' := by
  obtain ⟨b, rfl, h1, h2, h3⟩ := p
  refine ⟨b, rfl, h1, Nat.lt_of_lt_of_le h2 q.size, fun j u hj => ?_⟩
  have e := block_mv q hg hh h1 h2
  have h4 := h3 j u hj
  rw [Addr.add_lit] at h4 ⊢
  exact (World.cell?_of_block (a := ⟨b, 0 + j, none⟩) e).trans h4
theorem St.push2 {B r g' c' : Nat} {w w' : World} {v3 : Value} {us new : List Value} (h : St B w v3 us) (hl : us.length = 5 * r) (hn5 : new.length = 5) (hnew : ∀ v ∈ new, ∃ n, n ≤ 16480 ∧ MkL w (mkT r) v n) (hne : ∀ v ∈ new, ∀ b, v.ownBlock = some b → some b ≠ v3.ownBlock)
    (hg : w.grownBy w' v3.ownBlock) (ho : w'.ownsRow B 25 1 (.slice (some ⟨g', 0, none⟩) (us.length + 5) c') (us.length + 5) (us ++ new)) (hat : v3.ownBlock = some g' ∨ w.heap.size ≤ g') : St B w' (.slice (some ⟨g', 0, none⟩) (us.length + 5) c') (us ++ new) := by
  have hall : ∀ k v, (us ++ new)[k]? = some v → ∃ n, n ≤ 16480 ∧ MkL w (mkT (k / 5)) v n := by
    intro k v hv
    by_cases hk : k < us.length
    · rw [List.getElem?_append_left hk] at hv
      exact h.k k v hv
    · rw [List.getElem?_append_right (by omega)] at hv
      have hj : k - us.length < 5 := by rw [← hn5]; exact (List.getElem?_eq_some_iff.1 hv).1
      rw [show k / 5 = r by omega]
      exact hnew v (List.mem_of_getElem? hv)
  have hn : ∀ v ∈ us ++ new, ∀ b, v.ownBlock = some b → some b ≠ v3.ownBlock := fun v hv => (List.mem_append.1 hv).elim (h.n3 v) (hne v)
  refine ⟨by rw [List.length_append, hn5]; exact ho, fun k v hv => ?_, fun v hv b e q => ?_⟩
  · obtain ⟨n, h1, h2⟩ := hall k v hv
    exact ⟨n, h1, h2.kept hg (hn v (List.mem_of_getElem? hv))⟩
  · obtain rfl : b = g' := by simpa [Value.ownBlock] using q
    rcases hat with he | he
    · exact hn v hv b e he.symm
    · obtain ⟨k, hk⟩ := List.mem_iff_getElem?.1 hv
      obtain ⟨n, _, _, _, rfl, h2, _⟩ := hall k v hk
      have := h2 b e
      omega
theorem one_mk {t : Tk} {w : World} {v : Value} {n : Nat} (h : MkL w t v n) : v.oneCell' = true := by
  obtain ⟨a, c, rfl, _⟩ := h
  rfl
theorem one5 {B0 L : Nat} {v3 vl z1 z2 z3 z4 : Value} {t : Tk} {w : World} (h : RowT B0 w vl (List.replicate L t)) (r1 : ResT v3 t (L + 1) z1 w) (r2 : ResT v3 t (L + 2) z2 w) (r3 : ResT v3 t (L + 3) z3 w) (r4 : ResT v3 t (L + 96) z4 w) : ∀ u ∈ [vl, z1, z2, z3, z4], u.oneCell' = true := by
  intro u hu
  simp at hu
  rcases hu with rfl | rfl | rfl | rfl | rfl
  · exact one_mk (MkL.of h)
  · exact one_mk r1.1
  · exact one_mk r2.1
  · exact one_mk r3.1
  · exact one_mk r4.1
theorem new5 {L : Nat} {v3 vl z1 z2 z3 z4 : Value} {t : Tk} {w : World} (hL : L ≤ 16384) (h : MkL w t vl L) (r1 : ResT v3 t (L + 1) z1 w) (r2 : ResT v3 t (L + 2) z2 w) (r3 : ResT v3 t (L + 3) z3 w) (r4 : ResT v3 t (L + 96) z4 w) : ∀ u ∈ [vl, z1, z2, z3, z4], ∃ n, n ≤ 16480 ∧ MkL w t u n := by
  intro u hu
  simp at hu
  rcases hu with rfl | rfl | rfl | rfl | rfl
  · exact ⟨_, by omega, h⟩
  · exact ⟨_, by omega, r1.1⟩
  · exact ⟨_, by omega, r2.1⟩
  · exact ⟨_, by omega, r3.1⟩
  · exact ⟨_, by omega, r4.1⟩
theorem ne5 {L : Nat} {v3 vl z1 z2 z3 z4 : Value} {t : Tk} {w : World} (h : ∀ k, vl.ownBlock = some k → some k ≠ v3.ownBlock) (r1 : ResT v3 t (L + 1) z1 w) (r2 : ResT v3 t (L + 2) z2 w) (r3 : ResT v3 t (L + 3) z3 w) (r4 : ResT v3 t (L + 96) z4 w) : ∀ u ∈ [vl, z1, z2, z3, z4], ∀ b, u.ownBlock = some b → some b ≠ v3.ownBlock := by
  intro u hu
  simp at hu
  rcases hu with rfl | rfl | rfl | rfl | rfl
  · exact h
  · exact r1.2
  · exact r2.2
  · exact r3.2
  · exact r4.2
noncomputable def ftE (B L : Nat) (W : World) (v3 vl vm : Value) (t : Tk) (us : List Value) (i : Nat) (x : Value) (w : World) : Prop := match i with
  | 0 => x = v3
  | 1 | 2 | 6 | 11 | 17 => x = vl
  | 3 | 7 | 8 | 12 | 13 | 14 => x = t.val
  | 4 => LitT W t 1 x w
  | 9 => LitT W t 2 x w
  | 15 => LitT W t 3 x w
  | 5 => ResT v3 t (L + 1) x w
  | 10 => ResT v3 t (L + 2) x w
  | 16 => ResT v3 t (L + 3) x w
  | 19 => ResT v3 t (L + 96) x w
  | 18 => x = vm
  | 20 => ∃ b z1 z2 z3 z4, x = .slice (some ⟨b, 0, none⟩) 5 5 ∧ W.heap.size ≤ b ∧ b < w.heap.size ∧ (∀ j u, [vl, z1, z2, z3, z4][j]? = some u → w.cell? ((⟨b, 0, none⟩ : Addr).add j) = some u) ∧ ResT v3 t (L + 1) z1 w ∧ ResT v3 t (L + 2) z2 w ∧ ResT v3 t (L + 3) z3 w ∧ ResT v3 t (L + 96) z4 w
  | _ => ∃ us', us'.length = us.length + 5 ∧ St B w x us'
theorem ftE_mono {B L : Nat} {W : World} {v3 vl vm : Value} {t : Tk} {us : List Value} {i : Nat} {x : Value} {w w2 : World} (hlt : ∀ k, vl.ownBlock = some k → k < W.heap.size) (h3t : ∀ k, v3.ownBlock = some k → k < W.heap.size) (hi : i < 21) (hF : ftE B L W v3 vl vm t us i x w) (q : Mv vl.ownBlock v3.ownBlock t w w2) : ftE B L W v3 vl vm t us i x w2 := by
  match i, hi with
  | 0, _ => exact hF
  | 1, _ => exact hF
  | 2, _ => exact hF
  | 3, _ => exact hF
  | 4, _ => exact LitT.mv hF q hlt h3t
  | 5, _ => exact ResT.mv hF q
  | 6, _ => exact hF
  | 7, _ => exact hF
  | 8, _ => exact hF
  | 9, _ => exact LitT.mv hF q hlt h3t
  | 10, _ => exact ResT.mv hF q
  | 11, _ => exact hF
  | 12, _ => exact hF
  | 13, _ => exact hF
  | 14, _ => exact hF
  | 15, _ => exact LitT.mv hF q hlt h3t
  | 16, _ => exact ResT.mv hF q
  | 17, _ => exact hF
  | 18, _ => exact hF
  | 19, _ => exact ResT.mv hF q
  | 20, _ => obtain ⟨b, z1, z2, z3, z4, rfl, h1, h2, h3, r1, r2, r3, r4⟩ := hF; exact ⟨b, z1, z2, z3, z4, rfl, h1, Nat.lt_of_lt_of_le h2 q.size, fun j u hj => by (have h4 := h3 j u hj; rw [Addr.add_lit] at h4 ⊢; exact (World.cell?_of_block (a := ⟨b, 0 + j, none⟩) (block_mv q hlt h3t h1 h2)).trans h4), r1.mv q, r2.mv q, r3.mv q, r4.mv q⟩
  | k + 21, h => exact absurd h (by omega)
set_option maxRecDepth 100000 in
set_option maxHeartbeats 4000000 in
theorem end_any {W : World} {p0 p4 v3 vl vm : Value} {us : List Value} {bx B B0 Bm L r : Nat} {t : Tk} (ht : t = mkT r) (hE0 : EnI B B0 Bm L bx v3 vl vm t us W) (hB : B ≤ B0) (hB0 : B0 ≤ W.heap.size) (hL : L ≤ 16384) (hul5 : us.length = 5 * r) (hul : us.length ≤ 10485760)
    (dl3 : ∀ k, vl.ownBlock = some k → some k ≠ v3.ownBlock) (du : ∀ v ∈ us, ∀ b, v.ownBlock = some b → some b ≠ vl.ownBlock) (dm : ∀ k, vm.ownBlock = some k → some k ≠ vl.ownBlock ∧ some k ≠ v3.ownBlock) (dx : some bx ≠ vl.ownBlock ∧ some bx ≠ v3.ownBlock)
    {tm : Array Value} (hsz : tm.size = 160) (hchk : chk tm [(0, p0), (3, v3), (4, p4), (5, vl), (13, .pointer (some ⟨bx, 0, none⟩)), (15, vm)]) {Q : Exit → Act → World → Prop}
    (hQ : ∀ W' v3' us', St B W' v3' us' → us'.length = us.length + 5 → Below B W W' → ∀ tm : Array Value, tm.size = 160 → chk tm [(0, p0), (3, v3'), (4, p4)] → Q .normal { tmps := tm, defers := [] } W') :
    skEnd.wp Tryd.prog Q { tmps := tm, defers := [] } W := by
  obtain ⟨i0, hi0, hz0, hz1, hz2⟩ := info_parts Tryd.infoTok
  obtain ⟨i1, qi, qz0, qz1, qz2⟩ := info_parts Tryd.infoToks
  obtain ⟨e0, e3, e4, e5, e13, e15, _⟩ := hchk
  subst ht
  have hdr : Below W.heap.size W W.drew := (Below.refl _ _).drew
  have hlt : ∀ k, vl.ownBlock = some k → k < W.heap.size := fun k e => (World.ownsRow.lt hE0.row k e).2
  have hlo : ∀ k, vl.ownBlock = some k → B ≤ k := fun k e => Nat.le_trans hB (World.ownsRow.lt hE0.row k e).1
  have h3t : ∀ k, v3.ownBlock = some k → k < W.heap.size := fun k e => (World.ownsRow.lt hE0.st.o3 k e).2
  have rlR := fun w => rlE_refl B B0 Bm L bx v3 vl vm (mkT r) us w
  have rlB := fun (w w' : World) (hw : W.heap.size ≤ w.heap.size) hb => rlE_below (B := B) (B0 := B0) (Bm := Bm) (L := L) (bx := bx) (v3 := v3) (vm := vm) (t := mkT r) (us := us) (w := w) (w' := w') (fun k e => Nat.lt_of_lt_of_le (hlt k e) hw) (by omega) hb
  have rlA := fun (w w' : World) (hw : W.heap.size ≤ w.heap.size) hg hk => rlE_app (B := B) (B0 := B0) (Bm := Bm) (L := L) (bx := bx) (w := w) (w' := w') (t := mkT r) (us := us) dl3 du dm dx hlo (by omega) hg hk
  have rlC := fun (w w' : World) (hw : W.heap.size ≤ w.heap.size) hg ho => rlE_last (B := B) (B0 := B0) (Bm := Bm) (L := L) (bx := bx) (w := w) (w' := w') (t := mkT r) (us := us) (vl := vl) (vm := vm) dl3 dm dx (fun k e => Nat.lt_of_lt_of_le (hlt k e) hw) (by omega) hg ho
  have lt' : ∀ w, RlE B B0 Bm L bx v3 vl vm (mkT r) us W.drew w → W.heap.size ≤ w.heap.size := fun w h => h.1.size
  have resA : ∀ {m g' c' : Nat} (w w2 : World), W.heap.size ≤ w.heap.size → w2.ownsRow B0 31 3 (.slice (some ⟨g', 0, none⟩) (L + m) c') (L + m) (kcells (List.replicate L (mkT r)) ++ kcells (List.replicate m (mkT r))) → (vl.ownBlock = some g' ∨ w.heap.size ≤ g') → ResT v3 (mkT r) (L + m) (.slice (some ⟨g', 0, none⟩) (L + m) c') w2 := fun w w2 hw o1 o4 => ⟨MkL.of (keeps_row o1), fun b e q => by
    obtain rfl : _ = b := by simpa [Value.ownBlock] using e
    rcases o4 with o4 | o4
    · exact dl3 _ o4 q
    · have := h3t _ q.symm
      omega⟩
  unfold skEnd skRound skLoop
  dsimp only [Tryd.f3]
  refine region_inv2 (z := 21) (N := 160) (by kernel_rfl) (fun i => if i < 22 then 110 + i else 3) (ftE B L W v3 vl vm (mkT r) us) (RlE B B0 Bm L bx v3 vl vm (mkT r) us) _ W rfl hsz (fun i j _ _ e => by first | (split at e <;> split at e <;> omega) | (dsimp only at e; split at e <;> split at e <;> omega)) (fun i hi => by first | (split <;> omega) | (dsimp only; split <;> omega)) ?_ ?_ ⟨_, rfl, ⟨21, .data⟩, by simp, rfl, rfl⟩ (rlR _) (fun a b c h1 h2 => h1.trans h2) ?_ ?_ ?_
  · intro i o ho e he
    rcases Nat.lt_or_ge i 23 with hi | hi
    · match i, hi with
      | 0, _ => obtain rfl := Option.some.inj ho; revert e; decide
      | 1, _ => obtain rfl := Option.some.inj ho; revert e; decide
      | 2, _ => obtain rfl := Option.some.inj ho; revert e; decide
      | 3, _ => obtain rfl := Option.some.inj ho; revert e; decide
      | 4, _ => obtain rfl := Option.some.inj ho; revert e; decide
      | 5, _ => obtain rfl := Option.some.inj ho; revert e; decide
      | 6, _ => obtain rfl := Option.some.inj ho; revert e; decide
      | 7, _ => obtain rfl := Option.some.inj ho; revert e; decide
      | 8, _ => obtain rfl := Option.some.inj ho; revert e; decide
      | 9, _ => obtain rfl := Option.some.inj ho; revert e; decide
      | 10, _ => obtain rfl := Option.some.inj ho; revert e; decide
      | 11, _ => obtain rfl := Option.some.inj ho; revert e; decide
      | 12, _ => obtain rfl := Option.some.inj ho; revert e; decide
      | 13, _ => obtain rfl := Option.some.inj ho; revert e; decide
      | 14, _ => obtain rfl := Option.some.inj ho; revert e; decide
      | 15, _ => obtain rfl := Option.some.inj ho; revert e; decide
      | 16, _ => obtain rfl := Option.some.inj ho; revert e; decide
      | 17, _ => obtain rfl := Option.some.inj ho; revert e; decide
      | 18, _ => obtain rfl := Option.some.inj ho; revert e; decide
      | 19, _ => obtain rfl := Option.some.inj ho; revert e; decide
      | 20, _ => obtain rfl := Option.some.inj ho; revert e; decide
      | 21, _ => obtain rfl := Option.some.inj ho; revert e; decide
      | 22, _ => obtain rfl := Option.some.inj ho; revert e; decide
      | k + 23, h => exact absurd h (by omega)
    · rw [Array.getElem?_eq_none (by exact hi)] at ho; cases ho
  · intro D cl h i hi
    have q0 := h 0 ⟨_, rfl, ⟨0, .data⟩, by simp, rfl, rfl⟩
    have q20 := h 20 ⟨_, rfl, ⟨20, .data⟩, by simp, rfl, rfl⟩
    have q1 := cl 20 1 q20 ⟨_, rfl, ⟨1, .data⟩, by simp, rfl, rfl⟩
    have q5 := cl 20 5 q20 ⟨_, rfl, ⟨5, .data⟩, by simp, rfl, rfl⟩
    have q10 := cl 20 10 q20 ⟨_, rfl, ⟨10, .data⟩, by simp, rfl, rfl⟩
    have q16 := cl 20 16 q20 ⟨_, rfl, ⟨16, .data⟩, by simp, rfl, rfl⟩
    have q19 := cl 20 19 q20 ⟨_, rfl, ⟨19, .data⟩, by simp, rfl, rfl⟩
    have q17 := cl 19 17 q19 ⟨_, rfl, ⟨17, .data⟩, by simp, rfl, rfl⟩
    have q18 := cl 19 18 q19 ⟨_, rfl, ⟨18, .data⟩, by simp, rfl, rfl⟩
    have q11 := cl 16 11 q16 ⟨_, rfl, ⟨11, .data⟩, by simp, rfl, rfl⟩
    have q15 := cl 16 15 q16 ⟨_, rfl, ⟨15, .data⟩, by simp, rfl, rfl⟩
    have q12 := cl 15 12 q15 ⟨_, rfl, ⟨12, .data⟩, by simp, rfl, rfl⟩
    have q13 := cl 15 13 q15 ⟨_, rfl, ⟨13, .data⟩, by simp, rfl, rfl⟩
    have q14 := cl 15 14 q15 ⟨_, rfl, ⟨14, .data⟩, by simp, rfl, rfl⟩
    have q6 := cl 10 6 q10 ⟨_, rfl, ⟨6, .data⟩, by simp, rfl, rfl⟩
    have q9 := cl 10 9 q10 ⟨_, rfl, ⟨9, .data⟩, by simp, rfl, rfl⟩
    have q7 := cl 9 7 q9 ⟨_, rfl, ⟨7, .data⟩, by simp, rfl, rfl⟩
    have q8 := cl 9 8 q9 ⟨_, rfl, ⟨8, .data⟩, by simp, rfl, rfl⟩
    have q2 := cl 5 2 q5 ⟨_, rfl, ⟨2, .data⟩, by simp, rfl, rfl⟩
    have q4 := cl 5 4 q5 ⟨_, rfl, ⟨4, .data⟩, by simp, rfl, rfl⟩
    have q3 := cl 4 3 q4 ⟨_, rfl, ⟨3, .data⟩, by simp, rfl, rfl⟩
    match i, hi with
    | 0, _ => exact q0
    | 1, _ => exact q1
    | 2, _ => exact q2
    | 3, _ => exact q3
    | 4, _ => exact q4
    | 5, _ => exact q5
    | 6, _ => exact q6
    | 7, _ => exact q7
    | 8, _ => exact q8
    | 9, _ => exact q9
    | 10, _ => exact q10
    | 11, _ => exact q11
    | 12, _ => exact q12
    | 13, _ => exact q13
    | 14, _ => exact q14
    | 15, _ => exact q15
    | 16, _ => exact q16
    | 17, _ => exact q17
    | 18, _ => exact q18
    | 19, _ => exact q19
    | 20, _ => exact q20
    | k + 21, h => exact absurd h (by omega)
  · intro i x w w2 hi _ hF h2
    exact ftE_mono hlt h3t hi hF h2.1
  · intro i tm' w' hi hsz' hoth hdep hR' h3'
    have hE := hR'.2.1 (hE0.up hdr)
    have hsW : W.heap.size ≤ w'.heap.size := hR'.1.size
    match i, hi with
    | 0, _ =>
      exact op_move rfl rfl _ rfl ((h3' (by decide)).trans (at_get e3)) ⟨_, rfl, rlR w', rfl, fun _ => rfl⟩
    | 1, _ =>
      exact op_move rfl rfl _ rfl ((hoth 5 (fun i hi => by first | (split <;> omega) | (dsimp only; split <;> omega))).trans (at_get e5)) ⟨_, rfl, rlR w', rfl, fun _ => rfl⟩
    | 2, _ =>
      exact op_move rfl rfl _ rfl ((hoth 5 (fun i hi => by first | (split <;> omega) | (dsimp only; split <;> omega))).trans (at_get e5)) ⟨_, rfl, rlR w', rfl, fun _ => rfl⟩
    | 3, _ =>
      exact op_load rfl rfl _ _ rfl ((hoth 13 (fun i hi => by first | (split <;> omega) | (dsimp only; split <;> omega))).trans (at_get e13)) (run_load1 w' hE.x.1 hE.x.2.1 hE.x.2.2) ⟨_, rfl, rlR w', rfl, fun _ => rfl⟩
    | 4, _ =>
      have d3 : tm'.getD 113 undef = (mkT r).val := hdep 3 ⟨_, rfl, ⟨3, .data⟩, by simp, rfl, rfl⟩
      exact op_bs rfl rfl _ _ _ rfl #[(0, (mkT r).val)] (by simp only [List.map_toArray, List.map_cons, List.map_nil, Act.eval, d3]) (run_bs1 w' (mkT r)) ⟨_, rfl, rlB w' _ (lt' w' hR') ((Below.refl _ _).alloc (Nat.le_refl _) _), lit_new1 w' _ hsW, fun q => by omega⟩
    | 5, _ =>
      have dl : tm'.getD 112 undef = vl := hdep 2 ⟨_, rfl, ⟨2, .data⟩, by simp, rfl, rfl⟩
      obtain ⟨b, db, hb1, hb2, hb3⟩ := hdep 4 ⟨_, rfl, ⟨4, .data⟩, by simp, rfl, rfl⟩
      exact op_append_keeps w' rfl rfl _ _ 25 rfl B0 31 i0 _ 3 32 Tryd.underlying25 hi0 hz0 hz1 hz2 rfl (by decide) vl L _ dl hE.row.rep ⟨b, 0, none⟩ 1 1 (kcells (List.replicate 1 (mkT r))) db rfl hb3 (kcells_one _) (by decide) (by unfold maxLen; omega) (by omega) (by omega) (fun g' c' w2 o1 o2 o3 o4 o5 => ⟨_, rfl, rlA w' w2 (lt' w' hR') o3 (keeps_stp o3 o5 o2), resA w' w2 (lt' w' hR') o1 o4, fun q => by omega⟩)
    | 6, _ =>
      exact op_move rfl rfl _ rfl ((hoth 5 (fun i hi => by first | (split <;> omega) | (dsimp only; split <;> omega))).trans (at_get e5)) ⟨_, rfl, rlR w', rfl, fun _ => rfl⟩
    | 7, _ =>
      exact op_load rfl rfl _ _ rfl ((hoth 13 (fun i hi => by first | (split <;> omega) | (dsimp only; split <;> omega))).trans (at_get e13)) (run_load1 w' hE.x.1 hE.x.2.1 hE.x.2.2) ⟨_, rfl, rlR w', rfl, fun _ => rfl⟩
    | 8, _ =>
      exact op_load rfl rfl _ _ rfl ((hoth 13 (fun i hi => by first | (split <;> omega) | (dsimp only; split <;> omega))).trans (at_get e13)) (run_load1 w' hE.x.1 hE.x.2.1 hE.x.2.2) ⟨_, rfl, rlR w', rfl, fun _ => rfl⟩
    | 9, _ =>
      have d7 : tm'.getD 117 undef = (mkT r).val := hdep 7 ⟨_, rfl, ⟨7, .data⟩, by simp, rfl, rfl⟩
      have d8 : tm'.getD 118 undef = (mkT r).val := hdep 8 ⟨_, rfl, ⟨8, .data⟩, by simp, rfl, rfl⟩
      exact op_bs rfl rfl _ _ _ rfl #[(0, (mkT r).val), (1, (mkT r).val)] (by simp only [List.map_toArray, List.map_cons, List.map_nil, Act.eval, d7, d8]) (run_bs2 w' (mkT r)) ⟨_, rfl, rlB w' _ (lt' w' hR') ((Below.refl _ _).alloc (Nat.le_refl _) _), lit_new2 w' _ hsW, fun q => by omega⟩
    | 10, _ =>
      have dl : tm'.getD 116 undef = vl := hdep 6 ⟨_, rfl, ⟨6, .data⟩, by simp, rfl, rfl⟩
      obtain ⟨b, db, hb1, hb2, hb3⟩ := hdep 9 ⟨_, rfl, ⟨9, .data⟩, by simp, rfl, rfl⟩
      exact op_append_keeps w' rfl rfl _ _ 25 rfl B0 31 i0 _ 3 32 Tryd.underlying25 hi0 hz0 hz1 hz2 rfl (by decide) vl L _ dl hE.row.rep ⟨b, 0, none⟩ 2 2 (kcells (List.replicate 2 (mkT r))) db rfl hb3 (kcells_one _) (by decide) (by unfold maxLen; omega) (by omega) (by omega) (fun g' c' w2 o1 o2 o3 o4 o5 => ⟨_, rfl, rlA w' w2 (lt' w' hR') o3 (keeps_stp o3 o5 o2), resA w' w2 (lt' w' hR') o1 o4, fun q => by omega⟩)
    | 11, _ =>
      exact op_move rfl rfl _ rfl ((hoth 5 (fun i hi => by first | (split <;> omega) | (dsimp only; split <;> omega))).trans (at_get e5)) ⟨_, rfl, rlR w', rfl, fun _ => rfl⟩
    | 12, _ =>
      exact op_load rfl rfl _ _ rfl ((hoth 13 (fun i hi => by first | (split <;> omega) | (dsimp only; split <;> omega))).trans (at_get e13)) (run_load1 w' hE.x.1 hE.x.2.1 hE.x.2.2) ⟨_, rfl, rlR w', rfl, fun _ => rfl⟩
    | 13, _ =>
      exact op_load rfl rfl _ _ rfl ((hoth 13 (fun i hi => by first | (split <;> omega) | (dsimp only; split <;> omega))).trans (at_get e13)) (run_load1 w' hE.x.1 hE.x.2.1 hE.x.2.2) ⟨_, rfl, rlR w', rfl, fun _ => rfl⟩
    | 14, _ =>
      exact op_load rfl rfl _ _ rfl ((hoth 13 (fun i hi => by first | (split <;> omega) | (dsimp only; split <;> omega))).trans (at_get e13)) (run_load1 w' hE.x.1 hE.x.2.1 hE.x.2.2) ⟨_, rfl, rlR w', rfl, fun _ => rfl⟩
    | 15, _ =>
      have d12 : tm'.getD 122 undef = (mkT r).val := hdep 12 ⟨_, rfl, ⟨12, .data⟩, by simp, rfl, rfl⟩
      have d13 : tm'.getD 123 undef = (mkT r).val := hdep 13 ⟨_, rfl, ⟨13, .data⟩, by simp, rfl, rfl⟩
      have d14 : tm'.getD 124 undef = (mkT r).val := hdep 14 ⟨_, rfl, ⟨14, .data⟩, by simp, rfl, rfl⟩
      exact op_bs rfl rfl _ _ _ rfl #[(0, (mkT r).val), (1, (mkT r).val), (2, (mkT r).val)] (by simp only [List.map_toArray, List.map_cons, List.map_nil, Act.eval, d12, d13, d14]) (run_bs3 w' (mkT r)) ⟨_, rfl, rlB w' _ (lt' w' hR') ((Below.refl _ _).alloc (Nat.le_refl _) _), lit_new3 w' _ hsW, fun q => by omega⟩
    | 16, _ =>
      have dl : tm'.getD 121 undef = vl := hdep 11 ⟨_, rfl, ⟨11, .data⟩, by simp, rfl, rfl⟩
      obtain ⟨b, db, hb1, hb2, hb3⟩ := hdep 15 ⟨_, rfl, ⟨15, .data⟩, by simp, rfl, rfl⟩
      exact op_append_keeps w' rfl rfl _ _ 25 rfl B0 31 i0 _ 3 32 Tryd.underlying25 hi0 hz0 hz1 hz2 rfl (by decide) vl L _ dl hE.row.rep ⟨b, 0, none⟩ 3 3 (kcells (List.replicate 3 (mkT r))) db rfl hb3 (kcells_one _) (by decide) (by unfold maxLen; omega) (by omega) (by omega) (fun g' c' w2 o1 o2 o3 o4 o5 => ⟨_, rfl, rlA w' w2 (lt' w' hR') o3 (keeps_stp o3 o5 o2), resA w' w2 (lt' w' hR') o1 o4, fun q => by omega⟩)
    | 17, _ =>
      exact op_move rfl rfl _ rfl ((hoth 5 (fun i hi => by first | (split <;> omega) | (dsimp only; split <;> omega))).trans (at_get e5)) ⟨_, rfl, rlR w', rfl, fun _ => rfl⟩
    | 18, _ =>
      exact op_move rfl rfl _ rfl ((hoth 15 (fun i hi => by first | (split <;> omega) | (dsimp only; split <;> omega))).trans (at_get e15)) ⟨_, rfl, rlR w', rfl, fun _ => rfl⟩
    | 19, _ =>
      have dl : tm'.getD 127 undef = vl := hdep 17 ⟨_, rfl, ⟨17, .data⟩, by simp, rfl, rfl⟩
      have dm : tm'.getD 128 undef = vm := hdep 18 ⟨_, rfl, ⟨18, .data⟩, by simp, rfl, rfl⟩
      obtain ⟨gm, cm, em⟩ := hE.more.pos (by simp)
      have hmr := hE.more
      rw [em] at hmr dm
      exact op_append_keeps w' rfl rfl _ _ 25 rfl B0 31 i0 _ 3 32 Tryd.underlying25 hi0 hz0 hz1 hz2 rfl (by decide) vl L _ dl hE.row.rep ⟨gm, 0, none⟩ 96 cm (kcells (List.replicate 96 (mkT r))) dm (by rw [kcells_len]; rfl) hmr.news (kcells_one _) (by decide) (by unfold maxLen; omega) (by omega) (by omega) (fun g' c' w2 o1 o2 o3 o4 o5 => ⟨_, rfl, rlA w' w2 (lt' w' hR') o3 (keeps_stp o3 o5 o2), resA w' w2 (lt' w' hR') o1 o4, fun q => by omega⟩)
    | 20, _ =>
      have d1 : tm'.getD 111 undef = vl := hdep 1 ⟨_, rfl, ⟨1, .data⟩, by simp, rfl, rfl⟩
      have r5 : ResT v3 (mkT r) (L + 1) (tm'.getD 115 undef) w' := hdep 5 ⟨_, rfl, ⟨5, .data⟩, by simp, rfl, rfl⟩
      have r10 : ResT v3 (mkT r) (L + 2) (tm'.getD 120 undef) w' := hdep 10 ⟨_, rfl, ⟨10, .data⟩, by simp, rfl, rfl⟩
      have r16 : ResT v3 (mkT r) (L + 3) (tm'.getD 126 undef) w' := hdep 16 ⟨_, rfl, ⟨16, .data⟩, by simp, rfl, rfl⟩
      have r19 : ResT v3 (mkT r) (L + 96) (tm'.getD 129 undef) w' := hdep 19 ⟨_, rfl, ⟨19, .data⟩, by simp, rfl, rfl⟩
      obtain ⟨al, cl, el⟩ := hE.row.form
      obtain ⟨⟨a1, c1, f1, _⟩, _⟩ := id r5
      obtain ⟨⟨a2, c2, f2, _⟩, _⟩ := id r10
      obtain ⟨⟨a3, c3, f3, _⟩, _⟩ := id r16
      obtain ⟨⟨a4, c4, f4, _⟩, _⟩ := id r19
      rw [el] at d1
      rw [f1] at r5
      rw [f2] at r10
      rw [f3] at r16
      rw [f4] at r19
      exact op_bs rfl rfl _ _ _ rfl #[(0, .slice al (List.replicate L (mkT r)).length cl), (1, .slice a1 (L + 1) c1), (2, .slice a2 (L + 2) c2), (3, .slice a3 (L + 3) c3), (4, .slice a4 (L + 96) c4)] (by simp only [List.map_toArray, List.map_cons, List.map_nil, Act.eval, d1, f1, f2, f3, f4]) (run_bsL w' _ _ _ _ _ _ _ _ _ _ _ _ _ _ _) ⟨_, rfl, rlB w' _ (lt' w' hR') ((Below.refl _ _).alloc (Nat.le_refl _) _), ⟨w'.heap.size, _, _, _, _, rfl, hsW, by rw [World.size_alloc]; omega, by rw [el]; exact five_new _ _ _ _ _ _ _, r5.up' ((Below.refl _ _).alloc (Nat.le_refl _) _), r10.up' ((Below.refl _ _).alloc (Nat.le_refl _) _), r16.up' ((Below.refl _ _).alloc (Nat.le_refl _) _), r19.up' ((Below.refl _ _).alloc (Nat.le_refl _) _)⟩, fun q => by omega⟩
    | 21, _ =>
      have d0 : tm'.getD 110 undef = v3 := hdep 0 ⟨_, rfl, ⟨0, .data⟩, by simp, rfl, rfl⟩
      obtain ⟨b, z1, z2, z3, z4, db, hb1, hb2, hb3, r1, r2, r3, r4⟩ := hdep 20 ⟨_, rfl, ⟨20, .data⟩, by simp, rfl, rfl⟩
      exact op_append_keeps w' rfl rfl _ _ 24 rfl B 25 i1 _ 1 24 Tryd.underlying24 qi qz0 qz1 qz2 rfl (by decide) v3 us.length us d0 hE.st.o3 ⟨b, 0, none⟩ 5 5 [vl, z1, z2, z3, z4] db rfl hb3 (one5 hE.row r1 r2 r3 r4) (by decide) (by unfold maxLen; omega) (by omega) (by omega) (fun g' c' w2 o1 o2 o3 o4 _ => ⟨_, rfl, rlC w' w2 (lt' w' hR') o3 o2, ⟨us ++ [vl, z1, z2, z3, z4], by simp, hE.st.push2 hul5 rfl (new5 hL (MkL.of hE.row) r1 r2 r3 r4) (ne5 dl3 r1 r2 r3 r4) o3 o1 o4⟩, fun q => by omega⟩)
    | 22, _ =>
      exact op_assign rfl rfl _ rfl rfl ⟨_, rfl, rlR w', hdep 21 ⟨_, rfl, ⟨21, .data⟩, by simp, rfl, rfl⟩, fun _ => rfl⟩
    | k + 23, h => exact absurd h (by omega)
  · intro tm' w' hsz' hoth hall hR'
    obtain ⟨us', h1, h2⟩ := hall 22 (by decide)
    exact hQ w' _ us' h2 h1 ⟨hR'.2.2.os, hR'.2.2.tape, hR'.2.2.output, hR'.2.2.size, hR'.2.2.block⟩ tm' hsz' ⟨at_of (j := 0) hsz' (by decide) ((hoth 0 (fun i hi => by first | (split <;> omega) | (dsimp only; split <;> omega))).trans (at_get e0)), at_of (j := 3) hsz' (by decide) rfl, at_of (j := 4) hsz' (by decide) ((hoth 4 (fun i hi => by first | (split <;> omega) | (dsimp only; split <;> omega))).trans (at_get e4)), trivial⟩
end Go.Proofs.YtkkbccdjbgjjaaaDoor
