import Derived.Test.YtdhncpeemcanlaaGreatDoorJ25

namespace Go.Proofs.YtdhncpeemcanlaaGreatDoor
open Go.RowKit
attribute [local go_sem ↓] Go.wp_at_zero Go.wp_at_succ

/-- What a call that answers something new comes to. -/
def CR {α : Type} (lo b : Nat) (N1 : α → Value → (Nat → Prop) → World → Prop) (w0 : World) (r : Except (Int × Int) (α × PSt)) (e : Ending) (w : World) : Prop := match r with
  | .error y => e = flt y.1 y.2 ∧ w0.grownBy w (some b)
  | .ok (a, s') => ∃ x, e = .returned x ∧ N1 a x (fun k => w0.heap.size ≤ k) w ∧ Rd lo w b s' ∧ w0.grownBy w (some b)
theorem PR.cr {α : Type} {lo b : Nat} {w0 w : World} {ret : α → Value} {r : Except (Int × Int) (α × PSt)} {e : Ending} (h : PR lo b w0 ret r e w) : CR lo b (fun a x _ _ => x = ret a) w0 r e w := by
  unfold PR at h
  unfold CR
  cases r with
  | error y => exact h
  | ok y => exact ⟨_, h.1, rfl, h.2.1, h.2.2⟩
section
variable {α : Type} {lo b g : Nat} {T : TypeId} {nm : ByteArray} {ss : List Slot} {N : (Nat → Prop) → World → Prop} {V W : World} {s : PSt} {i : Nat} {sl : Slot} {r : Except (Int × Int) (α × PSt)} {N1 : α → Value → (Nat → Prop) → World → Prop}
/-- What a closure comes to that lays an answer behind a row. -/
def CP (lo b g : Nat) (T : TypeId) (nm : ByteArray) (ss : List Slot) (N : (Nat → Prop) → World → Prop) (V W : World) (i : Nat) (sl : Slot) (r : Except (Int × Int) (α × PSt)) (N1 : α → Value → (Nat → Prop) → World → Prop) (e : Ending) (w : World) : Prop := match r with
  | .error y => e = flt y.1 y.2 ∧ Sv g b W w
  | .ok (a, s') => e = .returned (.tuple #[]) ∧ ∃ x y, Ap lo b g T nm (ss.set i ⟨sl.t, sl.sz, y, sl.n + 1, sl.xs ++ x.cells.toList⟩) (fun P w => N P w ∧ N1 a x P w) V W s' w
/-- The world by phases: ahead of the call; behind it; the answer in a row of its own; appended. -/
def Ph (lo b g : Nat) (T : TypeId) (nm : ByteArray) (ss : List Slot) (N : (Nat → Prop) → World → Prop) (V W : World) (s : PSt) (sl : Slot) (r : Except (Int × Int) (α × PSt)) (N1 : α → Value → (Nat → Prop) → World → Prop) : Nat → Value → World → Prop
  | 0, _, w => Ap lo b g T nm ss N V W s w
  | 1, x, w => ∃ a s', r = .ok (a, s') ∧ N1 a x (Fz ss g b) w ∧ Ap lo b g T nm ss (fun P w => N P w ∧ N1 a x P w) V W s' w
  | 2, y, w => ∃ a s' x gy, r = .ok (a, s') ∧ y = .slice (some ⟨gy, 0, none⟩) 1 1 ∧ w.heap[gy]? = some (.cells x.cells sl.t (0, 0)) ∧ N1 a x (Fz ss g b) w ∧ Ap lo b g T nm ss (fun P w => N P w ∧ N1 a x P w) V W s' w
  | _ + 3, y, w => ∃ a s' x w2, r = .ok (a, s') ∧ Ap lo b g T nm ss (fun P w => N P w ∧ N1 a x P w) V W s' w2 ∧ w2.grownBy w sl.v.ownBlock ∧ w.ownsRow (g + 1) sl.t sl.sz y (sl.n + 1) (sl.xs ++ x.cells.toList) ∧ (y.ownBlock = sl.v.ownBlock ∨ y.ownBlock = some w2.heap.size)
/-- What the quiet operations read. -/
def Bs (g : Nat) (T : TypeId) (nm : ByteArray) (ss : List Slot) (cs : List (Nat × Array Value × TypeId)) (w : World) : Prop := w.heap[g]? = some (.cells (.string nm :: ss.map Slot.v).toArray T (0, 0)) ∧ ∀ c ∈ cs, w.heap[c.1]? = some (.cells c.2.1 c.2.2 (0, 0))
theorem Ph.base {cs : List (Nat × Array Value × TypeId)} (hcs : ∀ P w, N P w → ∀ c ∈ cs, Cell1 c.1 c.2.1 c.2.2 P w) (hi : ss[i]? = some sl) : ∀ (ph : Nat) (x : Value) (w : World), Ph lo b g T nm ss N V W s sl r N1 ph x w → Bs g T nm ss cs w
  | 0, x, w, h => ⟨h.bx.blk, fun c hc => (hcs _ _ h.nx c hc).1⟩
  | 1, x, w, ⟨a, s', _, _, h⟩ => ⟨h.bx.blk, fun c hc => (hcs _ _ h.nx.1 c hc).1⟩
  | 2, x, w, ⟨a, s', _, _, _, _, _, _, h⟩ => ⟨h.bx.blk, fun c hc => (hcs _ _ h.nx.1 c hc).1⟩
  | _ + 3, x, w, ⟨a, s', _, w2, _, h, hg, _, _⟩ => by
    refine ⟨(hg.block g h.bx.lt (fun e => ?_)).trans h.bx.blk, fun c hc => ?_⟩
    · have := ((h.bx.own i sl hi).lt g e.symm).1; omega
    · obtain ⟨h1, h2⟩ := hcs _ _ h.nx.1 c hc
      exact (hg.block c.1 (Array.getElem?_eq_some_iff.1 h1).1 (fun e => h2.2.2 i sl hi e.symm)).trans h1
theorem Ph.call (hN : Stable N) (hN1 : ∀ a x, Stable (N1 a x)) {w w' : World} {e : Ending} (h : Ph lo b g T nm ss N V W s sl r N1 0 undef w) (hc : CR lo b N1 w r e w') : (∃ x, e = .returned x ∧ Ph lo b g T nm ss N V W s sl r N1 1 x w') ∨ ∃ y, r = .error y ∧ e = flt y.1 y.2 ∧ Sv g b W w' := by
  have h0 : Ap lo b g T nm ss N V W s w := h
  unfold CR at hc
  cases hr : r with
  | error y =>
    rw [hr] at hc
    exact .inr ⟨y, rfl, hc.1, h0.sv.trans (Sv.of hc.2 (by have := h0.bx.lt; omega))⟩
  | ok y =>
    rw [hr] at hc
    obtain ⟨x, rfl, h1, h2, h3⟩ := hc
    have h4 := h0.join hN (hN1 y.1 x) h2 h3 h1
    exact .inl ⟨x, rfl, y.1, y.2, rfl, h4.nx.2, h4⟩
theorem Ph.bs (hN : Stable N) (hN1 : ∀ a x, Stable (N1 a x)) {w : World} {x : Value} (h : Ph lo b g T nm ss N V W s sl r N1 1 x w) : Ph lo b g T nm ss N V W s sl r N1 2 (.slice (some ⟨w.heap.size, 0, none⟩) 1 1) (w.alloc (.cells x.cells sl.t)) := by
  obtain ⟨a, s', hr, _, h0⟩ := h
  have h1 := h0.up (hN.and (hN1 a x)) ((Below.refl w.heap.size w).alloc (Nat.le_refl _) (.cells x.cells sl.t))
  exact ⟨a, s', x, w.heap.size, hr, rfl, heap_new _ _, h1.nx.2, h1⟩
theorem Ph.app {w w' : World} {a : α} {s' : PSt} {x y : Value} (hr : r = .ok (a, s')) (h : Ap lo b g T nm ss (fun P w => N P w ∧ N1 a x P w) V W s' w) (hg : w.grownBy w' sl.v.ownBlock) (ho : w'.ownsRow (g + 1) sl.t sl.sz y (sl.n + 1) (sl.xs ++ x.cells.toList)) (hl : y.ownBlock = sl.v.ownBlock ∨ y.ownBlock = some w.heap.size) : Ph lo b g T nm ss N V W s sl r N1 3 y w' := ⟨a, s', x, w, hr, h, hg, ho, hl⟩
theorem Ph.last (hN : Stable N) (hN1 : ∀ a x, Stable (N1 a x)) (hi : ss[i]? = some sl) {w : World} {y : Value} (h : Ph lo b g T nm ss N V W s sl r N1 3 y w) : CP lo b g T nm ss N V W i sl r N1 (.returned (.tuple #[])) (w.setCell ⟨g, i + 1, none⟩ y) := by
  obtain ⟨a, s', x, w2, hr, h1, h2, h3, h4⟩ := h
  unfold CP
  rw [hr]
  exact ⟨rfl, x, y, h1.app (hN.and (hN1 a x)) hi h2 h3 h4⟩
theorem Bs.cell {cs : List (Nat × Array Value × TypeId)} {w : World} (h : Bs g T nm ss cs w) {p j : Nat} {vs : Array Value} {v : Value} {t : TypeId} (hc : (p, vs, t) ∈ cs) (hj : vs[j]? = some v) : w.cell? ⟨p, j, none⟩ = some v := by
  have := h.2 _ hc
  rw [cell_of_row _ _ _ _ _ _ this]
  exact hj
theorem Bs.row {cs : List (Nat × Array Value × TypeId)} {w : World} (h : Bs g T nm ss cs w) (hi : ss[i]? = some sl) : w.cell? ⟨g, i + 1, none⟩ = some sl.v := by
  rw [cell_of_row _ _ _ _ _ _ h.1]
  simp [hi]
theorem Bs.frozen {cs : List (Nat × Array Value × TypeId)} {w : World} (h : Bs g T nm ss cs w) (j : Nat) : w.frozen? ⟨g, j, none⟩ = false := by
  simp [World.frozen?, h.1]
end
section
variable {P : Program} {ops : Array Oper} {Q : Exit → Act → World → Prop}
theorem op_bs {i : Nat} {o : Oper} {a : Act} {w w' : World} {K : Act → World → Prop} {v : Value} (ho : ops[i]? = some o) (hg : o.guard = none) (t : TypeId) (len : Nat) (parts : Array (Nat × Operand)) (hop : o.op = .buildSlice t len parts) (vs : Array (Nat × Value)) (hv : (parts.map fun p => (p.1, a.eval p.2)) = vs) (hr : (Instr.buildSlice t len vs).run P w = .ok v w') (hK : K (a.put o.dst v) w') : wpOp P ops Q i K a w := by
  refine op_run ho hg (v := v) (w' := w') ?_ hK
  simp only [execOp, hop, hv]
  exact run_v hr
theorem op_field {i : Nat} {o : Oper} {a : Act} {w w' : World} {K : Act → World → Prop} {v vx : Value} (ho : ops[i]? = some o) (hg : o.guard = none) (t : TypeId) (x : Operand) (f : Nat) (hop : o.op = .fieldAddr t x f) (ex : a.eval x = vx) (hr : (Instr.fieldAt t vx f).run P w = .ok v w') (hK : K (a.put o.dst v) w') : wpOp P ops Q i K a w := by
  refine op_run ho hg (v := v) (w' := w') ?_ hK
  simp only [execOp, hop, ex]
  exact run_v hr
theorem op_nilCheck {i : Nat} {o : Oper} {a : Act} {w : World} {K : Act → World → Prop} {ad : Addr} (ho : ops[i]? = some o) (hg : o.guard = none) (x : Operand) (hop : o.op = .nilCheck x) (ex : a.eval x = .pointer (some ad)) (hK : K (a.put o.dst (.pointer (some ad))) w) : wpOp P ops Q i K a w := by
  refine op_run ho hg (v := .pointer (some ad)) (w' := w) ?_ hK
  simp [execOp, hop, ex]
theorem op_len {i : Nat} {o : Oper} {a : Act} {w : World} {K : Act → World → Prop} {ad : Option Addr} {n c : Nat} (ho : ops[i]? = some o) (hg : o.guard = none) (x : Operand) (t e : TypeId) (hop : o.op = .call { callee := .builtin .len, args := #[x], argTypes := #[t] }) (ht : P.underlying t = some (.slice e)) (ex : a.eval x = .slice ad n c) (hK : K (a.put o.dst (.int .i64 (n : Int))) w) : wpOp P ops Q i K a w := by
  refine op_run ho hg (v := .int .i64 (n : Int)) (w' := w) ?_ hK
  unfold execOp
  simp [hop, resolve, invoke, builtin, ex, Builtin.len_, run_underlying ht, goInt]
theorem op_store {i : Nat} {o : Oper} {a : Act} {w w' : World} {K : Act → World → Prop} {vx vy : Value} (ho : ops[i]? = some o) (hg : o.guard = none) (t : TypeId) (x y : Operand) (hop : o.op = .store t x y) (ex : a.eval x = vx) (ey : a.eval y = vy) (hr : (Instr.storeAt t vx vy).run P w = .ok () w') (hK : K (a.put o.dst undef) w') : wpOp P ops Q i K a w := by
  refine op_skip ho hg (w' := w') ?_ hK
  simp [execOp, hop, ex, ey, hr]
/-- What a row's element type says. -/
def EI (P : Program) (e : TypeId) (sz bt : Nat) : Prop := ∃ i z, P.info? e = some i ∧ i.zero = some z ∧ i.size = sz ∧ i.bytes = bt ∧ z.cells.size = sz
theorem ei_of {e : TypeId} {z : Value} {sz bt : Nat} (h : (P.info? e).map (fun i => (i.zero, i.size, i.bytes)) = some (some z, sz, bt)) (hz : z.cells.size = sz) : EI P e sz bt := by
  obtain ⟨i, h1, h2, h3, h4⟩ := info_parts h
  exact ⟨i, z, h1, h2, h3, h4, hz⟩
theorem op_append_at (w : World) {k : Nat} {o : Oper} {a : Act} {K : Act → World → Prop} (hok : ops[k]? = some o) (hgd : o.guard = none) (s x : Operand) (t : TypeId)
    (ho : o.op = .call { callee := .builtin .append, args := #[s, x], argTypes := #[t, t] })
    (base : Nat) (e : TypeId) (size bytes : Nat) (ht : P.underlying t = some (.slice e)) (hi : EI P e size bytes) (hsz : 0 < size)
    (v : Value) (n : Nat) (xs : List Value) (hs : a.eval s = v) (hown : w.ownsRow base e size v n xs)
    (ad : Addr) (m c : Nat) (news : List Value) (hx : a.eval x = .slice (some ad) m c) (hl : news.length = m * size) (hnews : ∀ j u, news[j]? = some u → w.cell? (ad.add j) = some u) (h1 : ∀ u ∈ news, u.oneCell' = true)
    (h63 : n + m ≤ maxLen) (hbytes : (n + m) * bytes ≤ 140737488355328) (hbase : base ≤ w.heap.size)
    (h : ∀ v' w', w'.ownsRow base e size v' (n + m) (xs ++ news) → w.grownBy w' v.ownBlock → (v'.ownBlock = v.ownBlock ∨ v'.ownBlock = some w.heap.size) → K (a.put o.dst v') w') :
    wpOp P ops Q k K a w := by
  obtain ⟨i, z, e1, e2, e3, e4, e5⟩ := hi
  obtain ⟨v', w', hr, h2, h3, _, h5⟩ := run_append_own_at (P := P) w base t o.type e i z size bytes ht e1 e2 e3 e4 e5 hsz v n xs hown ad m c news hl hnews h1 h63 hbytes hbase
  refine op_run hok hgd (v := v') (w' := w') ?_ (h v' w' h2 h3 h5)
  unfold execOp
  simp only [ho, resolve, invoke, builtin, Sem.run_bind, Sem.run_pure, Result.andThen_ok, List.map_toArray, List.map_cons, List.map_nil, hs, hx, hr]
end
end Go.Proofs.YtdhncpeemcanlaaGreatDoor

namespace Go.Proofs.YtdhncpeemcanlaaGreatDoor
open Go.RowKit
attribute [local go_sem ↓] Go.wp_at_zero Go.wp_at_succ

theorem eiFld : EI Tryz.prog 47 6 72 := ei_of (z := .agg #[.int .i64 0, .string ⟨#[]⟩, .string ⟨#[]⟩, .string ⟨#[]⟩, .int .i64 0, .int .i64 0]) (by kernel_rfl) rfl
theorem eiStr : EI Tryz.prog 9 1 16 := ei_of (z := .string ⟨#[]⟩) (by kernel_rfl) rfl
theorem eiMsg : EI Tryz.prog 51 7 160 := ei_of (z := .agg #[.string ⟨#[]⟩, .slice none 0 0, .slice none 0 0, .slice none 0 0, .slice none 0 0, .slice none 0 0, .slice none 0 0]) (by kernel_rfl) rfl
theorem eiEnum : EI Tryz.prog 66 4 88 := ei_of (z := .agg #[.string ⟨#[]⟩, .slice none 0 0, .slice none 0 0, .slice none 0 0]) (by kernel_rfl) rfl
theorem eiRange : EI Tryz.prog 84 2 16 := ei_of (z := .agg #[.int .i64 0, .int .i64 0]) (by kernel_rfl) rfl
theorem eiVal : EI Tryz.prog 68 2 24 := ei_of (z := .agg #[.string ⟨#[]⟩, .int .i64 0]) (by kernel_rfl) rfl
theorem ld_msgptr (w : World) {p q j : Nat} (h : w.cell? ⟨p, 0, none⟩ = some (.pointer (some ⟨q, j, none⟩))) : (Instr.loadAt 128 (.pointer (some ⟨p, 0, none⟩))).run Tryz.prog w = .ok (.pointer (some ⟨q, j, none⟩)) w := by
  go_simp
theorem ld_fileptr (w : World) {p q j : Nat} (h : w.cell? ⟨p, 0, none⟩ = some (.pointer (some ⟨q, j, none⟩))) : (Instr.loadAt 104 (.pointer (some ⟨p, 0, none⟩))).run Tryz.prog w = .ok (.pointer (some ⟨q, j, none⟩)) w := by
  go_simp
theorem ld_rptr (w : World) {p q j : Nat} (h : w.cell? ⟨p, 0, none⟩ = some (.pointer (some ⟨q, j, none⟩))) : (Instr.loadAt 80 (.pointer (some ⟨p, 0, none⟩))).run Tryz.prog w = .ok (.pointer (some ⟨q, j, none⟩)) w := by
  go_simp
theorem ld_enumptr (w : World) {p q j : Nat} (h : w.cell? ⟨p, 0, none⟩ = some (.pointer (some ⟨q, j, none⟩))) : (Instr.loadAt 131 (.pointer (some ⟨p, 0, none⟩))).run Tryz.prog w = .ok (.pointer (some ⟨q, j, none⟩)) w := by
  go_simp
theorem ld_rangesptr (w : World) {p q j : Nat} (h : w.cell? ⟨p, 0, none⟩ = some (.pointer (some ⟨q, j, none⟩))) : (Instr.loadAt 151 (.pointer (some ⟨p, 0, none⟩))).run Tryz.prog w = .ok (.pointer (some ⟨q, j, none⟩)) w := by
  go_simp
theorem ld_strsptr (w : World) {p q j : Nat} (h : w.cell? ⟨p, 0, none⟩ = some (.pointer (some ⟨q, j, none⟩))) : (Instr.loadAt 152 (.pointer (some ⟨p, 0, none⟩))).run Tryz.prog w = .ok (.pointer (some ⟨q, j, none⟩)) w := by
  go_simp
theorem ld_flds (w : World) {p j n c : Nat} {a : Option Addr} (h : w.cell? ⟨p, j, none⟩ = some (.slice a n c)) : (Instr.loadAt 48 (.pointer (some ⟨p, j, none⟩))).run Tryz.prog w = .ok (.slice a n c) w := by
  go_simp
theorem st_flds (w : World) {p j n c : Nat} {a : Option Addr} {u : Value} (h : w.cell? ⟨p, j, none⟩ = some u) (hf : w.frozen? ⟨p, j, none⟩ = false) : (Instr.storeAt 48 (.pointer (some ⟨p, j, none⟩)) (.slice a n c)).run Tryz.prog w = .ok () (w.setCell ⟨p, j, none⟩ (.slice a n c)) := by
  go_simp
theorem ld_strs (w : World) {p j n c : Nat} {a : Option Addr} (h : w.cell? ⟨p, j, none⟩ = some (.slice a n c)) : (Instr.loadAt 30 (.pointer (some ⟨p, j, none⟩))).run Tryz.prog w = .ok (.slice a n c) w := by
  go_simp
theorem st_strs (w : World) {p j n c : Nat} {a : Option Addr} {u : Value} (h : w.cell? ⟨p, j, none⟩ = some u) (hf : w.frozen? ⟨p, j, none⟩ = false) : (Instr.storeAt 30 (.pointer (some ⟨p, j, none⟩)) (.slice a n c)).run Tryz.prog w = .ok () (w.setCell ⟨p, j, none⟩ (.slice a n c)) := by
  go_simp
theorem ld_msgs (w : World) {p j n c : Nat} {a : Option Addr} (h : w.cell? ⟨p, j, none⟩ = some (.slice a n c)) : (Instr.loadAt 31 (.pointer (some ⟨p, j, none⟩))).run Tryz.prog w = .ok (.slice a n c) w := by
  go_simp
theorem st_msgs (w : World) {p j n c : Nat} {a : Option Addr} {u : Value} (h : w.cell? ⟨p, j, none⟩ = some u) (hf : w.frozen? ⟨p, j, none⟩ = false) : (Instr.storeAt 31 (.pointer (some ⟨p, j, none⟩)) (.slice a n c)).run Tryz.prog w = .ok () (w.setCell ⟨p, j, none⟩ (.slice a n c)) := by
  go_simp
theorem ld_enums (w : World) {p j n c : Nat} {a : Option Addr} (h : w.cell? ⟨p, j, none⟩ = some (.slice a n c)) : (Instr.loadAt 32 (.pointer (some ⟨p, j, none⟩))).run Tryz.prog w = .ok (.slice a n c) w := by
  go_simp
theorem st_enums (w : World) {p j n c : Nat} {a : Option Addr} {u : Value} (h : w.cell? ⟨p, j, none⟩ = some u) (hf : w.frozen? ⟨p, j, none⟩ = false) : (Instr.storeAt 32 (.pointer (some ⟨p, j, none⟩)) (.slice a n c)).run Tryz.prog w = .ok () (w.setCell ⟨p, j, none⟩ (.slice a n c)) := by
  go_simp
theorem ld_ranges (w : World) {p j n c : Nat} {a : Option Addr} (h : w.cell? ⟨p, j, none⟩ = some (.slice a n c)) : (Instr.loadAt 49 (.pointer (some ⟨p, j, none⟩))).run Tryz.prog w = .ok (.slice a n c) w := by
  go_simp
theorem st_ranges (w : World) {p j n c : Nat} {a : Option Addr} {u : Value} (h : w.cell? ⟨p, j, none⟩ = some u) (hf : w.frozen? ⟨p, j, none⟩ = false) : (Instr.storeAt 49 (.pointer (some ⟨p, j, none⟩)) (.slice a n c)).run Tryz.prog w = .ok () (w.setCell ⟨p, j, none⟩ (.slice a n c)) := by
  go_simp
theorem ld_vals (w : World) {p j n c : Nat} {a : Option Addr} (h : w.cell? ⟨p, j, none⟩ = some (.slice a n c)) : (Instr.loadAt 64 (.pointer (some ⟨p, j, none⟩))).run Tryz.prog w = .ok (.slice a n c) w := by
  go_simp
theorem st_vals (w : World) {p j n c : Nat} {a : Option Addr} {u : Value} (h : w.cell? ⟨p, j, none⟩ = some u) (hf : w.frozen? ⟨p, j, none⟩ = false) : (Instr.storeAt 64 (.pointer (some ⟨p, j, none⟩)) (.slice a n c)).run Tryz.prog w = .ok () (w.setCell ⟨p, j, none⟩ (.slice a n c)) := by
  go_simp
theorem fa_msg1 (w : World) {p : Nat} : (Instr.fieldAt 51 (.pointer (some ⟨p, 0, none⟩)) 1).run Tryz.prog w = .ok (.pointer (some ⟨p, 1, none⟩)) w := by
  go_simp
theorem fa_msg2 (w : World) {p : Nat} : (Instr.fieldAt 51 (.pointer (some ⟨p, 0, none⟩)) 2).run Tryz.prog w = .ok (.pointer (some ⟨p, 2, none⟩)) w := by
  go_simp
theorem fa_msg3 (w : World) {p : Nat} : (Instr.fieldAt 51 (.pointer (some ⟨p, 0, none⟩)) 3).run Tryz.prog w = .ok (.pointer (some ⟨p, 3, none⟩)) w := by
  go_simp
theorem fa_msg4 (w : World) {p : Nat} : (Instr.fieldAt 51 (.pointer (some ⟨p, 0, none⟩)) 4).run Tryz.prog w = .ok (.pointer (some ⟨p, 4, none⟩)) w := by
  go_simp
theorem fa_msg5 (w : World) {p : Nat} : (Instr.fieldAt 51 (.pointer (some ⟨p, 0, none⟩)) 5).run Tryz.prog w = .ok (.pointer (some ⟨p, 5, none⟩)) w := by
  go_simp
theorem fa_msg6 (w : World) {p : Nat} : (Instr.fieldAt 51 (.pointer (some ⟨p, 0, none⟩)) 6).run Tryz.prog w = .ok (.pointer (some ⟨p, 6, none⟩)) w := by
  go_simp
theorem fa_file1 (w : World) {p : Nat} : (Instr.fieldAt 34 (.pointer (some ⟨p, 0, none⟩)) 1).run Tryz.prog w = .ok (.pointer (some ⟨p, 1, none⟩)) w := by
  go_simp
theorem fa_file2 (w : World) {p : Nat} : (Instr.fieldAt 34 (.pointer (some ⟨p, 0, none⟩)) 2).run Tryz.prog w = .ok (.pointer (some ⟨p, 2, none⟩)) w := by
  go_simp
theorem fa_file3 (w : World) {p : Nat} : (Instr.fieldAt 34 (.pointer (some ⟨p, 0, none⟩)) 3).run Tryz.prog w = .ok (.pointer (some ⟨p, 3, none⟩)) w := by
  go_simp
theorem fa_enumd1 (w : World) {p : Nat} : (Instr.fieldAt 66 (.pointer (some ⟨p, 0, none⟩)) 1).run Tryz.prog w = .ok (.pointer (some ⟨p, 1, none⟩)) w := by
  go_simp
theorem fa_enumd2 (w : World) {p : Nat} : (Instr.fieldAt 66 (.pointer (some ⟨p, 0, none⟩)) 2).run Tryz.prog w = .ok (.pointer (some ⟨p, 2, none⟩)) w := by
  go_simp
theorem fa_enumd3 (w : World) {p : Nat} : (Instr.fieldAt 66 (.pointer (some ⟨p, 0, none⟩)) 3).run Tryz.prog w = .ok (.pointer (some ⟨p, 3, none⟩)) w := by
  go_simp
theorem cf_rlabelled (w : World) (vs : Array Value) : (callFunc 114 vs).run Tryz.prog w = .ok (.enter 114 vs) w := by
  have hn : ¬ Tryz.f114.name = "runtime.NumGoroutine" := by decide +kernel
  have hb : Tryz.f114.body.isSome = true := by kernel_rfl
  obtain ⟨c, hc⟩ := Option.isSome_iff_exists.1 hb
  simp [callFunc, Tryz.func114, hn, hc]
theorem cf_rmapOrField (w : World) (vs : Array Value) : (callFunc 117 vs).run Tryz.prog w = .ok (.enter 117 vs) w := by
  have hn : ¬ Tryz.f117.name = "runtime.NumGoroutine" := by decide +kernel
  have hb : Tryz.f117.body.isSome = true := by kernel_rfl
  obtain ⟨c, hc⟩ := Option.isSome_iff_exists.1 hb
  simp [callFunc, Tryz.func117, hn, hc]
theorem cf_rplain (w : World) (vs : Array Value) : (callFunc 94 vs).run Tryz.prog w = .ok (.enter 94 vs) w := by
  have hn : ¬ Tryz.f94.name = "runtime.NumGoroutine" := by decide +kernel
  have hb : Tryz.f94.body.isSome = true := by kernel_rfl
  obtain ⟨c, hc⟩ := Option.isSome_iff_exists.1 hb
  simp [callFunc, Tryz.func94, hn, hc]
theorem cf_rvalue (w : World) (vs : Array Value) : (callFunc 97 vs).run Tryz.prog w = .ok (.enter 97 vs) w := by
  have hn : ¬ Tryz.f97.name = "runtime.NumGoroutine" := by decide +kernel
  have hb : Tryz.f97.body.isSome = true := by kernel_rfl
  obtain ⟨c, hc⟩ := Option.isSome_iff_exists.1 hb
  simp [callFunc, Tryz.func97, hn, hc]
theorem cf_renum (w : World) (vs : Array Value) : (callFunc 73 vs).run Tryz.prog w = .ok (.enter 73 vs) w := by
  have hn : ¬ Tryz.f73.name = "runtime.NumGoroutine" := by decide +kernel
  have hb : Tryz.f73.body.isSome = true := by kernel_rfl
  obtain ⟨c, hc⟩ := Option.isSome_iff_exists.1 hb
  simp [callFunc, Tryz.func73, hn, hc]
theorem cf_rimported (w : World) (vs : Array Value) : (callFunc 69 vs).run Tryz.prog w = .ok (.enter 69 vs) w := by
  have hn : ¬ Tryz.f69.name = "runtime.NumGoroutine" := by decide +kernel
  have hb : Tryz.f69.body.isSome = true := by kernel_rfl
  obtain ⟨c, hc⟩ := Option.isSome_iff_exists.1 hb
  simp [callFunc, Tryz.func69, hn, hc]
theorem cf_rmessage (w : World) (vs : Array Value) : (callFunc 71 vs).run Tryz.prog w = .ok (.enter 71 vs) w := by
  have hn : ¬ Tryz.f71.name = "runtime.NumGoroutine" := by decide +kernel
  have hb : Tryz.f71.body.isSome = true := by kernel_rfl
  obtain ⟨c, hc⟩ := Option.isSome_iff_exists.1 hb
  simp [callFunc, Tryz.func71, hn, hc]
theorem cf_rname (w : World) (vs : Array Value) : (callFunc 90 vs).run Tryz.prog w = .ok (.enter 90 vs) w := by
  have hn : ¬ Tryz.f90.name = "runtime.NumGoroutine" := by decide +kernel
  have hb : Tryz.f90.body.isSome = true := by kernel_rfl
  obtain ⟨c, hc⟩ := Option.isSome_iff_exists.1 hb
  simp [callFunc, Tryz.func90, hn, hc]
theorem cf_rrow (w : World) (vs : Array Value) : (callFunc 127 vs).run Tryz.prog w = .ok (.enter 127 vs) w := by
  have hn : ¬ Tryz.f127.name = "runtime.NumGoroutine" := by decide +kernel
  have hb : Tryz.f127.body.isSome = true := by kernel_rfl
  obtain ⟨c, hc⟩ := Option.isSome_iff_exists.1 hb
  simp [callFunc, Tryz.func127, hn, hc]
theorem cf_rgoneName (w : World) (vs : Array Value) : (callFunc 129 vs).run Tryz.prog w = .ok (.enter 129 vs) w := by
  have hn : ¬ Tryz.f129.name = "runtime.NumGoroutine" := by decide +kernel
  have hb : Tryz.f129.body.isSome = true := by kernel_rfl
  obtain ⟨c, hc⟩ := Option.isSome_iff_exists.1 hb
  simp [callFunc, Tryz.func129, hn, hc]
theorem bs_fld (w : World) (d : Fd) : (Instr.buildSlice 48 1 #[(0, d.val)]).run Tryz.prog w = .ok (.slice (some ⟨w.heap.size, 0, none⟩) 1 1) (w.alloc (.cells d.val.cells 47)) := by
  unfold Fd.val Fd.arr Value.cells
  go_simp
theorem bs_str (w : World) (x : ByteArray) : (Instr.buildSlice 30 1 #[(0, .string x)]).run Tryz.prog w = .ok (.slice (some ⟨w.heap.size, 0, none⟩) 1 1) (w.alloc (.cells (Value.string x).cells 9)) := by
  unfold Value.cells
  go_simp
theorem bs_val (w : World) (p : ByteArray × Int) : (Instr.buildSlice 64 1 #[(0, evV p)]).run Tryz.prog w = .ok (.slice (some ⟨w.heap.size, 0, none⟩) 1 1) (w.alloc (.cells (evV p).cells 68)) := by
  unfold evV Value.cells
  go_simp
theorem bs_range (w : World) (p : Int × Int) : (Instr.buildSlice 49 1 #[(0, rgV p)]).run Tryz.prog w = .ok (.slice (some ⟨w.heap.size, 0, none⟩) 1 1) (w.alloc (.cells (rgV p).cells 84)) := by
  unfold rgV Value.cells
  go_simp
theorem bs_enum (w : World) (x : ByteArray) (v1 v2 v3 : Value) (h1 : ∃ a n c, v1 = .slice a n c) (h2 : ∃ a n c, v2 = .slice a n c) (h3 : ∃ a n c, v3 = .slice a n c) : (Instr.buildSlice 32 1 #[(0, .agg #[.string x, v1, v2, v3])]).run Tryz.prog w = .ok (.slice (some ⟨w.heap.size, 0, none⟩) 1 1) (w.alloc (.cells (Value.agg #[.string x, v1, v2, v3]).cells 66)) := by
  obtain ⟨_, _, _, rfl⟩ := h1
  obtain ⟨_, _, _, rfl⟩ := h2
  obtain ⟨_, _, _, rfl⟩ := h3
  unfold Value.cells
  go_simp
theorem bs_msg (w : World) (x : ByteArray) (v1 v2 v3 v4 v5 v6 : Value) (h1 : ∃ a n c, v1 = .slice a n c) (h2 : ∃ a n c, v2 = .slice a n c) (h3 : ∃ a n c, v3 = .slice a n c) (h4 : ∃ a n c, v4 = .slice a n c) (h5 : ∃ a n c, v5 = .slice a n c) (h6 : ∃ a n c, v6 = .slice a n c) : (Instr.buildSlice 31 1 #[(0, .agg #[.string x, v1, v2, v3, v4, v5, v6])]).run Tryz.prog w = .ok (.slice (some ⟨w.heap.size, 0, none⟩) 1 1) (w.alloc (.cells (Value.agg #[.string x, v1, v2, v3, v4, v5, v6]).cells 51)) := by
  obtain ⟨_, _, _, rfl⟩ := h1
  obtain ⟨_, _, _, rfl⟩ := h2
  obtain ⟨_, _, _, rfl⟩ := h3
  obtain ⟨_, _, _, rfl⟩ := h4
  obtain ⟨_, _, _, rfl⟩ := h5
  obtain ⟨_, _, _, rfl⟩ := h6
  unfold Value.cells
  go_simp
theorem row_shape {w : World} {bs e z n : Nat} {v : Value} {xs : List Value} (h : w.ownsRow bs e z v n xs) : ∃ a n c, v = .slice a n c := by
  rcases h.2 with ⟨rfl, _⟩ | ⟨g, c, _, rfl, _⟩
  · exact ⟨_, _, _, rfl⟩
  · exact ⟨_, _, _, rfl⟩
theorem row_news {w : World} {gy : Nat} {x : Value} {t : TypeId} (h : w.heap[gy]? = some (.cells x.cells t (0, 0))) : ∀ (j : Nat) (u : Value), x.cells.toList[j]? = some u → w.cell? ((⟨gy, 0, none⟩ : Addr).add j) = some u := by
  intro j u hj
  rw [show (⟨gy, 0, none⟩ : Addr).add j = ⟨gy, j, none⟩ by simp [Addr.add]; exact fun e => e.symm, cell_of_row _ _ _ _ _ _ h]
  simpa using hj
/-- What an answer must be like to be laid in a row. -/
def Fit {α : Type} (St : TypeId) (sl : Slot) (bt : Nat) (N1 : α → Value → (Nat → Prop) → World → Prop) : Prop := EI Tryz.prog sl.t sl.sz bt ∧ Tryz.prog.underlying St = some (.slice sl.t) ∧ 0 < sl.sz ∧ bt ≤ 1000 ∧ ∀ a x P w, N1 a x P w → x.cells.size = sl.sz ∧ (∀ u ∈ x.cells.toList, u.oneCell' = true) ∧ ∀ w', (Instr.buildSlice St 1 #[(0, x)]).run Tryz.prog w' = .ok (.slice (some ⟨w'.heap.size, 0, none⟩) 1 1) (w'.alloc (.cells x.cells sl.t))
theorem fit_fld {sl : Slot} (h1 : sl.t = 47) (h2 : sl.sz = 6) : Fit 48 sl 72 (fun (a : Fd) x _ _ => x = a.val) := by
  unfold Fit
  rw [h1, h2]
  refine ⟨eiFld, by kernel_rfl, by decide, by decide, ?_⟩
  rintro a x P w rfl
  refine ⟨rfl, ?_, fun w' => bs_fld w' a⟩
  intro u hu
  simp only [Fd.val, Fd.arr, Value.cells, List.mem_cons, List.not_mem_nil, or_false] at hu
  rcases hu with rfl | rfl | rfl | rfl | rfl | rfl <;> rfl
theorem fit_str {sl : Slot} (h1 : sl.t = 9) (h2 : sl.sz = 1) : Fit 30 sl 16 (fun (a : ByteArray) x _ _ => x = Value.string a) := by
  unfold Fit
  rw [h1, h2]
  refine ⟨eiStr, by kernel_rfl, by decide, by decide, ?_⟩
  rintro a x P w rfl
  refine ⟨rfl, ?_, fun w' => bs_str w' a⟩
  intro u hu
  simp only [Value.cells, List.mem_cons, List.not_mem_nil, or_false] at hu
  rcases hu with rfl; rfl
theorem fit_val {sl : Slot} (h1 : sl.t = 68) (h2 : sl.sz = 2) : Fit 64 sl 24 (fun (a : ByteArray × Int) x _ _ => x = evV a) := by
  unfold Fit
  rw [h1, h2]
  refine ⟨eiVal, by kernel_rfl, by decide, by decide, ?_⟩
  rintro a x P w rfl
  refine ⟨rfl, ?_, fun w' => bs_val w' a⟩
  intro u hu
  simp only [evV, Value.cells, List.mem_cons, List.not_mem_nil, or_false] at hu
  rcases hu with rfl | rfl <;> rfl
theorem fit_range {sl : Slot} (h1 : sl.t = 84) (h2 : sl.sz = 2) : Fit 49 sl 16 (fun (a : Int × Int) x _ _ => x = rgV a) := by
  unfold Fit
  rw [h1, h2]
  refine ⟨eiRange, by kernel_rfl, by decide, by decide, ?_⟩
  rintro a x P w rfl
  refine ⟨rfl, ?_, fun w' => bs_range w' a⟩
  intro u hu
  simp only [rgV, Value.cells, List.mem_cons, List.not_mem_nil, or_false] at hu
  rcases hu with rfl | rfl <;> rfl
/-- An enum that was just read. -/
def NE (a : En) (x : Value) (P : Nat → Prop) (w : World) : Prop := ∃ cs : Array Value, x = .agg cs ∧ HasEs P w cs.toList [a]
theorem stable_ne (a : En) (x : Value) : Stable (NE a x) := by
  rintro P P' w w' hg ⟨cs, rfl, h⟩
  exact ⟨cs, rfl, stable_es _ _ P P' w w' hg h⟩
theorem one_sl {v : Value} (h : ∃ a n c, v = .slice a n c) : v.oneCell' = true := by
  obtain ⟨_, _, _, rfl⟩ := h
  rfl
theorem fit_enum {sl : Slot} (h1 : sl.t = 66) (h2 : sl.sz = 4) : Fit 32 sl 88 NE := by
  unfold Fit
  rw [h1, h2]
  refine ⟨eiEnum, by kernel_rfl, by decide, by decide, ?_⟩
  rintro a x P w ⟨⟨l⟩, rfl, h⟩
  cases h with
  | cons hv hr hg ht =>
    cases ht
    refine ⟨rfl, ?_, fun w' => bs_enum w' _ _ _ _ (row_shape hv.1) (row_shape hr.1) (row_shape hg.1)⟩
    intro u hu
    simp only [Value.cells, List.mem_cons, List.not_mem_nil, or_false] at hu
    rcases hu with rfl | rfl | rfl | rfl
    · rfl
    · exact one_sl (row_shape hv.1)
    · exact one_sl (row_shape hr.1)
    · exact one_sl (row_shape hg.1)
/-- A message that was just read. -/
def NM (a : Ms) (x : Value) (P : Nat → Prop) (w : World) : Prop := ∃ cs : Array Value, x = .agg cs ∧ HasMs P w cs.toList [a]
theorem stable_nm (a : Ms) (x : Value) : Stable (NM a x) := by
  rintro P P' w w' hg ⟨cs, rfl, h⟩
  exact ⟨cs, rfl, stable_ms _ _ P P' w w' hg h⟩
theorem fit_msg {sl : Slot} (h1 : sl.t = 51) (h2 : sl.sz = 7) : Fit 31 sl 160 NM := by
  unfold Fit
  rw [h1, h2]
  refine ⟨eiMsg, by kernel_rfl, by decide, by decide, ?_⟩
  rintro a x P w ⟨⟨l⟩, rfl, h⟩
  cases h with
  | cons hf ho hm hms he hes hr hg ht =>
    cases ht
    refine ⟨rfl, ?_, fun w' => bs_msg w' _ _ _ _ _ _ _ (row_shape hf.1) (row_shape ho.1) (row_shape hm.1) (row_shape he.1) (row_shape hr.1) (row_shape hg.1)⟩
    intro u hu
    simp only [Value.cells, List.mem_cons, List.not_mem_nil, or_false] at hu
    rcases hu with rfl | rfl | rfl | rfl | rfl | rfl | rfl
    · rfl
    · exact one_sl (row_shape hf.1)
    · exact one_sl (row_shape ho.1)
    · exact one_sl (row_shape hm.1)
    · exact one_sl (row_shape he.1)
    · exact one_sl (row_shape hr.1)
    · exact one_sl (row_shape hg.1)
end Go.Proofs.YtdhncpeemcanlaaGreatDoor
