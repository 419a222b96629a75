import Derived.Test.YtlblllghgdfpoaaDoorEE
import Derived.Test.YtlblllghgdfpoaaDoorJ03
import Derived.OrdersHeld
import Derived.Deep.MidRow

namespace Go.Proofs.YtlblllghgdfpoaaDoor
open Go.RowKit

theorem below_byr {w w' : World} (h : Below w.heap.size w w') : ByR w w' := fun q j ⟨x, hx, hc⟩ => ⟨x, hx, (h.cell (p := ⟨q, j, none⟩) (World.block_lt_of_cell? w _ hc)).trans hc⟩
/-- A list that was grown, and is not in the Book yet. -/
def PnB (u : Value) (S : Nat) (w : World) (g : Value) : Prop := (∃ l, HasB w g l ∧ Byt l) ∧ ∀ q, g.ownBlock = some q → (u.ownBlock = some q ∨ S ≤ q) ∧ q < w.heap.size
theorem PnB.byr {u g : Value} {S : Nat} {w w' : World} (h : PnB u S w g) (hr : ByR w w') (hs : w.heap.size ≤ w'.heap.size) : PnB u S w' g := by
  obtain ⟨⟨l, h1, h2⟩, h3⟩ := h
  obtain ⟨l', -, k1, k2⟩ := h1.byr h2 hr hs
  exact ⟨⟨l', k2, k1⟩, fun q e => ⟨(h3 q e).1, Nat.lt_of_lt_of_le (h3 q e).2 hs⟩⟩
theorem PnB.stays {u g : Value} {S : Nat} {w w' : World} (h : PnB u S w g) (hs : w.heap.size ≤ w'.heap.size) (hf : ∀ q, g.ownBlock = some q → q < w.heap.size → w'.heap[q]? = w.heap[q]?) : PnB u S w' g := by
  obtain ⟨⟨l, h1, h2⟩, h3⟩ := h
  exact ⟨⟨l, h1.stays hs hf, h2⟩, fun q e => ⟨(h3 q e).1, Nat.lt_of_lt_of_le (h3 q e).2 hs⟩⟩
theorem PnB.one {u g : Value} {S : Nat} {w : World} (h : PnB u S w g) : g.oneCell' = true := by
  obtain ⟨⟨l, ⟨a, c, rfl, -⟩, -⟩, -⟩ := h
  rfl
theorem GrA.pn {w w' : World} {B S : Nat} {u r : Value} {xs ys : List Nat} (h : GrA w B u xs ys w' r) (hS : S ≤ w.heap.size) (hx : Byt xs) (hy : Byt ys) : PnB u S w' r := by
  refine ⟨⟨_, h.rr.has, hx.append hy⟩, fun q e => ⟨?_, (World.ownsRow.lt h.rr q e).2⟩⟩
  rcases h.blk with k | ⟨g, k, hg⟩
  · exact .inl (k.symm.trans e)
  · have := Option.some.inj (k.symm.trans e)
    exact .inr (by omega)
theorem marked_at (w : World) (M k n : Nat) (x y : Int) (hx : x = ((M + k : Nat) : Int)) (hy : y = (n : Int)) (hn : n ≤ 1099511627776) : Calls Tryd.prog 37 #[.int .i64 x, .int .i64 y] w fun e w' => ∃ v, e = .returned v ∧ Bytes w.heap.size w' v (mkL (M + k) n) ∧ Below w.heap.size w w' := by
  subst hx hy
  exact marked_any w (M + k) n hn
/-- Where take's last loop stands. -/
structure TkD (W : World) (B b n0 : Nat) (vW0 vL0 : Value) (vs0 us : List Value) (cs ls0 : List (List Nat)) (i : Nat) (w : World) (vW vL : Value) (gs : List Value) (hs : List (List Nat)) : Prop where
  s : TkS W B b (n0 + us.length + 3 * i) vW0 vL0 vs0 us cs w vW vL (vs0 ++ us ++ gs) (ls0 ++ cs ++ hs)
  gl : gs.length = 3 * i
  hl : hs.length = 3 * i
  on : ∀ (k : Nat) (v : Value) (q : Nat), (vs0 ++ us ++ gs)[k]? = some v → v.ownBlock = some q → ∀ (j : Nat) (u : Value), i ≤ j → us[j]? = some u → u.ownBlock = some q → v = u ∧ ∀ l, (ls0 ++ cs ++ hs)[k]? = some l → cs[j]? = some l
theorem TkD.up {W w w' : World} {B b n0 i : Nat} {vW0 vL0 vW vL : Value} {vs0 us gs : List Value} {cs ls0 hs : List (List Nat)} (h : TkD W B b n0 vW0 vL0 vs0 us cs ls0 i w vW vL gs hs) (hb : Below w.heap.size w w') : TkD W B b n0 vW0 vL0 vs0 us cs ls0 i w' vW vL gs hs := ⟨h.s.up hb, h.gl, h.hl, h.on⟩
theorem TkD.grow {W w w' : World} {B b n0 i : Nat} {vW0 vL0 vW vL u r : Value} {vs0 us gs : List Value} {cs ls0 hs : List (List Nat)} {xs ys : List Nat} (h : TkD W B b n0 vW0 vL0 vs0 us cs ls0 i w vW vL gs hs) (hi : us[i]? = some u) (hx : cs[i]? = some xs) (hg : GrA w B u xs ys w' r) : TkD W B b n0 vW0 vL0 vs0 us cs ls0 i w' vW vL gs hs :=
  ⟨h.s.grow hi hx hg (fun k v q hv e1 e2 => by
    obtain ⟨k1, k2⟩ := h.on k v q hv e1 i u (Nat.le_refl _) hi e2
    exact ⟨k1, fun l hl => Option.some.inj ((k2 l hl).symm.trans hx)⟩), h.gl, h.hl, h.on⟩
theorem TkD.start {W w : World} {B b n0 : Nat} {vW0 vL0 vW vL : Value} {vs0 us : List Value} {cs ls0 : List (List Nat)} (h : TkS W B b (n0 + us.length) vW0 vL0 vs0 us cs w vW vL (vs0 ++ us) (ls0 ++ cs)) (h0 : vs0.length = n0) (h1 : ls0.length = n0) (hd : ∀ q, InB us q → ¬ InB vs0 q) : TkD W B b n0 vW0 vL0 vs0 us cs ls0 0 w vW vL [] [] := by
  refine ⟨by rw [List.append_nil, List.append_nil]; exact h, rfl, rfl, fun k v q hv e j u _ hu eu => ?_⟩
  rw [List.append_nil] at hv ⊢
  by_cases hk : k < vs0.length
  · rw [List.getElem?_append_left hk] at hv
    exact absurd ⟨k, v, hv, e⟩ (hd q ⟨j, u, hu, eu⟩)
  · rw [List.getElem?_append_right (by omega)] at hv
    have hj := h.lb.ap _ j v u q hv hu e eu
    rw [hj] at hv
    refine ⟨Option.some.inj (hv.symm.trans hu), fun l hl => ?_⟩
    rw [List.getElem?_append_right (by omega)] at hl
    rw [← hj, h0, ← h1]
    exact hl
/-- The three lists are in the Book. -/
theorem TkD.next {W w w3 : World} {B b n0 i S : Nat} {vW0 vL0 vW vL vW' vL' u g1 g2 g3 : Value} {vs0 us gs : List Value} {cs ls0 hs : List (List Nat)} {c1 c2 c3 : List Nat} (h : TkD W B b n0 vW0 vL0 vs0 us cs ls0 i w vW vL gs hs) (hi : us[i]? = some u) (hS : W.heap.size ≤ S) (h1 : PnB u S w g1) (h2 : PnB u S w g2) (h3 : PnB u S w g3)
    (hs3 : TkS W B b (n0 + us.length + 3 * (i + 1)) vW0 vL0 vs0 us cs w3 vW' vL' (vs0 ++ us ++ gs ++ [g1, g2, g3]) (ls0 ++ cs ++ hs ++ [c1, c2, c3])) (h0 : vs0.length = n0) (hl0 : ls0.length = n0) : TkD W B b n0 vW0 vL0 vs0 us cs ls0 (i + 1) w3 vW' vL' (gs ++ [g1, g2, g3]) (hs ++ [c1, c2, c3]) := by
  refine ⟨by rw [← List.append_assoc, ← List.append_assoc]; exact hs3, by rw [List.length_append, h.gl]; simp; omega, by rw [List.length_append, h.hl]; simp; omega, fun k v q hv e j x hj hx ex => ?_⟩
  rw [← List.append_assoc] at hv ⊢
  have hcl := h.s.lb.len
  have hlen : (vs0 ++ us ++ gs).length = (ls0 ++ cs ++ hs).length := by simp only [List.length_append, h.gl, h.hl, h0, hl0, hcl]
  by_cases hk : k < (vs0 ++ us ++ gs).length
  · rw [List.getElem?_append_left hk] at hv
    rw [List.getElem?_append_left (by omega)]
    exact h.on k v q hv e j x (by omega) hx ex
  · exfalso
    rw [List.getElem?_append_right (by omega)] at hv
    have hp : PnB u S w v := by
      match hm : k - (vs0 ++ us ++ gs).length, hv with
      | 0, hv => simp at hv; rw [← hv]; exact h1
      | 1, hv => simp at hv; rw [← hv]; exact h2
      | 2, hv => simp at hv; rw [← hv]; exact h3
      | m + 3, hv => simp at hv
    rcases (hp.2 q e).1 with k1 | k1
    · have := h.s.lb.ap i j u x q hi hx k1 ex
      omega
    · have := (h.s.ub q ⟨j, x, hx, ex⟩).1
      omega
theorem PnB.ok {W w : World} {B b N S i : Nat} {vW0 vL0 vW vL u g : Value} {vs0 us vs : List Value} {ms ls : List (List Nat)} (h : PnB u S w g) (hs : TkS W B b N vW0 vL0 vs0 us ms w vW vL vs ls) (hi : us[i]? = some u) (hS : W.heap.size ≤ S) (hb : b < S) (hW : ∀ q, vW.ownBlock = some q → q < S) (hL : ∀ q, vL.ownBlock = some q → q < S) : ∀ q, g.ownBlock = some q → q < w.heap.size ∧ (InB us q ∨ W.heap.size ≤ q) ∧ q ≠ b ∧ vW.ownBlock ≠ some q ∧ vL.ownBlock ≠ some q := fun q e => by
  obtain ⟨k1, k2⟩ := h.2 q e
  rcases k1 with k | k
  · have hin : InB us q := ⟨i, u, hi, k⟩
    obtain ⟨-, a2, a3, a4⟩ := hs.ub q hin
    exact ⟨k2, .inl hin, a2, a3, a4⟩
  · exact ⟨k2, .inr (by omega), by omega, fun e2 => by have := hW q e2; omega, fun e2 => by have := hL q e2; omega⟩
theorem three_cells (w : World) (v1 v2 v3 : Value) (t : TypeId) : ∀ (j : Nat) (v : Value), [v1, v2, v3][j]? = some v → (w.alloc (.cells #[v1, v2, v3] t)).cell? (Addr.add ⟨w.heap.size, 0, none⟩ j) = some v := by
  intro j v h
  match j, h with
  | 0, h => simp at h; subst h; simp [Addr.add]
  | 1, h => simp at h; subst h; simp [Addr.add]
  | 2, h => simp at h; subst h; simp [Addr.add]
end Go.Proofs.YtlblllghgdfpoaaDoor

namespace Go.Proofs.YtlblllghgdfpoaaDoor
open Go.RowKit
attribute [local go_sem ↓] Go.wp_at_zero Go.wp_at_succ

namespace Zz
theorem step_call {P : Program} {ops : Array Oper} {o : Oper} {a : Act} {w : World} {K : Act → World → Prop} {Q : Exit → Act → World → Prop} {E : Prop} (hgd : o.guard = none) (f : FuncId) (hfn : ∀ vs, (callFunc f vs).run P w = .ok (.enter f vs) w) (args : Array Operand) (tys : Array TypeId)
    (ho : o.op = .call { callee := .value (.func f), args := args, argTypes := tys }) (vs : Array Value) (hv : args.map a.eval = vs) {R : Ending → World → Prop} (hc : Calls P f vs w R) (hK : ∀ e w', R e w' → ∃ v, e = .returned v ∧ K (a.put o.dst v) w') :
    if Region.wanted o (yielded ops a.tmps) = true then Oper.wp P o a w K Q else E := by
  have hw : Region.wanted o (yielded ops a.tmps) = true := by simp [Region.wanted, hgd]
  rw [if_pos hw]
  have h2 : Oper.wp P o a w K Q = o.upon P a K Q (.ok (.enter f vs) w) := by
    unfold Oper.wp
    simp [execOp, ho, resolve, invoke, ← hv, Act.eval, Deferred.ofValue, hfn]
  rw [h2, Oper.upon_enter]
  refine hc.mono ?_
  intro e w' hr
  obtain ⟨v, rfl, hk⟩ := hK e w' hr
  exact hk
section
variable {P : Program} {ops : Array Oper} {Q : Exit → Act → World → Prop} {md : Region.Mode} {T : World → Prop} {z : Nat}
/-- Every order from here on, and T holds behind each operation but number z. -/
def wpAnyZ (P : Program) (md : Region.Mode) (ops : Array Oper) (Q : Exit → Act → World → Prop) (T : World → Prop) (z : Nat) : Nat → Array Bool → Act → World → Prop
  | 0, d, a, w => Region.ready md ops d = [] ∧ Q .normal a w
  | n + 1, d, a, w => (Region.ready md ops d = [] → Q .normal a w) ∧ ∀ i ∈ Region.ready md ops d, wpOp P ops Q i (fun a' w' => (i ≠ z → T w') ∧ wpAnyZ P md ops Q T z n (d.setIfInBounds i true) a' w') a w
theorem wpAny_of_Z : ∀ (n : Nat) (d : Array Bool) (a : Act) (w : World), wpAnyZ P md ops Q T z n d a w → wpAny P md ops Q n d a w
  | 0, _, _, _, h => h
  | n + 1, _, _, _, h => ⟨h.1, fun i hi => wpOp_mono (fun a' w' h' => wpAny_of_Z n _ a' w' h'.2) (h.2 i hi)⟩
/-- Number i comes first: all that z does comes behind it. -/
theorem wpAnyZ_go {i : Nat} {oi : Oper} {v : Value} (hi : ops[i]? = some oi) (hw : ∀ oz, ops[z]? = some oz → ∃ e ∈ oz.after, Region.binds md e = true ∧ e.on = i) (hs : ∀ (j : Nat) (o : Oper) cs b, ops[j]? = some o → o.op ≠ .select cs b)
    (hQ : ∀ c a w, Q (.panic c) (a.put oi.dst v) w → Q (.panic c) a w) : ∀ (n : Nat) (d : Array Bool) (a : Act) (w : World),
      (∀ j oj, ops[j]? = some oj → j ≠ i → d.getD j true = false → (∀ e ∈ oj.after, Region.binds md e = true → e.on ≠ i) → oi.apart ops oj = true) → i ∈ Region.ready md ops d → YieldsIf P ops T oi v a → T w →
      wpAnyZ P md ops Q T z n (d.setIfInBounds i true) (a.put oi.dst v) w → wpAnyZ P md ops Q T z (n + 1) d a w := by
  intro n
  induction n with
  | zero =>
    intro d a w _ hr hy hT H
    refine ⟨fun h => (by rw [h] at hr; cases hr), fun j hj => ?_⟩
    by_cases e : j = i
    · rw [e]; exact hy.wpOp hi hT ⟨fun _ => hT, H⟩
    · have q := ready_mono hj e
      rw [H.1] at q
      cases q
  | succ n ih =>
    intro d a w hf hr hy hT H
    refine ⟨fun h => (by rw [h] at hr; cases hr), fun j hj => ?_⟩
    by_cases e : j = i
    · rw [e]; exact hy.wpOp hi hT ⟨fun _ => hT, H⟩
    · obtain ⟨hd, oj, hoj, hall⟩ := mem_ready.1 hj
      have hd0 := (mem_ready.1 hr).1
      have hno : ∀ x ∈ oj.after, Region.binds md x = true → x.on ≠ i := fun x hx hb hxi => by
        have q := hall x hx hb
        rw [hxi] at q
        rcases Nat.lt_or_ge i d.size with q1 | q1
        · simp [q1] at hd0 q
          rw [hd0] at q
          cases q
        · simp [Array.getElem?_eq_none q1] at q
      have hjz : j ≠ z := fun q => by
        subst q
        obtain ⟨x, hx, hb, hxi⟩ := hw _ hoj
        exact hno x hx hb hxi
      have h2 := wpOp_putIf hoj (hf j oj hoj e hd hno) (fun cs b => hs i oi cs b hi) (fun cs b => hs j oj cs b hoj) hQ hy (H.2 j (ready_mono hj e))
      refine wpOp_mono (fun a' w' h3 => ⟨h3.2.1, ih (d.setIfInBounds j true) a' w' (fun k ok hk hki hun hn => hf k ok hk hki ?_ hn) (ready_mono hr (Ne.symm e)) h3.1 (h3.2.1 hjz) ?_⟩) h2
      · by_cases hjk : j = k
        · rw [← hjk]; exact hd
        · rwa [getD_set_ne true hjk] at hun
      · rw [Array.setIfInBounds_comm _ _ e]
        exact h3.2.2
/-- The number waits for i (or there is none of that number: T then holds behind every operation). -/
def waits (md : Region.Mode) (ops : Array Oper) (z i : Nat) : Bool := match ops[z]? with
  | none => true
  | some o => o.after.any fun e => Region.binds md e && e.on == i
theorem wpAnyZ_take (i : Nat) {oi : Oper} (v : Value) (x : Tmp) {n : Nat} {d : Array Bool} {a : Act} {w : World} (hi : ops[i]? = some oi) (hx : oi.dst = some x) (hw : waits md ops z i = true) (hs : Region.noSelect ops = true) (hf : Region.free md ops d i = true) (hr : (Region.ready md ops d).contains i = true)
    (hQ : ∀ c a w, Q (.panic c) (a.put (some x) v) w → Q (.panic c) a w) (hy : YieldsIf P ops T oi v a) (hT : T w) (h : wpAnyZ P md ops Q T z n (d.setIfInBounds i true) (a.put (some x) v) w) : wpAnyZ P md ops Q T z (n + 1) d a w := by
  rw [← hx] at hQ h
  refine wpAnyZ_go hi (fun oz hz => ?_) (Region.noSelect_spec hs) hQ n d a w (Region.free_spec hi hf) (by simpa using hr) hy hT h
  unfold waits at hw
  rw [hz] at hw
  obtain ⟨e, he, hb⟩ := Array.any_eq_true'.1 hw
  simp only [Bool.and_eq_true, beq_iff_eq] at hb
  exact ⟨e, he, hb.1, hb.2⟩
/-- The same, what can be computed left to the kernel. -/
theorem wpAnyZ_tk (i : Nat) {oi : Oper} (v : Value) (x : Tmp) {n : Nat} {d : Array Bool} {a : Act} {w : World} (hi : ops[i]? = some oi) (hx : oi.dst = some x) (hy : YieldsIf P ops T oi v a) (hT : T w) (h : wpAnyZ P md ops Q T z n (d.setIfInBounds i true) (a.put (some x) v) w) (hw : waits md ops z i = true := by kernel_rfl) (hs : Region.noSelect ops = true := by kernel_rfl) (hf : Region.free md ops d i = true := by kernel_rfl) (hr : (Region.ready md ops d).contains i = true := by kernel_rfl)
    (hQ : ∀ c a w, Q (.panic c) (a.put (some x) v) w → Q (.panic c) a w := by exact fun _ _ _ h => h) : wpAnyZ P md ops Q T z (n + 1) d a w := wpAnyZ_take i v x hi hx hw hs hf hr hQ hy hT h
/-- One alone may come up. -/
theorem wpAnyZ_one (i : Nat) {o : Oper} {n : Nat} {d : Array Bool} {a : Act} {w : World} (hr : Region.ready md ops d = [i]) (ho : ops[i]? = some o)
    (h : ∀ K : Act → World → Prop, (∀ a' w', ((i ≠ z → T w') ∧ wpAnyZ P md ops Q T z n (d.setIfInBounds i true) a' w') → K a' w') → if Region.wanted o (yielded ops a.tmps) = true then Oper.wp P o a w K Q else K (a.put o.dst undef) w) : wpAnyZ P md ops Q T z (n + 1) d a w := by
  refine ⟨fun h0 => (by rw [h0] at hr; cases hr), fun j hj => ?_⟩
  rw [hr] at hj
  obtain rfl : j = i := by simpa using hj
  exact wpOp_step ho h
theorem step_callD {o : Oper} {a : Act} {w : World} {K : Act → World → Prop} {E : Prop} (x : Tmp) (hx : o.dst = some x) (hgd : o.guard = none) (f : FuncId) (hfn : ∀ vs, (callFunc f vs).run P w = .ok (.enter f vs) w) (args : Array Operand) (tys : Array TypeId)
    (ho : o.op = .call { callee := .value (.func f), args := args, argTypes := tys }) (vs : Array Value) (hv : args.map a.eval = vs) {R : Ending → World → Prop} (hc : Calls P f vs w R) (hK : ∀ e w', R e w' → ∃ v, e = .returned v ∧ K (a.put (some x) v) w') :
    if Region.wanted o (yielded ops a.tmps) = true then Oper.wp P o a w K Q else E :=
  step_call hgd f hfn args tys ho vs hv hc (by rw [hx]; exact hK)
theorem wpAnyZ_done {n : Nat} {d : Array Bool} {a : Act} {w : World} (hr : Region.ready md ops d = []) (h : Q .normal a w) : wpAnyZ P md ops Q T z n d a w := by
  cases n with
  | zero => exact ⟨hr, h⟩
  | succ n => exact ⟨fun _ => h, fun i hi => by rw [hr] at hi; cases hi⟩
end
end Zz
end Go.Proofs.YtlblllghgdfpoaaDoor
