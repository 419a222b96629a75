import Derived.Test.YtadmamfekodkaaaDoorSB
import Derived.OrdersHeld
import Derived.Deep.MidRow

namespace Go.Proofs.YtadmamfekodkaaaDoor
open Go.RowKit
attribute [local go_sem ↓] Go.wp_at_zero Go.wp_at_succ

theorem step_call {P : Program} {ops : Array Oper} {o : Oper} {a : Act} {w : World} {K : Act → World → Prop} {Q : Exit → Act → World → Prop} {E : Prop} (hgd : o.guard = none) (f : FuncId) (hfn : ∀ vs, (callFunc f vs).run P w = .ok (.enter f vs) w) (args : Array Operand) (tys : Array TypeId)
    (ho : o.op = .call { callee := .value (.func f), args := args, argTypes := tys }) (vs : Array Value) (hv : args.map a.eval = vs) {R : Ending → World → Prop} (hc : Calls P f vs w R) (hK : ∀ e w', R e w' → ∃ v, e = .returned v ∧ K (a.put o.dst v) w') :
    if Region.wanted o (yielded ops a.tmps) = true then Oper.wp P o a w K Q else E := by
  have hw : Region.wanted o (yielded ops a.tmps) = true := by simp [Region.wanted, hgd]
  rw [if_pos hw]
  have h2 : Oper.wp P o a w K Q = o.upon P a K Q (.ok (.enter f vs) w) := by
    unfold Oper.wp
    simp [execOp, ho, resolve, invoke, ← hv, Act.eval, Deferred.ofValue, hfn]
  rw [h2, Oper.upon_enter]
  refine hc.mono ?_
  intro e w' hr
  obtain ⟨v, rfl, hk⟩ := hK e w' hr
  exact hk
section
variable {P : Program} {ops : Array Oper} {Q : Exit → Act → World → Prop} {md : Region.Mode} {T : World → Prop} {z : Nat}
/-- Every order from here on, and T holds behind each operation but number z. -/
def wpAnyZ (P : Program) (md : Region.Mode) (ops : Array Oper) (Q : Exit → Act → World → Prop) (T : World → Prop) (z : Nat) : Nat → Array Bool → Act → World → Prop
  | 0, d, a, w => Region.ready md ops d = [] ∧ Q .normal a w
  | n + 1, d, a, w => (Region.ready md ops d = [] → Q .normal a w) ∧ ∀ i ∈ Region.ready md ops d, wpOp P ops Q i (fun a' w' => (i ≠ z → T w') ∧ wpAnyZ P md ops Q T z n (d.setIfInBounds i true) a' w') a w
theorem wpAny_of_Z : ∀ (n : Nat) (d : Array Bool) (a : Act) (w : World), wpAnyZ P md ops Q T z n d a w → wpAny P md ops Q n d a w
  | 0, _, _, _, h => h
  | n + 1, _, _, _, h => ⟨h.1, fun i hi => wpOp_mono (fun a' w' h' => wpAny_of_Z n _ a' w' h'.2) (h.2 i hi)⟩
/-- Number i comes first: all that z does comes behind it. -/
theorem wpAnyZ_go {i : Nat} {oi : Oper} {v : Value} (hi : ops[i]? = some oi) (hw : ∀ oz, ops[z]? = some oz → ∃ e ∈ oz.after, Region.binds md e = true ∧ e.on = i) (hs : ∀ (j : Nat) (o : Oper) cs b, ops[j]? = some o → o.op ≠ .select cs b)
    (hQ : ∀ c a w, Q (.panic c) (a.put oi.dst v) w → Q (.panic c) a w) : ∀ (n : Nat) (d : Array Bool) (a : Act) (w : World),
      (∀ j oj, ops[j]? = some oj → j ≠ i → d.getD j true = false → (∀ e ∈ oj.after, Region.binds md e = true → e.on ≠ i) → oi.apart ops oj = true) → i ∈ Region.ready md ops d → YieldsIf P ops T oi v a → T w →
      wpAnyZ P md ops Q T z n (d.setIfInBounds i true) (a.put oi.dst v) w → wpAnyZ P md ops Q T z (n + 1) d a w := by
  intro n
  induction n with
  | zero =>
    intro d a w _ hr hy hT H
    refine ⟨fun h => (by rw [h] at hr; cases hr), fun j hj => ?_⟩
    by_cases e : j = i
    · rw [e]; exact hy.wpOp hi hT ⟨fun _ => hT, H⟩
    · have q := ready_mono hj e
      rw [H.1] at q
      cases q
  | succ n ih =>
    intro d a w hf hr hy hT H
    refine ⟨fun h => (by rw [h] at hr; cases hr), fun j hj => ?_⟩
    by_cases e : j = i
    · rw [e]; exact hy.wpOp hi hT ⟨fun _ => hT, H⟩
    · obtain ⟨hd, oj, hoj, hall⟩ := mem_ready.1 hj
      have hd0 := (mem_ready.1 hr).1
      have hno : ∀ x ∈ oj.after, Region.binds md x = true → x.on ≠ i := fun x hx hb hxi => by
        have q := hall x hx hb
        rw [hxi] at q
        rcases Nat.lt_or_ge i d.size with q1 | q1
        · simp [q1] at hd0 q
          rw [hd0] at q
          cases q
        · simp [Array.getElem?_eq_none q1] at q
      have hjz : j ≠ z := fun q => by
        subst q
        obtain ⟨x, hx, hb, hxi⟩ := hw _ hoj
        exact hno x hx hb hxi
      have h2 := wpOp_putIf hoj (hf j oj hoj e hd hno) (fun cs b => hs i oi cs b hi) (fun cs b => hs j oj cs b hoj) hQ hy (H.2 j (ready_mono hj e))
      refine wpOp_mono (fun a' w' h3 => ⟨h3.2.1, ih (d.setIfInBounds j true) a' w' (fun k ok hk hki hun hn => hf k ok hk hki ?_ hn) (ready_mono hr (Ne.symm e)) h3.1 (h3.2.1 hjz) ?_⟩) h2
      · by_cases hjk : j = k
        · rw [← hjk]; exact hd
        · rwa [getD_set_ne true hjk] at hun
      · rw [Array.setIfInBounds_comm _ _ e]
        exact h3.2.2
/-- The number waits for i (or there is none of that number: T then holds behind every operation). -/
def waits (md : Region.Mode) (ops : Array Oper) (z i : Nat) : Bool := match ops[z]? with
  | none => true
  | some o => o.after.any fun e => Region.binds md e && e.on == i
theorem wpAnyZ_take (i : Nat) {oi : Oper} (v : Value) (x : Tmp) {n : Nat} {d : Array Bool} {a : Act} {w : World} (hi : ops[i]? = some oi) (hx : oi.dst = some x) (hw : waits md ops z i = true) (hs : Region.noSelect ops = true) (hf : Region.free md ops d i = true) (hr : (Region.ready md ops d).contains i = true)
    (hQ : ∀ c a w, Q (.panic c) (a.put (some x) v) w → Q (.panic c) a w) (hy : YieldsIf P ops T oi v a) (hT : T w) (h : wpAnyZ P md ops Q T z n (d.setIfInBounds i true) (a.put (some x) v) w) : wpAnyZ P md ops Q T z (n + 1) d a w := by
  rw [← hx] at hQ h
  refine wpAnyZ_go hi (fun oz hz => ?_) (Region.noSelect_spec hs) hQ n d a w (Region.free_spec hi hf) (by simpa using hr) hy hT h
  unfold waits at hw
  rw [hz] at hw
  obtain ⟨e, he, hb⟩ := Array.any_eq_true'.1 hw
  simp only [Bool.and_eq_true, beq_iff_eq] at hb
  exact ⟨e, he, hb.1, hb.2⟩
/-- The same, what can be computed left to the kernel. -/
theorem wpAnyZ_tk (i : Nat) {oi : Oper} (v : Value) (x : Tmp) {n : Nat} {d : Array Bool} {a : Act} {w : World} (hi : ops[i]? = some oi) (hx : oi.dst = some x) (hy : YieldsIf P ops T oi v a) (hT : T w) (h : wpAnyZ P md ops Q T z n (d.setIfInBounds i true) (a.put (some x) v) w) (hw : waits md ops z i = true := by kernel_rfl) (hs : Region.noSelect ops = true := by kernel_rfl) (hf : Region.free md ops d i = true := by kernel_rfl) (hr : (Region.ready md ops d).contains i = true := by kernel_rfl)
    (hQ : ∀ c a w, Q (.panic c) (a.put (some x) v) w → Q (.panic c) a w := by exact fun _ _ _ h => h) : wpAnyZ P md ops Q T z (n + 1) d a w := wpAnyZ_take i v x hi hx hw hs hf hr hQ hy hT h
/-- One alone may come up. -/
theorem wpAnyZ_one (i : Nat) {o : Oper} {n : Nat} {d : Array Bool} {a : Act} {w : World} (hr : Region.ready md ops d = [i]) (ho : ops[i]? = some o)
    (h : ∀ K : Act → World → Prop, (∀ a' w', ((i ≠ z → T w') ∧ wpAnyZ P md ops Q T z n (d.setIfInBounds i true) a' w') → K a' w') → if Region.wanted o (yielded ops a.tmps) = true then Oper.wp P o a w K Q else K (a.put o.dst undef) w) : wpAnyZ P md ops Q T z (n + 1) d a w := by
  refine ⟨fun h0 => (by rw [h0] at hr; cases hr), fun j hj => ?_⟩
  rw [hr] at hj
  obtain rfl : j = i := by simpa using hj
  exact wpOp_step ho h
theorem step_callD {o : Oper} {a : Act} {w : World} {K : Act → World → Prop} {E : Prop} (x : Tmp) (hx : o.dst = some x) (hgd : o.guard = none) (f : FuncId) (hfn : ∀ vs, (callFunc f vs).run P w = .ok (.enter f vs) w) (args : Array Operand) (tys : Array TypeId)
    (ho : o.op = .call { callee := .value (.func f), args := args, argTypes := tys }) (vs : Array Value) (hv : args.map a.eval = vs) {R : Ending → World → Prop} (hc : Calls P f vs w R) (hK : ∀ e w', R e w' → ∃ v, e = .returned v ∧ K (a.put (some x) v) w') :
    if Region.wanted o (yielded ops a.tmps) = true then Oper.wp P o a w K Q else E :=
  step_call hgd f hfn args tys ho vs hv hc (by rw [hx]; exact hK)
/-- A call behind a guard. -/
theorem step_callG {o : Oper} {a : Act} {w : World} {K : Act → World → Prop} {E : Prop} (x : Tmp) (hx : o.dst = some x) (f : FuncId) (hfn : ∀ vs, (callFunc f vs).run P w = .ok (.enter f vs) w) (args : Array Operand) (tys : Array TypeId)
    (ho : o.op = .call { callee := .value (.func f), args := args, argTypes := tys }) (vs : Array Value) (hv : args.map a.eval = vs) {R : Ending → World → Prop} (hc : Calls P f vs w R) (hw : Region.wanted o (yielded ops a.tmps) = true) (hK : ∀ e w', R e w' → ∃ v, e = .returned v ∧ K (a.put (some x) v) w') :
    if Region.wanted o (yielded ops a.tmps) = true then Oper.wp P o a w K Q else E := by
  rw [if_pos hw]
  have h2 : Oper.wp P o a w K Q = o.upon P a K Q (.ok (.enter f vs) w) := by
    unfold Oper.wp
    simp [execOp, ho, resolve, invoke, ← hv, Deferred.ofValue, Act.eval, hfn]
  rw [h2, Oper.upon_enter]
  refine hc.mono ?_
  intro e w' hr
  obtain ⟨v, rfl, hk⟩ := hK e w' hr
  rw [hx]
  exact hk
/-- A call of a function that a slot holds. -/
theorem step_callV {o : Oper} {a : Act} {w : World} {K : Act → World → Prop} {E : Prop} (x y : Tmp) (hx : o.dst = some x) (hgd : o.guard = none) (f : FuncId) (hfn : ∀ vs, (callFunc f vs).run P w = .ok (.enter f vs) w) (args : Array Operand) (tys : Array TypeId)
    (ho : o.op = .call { callee := .value (.tmp y), args := args, argTypes := tys }) (hy : a.eval (.tmp y) = .func (.func f) #[] #[]) (vs : Array Value) (hv : args.map a.eval = vs) {R : Ending → World → Prop} (hc : Calls P f vs w R) (hK : ∀ e w', R e w' → ∃ v, e = .returned v ∧ K (a.put (some x) v) w') :
    if Region.wanted o (yielded ops a.tmps) = true then Oper.wp P o a w K Q else E := by
  have hw : Region.wanted o (yielded ops a.tmps) = true := by simp [Region.wanted, hgd]
  rw [if_pos hw]
  have h2 : Oper.wp P o a w K Q = o.upon P a K Q (.ok (.enter f vs) w) := by
    unfold Oper.wp
    simp [execOp, ho, resolve, invoke, ← hv, hy, Deferred.ofValue, hfn]
  rw [h2, Oper.upon_enter]
  refine hc.mono ?_
  intro e w' hr
  obtain ⟨v, rfl, hk⟩ := hK e w' hr
  rw [hx]
  exact hk
/-- A call of a closure that a slot holds. -/
theorem step_callF {o : Oper} {a : Act} {w : World} {K : Act → World → Prop} {E : Prop} (x y : Tmp) (hx : o.dst = some x) (f : FuncId) (fs cp : Array Value) (hfn : ∀ vs, (callFunc f vs).run P w = .ok (.enter f vs) w) (args : Array Operand) (tys : Array TypeId)
    (ho : o.op = .call { callee := .value (.tmp y), args := args, argTypes := tys }) (hy : a.eval (.tmp y) = .func (.func f) fs cp) (vs : Array Value) (hv : fs ++ args.map a.eval ++ cp = vs) {R : Ending → World → Prop} (hc : Calls P f vs w R) (hw : Region.wanted o (yielded ops a.tmps) = true) (hK : ∀ e w', R e w' → ∃ v, e = .returned v ∧ K (a.put (some x) v) w') :
    if Region.wanted o (yielded ops a.tmps) = true then Oper.wp P o a w K Q else E := by
  rw [if_pos hw]
  have h2 : Oper.wp P o a w K Q = o.upon P a K Q (.ok (.enter f vs) w) := by
    unfold Oper.wp
    simp [execOp, ho, resolve, invoke, ← hv, hy, Deferred.ofValue, hfn]
  rw [h2, Oper.upon_enter]
  refine hc.mono ?_
  intro e w' hr
  obtain ⟨v, rfl, hk⟩ := hK e w' hr
  rw [hx]
  exact hk
theorem wpAnyZ_done {n : Nat} {d : Array Bool} {a : Act} {w : World} (hr : Region.ready md ops d = []) (h : Q .normal a w) : wpAnyZ P md ops Q T z n d a w := by
  cases n with
  | zero => exact ⟨hr, h⟩
  | succ n => exact ⟨fun _ => h, fun i hi => by rw [hr] at hi; cases hi⟩
/-- What an operation yields that asks nothing of the world. -/
def lazyVal (o : Oper) (t : Array Value) : Option Value := match o.op with
  | .move (.tmp k) => some (t.getD k undef)
  | .assign (.tmp k) => some (t.getD k undef)
  | .pick (.tmp k) (.tmp j) (.const v) => match t.getD k undef with
    | .bool false => some v
    | .bool true => some (t.getD j undef)
    | _ => none
  | _ => none
/-- Operations in their turn that are not wanted, or ask nothing of the world. -/
def skipGo (md : Region.Mode) (ops : Array Oper) (z : Nat) : List Nat → Array Bool → Array Value → Option (Array Bool × Array Value)
  | [], d, t => some (d, t)
  | i :: l, d, t => match ops[i]? with
    | none => none
    | some o => match o.dst with
      | none => none
      | some x => if waits md ops z i && Region.free md ops d i && (Region.ready md ops d).contains i then
          match (if Region.wanted o (yielded ops t) then lazyVal o t else some undef) with
          | none => none
          | some v => skipGo md ops z l (d.setIfInBounds i true) (t.setIfInBounds x v)
        else none
theorem lazy_is {P : Program} {o : Oper} {a : Act} {v : Value} (h : lazyVal o a.tmps = some v) (w : World) : (execOp a.eval o).run P w = .ok (.value v) w := by
  unfold lazyVal at h
  split at h
  · rename_i k ho
    obtain rfl := Option.some.inj h
    simp [execOp, ho, Act.eval]
  · rename_i k ho
    obtain rfl := Option.some.inj h
    simp [execOp, ho, Act.eval]
  · rename_i k y c ho
    split at h
    · rename_i hb
      obtain rfl := Option.some.inj h
      have hb' : a.tmps[k]?.getD undef = .bool false := by simpa using hb
      simp [execOp, ho, Act.eval, hb', asBool]
    · rename_i hb
      obtain rfl := Option.some.inj h
      have hb' : a.tmps[k]?.getD undef = .bool true := by simpa using hb
      simp [execOp, ho, Act.eval, hb', asBool]
    · cases h
  · cases h
theorem wpAnyZ_skip (hs : Region.noSelect ops = true) (hQ : ∀ x v c (a : Act) w, Q (.panic c) (a.put (some x) v) w → Q (.panic c) a w) : ∀ (l : List Nat) (n : Nat) {d d' : Array Bool} {a : Act} {t' : Array Value} {w : World}, T w → skipGo md ops z l d a.tmps = some (d', t') → wpAnyZ P md ops Q T z n d' { a with tmps := t' } w → ∀ m, m = n + l.length → wpAnyZ P md ops Q T z m d a w
  | [], n, d, d', a, t', w, hT, h, k, m, hm => by
    obtain ⟨rfl, rfl⟩ := Prod.mk.inj (Option.some.inj h)
    obtain rfl : m = n := hm
    exact k
  | i :: l, n, d, d', a, t', w, hT, h, k, m, hm => by
    unfold skipGo at h
    split at h
    · cases h
    · rename_i o ho
      split at h
      · cases h
      · rename_i x hx
        split at h
        · rename_i hc
          simp only [Bool.and_eq_true] at hc
          obtain ⟨⟨hw, hf⟩, hr⟩ := hc
          split at h
          · cases h
          · rename_i v hv
            obtain rfl : m = (n + l.length) + 1 := by rw [hm, List.length_cons]; omega
            refine wpAnyZ_take i v x ho hx hw hs hf hr (fun c a w => hQ x v c a w) ?_ hT (wpAnyZ_skip hs hQ l n hT (a := a.put (some x) v) h k _ rfl)
            by_cases hwa : Region.wanted o (yielded ops a.tmps) = true
            · rw [if_pos hwa] at hv
              exact Or.inl ⟨hwa, fun w _ => lazy_is hv w⟩
            · rw [if_neg hwa] at hv
              exact Or.inr ⟨by simpa using hwa, (Option.some.inj hv).symm⟩
        · cases h
/-- After them nothing is ready, and the slot r holds false. -/
def skipEnd (md : Region.Mode) (ops : Array Oper) (z : Nat) (l : List Nat) (d : Array Bool) (t : Array Value) (r : Tmp) : Bool := match skipGo md ops z l d t with
  | none => false
  | some (d', t') => (Region.ready md ops d').isEmpty && match t'.getD r undef with
    | .bool b => !b
    | _ => false
theorem wpAnyZ_no (l : List Nat) (r : Tmp) {m : Nat} {d : Array Bool} {a : Act} {w : World} (hT : T w) (h : skipEnd md ops z l d a.tmps r = true) (k : ∀ t' : Array Value, t'.getD r undef = .bool false → Q .normal { a with tmps := t' } w) (hl : l.length ≤ m) (hs : Region.noSelect ops = true) (hQ : ∀ x v c (a : Act) w, Q (.panic c) (a.put (some x) v) w → Q (.panic c) a w) : wpAnyZ P md ops Q T z m d a w := by
  unfold skipEnd at h
  split at h
  · cases h
  · rename_i d' t' hg
    simp only [Bool.and_eq_true, List.isEmpty_iff] at h
    obtain ⟨h1, h2⟩ := h
    split at h2
    · rename_i b hb
      refine wpAnyZ_skip hs hQ l (m - l.length) hT hg (wpAnyZ_done h1 (k t' ?_)) m (by omega)
      rw [hb]
      congr 1
      simpa using h2
    · cases h2
end
end Go.Proofs.YtadmamfekodkaaaDoor
