import Derived.Test.YtdhncpeemcanlaaGreatDoorJ00
import Derived.Orders
import Derived.RegionTactic

namespace Go.Proofs.YtdhncpeemcanlaaGreatDoor
open Go.RowKit

section
variable {P : Program} {ops : Array Oper} {Q : Exit → Act → World → Prop} {md : Region.Mode}
theorem ready_lt {d : Array Bool} {i : Nat} (h : i ∈ Region.ready md ops d) : ∃ hi : i < d.size, d[i] = false := by
  have h1 := (mem_ready.1 h).1
  rcases Nat.lt_or_ge i d.size with hi | hi
  · refine ⟨hi, ?_⟩
    simpa [hi] using h1
  · simp [Array.getElem?_eq_none hi] at h1
/-- Every order, by what holds of the done ones. -/
theorem wpAny_inv (I : Array Bool → Act → World → Prop) (step : ∀ d a w i, I d a w → i ∈ Region.ready md ops d → wpOp P ops Q i (fun a' w' => I (d.setIfInBounds i true) a' w') a w) (fin : ∀ d a w, I d a w → Region.ready md ops d = [] → Q .normal a w) :
    ∀ (n : Nat) (d : Array Bool) (a : Act) (w : World), I d a w → d.count false ≤ n → wpAny P md ops Q n d a w
  | 0, d, a, w, hI, hn => by
    have hr : Region.ready md ops d = [] := by
      apply List.eq_nil_iff_forall_not_mem.2
      intro i hi
      obtain ⟨h1, h2⟩ := ready_lt hi
      have h3 : 0 < d.count false := Array.count_pos_iff.2 (by rw [← h2]; exact Array.getElem_mem h1)
      omega
    exact ⟨hr, fin d a w hI hr⟩
  | n + 1, d, a, w, hI, hn => by
    refine ⟨fun hr => fin d a w hI hr, fun i hi => ?_⟩
    refine wpOp_mono (fun a' w' h' => wpAny_inv I step fin n _ a' w' h' ?_) (step d a w i hI hi)
    obtain ⟨h1, h2⟩ := ready_lt hi
    have h3 : 0 < d.count false := Array.count_pos_iff.2 (by rw [← h2]; exact Array.getElem_mem h1)
    rw [Array.setIfInBounds_def, dif_pos h1, Array.count_set h1, h2]
    simp
    omega
theorem getD_keep {α : Type} {d : Array α} {i j : Nat} {x z : α} (h : i ≠ j) : (d.setIfInBounds i x).getD j z = d.getD j z := by
  simp [Array.getD_eq_getD_getElem?, h]
theorem getD_new {α : Type} {d : Array α} {i : Nat} {x z : α} (h : i < d.size) : (d.setIfInBounds i x).getD i z = x := by
  simp [h]
theorem done_of {d : Array Bool} {i : Nat} {o : Oper} (hsz : i < d.size) (hr : Region.ready md ops d = []) (ho : ops[i]? = some o) (hdeps : ∀ e ∈ o.after, Region.binds md e = true → d.getD e.on false = true) : d.getD i false = true := by
  by_cases h : d.getD i true = false
  · have : i ∈ Region.ready md ops d := mem_ready.2 ⟨h, o, ho, hdeps⟩
    rw [hr] at this
    cases this
  · simp [hsz] at h ⊢
    exact h
/-- What the i-th operation waits for. -/
def Waits (ops : Array Oper) (i k : Nat) : Prop := ∃ o, ops[i]? = some o ∧ ∃ e ∈ o.after, Region.binds .any e = true ∧ e.on = k
/-- The same, to be reckoned. -/
def waitsB (ops : Array Oper) (i k : Nat) : Bool := match ops[i]? with
  | some o => o.after.any fun e => Region.binds .any e && e.on == k
  | none => false
theorem waits_of {i k : Nat} (h : waitsB ops i k = true) : Waits ops i k := by
  unfold waitsB at h
  cases ho : ops[i]? with
  | none => rw [ho] at h; cases h
  | some o =>
    rw [ho] at h
    simp only [Array.any_eq_true] at h
    obtain ⟨j, hj, h2⟩ := h
    rw [Bool.and_eq_true] at h2
    exact ⟨o, ho, o.after[j], Array.getElem_mem hj, h2.1, eq_of_beq h2.2⟩
def backB (ops : Array Oper) (n : Nat) : Bool := (List.range n).all fun i => match ops[i]? with
  | some o => o.after.all fun e => decide (e.on < i)
  | none => true
theorem back_of {n : Nat} (hn : ops.size = n) (h : backB ops n = true) : ∀ (i : Nat) (o : Oper), ops[i]? = some o → ∀ e ∈ o.after, e.on < i := by
  intro i o ho e he
  have hi : i < n := by rw [← hn]; exact (Array.getElem?_eq_some_iff.1 ho).1
  have h1 := List.all_eq_true.1 h i (List.mem_range.2 hi)
  rw [ho] at h1
  simp only [Array.all_eq_true] at h1
  obtain ⟨j, hj, rfl⟩ := Array.getElem_of_mem he
  exact of_decide_eq_true (h1 j hj)
/-- All that comes ahead of z waits, in the end, behind nothing but what z waits for. -/
def endB (ops : Array Oper) (z : Nat) : Bool := (List.range z).all fun i => waitsB ops z i || (List.range z).any fun j => waitsB ops z j && waitsB ops j i
theorem end_of {z : Nat} (h : endB ops z = true) : ∀ D : Nat → Prop, (∀ k j, D k → Waits ops k j → D j) → (∀ j, Waits ops z j → D j) → ∀ i, i < z → D i := by
  intro D hcl hD i hi
  have h1 := List.all_eq_true.1 h i (List.mem_range.2 hi)
  rw [Bool.or_eq_true] at h1
  rcases h1 with h1 | h1
  · exact hD i (waits_of h1)
  · obtain ⟨j, _, h2⟩ := List.any_eq_true.1 h1
    rw [Bool.and_eq_true] at h2
    exact hcl j i (hD j (waits_of h2.1)) (waits_of h2.2)
/-- A region that draws its order: quiet operations, a call, what makes a row of its answer, an append, and at the end a store that waits for all. Phi tells the world by phases. -/
theorem region_app {id z N c : Nat} (hmx : P.follows .mixedOrders = true) (s : Nat → Nat) (val : Nat → Value) (Φ : Nat → Value → World → Prop) (tm0 : Array Value) (w0 : World)
    (hn : ops.size = z + 1) (hN : tm0.size = N) (hinj : ∀ i j, i < z → j < z → s i = s j → i = j) (hs : ∀ i, i < z → s i < N) (hback : backB ops (z + 1) = true)
    (hc : c + 2 < z) (w1 : waitsB ops (c + 1) c = true) (w2 : waitsB ops (c + 2) (c + 1) = true) (hz : endB ops z = true) (h0 : Φ 0 undef w0.drew)
    (quiet : ∀ k tm w, k < z → (k < c ∨ c + 2 < k) → tm.size = N → (∀ j, (∀ i, i < z → s i ≠ j) → tm.getD j undef = tm0.getD j undef) → (∀ j, (j < c ∨ c + 2 < j) → waitsB ops k j = true → tm.getD (s j) undef = val j) → (∃ ph x, Φ ph x w) →
      wpOp P ops Q k (fun a' w' => a' = ⟨tm.setIfInBounds (s k) (val k), []⟩ ∧ w' = w) ⟨tm, []⟩ w)
    (call : ∀ tm w, tm.size = N → (∀ j, (∀ i, i < z → s i ≠ j) → tm.getD j undef = tm0.getD j undef) → (∀ j, (j < c ∨ c + 2 < j) → waitsB ops c j = true → tm.getD (s j) undef = val j) → Φ 0 undef w → wpOp P ops Q c (fun a' w' => ∃ x, a' = ⟨tm.setIfInBounds (s c) x, []⟩ ∧ Φ 1 x w') ⟨tm, []⟩ w)
    (bs : ∀ tm w x, tm.size = N → tm.getD (s c) undef = x → Φ 1 x w → wpOp P ops Q (c + 1) (fun a' w' => ∃ y, a' = ⟨tm.setIfInBounds (s (c + 1)) y, []⟩ ∧ Φ 2 y w') ⟨tm, []⟩ w)
    (ap : ∀ tm w y, tm.size = N → (∀ j, (j < c ∨ c + 2 < j) → waitsB ops (c + 2) j = true → tm.getD (s j) undef = val j) → tm.getD (s (c + 1)) undef = y → Φ 2 y w → wpOp P ops Q (c + 2) (fun a' w' => ∃ y', a' = ⟨tm.setIfInBounds (s (c + 2)) y', []⟩ ∧ Φ 3 y' w') ⟨tm, []⟩ w)
    (last : ∀ tm w y, tm.size = N → (∀ j, (∀ i, i < z → s i ≠ j) → tm.getD j undef = tm0.getD j undef) → (∀ j, j < z → (j < c ∨ c + 2 < j) → tm.getD (s j) undef = val j) → tm.getD (s (c + 2)) undef = y → Φ 3 y w → wpOp P ops Q z (fun a' w' => Q .normal a' w') ⟨tm, []⟩ w) :
    (Code.region id ops true).wp P Q ⟨tm0, []⟩ w0 := by
  have hb := back_of hn hback
  have W1 := waits_of w1
  have W2 := waits_of w2
  refine wp_region_any hmx (wpAny_inv (md := .any) (fun d a w => d.size = z + 1 ∧ (∀ k j, d.getD k false = true → Waits ops k j → d.getD j false = true) ∧ ((d.getD z false = false ∧ ∃ tm, a = ⟨tm, []⟩ ∧ tm.size = N ∧ (∀ j, (∀ i, i < z → s i ≠ j) → tm.getD j undef = tm0.getD j undef) ∧ (∀ k, k < z → (k < c ∨ c + 2 < k) → d.getD k false = true → tm.getD (s k) undef = val k) ∧
      ((d.getD c false = false ∧ Φ 0 undef w) ∨ (d.getD c false = true ∧ d.getD (c + 1) false = false ∧ Φ 1 (tm.getD (s c) undef) w) ∨ (d.getD (c + 1) false = true ∧ d.getD (c + 2) false = false ∧ Φ 2 (tm.getD (s (c + 1)) undef) w) ∨ (d.getD (c + 2) false = true ∧ Φ 3 (tm.getD (s (c + 2)) undef) w))) ∨
      (d.getD z false = true ∧ Q .normal a w))) ?_ ?_ _ _ _ _ ?_ ?_)
  · rintro d a w i ⟨hd, hcl, hcase⟩ hr
    obtain ⟨hi, hnd⟩ := ready_lt hr
    obtain ⟨_, o, ho, hall⟩ := mem_ready.1 hr
    have hnd' : d.getD i false = false := by simp [hi, hnd]
    have hw : ∀ k, Waits ops i k → d.getD k false = true := by
      rintro k ⟨o', ho', e, he, hb, rfl⟩
      rw [ho] at ho'
      obtain rfl := Option.some.inj ho'
      exact hall e he hb
    have hcl' : ∀ k j, (d.setIfInBounds i true).getD k false = true → Waits ops k j → (d.setIfInBounds i true).getD j false = true := by
      intro k j hk hj
      by_cases e : j = i
      · subst e
        exact getD_new hi
      · rw [getD_keep (Ne.symm e)]
        by_cases e2 : k = i
        · subst e2
          exact hw j hj
        · rw [getD_keep (Ne.symm e2)] at hk
          exact hcl k j hk hj
    have hsz' : (d.setIfInBounds i true).size = z + 1 := by rw [Array.size_setIfInBounds]; exact hd
    rcases hcase with ⟨hdz, tm, rfl, h1, h2, h3, h4⟩ | ⟨hdz, hq⟩
    rotate_left
    · exfalso
      have hiz : i < z := by
        rcases Nat.lt_or_ge i z with q | q
        · exact q
        · obtain rfl : i = z := by omega
          rw [hdz] at hnd'; cases hnd'
      have := end_of hz (fun k => d.getD k false = true) hcl (fun j hj => hcl _ _ hdz hj) i hiz
      rw [this] at hnd'; cases hnd'
    by_cases hiz : i = z
    · subst hiz
      have hdone := end_of hz (fun k => d.getD k false = true) hcl hw
      have h5 : Φ 3 (tm.getD (s (c + 2)) undef) w := by
        rcases h4 with ⟨q, _⟩ | ⟨_, q, _⟩ | ⟨_, q, _⟩ | ⟨_, q⟩
        · rw [hdone c (by omega)] at q; cases q
        · rw [hdone (c + 1) (by omega)] at q; cases q
        · rw [hdone (c + 2) (by omega)] at q; cases q
        · exact q
      refine wpOp_mono ?_ (last tm w _ h1 h2 (fun j hj hq => h3 j hj hq (hdone j hj)) rfl h5)
      intro a' w' hq
      exact ⟨hsz', hcl', .inr ⟨getD_new hi, hq⟩⟩
    · have hilt : i < z := by omega
      have hz' : (d.setIfInBounds i true).getD z false = false := by rw [getD_keep hiz]; exact hdz
      have hun : ∀ x : Value, ∀ j, (∀ i, i < z → s i ≠ j) → (tm.setIfInBounds (s i) x).getD j undef = tm0.getD j undef := fun x j hj => by rw [getD_keep (hj i hilt)]; exact h2 j hj
      have hsame : ∀ (x : Value) k, k < z → k ≠ i → (tm.setIfInBounds (s i) x).getD (s k) undef = tm.getD (s k) undef := fun x k hk hne => getD_keep (fun q => hne (hinj i k hilt hk q).symm)
      by_cases hqt : i < c ∨ c + 2 < i
      · refine wpOp_mono ?_ (quiet i tm w hilt hqt h1 h2 (fun j hjq hj => h3 j (by have := hb i o ho; obtain ⟨o', ho', e, he, _, rfl⟩ := waits_of hj; rw [ho] at ho'; obtain rfl := Option.some.inj ho'; have := this e he; omega) hjq (hw j (waits_of hj))) (by rcases h4 with ⟨_, q⟩ | ⟨_, _, q⟩ | ⟨_, _, q⟩ | ⟨_, q⟩ <;> exact ⟨_, _, q⟩))
        rintro a' w' ⟨rfl, rfl⟩
        refine ⟨hsz', hcl', .inl ⟨hz', _, rfl, by rw [Array.size_setIfInBounds]; exact h1, hun _, fun k hk hkq hdk => ?_, ?_⟩⟩
        · by_cases e : k = i
          · subst e
            exact getD_new (by rw [h1]; exact hs k hk)
          · rw [getD_keep (Ne.symm e)] at hdk
            rw [hsame _ k hk e]
            exact h3 k hk hkq hdk
        · rw [getD_keep (show i ≠ c by omega), getD_keep (show i ≠ c + 1 by omega), getD_keep (show i ≠ c + 2 by omega), hsame _ c (by omega) (by omega), hsame _ (c + 1) (by omega) (by omega), hsame _ (c + 2) (by omega) (by omega)]
          exact h4
      · have h3' : ∀ x : Value, ∀ k, k < z → (k < c ∨ c + 2 < k) → (d.setIfInBounds i true).getD k false = true → (tm.setIfInBounds (s i) x).getD (s k) undef = val k := fun x k hk hkq hdk => by
          rw [getD_keep (show i ≠ k by omega)] at hdk
          rw [hsame _ k hk (by omega)]
          exact h3 k hk hkq hdk
        have hdep : ∀ j, (j < c ∨ c + 2 < j) → waitsB ops i j = true → tm.getD (s j) undef = val j := fun j hjq hj => h3 j (by have := hb i o ho; obtain ⟨o', ho', e, he, _, rfl⟩ := waits_of hj; rw [ho] at ho'; obtain rfl := Option.some.inj ho'; have := this e he; omega) hjq (hw j (waits_of hj))
        rcases (show i = c ∨ i = c + 1 ∨ i = c + 2 by omega) with rfl | rfl | rfl
        · rcases h4 with ⟨_, q⟩ | ⟨q, _⟩ | ⟨q, _⟩ | ⟨q, _⟩
          · refine wpOp_mono ?_ (call tm w h1 h2 hdep q)
            rintro a' w' ⟨x, rfl, hx⟩
            refine ⟨hsz', hcl', .inl ⟨hz', _, rfl, by rw [Array.size_setIfInBounds]; exact h1, hun _, h3' x, .inr (.inl ⟨getD_new hi, ?_, ?_⟩)⟩⟩
            · rw [getD_keep (by omega)]
              apply Bool.eq_false_iff.2
              intro q2
              rw [hcl _ _ q2 W1] at hnd'; cases hnd'
            · rw [getD_new (by rw [h1]; exact hs _ hilt)]
              exact hx
          · rw [q] at hnd'; cases hnd'
          · rw [hcl _ _ q W1] at hnd'; cases hnd'
          · rw [hcl _ _ (hcl _ _ q W2) W1] at hnd'; cases hnd'
        · rcases h4 with ⟨q, _⟩ | ⟨_, _, q⟩ | ⟨q, _⟩ | ⟨q, _⟩
          · rw [hw _ W1] at q; cases q
          · refine wpOp_mono ?_ (bs tm w _ h1 rfl q)
            rintro a' w' ⟨x, rfl, hx⟩
            refine ⟨hsz', hcl', .inl ⟨hz', _, rfl, by rw [Array.size_setIfInBounds]; exact h1, hun _, h3' x, .inr (.inr (.inl ⟨getD_new hi, ?_, ?_⟩))⟩⟩
            · rw [getD_keep (by omega)]
              apply Bool.eq_false_iff.2
              intro q2
              rw [hcl _ _ q2 W2] at hnd'; cases hnd'
            · rw [getD_new (by rw [h1]; exact hs _ hilt)]
              exact hx
          · rw [q] at hnd'; cases hnd'
          · rw [hcl _ _ q W2] at hnd'; cases hnd'
        · rcases h4 with ⟨q, _⟩ | ⟨_, q, _⟩ | ⟨_, _, q⟩ | ⟨q, _⟩
          · rw [hcl _ _ (hw _ W2) W1] at q; cases q
          · rw [hw _ W2] at q; cases q
          · refine wpOp_mono ?_ (ap tm w _ h1 hdep rfl q)
            rintro a' w' ⟨x, rfl, hx⟩
            refine ⟨hsz', hcl', .inl ⟨hz', _, rfl, by rw [Array.size_setIfInBounds]; exact h1, hun _, h3' x, .inr (.inr (.inr ⟨getD_new hi, ?_⟩))⟩⟩
            rw [getD_new (by rw [h1]; exact hs _ hilt)]
            exact hx
          · rw [q] at hnd'; cases hnd'
  · rintro d a w ⟨hd, hcl, ⟨hdz, _⟩ | ⟨_, hq⟩⟩ hr
    · exfalso
      have hall : ∀ m i, i < m → i < z + 1 → d.getD i false = true := by
        intro m
        induction m with
        | zero => intro i hi; omega
        | succ m ih =>
          intro i hi hin
          obtain ⟨o, ho⟩ : ∃ o, ops[i]? = some o := ⟨_, Array.getElem?_eq_getElem (by omega)⟩
          exact done_of (by omega) hr ho fun e he _ => ih e.on (by have := hb i o ho e he; omega) (by have := hb i o ho e he; omega)
      rw [hall (z + 1) z (by omega) (by omega)] at hdz; cases hdz
    · exact hq
  · have hrep : ∀ k, (Array.replicate ops.size false).getD k false = false := fun k => by
      simp [Array.getD_eq_getD_getElem?, Array.getElem?_replicate]
      split <;> simp
    refine ⟨by simp [hn], fun k j hk _ => (by rw [hrep k] at hk; cases hk), .inl ⟨hrep z, tm0, rfl, hN, fun _ _ => rfl, fun k _ _ hk => (by rw [hrep k] at hk; cases hk), .inl ⟨hrep c, h0⟩⟩⟩
  · simp
theorem op_run {i : Nat} {o : Oper} {a : Act} {w w' : World} {K : Act → World → Prop} {v : Value} (ho : ops[i]? = some o) (hg : o.guard = none) (hr : (execOp a.eval o).run P w = .ok (.value v) w') (hK : K (a.put o.dst v) w') : wpOp P ops Q i K a w := by
  refine wpOp_step ho (fun K' hK' => ?_)
  have hw : Region.wanted o (yielded ops a.tmps) = true := by simp [Region.wanted, hg]
  rw [if_pos hw]
  unfold Oper.wp
  rw [hr]
  exact hK' _ _ hK
theorem op_skip {i : Nat} {o : Oper} {a : Act} {w w' : World} {K : Act → World → Prop} (ho : ops[i]? = some o) (hg : o.guard = none) (hr : (execOp a.eval o).run P w = .ok .skip w') (hK : K (a.put o.dst undef) w') : wpOp P ops Q i K a w := by
  refine wpOp_step ho (fun K' hK' => ?_)
  have hw : Region.wanted o (yielded ops a.tmps) = true := by simp [Region.wanted, hg]
  rw [if_pos hw]
  unfold Oper.wp
  rw [hr]
  exact hK' _ _ hK
/-- A call that may throw. -/
theorem op_callP {i : Nat} {o : Oper} {a : Act} {w : World} {K : Act → World → Prop} (ho : ops[i]? = some o) (hg : o.guard = none) (f : FuncId) (hfn : ∀ vs, (callFunc f vs).run P w = .ok (.enter f vs) w) (args : Array Operand) (tys : Array TypeId)
    (hop : o.op = .call { callee := .value (.func f), args := args, argTypes := tys }) (vs : Array Value) (hv : args.map a.eval = vs) {R : Ending → World → Prop} (hc : Calls P f vs w R) (hK : ∀ e w', R e w' → (∃ v, e = .returned v ∧ K (a.put o.dst v) w') ∨ ∃ ch, e = .panicked ch ∧ Q (.panic ch) a w') : wpOp P ops Q i K a w := by
  refine wpOp_step ho (fun K' hK' => ?_)
  have hw : Region.wanted o (yielded ops a.tmps) = true := by simp [Region.wanted, hg]
  rw [if_pos hw]
  have h2 : Oper.wp P o a w K' Q = o.upon P a K' Q (.ok (.enter f vs) w) := by
    unfold Oper.wp
    simp [execOp, hop, resolve, invoke, ← hv, Act.eval, Deferred.ofValue, hfn]
  rw [h2, Oper.upon_enter]
  refine hc.mono ?_
  intro e w' hr
  rcases hK e w' hr with ⟨v, rfl, hk⟩ | ⟨ch, rfl, hq⟩
  · exact hK' _ _ hk
  · exact hq
theorem run_v {S : Sem Value} {w w' : World} {v : Value} (h : S.run P w = .ok v w') : ((do pure (Next.value (← S))) : Sem Next).run P w = .ok (.value v) w' := by
  simp [h]
theorem op_load {i : Nat} {o : Oper} {a : Act} {w w' : World} {K : Act → World → Prop} {v vx : Value} (ho : ops[i]? = some o) (hg : o.guard = none) (t : TypeId) (x : Operand) (hop : o.op = .load t x) (ex : a.eval x = vx) (hr : (Instr.loadAt t vx).run P w = .ok v w') (hK : K (a.put o.dst v) w') : wpOp P ops Q i K a w :=
  op_run ho hg (by simp only [execOp, hop, ex, Sem.run_pure, Sem.run_bind, hr, Result.andThen_ok]) hK
end
end Go.Proofs.YtdhncpeemcanlaaGreatDoor
