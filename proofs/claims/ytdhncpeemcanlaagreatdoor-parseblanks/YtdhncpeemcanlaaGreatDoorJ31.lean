import Derived.Test.YtdhncpeemcanlaaGreatDoorPbL

namespace Go.Proofs.YtdhncpeemcanlaaGreatDoor
open Go.RowKit
attribute [local go_sem ↓] Go.wp_at_zero Go.wp_at_succ

section
variable {P : Program} {ops : Array Oper} {Q : Exit → Act → World → Prop}
/-- What z waits for in the end. -/
def reachB (ops : Array Oper) : Nat → Nat → Nat → Bool
  | 0, a, i => waitsB ops a i
  | f + 1, a, i => waitsB ops a i || (List.range a).any fun j => waitsB ops a j && reachB ops f j i
theorem reach_of (D : Nat → Prop) (hcl : ∀ k j, D k → Waits ops k j → D j) : ∀ (f a i : Nat), (∀ j, Waits ops a j → D j) → reachB ops f a i = true → D i
  | 0, a, i, hD, h => hD i (waits_of h)
  | f + 1, a, i, hD, h => by
    unfold reachB at h
    rw [Bool.or_eq_true] at h
    rcases h with h | h
    · exact hD i (waits_of h)
    · obtain ⟨j, _, h2⟩ := List.any_eq_true.1 h
      rw [Bool.and_eq_true] at h2
      exact reach_of D hcl f j i (fun k hk => hcl j k (hD j (waits_of h2.1)) hk) h2.2
def endC (ops : Array Oper) (z : Nat) : Bool := (List.range z).all fun i => reachB ops 4 z i
theorem endC_of {z : Nat} (h : endC ops z = true) : ∀ D : Nat → Prop, (∀ k j, D k → Waits ops k j → D j) → (∀ j, Waits ops z j → D j) → ∀ i, i < z → D i := fun D hcl hD i hi => reach_of D hcl 4 z i hD (List.all_eq_true.1 h i (List.mem_range.2 hi))
/-- A region that draws its order, whose last operation waits for all others. -/
theorem region_gen {id z N : Nat} (hmx : P.follows .mixedOrders = true) (s : Nat → Nat) (G : Array Bool → Array Value → World → Prop) (tm0 : Array Value) (w0 : World)
    (hn : ops.size = z + 1) (hN : tm0.size = N) (hs : ∀ i, i < z → s i < N) (hback : backB ops (z + 1) = true) (hz : endC ops z = true) (h0 : ∀ d, (∀ k, d.getD k false = false) → d.size = z + 1 → G d tm0 w0.drew)
    (step : ∀ k d tm w, k < z → d.size = z + 1 → (∀ k j, d.getD k false = true → Waits ops k j → d.getD j false = true) → d.getD k false = false → (∀ j, waitsB ops k j = true → j < k ∧ d.getD j false = true) → tm.size = N → (∀ j, (∀ i, i < z → s i ≠ j) → tm.getD j undef = tm0.getD j undef) → G d tm w →
      wpOp P ops Q k (fun a' w' => ∃ v, a' = ⟨tm.setIfInBounds (s k) v, []⟩ ∧ G (d.setIfInBounds k true) (tm.setIfInBounds (s k) v) w') ⟨tm, []⟩ w)
    (last : ∀ d tm w, (∀ j, j < z → d.getD j false = true) → tm.size = N → (∀ j, (∀ i, i < z → s i ≠ j) → tm.getD j undef = tm0.getD j undef) → G d tm w → wpOp P ops Q z (fun a' w' => Q .normal a' w') ⟨tm, []⟩ w) :
    (Code.region id ops true).wp P Q ⟨tm0, []⟩ w0 := by
  have hb := back_of hn hback
  refine wp_region_any hmx (wpAny_inv (md := .any) (fun d a w => d.size = z + 1 ∧ (∀ k j, d.getD k false = true → Waits ops k j → d.getD j false = true) ∧ ((d.getD z false = false ∧ ∃ tm, a = ⟨tm, []⟩ ∧ tm.size = N ∧ (∀ j, (∀ i, i < z → s i ≠ j) → tm.getD j undef = tm0.getD j undef) ∧ G d tm w) ∨ (d.getD z false = true ∧ Q .normal a w))) ?_ ?_ _ _ _ _ ?_ ?_)
  · rintro d a w i ⟨hd, hcl, hcase⟩ hr
    obtain ⟨hi, hnd⟩ := ready_lt hr
    obtain ⟨_, o, ho, hall⟩ := mem_ready.1 hr
    have hnd' : d.getD i false = false := by simp [hi, hnd]
    have hw : ∀ k, Waits ops i k → d.getD k false = true := by
      rintro k ⟨o', ho', e, he, hb, rfl⟩
      rw [ho] at ho'
      obtain rfl := Option.some.inj ho'
      exact hall e he hb
    have hcl' : ∀ k j, (d.setIfInBounds i true).getD k false = true → Waits ops k j → (d.setIfInBounds i true).getD j false = true := by
      intro k j hk hj
      by_cases e : j = i
      · subst e
        exact getD_new hi
      · rw [getD_keep (Ne.symm e)]
        by_cases e2 : k = i
        · subst e2
          exact hw j hj
        · rw [getD_keep (Ne.symm e2)] at hk
          exact hcl k j hk hj
    have hsz' : (d.setIfInBounds i true).size = z + 1 := by rw [Array.size_setIfInBounds]; exact hd
    rcases hcase with ⟨hdz, tm, rfl, h1, h2, h3⟩ | ⟨hdz, hq⟩
    rotate_left
    · exfalso
      have hiz : i < z := by
        rcases Nat.lt_or_ge i z with q | q
        · exact q
        · obtain rfl : i = z := by omega
          rw [hdz] at hnd'; cases hnd'
      have := endC_of hz (fun k => d.getD k false = true) hcl (fun j hj => hcl _ _ hdz hj) i hiz
      rw [this] at hnd'; cases hnd'
    by_cases hiz : i = z
    · subst hiz
      have hdone := endC_of hz (fun k => d.getD k false = true) hcl hw
      refine wpOp_mono ?_ (last d tm w hdone h1 h2 h3)
      intro a' w' hq
      exact ⟨hsz', hcl', .inr ⟨getD_new hi, hq⟩⟩
    · have hilt : i < z := by omega
      refine wpOp_mono ?_ (step i d tm w hilt hd hcl hnd' (fun j hj => ⟨?_, hw j (waits_of hj)⟩) h1 h2 h3)
      · rintro a' w' ⟨v, rfl, hg⟩
        refine ⟨hsz', hcl', .inl ⟨by rw [getD_keep hiz]; exact hdz, _, rfl, by rw [Array.size_setIfInBounds]; exact h1, fun j hj => by rw [getD_keep (hj i hilt)]; exact h2 j hj, hg⟩⟩
      · obtain ⟨o', ho', e, he, _, rfl⟩ := waits_of hj
        exact hb i o' ho' e he
  · rintro d a w ⟨hd, hcl, ⟨hdz, _⟩ | ⟨_, hq⟩⟩ hr
    · exfalso
      have hall : ∀ m i, i < m → i < z + 1 → d.getD i false = true := by
        intro m
        induction m with
        | zero => intro i hi; omega
        | succ m ih =>
          intro i hi hin
          obtain ⟨o, ho⟩ : ∃ o, ops[i]? = some o := ⟨_, Array.getElem?_eq_getElem (by omega)⟩
          exact done_of (by omega) hr ho fun e he _ => ih e.on (by have := hb i o ho e he; omega) (by have := hb i o ho e he; omega)
      rw [hall (z + 1) z (by omega) (by omega)] at hdz; cases hdz
    · exact hq
  · have hrep : ∀ k, (Array.replicate ops.size false).getD k false = false := fun k => by
      simp [Array.getD_eq_getD_getElem?, Array.getElem?_replicate]
      split <;> simp
    exact ⟨by simp [hn], fun k j hk _ => (by rw [hrep k] at hk; cases hk), .inl ⟨hrep z, tm0, rfl, hN, fun _ _ => rfl, h0 _ hrep (by simp [hn])⟩⟩
  · simp
/-- Quiet operations, at most one call among them (number c; none: c = z), and a last one. -/
theorem region_call1 {id z N : Nat} (c : Nat) (hmx : P.follows .mixedOrders = true) (s : Nat → Nat) (val : Nat → Value) (Φ0 : World → Prop) (Φ1 : Value → World → Prop) (tm0 : Array Value) (w0 : World)
    (hn : ops.size = z + 1) (hN : tm0.size = N) (hinj : ∀ i j, i < z → j < z → s i = s j → i = j) (hs : ∀ i, i < z → s i < N) (hback : backB ops (z + 1) = true) (hz : endC ops z = true) (h0 : Φ0 w0.drew)
    (quiet : ∀ k tm w, k < z → k ≠ c → tm.size = N → (∀ j, (∀ i, i < z → s i ≠ j) → tm.getD j undef = tm0.getD j undef) → (∀ j, j ≠ c → waitsB ops k j = true → tm.getD (s j) undef = val j) → (Φ0 w ∨ ∃ x, Φ1 x w) → wpOp P ops Q k (fun a' w' => a' = ⟨tm.setIfInBounds (s k) (val k), []⟩ ∧ w' = w) ⟨tm, []⟩ w)
    (call : c < z → ∀ tm w, tm.size = N → (∀ j, (∀ i, i < z → s i ≠ j) → tm.getD j undef = tm0.getD j undef) → (∀ j, j ≠ c → waitsB ops c j = true → tm.getD (s j) undef = val j) → Φ0 w → wpOp P ops Q c (fun a' w' => ∃ x, a' = ⟨tm.setIfInBounds (s c) x, []⟩ ∧ Φ1 x w') ⟨tm, []⟩ w)
    (last : ∀ tm w, tm.size = N → (∀ j, (∀ i, i < z → s i ≠ j) → tm.getD j undef = tm0.getD j undef) → (∀ j, j < z → j ≠ c → tm.getD (s j) undef = val j) → ((c < z ∧ Φ1 (tm.getD (s c) undef) w) ∨ (z ≤ c ∧ Φ0 w)) → wpOp P ops Q z (fun a' w' => Q .normal a' w') ⟨tm, []⟩ w) :
    (Code.region id ops true).wp P Q ⟨tm0, []⟩ w0 := by
  refine region_gen hmx s (fun d tm w => (∀ j, j < z → j ≠ c → d.getD j false = true → tm.getD (s j) undef = val j) ∧ (((d.getD c false = false ∨ z ≤ c) ∧ Φ0 w) ∨ (c < z ∧ d.getD c false = true ∧ Φ1 (tm.getD (s c) undef) w))) tm0 w0 hn hN hs hback hz ?_ ?_ ?_
  · intro d hd _
    exact ⟨fun j _ _ h => (by rw [hd j] at h; cases h), .inl ⟨.inl (hd c), h0⟩⟩
  · intro k d tm w hk hd hcl hnd hw hsz hun hG
    obtain ⟨hG1, hG2⟩ := hG
    have hdep : ∀ j, j ≠ c → waitsB ops k j = true → tm.getD (s j) undef = val j := fun j hjc hj => hG1 j (by have := (hw j hj).1; omega) hjc (hw j hj).2
    by_cases hkc : k = c
    · subst hkc
      rcases hG2 with ⟨_, h1⟩ | ⟨_, h1, _⟩
      · refine wpOp_mono ?_ (call hk tm w hsz hun hdep h1)
        rintro a' w' ⟨x, rfl, hx⟩
        refine ⟨x, rfl, fun j hj hjc hdj => ?_, .inr ⟨hk, getD_new (by omega), by rw [getD_new (by rw [hsz]; exact hs k hk)]; exact hx⟩⟩
        rw [getD_keep (Ne.symm hjc)] at hdj
        rw [getD_keep (fun q => hjc (hinj k j hk hj q).symm)]
        exact hG1 j hj hjc hdj
      · rw [h1] at hnd; cases hnd
    · refine wpOp_mono ?_ (quiet k tm w hk hkc hsz hun hdep (by rcases hG2 with ⟨_, h1⟩ | ⟨_, _, h1⟩; exact .inl h1; exact .inr ⟨_, h1⟩))
      rintro a' w' ⟨rfl, rfl⟩
      refine ⟨_, rfl, fun j hj hjc hdj => ?_, ?_⟩
      · by_cases e : j = k
        · subst e
          exact getD_new (by rw [hsz]; exact hs j hj)
        · rw [getD_keep (Ne.symm e)] at hdj
          rw [getD_keep (fun q => e (hinj k j hk hj q).symm)]
          exact hG1 j hj hjc hdj
      · rw [getD_keep hkc]
        rcases hG2 with h1 | ⟨h1, h2, h3⟩
        · exact .inl h1
        · exact .inr ⟨h1, h2, by rw [getD_keep (fun q => hkc (hinj k c hk h1 q))]; exact h3⟩
  · intro d tm w hd hsz hun hG
    refine last tm w hsz hun (fun j hj hjc => hG.1 j hj hjc (hd j hj)) ?_
    rcases hG.2 with ⟨h1, h2⟩ | ⟨h1, _, h3⟩
    · rcases Nat.lt_or_ge c z with q | q
      · rcases h1 with h1 | h1
        · rw [hd c q] at h1; cases h1
        · omega
      · exact .inr ⟨q, h2⟩
    · exact .inl ⟨h1, h3⟩
theorem op_makeFunc {i : Nat} {o : Oper} {a : Act} {w : World} {K : Act → World → Prop} (ho : ops[i]? = some o) (hg : o.guard = none) (fn : Fn) (fs cs : Array Operand) (hop : o.op = .makeFunc fn fs cs) (vf vc : Array Value) (hf : fs.map a.eval = vf) (hc : cs.map a.eval = vc) (hK : K (a.put o.dst (.func fn vf vc)) w) : wpOp P ops Q i K a w := by
  refine op_run ho hg (v := .func fn vf vc) (w' := w) ?_ hK
  simp only [execOp, hop, hf, hc]
  exact run_v rfl
theorem op_build {i : Nat} {o : Oper} {a : Act} {w w' : World} {K : Act → World → Prop} {v : Value} (ho : ops[i]? = some o) (hg : o.guard = none) (t : TypeId) (parts : Array (Nat × Operand)) (hop : o.op = .build t parts) (vs : Array (Nat × Value)) (hv : (parts.map fun p => (p.1, a.eval p.2)) = vs) (hr : (Instr.build t vs).run P w = .ok v w') (hK : K (a.put o.dst v) w') : wpOp P ops Q i K a w := by
  refine op_run ho hg (v := v) (w' := w') ?_ hK
  simp only [execOp, hop, hv]
  exact run_v hr
end
end Go.Proofs.YtdhncpeemcanlaaGreatDoor

namespace Go.Proofs.YtdhncpeemcanlaaGreatDoor
open Go.RowKit
attribute [local go_sem ↓] Go.wp_at_zero Go.wp_at_succ

theorem cf_rreserved (w : World) (vs : Array Value) : (callFunc 112 vs).run Tryz.prog w = .ok (.enter 112 vs) w := by
  have hn : ¬ Tryz.f112.name = "runtime.NumGoroutine" := by decide +kernel
  have hb : Tryz.f112.body.isSome = true := by kernel_rfl
  obtain ⟨c, hc⟩ := Option.isSome_iff_exists.1 hb
  simp [callFunc, Tryz.func112, hn, hc]
theorem cf_rbody (w : World) (vs : Array Value) : (callFunc 91 vs).run Tryz.prog w = .ok (.enter 91 vs) w := by
  have hn : ¬ Tryz.f91.name = "runtime.NumGoroutine" := by decide +kernel
  have hb : Tryz.f91.body.isSome = true := by kernel_rfl
  obtain ⟨c, hc⟩ := Option.isSome_iff_exists.1 hb
  simp [callFunc, Tryz.func91, hn, hc]
theorem cf_rvalues (w : World) (vs : Array Value) : (callFunc 95 vs).run Tryz.prog w = .ok (.enter 95 vs) w := by
  have hn : ¬ Tryz.f95.name = "runtime.NumGoroutine" := by decide +kernel
  have hb : Tryz.f95.body.isSome = true := by kernel_rfl
  obtain ⟨c, hc⟩ := Option.isSome_iff_exists.1 hb
  simp [callFunc, Tryz.func95, hn, hc]
theorem cf_rmembers (w : World) (vs : Array Value) : (callFunc 92 vs).run Tryz.prog w = .ok (.enter 92 vs) w := by
  have hn : ¬ Tryz.f92.name = "runtime.NumGoroutine" := by decide +kernel
  have hb : Tryz.f92.body.isSome = true := by kernel_rfl
  obtain ⟨c, hc⟩ := Option.isSome_iff_exists.1 hb
  simp [callFunc, Tryz.func92, hn, hc]
theorem cf_rchoices (w : World) (vs : Array Value) : (callFunc 124 vs).run Tryz.prog w = .ok (.enter 124 vs) w := by
  have hn : ¬ Tryz.f124.name = "runtime.NumGoroutine" := by decide +kernel
  have hb : Tryz.f124.body.isSome = true := by kernel_rfl
  obtain ⟨c, hc⟩ := Option.isSome_iff_exists.1 hb
  simp [callFunc, Tryz.func124, hn, hc]
theorem bld_val1 (w : World) : (Instr.build 150 #[(0, .int .i64 (-2147483648)), (1, .int .i64 2147483647), (2, .bool true)]).run Tryz.prog w = .ok (.agg #[.int .i64 (-2147483648), .int .i64 2147483647, .bool true]) w := by
  go_simp
set_option maxRecDepth 100000 in
set_option maxHeartbeats 4000000 in
theorem val1_any {lo b g pm pr : Nat} {nm : ByteArray} {ss : List Slot} {N : (Nat → Prop) → World → Prop} {V W w0 : World} {s : PSt} {rs : List (Int × Int)} {gs : List ByteArray} {vr vg : Value} (h : Ap lo b g 66 nm ss N V W s w0) (hN : Stable N) (hR : ss[1]? = some ⟨84, 2, vr, rs.length, rgC rs⟩) (hG : ss[2]? = some ⟨9, 1, vg, gs.length, strC gs⟩) (hp : 0 < s.ts.length) (hs : Sm s) (hlr : rs.length + s.ts.length ≤ 20000) (hlg : gs.length + s.ts.length ≤ 20000)
    (hc1 : ∀ P w, N P w → Cell1 pr #[.pointer (some ⟨b, 0, none⟩)] 80 P w) (hc2 : ∀ P w, N P w → Cell1 pm #[.pointer (some ⟨g, 0, none⟩)] 131 P w) : Calls Tryz.prog 119 #[.pointer (some ⟨pr, 0, none⟩), .pointer (some ⟨pm, 0, none⟩)] w0 (ResP lo b g 66 nm ss N V W 1 2 (resF (-2147483648) 2147483647 true rs gs s)) := by
  have hd := h.up hN (Below.refl w0.heap.size w0).drew
  have cR : w0.drew.cell? ⟨pr, 0, none⟩ = some (.pointer (some ⟨b, 0, none⟩)) := by rw [cell_of_row _ _ _ _ _ _ (hc1 _ _ hd.nx).1]; rfl
  have cM : w0.drew.cell? ⟨pm, 0, none⟩ = some (.pointer (some ⟨g, 0, none⟩)) := by rw [cell_of_row _ _ _ _ _ _ (hc2 _ _ hd.nx).1]; rfl
  go_enter Tryz.func119, Tryz.ntmps119
  refine region_call1 (z := 8) (N := 11) 8 (by kernel_rfl) (fun k => k + 2) (fun k => [.pointer (some ⟨b, 0, none⟩), .agg #[.int .i64 (-2147483648), .int .i64 2147483647, .bool true], .pointer (some ⟨g, 0, none⟩), .pointer (some ⟨g, 0, none⟩), .pointer (some ⟨g, 2, none⟩), .pointer (some ⟨g, 0, none⟩), .pointer (some ⟨g, 0, none⟩), .pointer (some ⟨g, 3, none⟩)].getD k undef) (fun w => w = w0.drew) (fun _ _ => False) _ w0 rfl rfl (fun i j _ _ e => by omega) (fun i hi => by omega) (by kernel_rfl) (by kernel_rfl) rfl ?_ (fun hc => by omega) ?_
  · intro k tm w hk _ hsz hun hdep hw
    rcases hw with rfl | ⟨_, hf⟩
    rotate_left
    · exact hf.elim
    match k, hk with
    | 0, _ => exact op_load rfl rfl _ (.tmp 0) rfl (hun 0 (by intro i hi; omega)) (ld_rptr _ cR) ⟨rfl, rfl⟩
    | 1, _ => exact op_build rfl rfl _ _ rfl (#[(0, .int .i64 (-2147483648)), (1, .int .i64 2147483647), (2, .bool true)]) (by simp only [List.map_toArray, List.map_cons, List.map_nil, Act.eval]) (bld_val1 _) ⟨rfl, rfl⟩
    | 2, _ => exact op_load rfl rfl _ (.tmp 1) rfl (hun 1 (by intro i hi; omega)) (ld_enumptr _ cM) ⟨rfl, rfl⟩
    | 3, _ => exact op_nilCheck rfl rfl (.tmp 4) rfl (hdep 2 (by omega) (by kernel_rfl)) ⟨rfl, rfl⟩
    | 4, _ => exact op_field rfl rfl _ (.tmp 5) _ rfl (hdep 3 (by omega) (by kernel_rfl)) (fa_enumd2 _) ⟨rfl, rfl⟩
    | 5, _ => exact op_load rfl rfl _ (.tmp 1) rfl (hun 1 (by intro i hi; omega)) (ld_enumptr _ cM) ⟨rfl, rfl⟩
    | 6, _ => exact op_nilCheck rfl rfl (.tmp 7) rfl (hdep 5 (by omega) (by kernel_rfl)) ⟨rfl, rfl⟩
    | 7, _ => exact op_field rfl rfl _ (.tmp 8) _ rfl (hdep 6 (by omega) (by kernel_rfl)) (fa_enumd3 _) ⟨rfl, rfl⟩
  · intro tm w hsz hun hval hw
    rcases hw with ⟨hc, _⟩ | ⟨_, rfl⟩
    · omega
    refine op_callP rfl rfl 112 (cf_rreserved _) _ _ rfl #[.pointer (some ⟨b, 0, none⟩), .agg #[.int .i64 (-2147483648), .int .i64 2147483647, .bool true], .pointer (some ⟨g, 2, none⟩), .pointer (some ⟨g, 3, none⟩)] ?_ (reserved_any hd hN (by decide) hR hG hp hs hlr hlg) ?_
    · simp only [List.map_toArray, List.map_cons, List.map_nil, Act.eval]
      rw [show tm.getD 2 undef = _ from hval 0 (by omega) (by omega), show tm.getD 3 undef = _ from hval 1 (by omega) (by omega), show tm.getD 6 undef = _ from hval 4 (by omega) (by omega), show tm.getD 9 undef = _ from hval 7 (by omega) (by omega)]
      rfl
    · intro e w' hr
      have hr0 := hr
      unfold ResP at hr
      cases hq : resF (-2147483648) 2147483647 true rs gs s with
      | error y =>
        rw [hq] at hr hr0
        obtain ⟨rfl, hs⟩ := hr
        exact .inr ⟨_, rfl, rfl, hr0⟩
      | ok y =>
        rw [hq] at hr hr0
        obtain ⟨rfl, hs⟩ := hr
        refine .inl ⟨_, rfl, ?_⟩
        go_end0
        exact hr0
theorem bld_mem4 (w : World) : (Instr.build 150 #[(0, .int .i64 1), (1, .int .i64 536870911)]).run Tryz.prog w = .ok (.agg #[.int .i64 1, .int .i64 536870911, .bool false]) w := by
  go_simp
set_option maxRecDepth 100000 in
set_option maxHeartbeats 4000000 in
theorem mem4_any {lo b g pm pr : Nat} {nm : ByteArray} {ss : List Slot} {N : (Nat → Prop) → World → Prop} {V W w0 : World} {s : PSt} {rs : List (Int × Int)} {gs : List ByteArray} {vr vg : Value} (h : Ap lo b g 51 nm ss N V W s w0) (hN : Stable N) (hR : ss[4]? = some ⟨84, 2, vr, rs.length, rgC rs⟩) (hG : ss[5]? = some ⟨9, 1, vg, gs.length, strC gs⟩) (hp : 0 < s.ts.length) (hs : Sm s) (hlr : rs.length + s.ts.length ≤ 20000) (hlg : gs.length + s.ts.length ≤ 20000)
    (hc1 : ∀ P w, N P w → Cell1 pr #[.pointer (some ⟨b, 0, none⟩)] 80 P w) (hc2 : ∀ P w, N P w → Cell1 pm #[.pointer (some ⟨g, 0, none⟩)] 128 P w) : Calls Tryz.prog 111 #[.pointer (some ⟨pr, 0, none⟩), .pointer (some ⟨pm, 0, none⟩)] w0 (ResP lo b g 51 nm ss N V W 4 5 (resF 1 536870911 false rs gs s)) := by
  have hd := h.up hN (Below.refl w0.heap.size w0).drew
  have cR : w0.drew.cell? ⟨pr, 0, none⟩ = some (.pointer (some ⟨b, 0, none⟩)) := by rw [cell_of_row _ _ _ _ _ _ (hc1 _ _ hd.nx).1]; rfl
  have cM : w0.drew.cell? ⟨pm, 0, none⟩ = some (.pointer (some ⟨g, 0, none⟩)) := by rw [cell_of_row _ _ _ _ _ _ (hc2 _ _ hd.nx).1]; rfl
  go_enter Tryz.func111, Tryz.ntmps111
  refine region_call1 (z := 8) (N := 11) 8 (by kernel_rfl) (fun k => k + 2) (fun k => [.pointer (some ⟨b, 0, none⟩), .agg #[.int .i64 1, .int .i64 536870911, .bool false], .pointer (some ⟨g, 0, none⟩), .pointer (some ⟨g, 0, none⟩), .pointer (some ⟨g, 5, none⟩), .pointer (some ⟨g, 0, none⟩), .pointer (some ⟨g, 0, none⟩), .pointer (some ⟨g, 6, none⟩)].getD k undef) (fun w => w = w0.drew) (fun _ _ => False) _ w0 rfl rfl (fun i j _ _ e => by omega) (fun i hi => by omega) (by kernel_rfl) (by kernel_rfl) rfl ?_ (fun hc => by omega) ?_
  · intro k tm w hk _ hsz hun hdep hw
    rcases hw with rfl | ⟨_, hf⟩
    rotate_left
    · exact hf.elim
    match k, hk with
    | 0, _ => exact op_load rfl rfl _ (.tmp 0) rfl (hun 0 (by intro i hi; omega)) (ld_rptr _ cR) ⟨rfl, rfl⟩
    | 1, _ => exact op_build rfl rfl _ _ rfl (#[(0, .int .i64 1), (1, .int .i64 536870911)]) (by simp only [List.map_toArray, List.map_cons, List.map_nil, Act.eval]) (bld_mem4 _) ⟨rfl, rfl⟩
    | 2, _ => exact op_load rfl rfl _ (.tmp 1) rfl (hun 1 (by intro i hi; omega)) (ld_msgptr _ cM) ⟨rfl, rfl⟩
    | 3, _ => exact op_nilCheck rfl rfl (.tmp 4) rfl (hdep 2 (by omega) (by kernel_rfl)) ⟨rfl, rfl⟩
    | 4, _ => exact op_field rfl rfl _ (.tmp 5) _ rfl (hdep 3 (by omega) (by kernel_rfl)) (fa_msg5 _) ⟨rfl, rfl⟩
    | 5, _ => exact op_load rfl rfl _ (.tmp 1) rfl (hun 1 (by intro i hi; omega)) (ld_msgptr _ cM) ⟨rfl, rfl⟩
    | 6, _ => exact op_nilCheck rfl rfl (.tmp 7) rfl (hdep 5 (by omega) (by kernel_rfl)) ⟨rfl, rfl⟩
    | 7, _ => exact op_field rfl rfl _ (.tmp 8) _ rfl (hdep 6 (by omega) (by kernel_rfl)) (fa_msg6 _) ⟨rfl, rfl⟩
  · intro tm w hsz hun hval hw
    rcases hw with ⟨hc, _⟩ | ⟨_, rfl⟩
    · omega
    refine op_callP rfl rfl 112 (cf_rreserved _) _ _ rfl #[.pointer (some ⟨b, 0, none⟩), .agg #[.int .i64 1, .int .i64 536870911, .bool false], .pointer (some ⟨g, 5, none⟩), .pointer (some ⟨g, 6, none⟩)] ?_ (reserved_any hd hN (by decide) hR hG hp hs hlr hlg) ?_
    · simp only [List.map_toArray, List.map_cons, List.map_nil, Act.eval]
      rw [show tm.getD 2 undef = _ from hval 0 (by omega) (by omega), show tm.getD 3 undef = _ from hval 1 (by omega) (by omega), show tm.getD 6 undef = _ from hval 4 (by omega) (by omega), show tm.getD 9 undef = _ from hval 7 (by omega) (by omega)]
      rfl
    · intro e w' hr
      have hr0 := hr
      unfold ResP at hr
      cases hq : resF 1 536870911 false rs gs s with
      | error y =>
        rw [hq] at hr hr0
        obtain ⟨rfl, hs⟩ := hr
        exact .inr ⟨_, rfl, rfl, hr0⟩
      | ok y =>
        rw [hq] at hr hr0
        obtain ⟨rfl, hs⟩ := hr
        refine .inl ⟨_, rfl, ?_⟩
        go_end0
        exact hr0
end Go.Proofs.YtdhncpeemcanlaaGreatDoor
