import Derived.Test.YtkkbccdjbgjjaaaDoorSKJ
import Derived.Deep.AppendLies

namespace Go.Proofs.YtkkbccdjbgjjaaaDoor
open Go.RowKit
attribute [local go_sem ↓] Go.wp_at_zero Go.wp_at_succ

noncomputable def ckReg (c : Code) : Code := match ckOne c with
  | .seq _ (.block _ (.loop (.seq _ (.seq (.block _ (.seq r _)) _)))) => r
  | _ => .skip
noncomputable def ckInWith (c t : Code) : Code := match ckOne c with
  | .seq a (.block i (.loop (.seq x (.seq (.block j (.seq _ y)) z)))) => .seq a (.block i (.loop (.seq x (.seq (.block j (.seq t y)) z))))
  | _ => .skip
theorem skIn1_split : ckOne skCheck1 = ckInWith skCheck1 (ckReg skCheck1) := rfl
theorem skIn2_split : ckOne skCheck2 = ckInWith skCheck2 (ckReg skCheck2) := rfl
theorem row1_cell {w : World} {bs e g n c : Nat} {us : List Value} (h : w.ownsRow bs e 1 (.slice (some ⟨g, 0, none⟩) n c) n us) {k : Nat} {v : Value} (hk : us[k]? = some v) : w.cell? ⟨g, k, none⟩ = some v := by
  have := h.1
  rw [World.ownsRow.cellAt h k (by have := (List.getElem?_eq_some_iff.1 hk).1; omega), hk]
theorem at_get {tm : Array Value} {j : Nat} {v : Value} (h : tm[j]? = some v) : tm.getD j undef = v := by
  rw [Array.getD_eq_getD_getElem?, h]; rfl
theorem at_of {tm : Array Value} {j : Nat} {v : Value} (h : tm.size = 160) (hj : j < 160) (e : tm.getD j undef = v) : tm[j]? = some v := by
  rw [← e]
  simp [Array.getD_eq_getD_getElem?, Array.getElem?_eq_getElem (show j < tm.size by omega)]
theorem run_quo5 (w : World) {k q : Nat} (h : (k : Int) / 5 = (q : Int)) (hq : q ≤ 1099511627776) {x : Operand} : (do eqGuard .quo 3 x (.const (.int .i64 5)) (.int .i64 (k : Int)) (.int .i64 5); binOp .quo 3 (.int .i64 (k : Int)) (.int .i64 5) : Sem Value).run Tryd.prog w = .ok (.int .i64 (q : Int)) w := by
  have hw : IntKind.i64.wrap (q : Int) = (q : Int) := by rw [IntKind.wrap_i64]; omega
  go_simp
theorem run_neqT (w : World) (t : Tk) {x y : Operand} : (do eqGuard .neq 31 x y t.val t.val; binOp .neq 31 t.val t.val : Sem Value).run Tryd.prog w = .ok (.bool false) w := by
  unfold Tk.val
  go_simp

set_option maxRecDepth 100000 in
set_option maxHeartbeats 2000000 in
theorem reg1_any {W wr : World} {us : List Value} {g3 c3 k n b c i q : Nat} (hk : k < us.length) (hlt : i < n) (hqk : (k : Int) / 5 = (q : Int)) (hq1 : q ≤ 1099511627776) (hB : Below W.heap.size W wr)
    (HS0 : ∀ w' : World, Below W.heap.size W w' → (w'.cell? ⟨g3, k, none⟩ = some (.slice (some ⟨b, 0, none⟩) n c) ∧ w'.cell? ⟨b, i * 3, none⟩ = some (.int .i64 (mkT q).kind) ∧ w'.cell? ⟨b, i * 3 + 1, none⟩ = some (.int .i64 (mkT q).spot) ∧ w'.cell? ⟨b, i * 3 + 2, none⟩ = some (.string (mkT q).text)))
    {p0 p4 p5 : Value} {tm0 : Array Value} (hz0 : tm0.size = 160) (hc0 : chk tm0 [(0, p0), (3, .slice (some ⟨g3, 0, none⟩) us.length c3), (4, p4), (5, p5), (11, .int .i64 (k : Int)), (12, .int .i64 (i : Int))]) {Q : Exit → Act → World → Prop}
    (hQ : ∀ W', Below W.heap.size W W' → ∀ tm : Array Value, tm.size = 160 → chk tm [(0, p0), (3, .slice (some ⟨g3, 0, none⟩) us.length c3), (4, p4), (5, p5), (11, .int .i64 (k : Int)), (12, .int .i64 (i : Int)), (78, .bool false)] → Q .normal { tmps := tm, defers := [] } W') :
    (ckReg skCheck1).wp Tryd.prog Q { tmps := tm0, defers := [] } wr := by
  obtain ⟨e0, e3, e4, e5, e11, e12, _⟩ := hc0
  unfold ckReg skCheck1 skRound skLoop
  dsimp only [Tryd.f3]
  have HS : ∀ w' : World, Below wr.drew.heap.size wr.drew w' → _ := fun w' h => HS0 w' (hB.drew.trans (h.mono hB.drew.size))
  have hrefl : ∀ w : World, Below w.heap.size w w := fun w => Below.refl _ _
  refine region_inv (n := 11) (N := 160) (by kernel_rfl) (fun i => 68 + i) (fun j x _ => [(.slice (some ⟨g3, 0, none⟩) us.length c3), (.int .i64 (k : Int)), (.pointer (some ⟨g3, k, none⟩)), (.slice (some ⟨b, 0, none⟩) n c), (.int .i64 (i : Int)), (.pointer (some ⟨b, i * 3, none⟩)), (mkT q).val, (.int .i64 (k : Int)), (.int .i64 (q : Int)), (mkT q).val, (.bool false)][j]? = some x) (fun a b => Below a.heap.size a b) _ wr rfl hz0 (fun i j _ _ e => by omega) (fun i hi => by omega) ?_ (hrefl _) (fun a b c h1 h2 => h1.trans (h2.mono h1.size)) (fun _ _ _ _ _ h _ => h) ?_ ?_
  · intro i o ho e he
    rcases Nat.lt_or_ge i 11 with hi | hi
    · match i, hi with
      | 0, _ => obtain rfl := Option.some.inj ho; revert e; decide
      | 1, _ => obtain rfl := Option.some.inj ho; revert e; decide
      | 2, _ => obtain rfl := Option.some.inj ho; revert e; decide
      | 3, _ => obtain rfl := Option.some.inj ho; revert e; decide
      | 4, _ => obtain rfl := Option.some.inj ho; revert e; decide
      | 5, _ => obtain rfl := Option.some.inj ho; revert e; decide
      | 6, _ => obtain rfl := Option.some.inj ho; revert e; decide
      | 7, _ => obtain rfl := Option.some.inj ho; revert e; decide
      | 8, _ => obtain rfl := Option.some.inj ho; revert e; decide
      | 9, _ => obtain rfl := Option.some.inj ho; revert e; decide
      | 10, _ => obtain rfl := Option.some.inj ho; revert e; decide
    · rw [Array.getElem?_eq_none (by exact hi)] at ho; cases ho
  · intro i tm' w' hi hsz hoth hdep hR'
    match i, hi with
    | 0, _ =>
      have e : tm'.getD 3 undef = _ := (hoth 3 (by intro i hi; omega)).trans (at_get e3)
      exact op_move rfl rfl _ rfl e ⟨_, rfl, hrefl _, rfl⟩
    | 1, _ =>
      have e : tm'.getD 11 undef = _ := (hoth 11 (by intro i hi; omega)).trans (at_get e11)
      exact op_move rfl rfl _ rfl e ⟨_, rfl, hrefl _, rfl⟩
    | 2, _ =>
      have d0 : tm'.getD 68 undef = _ := (Option.some.inj (hdep 0 ⟨_, rfl, ⟨0, .data⟩, by simp, rfl, rfl⟩)).symm
      have d1 : tm'.getD 69 undef = _ := (Option.some.inj (hdep 1 ⟨_, rfl, ⟨1, .data⟩, by simp, rfl, rfl⟩)).symm
      exact op_index rfl rfl _ _ _ rfl d0 d1 (run_index2 w' (g := g3) (c := c3) hk) ⟨_, rfl, hrefl _, rfl⟩
    | 3, _ =>
      have d2 : tm'.getD 70 undef = _ := (Option.some.inj (hdep 2 ⟨_, rfl, ⟨2, .data⟩, by simp, rfl, rfl⟩)).symm
      exact op_load rfl rfl _ _ rfl d2 (run_load2 w' (HS w' hR').1) ⟨_, rfl, hrefl _, rfl⟩
    | 4, _ =>
      have e : tm'.getD 12 undef = _ := (hoth 12 (by intro i hi; omega)).trans (at_get e12)
      exact op_move rfl rfl _ rfl e ⟨_, rfl, hrefl _, rfl⟩
    | 5, _ =>
      have d3 : tm'.getD 71 undef = _ := (Option.some.inj (hdep 3 ⟨_, rfl, ⟨3, .data⟩, by simp, rfl, rfl⟩)).symm
      have d4 : tm'.getD 72 undef = _ := (Option.some.inj (hdep 4 ⟨_, rfl, ⟨4, .data⟩, by simp, rfl, rfl⟩)).symm
      exact op_index rfl rfl _ _ _ rfl d3 d4 (run_index1 w' (g := b) (c := c) hlt) ⟨_, rfl, hrefl _, rfl⟩
    | 6, _ =>
      have d5 : tm'.getD 73 undef = _ := (Option.some.inj (hdep 5 ⟨_, rfl, ⟨5, .data⟩, by simp, rfl, rfl⟩)).symm
      exact op_load rfl rfl _ _ rfl d5 (run_load1 w' (HS w' hR').2.1 (HS w' hR').2.2.1 (HS w' hR').2.2.2) ⟨_, rfl, hrefl _, rfl⟩
    | 7, _ =>
      have e : tm'.getD 11 undef = _ := (hoth 11 (by intro i hi; omega)).trans (at_get e11)
      exact op_move rfl rfl _ rfl e ⟨_, rfl, hrefl _, rfl⟩
    | 8, _ =>
      have d7 : tm'.getD 75 undef = _ := (Option.some.inj (hdep 7 ⟨_, rfl, ⟨7, .data⟩, by simp, rfl, rfl⟩)).symm
      exact op_bin rfl rfl _ _ _ _ _ rfl d7 rfl (run_quo5 w' hqk hq1) ⟨_, rfl, hrefl _, rfl⟩
    | 9, _ =>
      have d8 : tm'.getD 76 undef = _ := (Option.some.inj (hdep 8 ⟨_, rfl, ⟨8, .data⟩, by simp, rfl, rfl⟩)).symm
      refine op_call rfl rfl 7 (callMark _) #[.tmp 76] #[3] rfl #[.int .i64 (q : Int)] (by simp [Act.eval, d8]) (mark_any w' q hq1) ?_
      rintro e w2 ⟨rfl, hb2⟩
      exact ⟨_, rfl, _, rfl, hb2, rfl⟩
    | 10, _ =>
      have d6 : tm'.getD 74 undef = _ := (Option.some.inj (hdep 6 ⟨_, rfl, ⟨6, .data⟩, by simp, rfl, rfl⟩)).symm
      have d9 : tm'.getD 77 undef = _ := (Option.some.inj (hdep 9 ⟨_, rfl, ⟨9, .data⟩, by simp, rfl, rfl⟩)).symm
      exact op_bin rfl rfl _ _ _ _ _ rfl d6 d9 (run_neqT w' (mkT q)) ⟨_, rfl, hrefl _, rfl⟩
  · intro tm' w' hsz hoth hall hR'
    refine hQ w' (hB.drew.trans (hR'.mono hB.drew.size)) tm' hsz ⟨at_of (j := 0) hsz (by decide) ((hoth 0 (by intro i hi; omega)).trans (at_get e0)), at_of (j := 3) hsz (by decide) ((hoth 3 (by intro i hi; omega)).trans (at_get e3)), at_of (j := 4) hsz (by decide) ((hoth 4 (by intro i hi; omega)).trans (at_get e4)), at_of (j := 5) hsz (by decide) ((hoth 5 (by intro i hi; omega)).trans (at_get e5)), at_of (j := 11) hsz (by decide) ((hoth 11 (by intro i hi; omega)).trans (at_get e11)), at_of (j := 12) hsz (by decide) ((hoth 12 (by intro i hi; omega)).trans (at_get e12)), at_of (j := 78) hsz (by decide) (Option.some.inj (hall 10 (by decide))).symm, trivial⟩

set_option maxRecDepth 100000 in
set_option maxHeartbeats 2000000 in
theorem reg2_any {W wr : World} {us : List Value} {g3 c3 k n b c i q : Nat} (hk : k < us.length) (hlt : i < n) (hqk : (k : Int) / 5 = (q : Int)) (hq1 : q ≤ 1099511627776) (hB : Below W.heap.size W wr)
    (HS0 : ∀ w' : World, Below W.heap.size W w' → (w'.cell? ⟨g3, k, none⟩ = some (.slice (some ⟨b, 0, none⟩) n c) ∧ w'.cell? ⟨b, i * 3, none⟩ = some (.int .i64 (mkT q).kind) ∧ w'.cell? ⟨b, i * 3 + 1, none⟩ = some (.int .i64 (mkT q).spot) ∧ w'.cell? ⟨b, i * 3 + 2, none⟩ = some (.string (mkT q).text)))
    {p0 p4 p5 : Value} {tm0 : Array Value} (hz0 : tm0.size = 160) (hc0 : chk tm0 [(0, p0), (3, .slice (some ⟨g3, 0, none⟩) us.length c3), (4, p4), (5, p5), (16, .int .i64 (k : Int)), (17, .int .i64 (i : Int))]) {Q : Exit → Act → World → Prop}
    (hQ : ∀ W', Below W.heap.size W W' → ∀ tm : Array Value, tm.size = 160 → chk tm [(0, p0), (3, .slice (some ⟨g3, 0, none⟩) us.length c3), (4, p4), (5, p5), (16, .int .i64 (k : Int)), (17, .int .i64 (i : Int)), (157, .bool false)] → Q .normal { tmps := tm, defers := [] } W') :
    (ckReg skCheck2).wp Tryd.prog Q { tmps := tm0, defers := [] } wr := by
  obtain ⟨e0, e3, e4, e5, e16, e17, _⟩ := hc0
  unfold ckReg skCheck2 
  dsimp only [Tryd.f3]
  have HS : ∀ w' : World, Below wr.drew.heap.size wr.drew w' → _ := fun w' h => HS0 w' (hB.drew.trans (h.mono hB.drew.size))
  have hrefl : ∀ w : World, Below w.heap.size w w := fun w => Below.refl _ _
  refine region_inv (n := 11) (N := 160) (by kernel_rfl) (fun i => 147 + i) (fun j x _ => [(.slice (some ⟨g3, 0, none⟩) us.length c3), (.int .i64 (k : Int)), (.pointer (some ⟨g3, k, none⟩)), (.slice (some ⟨b, 0, none⟩) n c), (.int .i64 (i : Int)), (.pointer (some ⟨b, i * 3, none⟩)), (mkT q).val, (.int .i64 (k : Int)), (.int .i64 (q : Int)), (mkT q).val, (.bool false)][j]? = some x) (fun a b => Below a.heap.size a b) _ wr rfl hz0 (fun i j _ _ e => by omega) (fun i hi => by omega) ?_ (hrefl _) (fun a b c h1 h2 => h1.trans (h2.mono h1.size)) (fun _ _ _ _ _ h _ => h) ?_ ?_
  · intro i o ho e he
    rcases Nat.lt_or_ge i 11 with hi | hi
    · match i, hi with
      | 0, _ => obtain rfl := Option.some.inj ho; revert e; decide
      | 1, _ => obtain rfl := Option.some.inj ho; revert e; decide
      | 2, _ => obtain rfl := Option.some.inj ho; revert e; decide
      | 3, _ => obtain rfl := Option.some.inj ho; revert e; decide
      | 4, _ => obtain rfl := Option.some.inj ho; revert e; decide
      | 5, _ => obtain rfl := Option.some.inj ho; revert e; decide
      | 6, _ => obtain rfl := Option.some.inj ho; revert e; decide
      | 7, _ => obtain rfl := Option.some.inj ho; revert e; decide
      | 8, _ => obtain rfl := Option.some.inj ho; revert e; decide
      | 9, _ => obtain rfl := Option.some.inj ho; revert e; decide
      | 10, _ => obtain rfl := Option.some.inj ho; revert e; decide
    · rw [Array.getElem?_eq_none (by exact hi)] at ho; cases ho
  · intro i tm' w' hi hsz hoth hdep hR'
    match i, hi with
    | 0, _ =>
      have e : tm'.getD 3 undef = _ := (hoth 3 (by intro i hi; omega)).trans (at_get e3)
      exact op_move rfl rfl _ rfl e ⟨_, rfl, hrefl _, rfl⟩
    | 1, _ =>
      have e : tm'.getD 16 undef = _ := (hoth 16 (by intro i hi; omega)).trans (at_get e16)
      exact op_move rfl rfl _ rfl e ⟨_, rfl, hrefl _, rfl⟩
    | 2, _ =>
      have d0 : tm'.getD 147 undef = _ := (Option.some.inj (hdep 0 ⟨_, rfl, ⟨0, .data⟩, by simp, rfl, rfl⟩)).symm
      have d1 : tm'.getD 148 undef = _ := (Option.some.inj (hdep 1 ⟨_, rfl, ⟨1, .data⟩, by simp, rfl, rfl⟩)).symm
      exact op_index rfl rfl _ _ _ rfl d0 d1 (run_index2 w' (g := g3) (c := c3) hk) ⟨_, rfl, hrefl _, rfl⟩
    | 3, _ =>
      have d2 : tm'.getD 149 undef = _ := (Option.some.inj (hdep 2 ⟨_, rfl, ⟨2, .data⟩, by simp, rfl, rfl⟩)).symm
      exact op_load rfl rfl _ _ rfl d2 (run_load2 w' (HS w' hR').1) ⟨_, rfl, hrefl _, rfl⟩
    | 4, _ =>
      have e : tm'.getD 17 undef = _ := (hoth 17 (by intro i hi; omega)).trans (at_get e17)
      exact op_move rfl rfl _ rfl e ⟨_, rfl, hrefl _, rfl⟩
    | 5, _ =>
      have d3 : tm'.getD 150 undef = _ := (Option.some.inj (hdep 3 ⟨_, rfl, ⟨3, .data⟩, by simp, rfl, rfl⟩)).symm
      have d4 : tm'.getD 151 undef = _ := (Option.some.inj (hdep 4 ⟨_, rfl, ⟨4, .data⟩, by simp, rfl, rfl⟩)).symm
      exact op_index rfl rfl _ _ _ rfl d3 d4 (run_index1 w' (g := b) (c := c) hlt) ⟨_, rfl, hrefl _, rfl⟩
    | 6, _ =>
      have d5 : tm'.getD 152 undef = _ := (Option.some.inj (hdep 5 ⟨_, rfl, ⟨5, .data⟩, by simp, rfl, rfl⟩)).symm
      exact op_load rfl rfl _ _ rfl d5 (run_load1 w' (HS w' hR').2.1 (HS w' hR').2.2.1 (HS w' hR').2.2.2) ⟨_, rfl, hrefl _, rfl⟩
    | 7, _ =>
      have e : tm'.getD 16 undef = _ := (hoth 16 (by intro i hi; omega)).trans (at_get e16)
      exact op_move rfl rfl _ rfl e ⟨_, rfl, hrefl _, rfl⟩
    | 8, _ =>
      have d7 : tm'.getD 154 undef = _ := (Option.some.inj (hdep 7 ⟨_, rfl, ⟨7, .data⟩, by simp, rfl, rfl⟩)).symm
      exact op_bin rfl rfl _ _ _ _ _ rfl d7 rfl (run_quo5 w' hqk hq1) ⟨_, rfl, hrefl _, rfl⟩
    | 9, _ =>
      have d8 : tm'.getD 155 undef = _ := (Option.some.inj (hdep 8 ⟨_, rfl, ⟨8, .data⟩, by simp, rfl, rfl⟩)).symm
      refine op_call rfl rfl 7 (callMark _) #[.tmp 155] #[3] rfl #[.int .i64 (q : Int)] (by simp [Act.eval, d8]) (mark_any w' q hq1) ?_
      rintro e w2 ⟨rfl, hb2⟩
      exact ⟨_, rfl, _, rfl, hb2, rfl⟩
    | 10, _ =>
      have d6 : tm'.getD 153 undef = _ := (Option.some.inj (hdep 6 ⟨_, rfl, ⟨6, .data⟩, by simp, rfl, rfl⟩)).symm
      have d9 : tm'.getD 156 undef = _ := (Option.some.inj (hdep 9 ⟨_, rfl, ⟨9, .data⟩, by simp, rfl, rfl⟩)).symm
      exact op_bin rfl rfl _ _ _ _ _ rfl d6 d9 (run_neqT w' (mkT q)) ⟨_, rfl, hrefl _, rfl⟩
  · intro tm' w' hsz hoth hall hR'
    refine hQ w' (hB.drew.trans (hR'.mono hB.drew.size)) tm' hsz ⟨at_of (j := 0) hsz (by decide) ((hoth 0 (by intro i hi; omega)).trans (at_get e0)), at_of (j := 3) hsz (by decide) ((hoth 3 (by intro i hi; omega)).trans (at_get e3)), at_of (j := 4) hsz (by decide) ((hoth 4 (by intro i hi; omega)).trans (at_get e4)), at_of (j := 5) hsz (by decide) ((hoth 5 (by intro i hi; omega)).trans (at_get e5)), at_of (j := 16) hsz (by decide) ((hoth 16 (by intro i hi; omega)).trans (at_get e16)), at_of (j := 17) hsz (by decide) ((hoth 17 (by intro i hi; omega)).trans (at_get e17)), at_of (j := 157) hsz (by decide) (Option.some.inj (hall 10 (by decide))).symm, trivial⟩
end Go.Proofs.YtkkbccdjbgjjaaaDoor

namespace Go.Proofs.YtkkbccdjbgjjaaaDoor
open Go.RowKit
attribute [local go_sem ↓] Go.wp_at_zero Go.wp_at_succ

section
variable {P : Program} {ops : Array Oper} {Q : Exit → Act → World → Prop}
/-- As region_inv, where the last but one writes what the others have read: it waits for all of them, and the last one leaves the world alone. -/
theorem region_inv2 {id z N : Nat} (hmx : P.follows .mixedOrders = true) (s : Nat → Nat) (Ft : Nat → Value → World → Prop) (Rl : World → World → Prop) (tm0 : Array Value) (w0 : World)
    (hn : ops.size = z + 2) (hN : tm0.size = N) (hinj : ∀ i j, i < z + 2 → j < z + 2 → s i = s j → i = j) (hs : ∀ i, i < z + 2 → s i < N) (hback : ∀ (i : Nat) (o : Oper), ops[i]? = some o → ∀ e ∈ o.after, e.on < i)
    (hz : ∀ D : Nat → Prop, (∀ k j, D k → Waits ops k j → D j) → (∀ j, Waits ops z j → D j) → ∀ i, i < z → D i) (hl : Waits ops (z + 1) z)
    (refl : Rl w0.drew w0.drew) (trans : ∀ a b c, Rl a b → Rl b c → Rl a c) (mono : ∀ i x w w', i < z → Rl w0.drew w → Ft i x w → Rl w w' → Ft i x w')
    (step : ∀ i tm w, i < z + 2 → tm.size = N → (∀ j, (∀ i, i < z + 2 → s i ≠ j) → tm.getD j undef = tm0.getD j undef) → (∀ k, Waits ops i k → Ft k (tm.getD (s k) undef) w) → Rl w0.drew w → (i ≤ z → tm.getD (s (z + 1)) undef = tm0.getD (s (z + 1)) undef) →
      wpOp P ops Q i (fun a' w' => ∃ x, a' = ⟨tm.setIfInBounds (s i) x, []⟩ ∧ Rl w w' ∧ Ft i x w' ∧ (i = z + 1 → w' = w)) ⟨tm, []⟩ w)
    (fin : ∀ tm w, tm.size = N → (∀ j, (∀ i, i < z + 2 → s i ≠ j) → tm.getD j undef = tm0.getD j undef) → (∀ k, k < z + 2 → Ft k (tm.getD (s k) undef) w) → Rl w0.drew w → Q .normal ⟨tm, []⟩ w) :
    (Code.region id ops true).wp P Q ⟨tm0, []⟩ w0 := by
  refine wp_region_any hmx (wpAny_inv (md := .any) (fun d a w => ∃ tm, a = ⟨tm, []⟩ ∧ tm.size = N ∧ d.size = z + 2 ∧ (∀ j, (∀ i, i < z + 2 → s i ≠ j) → tm.getD j undef = tm0.getD j undef) ∧ Rl w0.drew w ∧ (∀ k j, d.getD k false = true → Waits ops k j → d.getD j false = true) ∧ (¬ d.getD (z + 1) false = true → tm.getD (s (z + 1)) undef = tm0.getD (s (z + 1)) undef) ∧ ∀ i, d.getD i false = true → Ft i (tm.getD (s i) undef) w) ?_ ?_ _ _ _ _ ?_ ?_)
  · rintro d a w i ⟨tm, rfl, h1, h2, h3, h4, hcl, hsl, h5⟩ hr
    obtain ⟨hi, hnd⟩ := ready_lt hr
    obtain ⟨_, o, ho, hall⟩ := mem_ready.1 hr
    have hin : i < z + 2 := by omega
    have hnd' : ¬ d.getD i false = true := by simp [hi, hnd]
    have hw : ∀ k, Waits ops i k → d.getD k false = true := by
      rintro k ⟨o', ho', e, he, hb, rfl⟩
      rw [ho] at ho'
      obtain rfl := Option.some.inj ho'
      exact hall e he hb
    have hdn : ∀ j, d.getD j false = true → j < z + 2 := fun j hj => by
      rcases Nat.lt_or_ge j (z + 2) with q | q
      · exact q
      · simp [Array.getElem?_eq_none (show d.size ≤ j by omega)] at hj
    have hiz' : d.getD z false = true → i = z + 1 := fun hdz => by
      rcases Nat.lt_or_ge i z with q | q
      · exact absurd (hz (fun k => d.getD k false = true) hcl (fun j hj => hcl _ _ hdz hj) i q) hnd'
      · rcases Nat.lt_or_ge i (z + 1) with q2 | q2
        · obtain rfl : i = z := by omega
          exact absurd hdz hnd'
        · omega
    refine wpOp_mono ?_ (step i tm w hin h1 h3 (fun k hk => h5 k (hw k hk)) h4 (fun hq => hsl (fun q => by have := hiz' (hcl _ _ q hl); omega)))
    · rintro a' w' ⟨x, rfl, h6, h7, h8⟩
      refine ⟨_, rfl, by rw [Array.size_setIfInBounds]; exact h1, by rw [Array.size_setIfInBounds]; exact h2, fun j hj => ?_, trans _ _ _ h4 h6, fun k j hk hj => ?_, fun hq => ?_, fun j hj => ?_⟩
      · rw [getD_keep (hj i hin)]
        exact h3 j hj
      rotate_left
      · have hne : i ≠ z + 1 := fun e => hq (by rw [← e]; exact getD_new hi)
        rw [getD_keep hne] at hq
        rw [getD_keep (fun e => hne (hinj i (z + 1) hin (by omega) e))]
        exact hsl hq
      rotate_left
      · by_cases e : j = i
        · subst e
          exact getD_new hi
        · rw [getD_keep (Ne.symm e)]
          by_cases e2 : k = i
          · subst e2
            exact hw j hj
          · rw [getD_keep (Ne.symm e2)] at hk
            exact hcl k j hk hj
      · by_cases e : j = i
        · subst e
          rw [getD_new (by rw [h1]; exact hs j hin)]
          exact h7
        · rw [getD_keep (Ne.symm e)] at hj
          have hjn := hdn j hj
          rw [getD_keep (fun q => e (hinj i j hin hjn q).symm)]
          by_cases hjz : j < z
          · exact mono j _ w w' hjz h4 (h5 j hj) h6
          · have hdz : d.getD z false = true := by
              rcases Nat.lt_or_ge j (z + 1) with q | q
              · obtain rfl : j = z := by omega
                exact hj
              · obtain rfl : j = z + 1 := by omega
                exact hcl _ _ hj hl
            rw [h8 (hiz' hdz)]
            exact h5 j hj
  · rintro d a w ⟨tm, rfl, h1, h2, h3, h4, hcl, _, h5⟩ hr
    have hall : ∀ m i, i < m → i < z + 2 → d.getD i false = true := by
      intro m
      induction m with
      | zero => intro i hi; omega
      | succ m ih =>
        intro i hi hin
        obtain ⟨o, ho⟩ : ∃ o, ops[i]? = some o := ⟨_, Array.getElem?_eq_getElem (by omega)⟩
        exact done_of (by omega) hr ho fun e he _ => ih e.on (by have := hback i o ho e he; omega) (by have := hback i o ho e he; omega)
    exact fin tm w h1 h3 (fun k hk => h5 k (hall (k + 1) k (by omega) hk)) h4
  · refine ⟨tm0, rfl, hN, by simp [hn], fun _ _ => rfl, refl, fun k j hk _ => ?_, fun _ => rfl, fun i hi => ?_⟩
    · simp [Array.getD_eq_getD_getElem?, Array.getElem?_replicate] at hk
      split at hk <;> simp at hk
    · simp [Array.getD_eq_getD_getElem?, Array.getElem?_replicate] at hi
      split at hi <;> simp at hi
  · simp
theorem wpList_append_keeps (w : World) {rest : List Oper} {o : Oper} {a : Act} (hgd : o.guard = none) (s x : Operand) (t : TypeId)
    (ho : o.op = .call { callee := .builtin .append, args := #[s, x], argTypes := #[t, t] })
    (base : Nat) (e : TypeId) (i : TypeInfo) (z : Value) (size bytes : Nat) (ht : P.underlying t = some (.slice e)) (hi : P.info? e = some i) (hz : i.zero = some z)
    (hsize : i.size = size) (hby : i.bytes = bytes) (hzs : z.cells.size = size) (hsz : 0 < size)
    (v : Value) (n : Nat) (xs : List Value) (hs : a.eval s = v) (hown : w.ownsRow base e size v n xs)
    (ad : Addr) (m c : Nat) (news : List Value) (hx : a.eval x = .slice (some ad) m c) (hl : news.length = m * size) (hnews : ∀ j u, news[j]? = some u → w.cell? (ad.add j) = some u) (h1 : ∀ u ∈ news, u.oneCell' = true)
    (hm : 0 < m) (h63 : n + m ≤ maxLen) (hbytes : (n + m) * bytes ≤ 140737488355328) (hbase : base ≤ w.heap.size)
    (h : ∀ g' c' w', w'.ownsRow base e size (.slice (some ⟨g', 0, none⟩) (n + m) c') (n + m) (xs ++ news) → w'.ownsRow base e size v n xs → w.grownBy w' v.ownBlock →
      (v.ownBlock = some g' ∨ w.heap.size ≤ g') → (∀ g j, v.ownBlock = some g → w'.cell? ⟨g, j, none⟩ = w.cell? ⟨g, j, none⟩ ∨ ∃ u, (xs ++ news)[j]? = some u ∧ w'.cell? ⟨g, j, none⟩ = some u) → wpList P ops Q rest (a.put o.dst (.slice (some ⟨g', 0, none⟩) (n + m) c')) w') :
    wpList P ops Q (o :: rest) a w := by
  refine wpList_plain hgd fun K hK => ?_
  obtain ⟨g', c', w', hr, h2, h3, h4, h5, h6⟩ := run_append_keeps (P := P) w t o.type base e i z size bytes ht hi hz hsize hby hzs hsz v n xs hown ad m c news hl hnews h1 hm h63 hbytes hbase
  unfold Oper.wp execOp
  simp only [ho, resolve, invoke, builtin, Sem.run_bind, Sem.run_pure, Result.andThen_ok, List.map_toArray, List.map_cons, List.map_nil, hs, hx, hr]
  exact hK _ _ (h g' c' w' h2 h3 h4 h5 h6)
theorem op_append_keeps (w : World) {k : Nat} {o : Oper} {a : Act} {K : Act → World → Prop} (hok : ops[k]? = some o) (hgd : o.guard = none) (s x : Operand) (t : TypeId)
    (ho : o.op = .call { callee := .builtin .append, args := #[s, x], argTypes := #[t, t] })
    (base : Nat) (e : TypeId) (i : TypeInfo) (z : Value) (size bytes : Nat) (ht : P.underlying t = some (.slice e)) (hi : P.info? e = some i) (hz : i.zero = some z)
    (hsize : i.size = size) (hby : i.bytes = bytes) (hzs : z.cells.size = size) (hsz : 0 < size)
    (v : Value) (n : Nat) (xs : List Value) (hs : a.eval s = v) (hown : w.ownsRow base e size v n xs)
    (ad : Addr) (m c : Nat) (news : List Value) (hx : a.eval x = .slice (some ad) m c) (hl : news.length = m * size) (hnews : ∀ j u, news[j]? = some u → w.cell? (ad.add j) = some u) (h1 : ∀ u ∈ news, u.oneCell' = true)
    (hm : 0 < m) (h63 : n + m ≤ maxLen) (hbytes : (n + m) * bytes ≤ 140737488355328) (hbase : base ≤ w.heap.size)
    (h : ∀ g' c' w', w'.ownsRow base e size (.slice (some ⟨g', 0, none⟩) (n + m) c') (n + m) (xs ++ news) → w'.ownsRow base e size v n xs → w.grownBy w' v.ownBlock →
      (v.ownBlock = some g' ∨ w.heap.size ≤ g') → (∀ g j, v.ownBlock = some g → w'.cell? ⟨g, j, none⟩ = w.cell? ⟨g, j, none⟩ ∨ ∃ u, (xs ++ news)[j]? = some u ∧ w'.cell? ⟨g, j, none⟩ = some u) → K (a.put o.dst (.slice (some ⟨g', 0, none⟩) (n + m) c')) w') :
    wpOp P ops Q k K a w := by
  obtain ⟨g', c', w', hr, h2, h3, h4, h5, h6⟩ := run_append_keeps (P := P) w t o.type base e i z size bytes ht hi hz hsize hby hzs hsz v n xs hown ad m c news hl hnews h1 hm h63 hbytes hbase
  refine op_run hok hgd (v := .slice (some ⟨g', 0, none⟩) (n + m) c') (w' := w') ?_ (h g' c' w' h2 h3 h4 h5 h6)
  unfold execOp
  simp only [ho, resolve, invoke, builtin, Sem.run_bind, Sem.run_pure, Result.andThen_ok, List.map_toArray, List.map_cons, List.map_nil, hs, hx, hr]
end
theorem Tryd.infoToks : (Tryd.prog.info? 25).map (fun i => (i.zero, i.size, i.bytes)) = some (some (.slice none 0 0), 1, 24) := by kernel_rfl
/-- append onto l, where all are marks: the block is written on with marks alone. -/
theorem keeps_stp {bs L m : Nat} {w w' : World} {t : Tk} {v : Value} (hg : w.grownBy w' v.ownBlock) (hc : ∀ g j, v.ownBlock = some g → w'.cell? ⟨g, j, none⟩ = w.cell? ⟨g, j, none⟩ ∨ ∃ u, (kcells (List.replicate L t) ++ kcells (List.replicate m t))[j]? = some u ∧ w'.cell? ⟨g, j, none⟩ = some u)
    (ho : w'.ownsRow bs 31 3 v L (kcells (List.replicate L t))) : Stp v.ownBlock t w w' ∧ RowT bs w' v (List.replicate L t) := by
  refine ⟨⟨hg.os, hg.tape, hg.output, hg.size, hg.block, fun k j e => (hc k j e).imp id ?_⟩, by unfold RowT; rw [List.length_replicate]; exact ho⟩
  rintro ⟨u, h1, h2⟩
  rw [h2, ← h1, ← kcells_app, List.replicate_append_replicate]
  refine mod3_cells t _ j ?_
  have := (List.getElem?_eq_some_iff.1 h1).1
  rw [← kcells_app, kcells_len, List.replicate_append_replicate, List.length_replicate] at this
  exact this
theorem keeps_row {bs L m g c : Nat} {w : World} {t : Tk} (ho : w.ownsRow bs 31 3 (.slice (some ⟨g, 0, none⟩) (L + m) c) (L + m) (kcells (List.replicate L t) ++ kcells (List.replicate m t))) : RowT bs w (.slice (some ⟨g, 0, none⟩) (L + m) c) (List.replicate (L + m) t) := by
  rw [← kcells_app, List.replicate_append_replicate] at ho
  unfold RowT
  rw [List.length_replicate]
  exact ho
theorem RowT.rep {bs L : Nat} {w : World} {v : Value} {t : Tk} (h : RowT bs w v (List.replicate L t)) : w.ownsRow bs 31 3 v L (kcells (List.replicate L t)) := by
  unfold RowT at h
  rw [List.length_replicate] at h
  exact h
theorem RowT.news {bs n c g : Nat} {w : World} {l : List Tk} (h : RowT bs w (.slice (some ⟨g, 0, none⟩) n c) l) : ∀ j u, (kcells l)[j]? = some u → w.cell? ((⟨g, 0, none⟩ : Addr).add j) = some u := World.ownsRow.cells h rfl
theorem three_new (w : World) (t : Tk) (ty : TypeId) : ∀ j u, (kcells (List.replicate 1 t))[j]? = some u → (w.alloc (.cells #[.int .i64 t.kind, .int .i64 t.spot, .string t.text] ty)).cell? ((⟨w.heap.size, 0, none⟩ : Addr).add j) = some u := by
  intro j u hj
  match j, hj with
  | 0, hj => obtain rfl := Option.some.inj hj; simp [Addr.add]
  | 1, hj => obtain rfl := Option.some.inj hj; simp [Addr.add]
  | 2, hj => obtain rfl := Option.some.inj hj; simp [Addr.add]
end Go.Proofs.YtkkbccdjbgjjaaaDoor
