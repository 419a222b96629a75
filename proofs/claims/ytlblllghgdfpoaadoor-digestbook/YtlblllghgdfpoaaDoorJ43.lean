import Derived.Test.YtlblllghgdfpoaaDoorJ40
import Derived.Deep.DeepCutAuto

namespace Go.Proofs.YtlblllghgdfpoaaDoor
open Go.RowKit
attribute [local go_sem ↓] Go.wp_at_zero Go.wp_at_succ

set_option maxRecDepth 100000 in
set_option maxHeartbeats 4000000 in
theorem b4_pos {b i n m gp op vc : Nat} {W1 w : World} {K : Nat → Prop} {p0 vo vf vl vd vr vs vt vu x : Value} {WL : List (List Nat)} {RL : List Nat} {tm : Array Value} {X : Code} {Q : Exit → Act → World → Prop} (hi0 : 0 < i) (hi : i ≤ 200) (h1 : Calls Tryd.prog 16 #[.slice (some ⟨gp, op, none⟩) i vc, .int .i64 ((i : Int) - 1)] w fun e w' => ∃ v', e = .returned (.tuple #[v', .int .i64 0]) ∧ (∃ us, OwnBA w.heap.size w' v' us WL) ∧ Below w.heap.size w w') (h2 : ∀ w1 vw, Below w.heap.size w w1 → HasBB w1 vw WL → Calls Tryd.prog 17 #[x, .int .i64 ((i : Int) - 1), .int .i64 (i : Int), vw] w1 fun e w' => ∃ v', e = .returned (.tuple #[v', .int .i64 0]) ∧ Bytes w1.heap.size w' v' RL ∧ Below w1.heap.size w1 w') (hx : ∀ w1, Below w.heap.size w w1 → w1.cell? ⟨gp, op + (i - 1), none⟩ = some x) (hr : Bytes b w vr RL) (hRb : Byt RL ∧ RL.length = 32) (hM : MK b W1 K n m w vo) (hKw : ∀ q, K q → q < w.heap.size) (hWn : WL.length ≤ 65536 ∧ ∀ l ∈ WL, l.length ≤ 1073741824) (hn : n ≤ 100000000) (hm : m ≤ 1000) (hsz : tm.size = 228) (hchk : chk tm [(0, p0), (3, .pointer (some ⟨b, 0, none⟩)), (4, vo), (5, .int .i64 (i : Int)), (6, .slice (some ⟨gp, op, none⟩) i vc), (7, vf), (9, vl), (11, vd), (13, vr), (15, vs), (16, vt), (17, vu)])
    (hX : ∀ (vo' : Value) (w' : World) (tm' : Array Value), tm'.size = 228 → chk tm' [(0, p0), (3, .pointer (some ⟨b, 0, none⟩)), (4, vo'), (5, .int .i64 (i : Int)), (6, .slice (some ⟨gp, op, none⟩) i vc), (7, vf), (9, vl), (11, vd), (13, vr), (15, vs), (16, vt), (17, vu)] → MK b W1 K (n + 270000) (m + 1) w' vo' → (∀ q, K q → w'.heap[q]? = w.heap[q]?) → w.heap.size ≤ w'.heap.size → X.wp Tryd.prog Q { tmps := tm', defers := [] } w') :
    (bb4 X).wp Tryd.prog Q { tmps := tm, defers := [] } w := by
  obtain ⟨i3, ti, tz0, tz1, tz2⟩ := info_parts Tryd.infoBytess
  have HX := hide hX
  have H1 := hide h1
  have H2 := hide h2
  have Hxx := hide hx
  have HR := hide hr
  have HRb := hide hRb
  have HM0 := hide hM
  have HKw := hide hKw
  have HWn := hide hWn
  have hbw := hM.le
  have Hbw := hide hbw
  clear hX h1 h2 hx hr hRb hM hKw hWn hbw
  obtain ⟨u, rfl⟩ := frame228 hsz
  obtain ⟨e0, e3, e4, e5, e6, e7, e9, e11, e13, e15, e16, e17, _⟩ := hchk
  replace e0 : u 0 = p0 := Option.some.inj e0
  replace e3 : u 3 = .pointer (some ⟨b, 0, none⟩) := Option.some.inj e3
  replace e4 : u 4 = vo := Option.some.inj e4
  replace e5 : u 5 = .int .i64 (i : Int) := Option.some.inj e5
  replace e6 : u 6 = .slice (some ⟨gp, op, none⟩) i vc := Option.some.inj e6
  replace e7 : u 7 = vf := Option.some.inj e7
  replace e9 : u 9 = vl := Option.some.inj e9
  replace e11 : u 11 = vd := Option.some.inj e11
  replace e13 : u 13 = vr := Option.some.inj e13
  replace e15 : u 15 = vs := Option.some.inj e15
  replace e16 : u 16 = vt := Option.some.inj e16
  replace e17 : u 17 = vu := Option.some.inj e17
  rw [e0, e3, e4, e5, e6, e7, e9, e11, e13, e15, e16, e17]
  clear e0 e3 e4 e5 e6 e7 e9 e11 e13 e15 e16 e17
  have q3 : (0 : Int) < (i : Int) := by omega
  have q3n : 0 < i := hi0
  have j4 : (0 : Int) ≤ (i : Int) - 1 := by omega
  have j5 : (i : Int) - 1 < (i : Int) := by omega
  have j6 : ((i : Int) - 1).toNat = i - 1 := by omega
  have j7 : (i : Int) ≤ 200 := by omega
  clear hi0 hi
  unfold bb4
  dsimp only [tl, bRnd, bL, hd, bBody, Tryd.f3]
  go_wp2_with fail
  refine (unhide H1).mono ?_
  rintro e w11 ⟨vw, rfl, ⟨usw, hw⟩, hb1⟩
  have HW2 := hide hw
  have Hb1 := hide hb1
  have y0 := unhide Hxx w11 hb1
  have H2n := hide (unhide H2 w11 vw hb1 hw.has)
  obtain ⟨aw, cw, hvw, -, -, -⟩ := own_form hw.bb.row
  subst hvw
  clear hw hb1 H1 H2 Hxx
  go_wp2_with fail
  refine (unhide H2n).mono ?_
  rintro e w12 ⟨vy, rfl, hy, hb2⟩
  obtain ⟨ay, cy, rfl, -⟩ := bytes_shape hy
  have HY := hide hy
  have Hb2 := hide hb2
  have Hb12 : Hid (Below w.heap.size w w12) := (unhide Hb1).trans (hb2.mono (unhide Hb1).size)
  have HWn2 := hide ((unhide HW2).up hb2)
  clear hy hb2 H2n y0
  have Hul : Hid (usw.length = WL.length) := (unhide HW2).bb.len
  have HrW : Hid (∀ q, (Value.slice aw WL.length cw).ownBlock = some q ∨ InB usw q → w.heap.size ≤ q ∧ q < w11.heap.size) := fun q e => by rcases e with e | e; exact (unhide HW2).bb.row.lt q e; exact (unhide HW2).lb.lt e
  have HrY : Hid (∀ q, (Value.slice ay RL.length cy).ownBlock = some q → w11.heap.size ≤ q ∧ q < w12.heap.size) := fun q e => World.ownsRow.lt (unhide HY) q e
  have HMK := hide ((unhide HM0).up (unhide Hb12))
  have HC1 : Hid (Calls Tryd.prog 18 #[.pointer (some ⟨b, 0, none⟩), .slice aw WL.length cw] w12 fun e w' => e = .returned (.bool true) ∧ Hid (MK b W1 (fun q => (K q ∨ (w.heap.size ≤ q ∧ q < w12.heap.size)) ∧ ¬ InB usw q) (n + 4 * usw.length) m w' vo ∧ (∀ q, (K q ∨ (w.heap.size ≤ q ∧ q < w12.heap.size)) ∧ ¬ InB usw q → w'.heap[q]? = w12.heap[q]?) ∧ w12.heap.size ≤ w'.heap.size)) := by
    have z1 := (unhide Hb1).size
    have z2 := (unhide Hb2).size
    have zb := unhide Hbw
    have hh := (unhide HMK).take ((unhide HWn2).lb.lower zb) (unhide HWn2).hd (fun q e => .inr (by have := unhide HrW q (.inr e); omega)) (fun q e => .inr (by have := unhide HrW q (.inl e); omega)) (unhide HWn).2 (by rw [unhide Hul]; have := (unhide HWn).1; omega)
    refine hh.mono ?_
    rintro e w' ⟨h1, h2, h3, h4⟩
    exact ⟨h1, h2, fun q hq => h3 q hq.1 hq.2, h4⟩
  have HC2 : Hid (∀ w3 : World, Hid (MK b W1 (fun q => (K q ∨ (w.heap.size ≤ q ∧ q < w12.heap.size)) ∧ ¬ InB usw q) (n + 4 * usw.length) m w3 vo ∧ (∀ q, (K q ∨ (w.heap.size ≤ q ∧ q < w12.heap.size)) ∧ ¬ InB usw q → w3.heap[q]? = w12.heap[q]?) ∧ w12.heap.size ≤ w3.heap.size) → Calls Tryd.prog 18 #[.pointer (some ⟨b, 0, none⟩), .slice (some ⟨w3.heap.size, 0, none⟩) 1 1] (w3.alloc (.cells #[.slice ay RL.length cy] 29)) fun e w' => e = .returned (.bool true) ∧ Hid (MK b W1 (fun q => ((K q ∨ (w.heap.size ≤ q ∧ q < w12.heap.size)) ∧ ¬ InB usw q) ∧ (Value.slice ay RL.length cy).ownBlock ≠ some q) (n + 4 * usw.length + 4) m w' vo ∧ (∀ q, ((K q ∨ (w.heap.size ≤ q ∧ q < w12.heap.size)) ∧ ¬ InB usw q) ∧ (Value.slice ay RL.length cy).ownBlock ≠ some q → w'.heap[q]? = w12.heap[q]?) ∧ w12.heap.size ≤ w'.heap.size)) := by
    intro w3 hp
    obtain ⟨m1, m2, m3⟩ := unhide hp
    have z1 := (unhide Hb1).size
    have z2 := (unhide Hb2).size
    have zb := unhide Hbw
    have hbA : Below w3.heap.size w3 (w3.alloc (.cells #[.slice ay RL.length cy] 29)) := (Below.refl _ _).alloc (Nat.le_refl _) _
    have hyK : ∀ q, (Value.slice ay RL.length cy).ownBlock = some q → (K q ∨ (w.heap.size ≤ q ∧ q < w12.heap.size)) ∧ ¬ InB usw q := fun q e => ⟨.inr (by have := unhide HrY q e; omega), fun e2 => by have := unhide HrY q e; have := unhide HrW q (.inr e2); omega⟩
    have hy2 : Bytes b (w3.alloc (.cells #[.slice ay RL.length cy] 29)) (.slice ay RL.length cy) RL := own_lower (((unhide HY).far m2 hyK).upw2 hbA) (by omega)
    have hh := (m1.up hbA).take (us := [.slice ay RL.length cy]) (xs := [RL]) (va := .slice (some ⟨w3.heap.size, 0, none⟩) 1 1) (Lb.cons hy2 (Lb.nil _ _) (fun q _ => inB_nil q)) (hd_new w3 [.slice ay RL.length cy] 29 1 rfl (fun q e => by rcases inB_cons e with e | e; exact Nat.lt_of_lt_of_le (unhide HrY q e).2 m3; exact absurd e (inB_nil q))) (fun q e => by rcases inB_cons e with e | e; exact .inl (hyK q e); exact absurd e (inB_nil q)) (fun q e => .inr (by have e2 : w3.heap.size = q := Option.some.inj e; rw [World.size_alloc]; omega)) (fun x hx => by rw [List.mem_singleton.1 hx, (unhide HRb).2]; omega) (by rw [unhide Hul]; have := (unhide HWn).1; simp; omega)
    refine hh.mono ?_
    rintro e w' ⟨h1, h2, h3, h4⟩
    have key : ∀ q, ((K q ∨ (w.heap.size ≤ q ∧ q < w12.heap.size)) ∧ ¬ InB usw q) ∧ (Value.slice ay RL.length cy).ownBlock ≠ some q → (((K q ∨ (w.heap.size ≤ q ∧ q < w12.heap.size)) ∧ ¬ InB usw q) ∨ (w3.heap.size ≤ q ∧ q < (w3.alloc (.cells #[.slice ay RL.length cy] 29)).heap.size)) ∧ ¬ InB [Value.slice ay RL.length cy] q := fun q hq => ⟨.inl hq.1, fun e => by rcases inB_cons e with e | e; exact hq.2 e; exact inB_nil q e⟩
    have kl : ∀ q, ((K q ∨ (w.heap.size ≤ q ∧ q < w12.heap.size)) ∧ ¬ InB usw q) ∧ (Value.slice ay RL.length cy).ownBlock ≠ some q → q < w12.heap.size := fun q hq => by rcases hq.1.1 with h | h; (have := unhide HKw q h; omega); exact h.2
    refine ⟨h1, h2.weak key (by simp) (Nat.le_refl _), fun q hq => ((h3 q (key q hq).1 (key q hq).2).trans (hbA.block q (Nat.lt_of_lt_of_le (kl q hq) m3))).trans (m2 q hq.1), Nat.le_trans m3 (Nat.le_trans hbA.size h4)⟩
  have HCs := hide (same_any (unhide HY).has ((unhide HR).upw2 (unhide Hb12)).has (unhide HRb).1 (unhide HRb).1)
  rw [decide_eq_true rfl] at HCs
  go_upto_region 25 with fail
  refine wp_region_lit ?_
  refine Zz.lt 148 (.int .i64 0) rfl (by kernel_rfl) (by kernel_rfl) ?_
  simp only [Act.put, List.setIfInBounds_toArray, List.set_cons_zero, List.set_cons_succ]
  refine Zz.lc 149 rfl (by kernel_rfl) 6 (fun vs => by kernel_rfl) #[.tmp 148] #[30] rfl #[.int .i64 0] (by kernel_rfl) (num_any _ _) ?_
  rintro e wz ⟨rfl, he⟩
  obtain rfl : w12 = wz := he.symm
  refine ⟨_, rfl, ?_⟩
  clear he
  simp only [Act.put, List.setIfInBounds_toArray, List.set_cons_zero, List.set_cons_succ]
  refine Zz.lt 150 (.bool false) rfl (by kernel_rfl) (by kernel_rfl) ?_
  simp only [Act.put, List.setIfInBounds_toArray, List.set_cons_zero, List.set_cons_succ]
  refine Zz.lt 151 (.bool false) rfl (by kernel_rfl) (by kernel_rfl) ?_
  simp only [Act.put, List.setIfInBounds_toArray, List.set_cons_zero, List.set_cons_succ]
  refine Zz.lt 152 (.int .i64 0) rfl (by kernel_rfl) (by kernel_rfl) ?_
  simp only [Act.put, List.setIfInBounds_toArray, List.set_cons_zero, List.set_cons_succ]
  refine Zz.lc 153 rfl (by kernel_rfl) 6 (fun vs => by kernel_rfl) #[.tmp 152] #[30] rfl #[.int .i64 0] (by kernel_rfl) (num_any _ _) ?_
  rintro e wz ⟨rfl, he⟩
  obtain rfl : w12 = wz := he.symm
  refine ⟨_, rfl, ?_⟩
  clear he
  simp only [Act.put, List.setIfInBounds_toArray, List.set_cons_zero, List.set_cons_succ]
  refine Zz.lt 154 (.bool false) rfl (by kernel_rfl) (by kernel_rfl) ?_
  simp only [Act.put, List.setIfInBounds_toArray, List.set_cons_zero, List.set_cons_succ]
  refine Zz.lt 155 (.bool false) rfl (by kernel_rfl) (by kernel_rfl) ?_
  simp only [Act.put, List.setIfInBounds_toArray, List.set_cons_zero, List.set_cons_succ]
  refine Zz.lt 156 (.bool false) rfl (by kernel_rfl) (by kernel_rfl) ?_
  simp only [Act.put, List.setIfInBounds_toArray, List.set_cons_zero, List.set_cons_succ]
  refine Zz.lt 157 (.slice ay RL.length cy) rfl (by kernel_rfl) (by kernel_rfl) ?_
  simp only [Act.put, List.setIfInBounds_toArray, List.set_cons_zero, List.set_cons_succ]
  refine Zz.lt 158 (vr) rfl (by kernel_rfl) (by kernel_rfl) ?_
  simp only [Act.put, List.setIfInBounds_toArray, List.set_cons_zero, List.set_cons_succ]
  refine Zz.lc 159 rfl (by kernel_rfl) 13 (fun vs => by kernel_rfl) #[.tmp 157, .tmp 158] #[29, 29] rfl #[.slice ay RL.length cy, vr] (by kernel_rfl) (unhide HCs) ?_
  rintro e wz ⟨rfl, he⟩
  obtain rfl : w12 = wz := he.symm
  refine ⟨_, rfl, ?_⟩
  clear he
  simp only [Act.put, List.setIfInBounds_toArray, List.set_cons_zero, List.set_cons_succ]
  refine Zz.lt 160 (.bool false) rfl (by kernel_rfl) (by kernel_rfl) ?_
  simp only [Act.put, List.setIfInBounds_toArray, List.set_cons_zero, List.set_cons_succ]
  refine Zz.lt 161 (.bool false) rfl (by kernel_rfl) (by kernel_rfl) ?_
  simp only [Act.put, List.setIfInBounds_toArray, List.set_cons_zero, List.set_cons_succ]
  refine Zz.lt 162 (.bool false) rfl (by kernel_rfl) (by kernel_rfl) ?_
  simp only [Act.put, List.setIfInBounds_toArray, List.set_cons_zero, List.set_cons_succ]
  refine Zz.lt 163 (.pointer (some ⟨b, 0, none⟩)) rfl (by kernel_rfl) (by kernel_rfl) ?_
  simp only [Act.put, List.setIfInBounds_toArray, List.set_cons_zero, List.set_cons_succ]
  refine Zz.lt 164 (.slice aw WL.length cw) rfl (by kernel_rfl) (by kernel_rfl) ?_
  simp only [Act.put, List.setIfInBounds_toArray, List.set_cons_zero, List.set_cons_succ]
  refine Zz.lc 165 rfl (by kernel_rfl) 18 (fun vs => by kernel_rfl) #[.tmp 163, .tmp 164] #[24, 22] rfl #[.pointer (some ⟨b, 0, none⟩), .slice aw WL.length cw] (by kernel_rfl) (unhide HC1) ?_
  rintro e wk1 ⟨rfl, hk1⟩
  refine ⟨_, rfl, ?_⟩
  simp only [Act.put, List.setIfInBounds_toArray, List.set_cons_zero, List.set_cons_succ]
  refine Zz.lt 166 (.bool false) rfl (by kernel_rfl) (by kernel_rfl) ?_
  simp only [Act.put, List.setIfInBounds_toArray, List.set_cons_zero, List.set_cons_succ]
  refine Zz.lt 167 (.bool false) rfl (by kernel_rfl) (by kernel_rfl) ?_
  simp only [Act.put, List.setIfInBounds_toArray, List.set_cons_zero, List.set_cons_succ]
  refine Zz.lt 168 (.bool false) rfl (by kernel_rfl) (by kernel_rfl) ?_
  simp only [Act.put, List.setIfInBounds_toArray, List.set_cons_zero, List.set_cons_succ]
  refine Zz.lt 169 (.pointer (some ⟨b, 0, none⟩)) rfl (by kernel_rfl) (by kernel_rfl) ?_
  simp only [Act.put, List.setIfInBounds_toArray, List.set_cons_zero, List.set_cons_succ]
  refine Zz.lt 170 (.slice ay RL.length cy) rfl (by kernel_rfl) (by kernel_rfl) ?_
  simp only [Act.put, List.setIfInBounds_toArray, List.set_cons_zero, List.set_cons_succ]
  refine Zz.la 171 (.slice (some ⟨wk1.heap.size, 0, none⟩) 1 1) (wk1.alloc (.cells #[.slice ay RL.length cy] 29)) rfl (by kernel_rfl) (by kernel_rfl) ?_
  simp only [Act.put, List.setIfInBounds_toArray, List.set_cons_zero, List.set_cons_succ]
  refine Zz.lc 172 rfl (by kernel_rfl) 18 (fun vs => by kernel_rfl) #[.tmp 169, .tmp 171] #[24, 22] rfl #[.pointer (some ⟨b, 0, none⟩), .slice (some ⟨wk1.heap.size, 0, none⟩) 1 1] (by kernel_rfl) (unhide HC2 wk1 hk1) ?_
  rintro e wk2 ⟨rfl, hk2⟩
  refine ⟨_, rfl, ?_⟩
  simp only [Act.put, List.setIfInBounds_toArray, List.set_cons_zero, List.set_cons_succ]
  refine Zz.lt 173 (.bool false) rfl (by kernel_rfl) (by kernel_rfl) ?_
  simp only [Act.put, List.setIfInBounds_toArray, List.set_cons_zero, List.set_cons_succ]
  refine Zz.lt 174 (.bool false) rfl (by kernel_rfl) (by kernel_rfl) ?_
  simp only [Act.put, List.setIfInBounds_toArray, List.set_cons_zero, List.set_cons_succ]
  refine wpList_nil ?_
  have hwK : ∀ q, (Value.slice aw WL.length cw).ownBlock = some q → ((K q ∨ (w.heap.size ≤ q ∧ q < w12.heap.size)) ∧ ¬ InB usw q) ∧ (Value.slice ay RL.length cy).ownBlock ≠ some q := fun q e => ⟨⟨.inr (by have := unhide HrW q (.inl e); have := (unhide Hb2).size; omega), (unhide HWn2).row_no e⟩, fun e2 => by have := unhide HrW q (.inl e); have := unhide HrY q e2; omega⟩
  have HKx := hide hwK
  have HRow : Hid (wk2.ownsRow b 29 1 (.slice aw WL.length cw) usw.length usw) := by
    show World.ownsRow _ _ _ _ _ _ _
    rw [unhide Hul]
    exact own_same (own_lower (unhide HWn2).bb.row (unhide Hbw)) (fun q e => (unhide hk2).2.1 q (hwK q e))
  have HLen := hide (show usw.length ≤ 65536 by rw [unhide Hul]; exact (unhide HWn).1)
  clear hwK HMK
  have HMK := hide (unhide hk2).1
  have Hk2 := hk2
  clear hk1 hk2 HC1 HC2 HCs
  obtain ⟨os2, ao, co, hvo, hom, hro, hpush⟩ := (unhide HMK).push
  subst hvo
  have HRo := hide hro
  have HPush := hide hpush
  have hle : b ≤ wk2.heap.size := (unhide HMK).le
  clear hro hpush
  go_wp2_with (at_builtin; refine wpList_append_own_at _ rfl _ _ 28 rfl b 22 i3 (.slice none 0 0) 1 24 Tryd.underlying28 ti tz0 tz1 tz2 rfl (by decide) _ _ _ rfl ((unhide HRo).alloc _) ⟨wk2.heap.size, 0, none⟩ 1 1 [.slice aw WL.length cw] rfl rfl (cell_one_new _ _ _) (by simp [Value.oneCell']) (by unfold maxLen; omega) (by omega) (by rw [World.size_alloc]; omega) ?_; intro v9 w15 hown9 hgrow9 _ hat9; have HA := hide (unhide HPush _ _ _ _ _ (unhide HRow) (unhide HLen) (unhide HKx) hown9 hgrow9 hat9); clear hown9 hgrow9 hat9)
  clear HRo HPush HRow HLen HKx hom hle HMK
  have HE : Hid (MK b W1 K (n + 270000) (m + 1) w15 v9 ∧ (∀ q, K q → w15.heap[q]? = w.heap[q]?) ∧ w.heap.size ≤ w15.heap.size) := by
    obtain ⟨k1, k2, k3⟩ := unhide HA
    obtain ⟨-, k5, k6⟩ := unhide Hk2
    have z12 := (unhide Hb12).size
    have z2 := (unhide Hb1).size
    have key : ∀ q, K q → (((K q ∨ (w.heap.size ≤ q ∧ q < w12.heap.size)) ∧ ¬ InB usw q) ∧ (Value.slice ay RL.length cy).ownBlock ≠ some q) ∧ (Value.slice aw WL.length cw).ownBlock ≠ some q := fun q hq => ⟨⟨⟨.inl hq, fun e => by have := unhide HKw q hq; have := unhide HrW q (.inr e); omega⟩, fun e => by have := unhide HKw q hq; have := unhide HrY q e; omega⟩, fun e => by have := unhide HKw q hq; have := unhide HrW q (.inl e); omega⟩
    exact ⟨k1.weak key (by rw [unhide Hul]; have := (unhide HWn).1; omega) (Nat.le_refl _), fun q hq => ((k2 q (key q hq).1).trans (k5 q (key q hq).1)).trans ((unhide Hb12).block q (unhide HKw q hq)), by omega⟩
  clear HA Hk2
  go_wp2
  exact unhide HX _ _ _ rfl ⟨rfl, rfl, rfl, rfl, rfl, rfl, rfl, rfl, rfl, rfl, rfl, rfl, trivial⟩ (unhide HE).1 (unhide HE).2.1 (unhide HE).2.2
end Go.Proofs.YtlblllghgdfpoaaDoor

namespace Go.Proofs.YtlblllghgdfpoaaDoor
open Go.RowKit
attribute [local go_sem ↓] Go.wp_at_zero Go.wp_at_succ

set_option maxRecDepth 100000 in
set_option maxHeartbeats 4000000 in
theorem b5_any {b i n m : Nat} {W1 w : World} {K : Nat → Prop} {p0 vo vp vl : Value} {ad ar aS aT af au : Option Addr} {nd cd nr cr nS cS nT cT nf cf nu cu : Nat} {usl : List Value} {pl L6 : List (List Nat)} {tm : Array Value} {X : Code} {Q : Exit → Act → World → Prop} (hM : MK b W1 K n m w vo) (hKw : ∀ q, K q → q < w.heap.size) (hlb : Lb b w usl pl) (hd : HdB w vl usl) (hl6 : Lb b w [Value.slice ad nd cd, Value.slice ar nr cr, Value.slice aS nS cS, Value.slice aT nT cT, Value.slice af nf cf, Value.slice au nu cu] L6) (hku : ∀ q, InB usl q → K q) (hkl : ∀ q, vl.ownBlock = some q → K q) (hk6 : ∀ q, InB [Value.slice ad nd cd, Value.slice ar nr cr, Value.slice aS nS cS, Value.slice aT nT cT, Value.slice af nf cf, Value.slice au nu cu] q → K q ∧ ¬ InB usl q) (hpz : ∀ x ∈ pl, x.length ≤ 1073741824) (h6z : ∀ x ∈ L6, x.length ≤ 1073741824) (hn : n + 4 * usl.length ≤ 1000000000) (hsz : tm.size = 228) (hchk : chk tm [(0, p0), (3, .pointer (some ⟨b, 0, none⟩)), (4, vo), (5, .int .i64 (i : Int)), (6, vp), (7, .slice af nf cf), (9, vl), (11, .slice ad nd cd), (13, .slice ar nr cr), (15, .slice aS nS cS), (16, .slice aT nT cT), (17, .slice au nu cu)])
    (hX : ∀ (w' : World) (tm' : Array Value), tm'.size = 228 → chk tm' [(0, p0), (3, .pointer (some ⟨b, 0, none⟩)), (4, vo), (5, .int .i64 (i : Int)), (6, vp), (9, vl)] → MK b W1 (fun q => (K q ∧ ¬ InB usl q) ∧ ¬ InB [Value.slice ad nd cd, Value.slice ar nr cr, Value.slice aS nS cS, Value.slice aT nT cT, Value.slice af nf cf, Value.slice au nu cu] q) (n + 4 * usl.length + 24) m w' vo → (∀ q, (K q ∧ ¬ InB usl q) ∧ ¬ InB [Value.slice ad nd cd, Value.slice ar nr cr, Value.slice aS nS cS, Value.slice aT nT cT, Value.slice af nf cf, Value.slice au nu cu] q → w'.heap[q]? = w.heap[q]?) → w.heap.size ≤ w'.heap.size → X.wp Tryd.prog Q { tmps := tm', defers := [] } w') :
    (bb5 X).wp Tryd.prog Q { tmps := tm, defers := [] } w := by
  have HC1 : Hid (Calls Tryd.prog 18 #[.pointer (some ⟨b, 0, none⟩), vl] w fun e w' => e = .returned (.bool true) ∧ Hid (MK b W1 (fun q => K q ∧ ¬ InB usl q) (n + 4 * usl.length) m w' vo ∧ (∀ q, K q ∧ ¬ InB usl q → w'.heap[q]? = w.heap[q]?) ∧ w.heap.size ≤ w'.heap.size)) := by
    refine (hM.take hlb hd hku hkl hpz (by omega)).mono ?_
    rintro e w' ⟨h1, h2, h3, h4⟩
    exact ⟨h1, h2, fun q hq => h3 q hq.1 hq.2, h4⟩
  have HC2 : Hid (∀ w3 : World, Hid (MK b W1 (fun q => K q ∧ ¬ InB usl q) (n + 4 * usl.length) m w3 vo ∧ (∀ q, K q ∧ ¬ InB usl q → w3.heap[q]? = w.heap[q]?) ∧ w.heap.size ≤ w3.heap.size) → Calls Tryd.prog 18 #[.pointer (some ⟨b, 0, none⟩), .slice (some ⟨w3.heap.size, 0, none⟩) 6 6] (w3.alloc (.cells #[Value.slice ad nd cd, Value.slice ar nr cr, Value.slice aS nS cS, Value.slice aT nT cT, Value.slice af nf cf, Value.slice au nu cu] 29)) fun e w' => e = .returned (.bool true) ∧ Hid (MK b W1 (fun q => (K q ∧ ¬ InB usl q) ∧ ¬ InB [Value.slice ad nd cd, Value.slice ar nr cr, Value.slice aS nS cS, Value.slice aT nT cT, Value.slice af nf cf, Value.slice au nu cu] q) (n + 4 * usl.length + 24) m w' vo ∧ (∀ q, (K q ∧ ¬ InB usl q) ∧ ¬ InB [Value.slice ad nd cd, Value.slice ar nr cr, Value.slice aS nS cS, Value.slice aT nT cT, Value.slice af nf cf, Value.slice au nu cu] q → w'.heap[q]? = w.heap[q]?) ∧ w.heap.size ≤ w'.heap.size)) := by
    intro w3 hp
    obtain ⟨m1, m2, m3⟩ := unhide hp
    have hbA : Below w3.heap.size w3 (w3.alloc (.cells #[Value.slice ad nd cd, Value.slice ar nr cr, Value.slice aS nS cS, Value.slice aT nT cT, Value.slice af nf cf, Value.slice au nu cu] 29)) := (Below.refl _ _).alloc (Nat.le_refl _) _
    have h63 : Lb b (w3.alloc (.cells #[Value.slice ad nd cd, Value.slice ar nr cr, Value.slice aS nS cS, Value.slice aT nT cT, Value.slice af nf cf, Value.slice au nu cu] 29)) [Value.slice ad nd cd, Value.slice ar nr cr, Value.slice aS nS cS, Value.slice aT nT cT, Value.slice af nf cf, Value.slice au nu cu] L6 := hl6.keep (fun q hq e => (hbA.block q (Nat.lt_of_lt_of_le hq m3)).trans (m2 q (hk6 q e)))
    have hh := (m1.up hbA).take (us := [Value.slice ad nd cd, Value.slice ar nr cr, Value.slice aS nS cS, Value.slice aT nT cT, Value.slice af nf cf, Value.slice au nu cu]) (xs := L6) (va := .slice (some ⟨w3.heap.size, 0, none⟩) 6 6) h63 (hd_new w3 [Value.slice ad nd cd, Value.slice ar nr cr, Value.slice aS nS cS, Value.slice aT nT cT, Value.slice af nf cf, Value.slice au nu cu] 29 6 rfl (fun q e => Nat.lt_of_lt_of_le (hKw q (hk6 q e).1) m3)) (fun q e => .inl (hk6 q e)) (fun q e => .inr (by have e2 : w3.heap.size = q := Option.some.inj e; rw [World.size_alloc]; omega)) h6z (by simp; omega)
    refine hh.mono ?_
    rintro e w' ⟨h1, h2, h3, h4⟩
    exact ⟨h1, h2.weak (fun q hq => ⟨.inl hq.1, hq.2⟩) (by simp) (Nat.le_refl _), fun q hq => ((h3 q (.inl hq.1) hq.2).trans (hbA.block q (Nat.lt_of_lt_of_le (hKw q hq.1.1) m3))).trans (m2 q hq.1), Nat.le_trans m3 (Nat.le_trans hbA.size h4)⟩
  have HX := hide hX
  clear hX hM hKw hlb hd hl6 hku hkl hk6 hpz h6z hn
  obtain ⟨u, rfl⟩ := frame228 hsz
  obtain ⟨e0, e3, e4, e5, e6, e7, e9, e11, e13, e15, e16, e17, _⟩ := hchk
  replace e0 : u 0 = p0 := Option.some.inj e0
  replace e3 : u 3 = .pointer (some ⟨b, 0, none⟩) := Option.some.inj e3
  replace e4 : u 4 = vo := Option.some.inj e4
  replace e5 : u 5 = .int .i64 (i : Int) := Option.some.inj e5
  replace e6 : u 6 = vp := Option.some.inj e6
  replace e7 : u 7 = .slice af nf cf := Option.some.inj e7
  replace e9 : u 9 = vl := Option.some.inj e9
  replace e11 : u 11 = .slice ad nd cd := Option.some.inj e11
  replace e13 : u 13 = .slice ar nr cr := Option.some.inj e13
  replace e15 : u 15 = .slice aS nS cS := Option.some.inj e15
  replace e16 : u 16 = .slice aT nT cT := Option.some.inj e16
  replace e17 : u 17 = .slice au nu cu := Option.some.inj e17
  rw [e0, e3, e4, e5, e6, e7, e9, e11, e13, e15, e16, e17]
  clear e0 e3 e4 e5 e6 e7 e9 e11 e13 e15 e16 e17
  unfold bb5
  dsimp only [tl, bRnd, bL, hd, bBody, Tryd.f3]
  go_upto_region 28 with fail
  refine wp_region_lit ?_
  refine Zz.lt 179 (.pointer (some ⟨b, 0, none⟩)) rfl (by kernel_rfl) (by kernel_rfl) ?_
  simp only [Act.put, List.setIfInBounds_toArray, List.set_cons_zero, List.set_cons_succ]
  refine Zz.lt 180 (vl) rfl (by kernel_rfl) (by kernel_rfl) ?_
  simp only [Act.put, List.setIfInBounds_toArray, List.set_cons_zero, List.set_cons_succ]
  refine Zz.lc 181 rfl (by kernel_rfl) 18 (fun vs => by kernel_rfl) #[.tmp 179, .tmp 180] #[24, 22] rfl #[.pointer (some ⟨b, 0, none⟩), vl] (by kernel_rfl) (unhide HC1) ?_
  rintro e wk1 ⟨rfl, hk1⟩
  refine ⟨_, rfl, ?_⟩
  simp only [Act.put, List.setIfInBounds_toArray, List.set_cons_zero, List.set_cons_succ]
  refine Zz.lt 182 (.bool false) rfl (by kernel_rfl) (by kernel_rfl) ?_
  simp only [Act.put, List.setIfInBounds_toArray, List.set_cons_zero, List.set_cons_succ]
  refine Zz.lt 183 (.bool false) rfl (by kernel_rfl) (by kernel_rfl) ?_
  simp only [Act.put, List.setIfInBounds_toArray, List.set_cons_zero, List.set_cons_succ]
  refine Zz.lt 184 (.pointer (some ⟨b, 0, none⟩)) rfl (by kernel_rfl) (by kernel_rfl) ?_
  simp only [Act.put, List.setIfInBounds_toArray, List.set_cons_zero, List.set_cons_succ]
  refine Zz.lt 185 (.slice ad nd cd) rfl (by kernel_rfl) (by kernel_rfl) ?_
  simp only [Act.put, List.setIfInBounds_toArray, List.set_cons_zero, List.set_cons_succ]
  refine Zz.lt 186 (.slice ar nr cr) rfl (by kernel_rfl) (by kernel_rfl) ?_
  simp only [Act.put, List.setIfInBounds_toArray, List.set_cons_zero, List.set_cons_succ]
  refine Zz.lt 187 (.slice aS nS cS) rfl (by kernel_rfl) (by kernel_rfl) ?_
  simp only [Act.put, List.setIfInBounds_toArray, List.set_cons_zero, List.set_cons_succ]
  refine Zz.lt 188 (.slice aT nT cT) rfl (by kernel_rfl) (by kernel_rfl) ?_
  simp only [Act.put, List.setIfInBounds_toArray, List.set_cons_zero, List.set_cons_succ]
  refine Zz.lt 189 (.slice af nf cf) rfl (by kernel_rfl) (by kernel_rfl) ?_
  simp only [Act.put, List.setIfInBounds_toArray, List.set_cons_zero, List.set_cons_succ]
  refine Zz.lt 190 (.slice au nu cu) rfl (by kernel_rfl) (by kernel_rfl) ?_
  simp only [Act.put, List.setIfInBounds_toArray, List.set_cons_zero, List.set_cons_succ]
  refine Zz.la 191 (.slice (some ⟨wk1.heap.size, 0, none⟩) 6 6) (wk1.alloc (.cells #[.slice ad nd cd, .slice ar nr cr, .slice aS nS cS, .slice aT nT cT, .slice af nf cf, .slice au nu cu] 29)) rfl (by kernel_rfl) (by kernel_rfl) ?_
  simp only [Act.put, List.setIfInBounds_toArray, List.set_cons_zero, List.set_cons_succ]
  refine Zz.lc 192 rfl (by kernel_rfl) 18 (fun vs => by kernel_rfl) #[.tmp 184, .tmp 191] #[24, 22] rfl #[.pointer (some ⟨b, 0, none⟩), .slice (some ⟨wk1.heap.size, 0, none⟩) 6 6] (by kernel_rfl) (unhide HC2 wk1 hk1) ?_
  rintro e wk2 ⟨rfl, hk2⟩
  refine ⟨_, rfl, ?_⟩
  simp only [Act.put, List.setIfInBounds_toArray, List.set_cons_zero, List.set_cons_succ]
  refine Zz.lt 193 (.bool false) rfl (by kernel_rfl) (by kernel_rfl) ?_
  simp only [Act.put, List.setIfInBounds_toArray, List.set_cons_zero, List.set_cons_succ]
  refine Zz.lt 194 (.bool false) rfl (by kernel_rfl) (by kernel_rfl) ?_
  simp only [Act.put, List.setIfInBounds_toArray, List.set_cons_zero, List.set_cons_succ]
  refine wpList_nil ?_
  go_wp2
  exact unhide HX _ _ rfl ⟨rfl, rfl, rfl, rfl, rfl, rfl, trivial⟩ (unhide hk2).1 (unhide hk2).2.1 (unhide hk2).2.2
end Go.Proofs.YtlblllghgdfpoaaDoor
