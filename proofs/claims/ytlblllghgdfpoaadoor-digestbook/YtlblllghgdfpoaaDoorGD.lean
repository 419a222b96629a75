import Derived.Test.YtlblllghgdfpoaaDoorJ40
import Derived.Deep.DeepCutAuto

namespace Go.Proofs.YtlblllghgdfpoaaDoor
open Go.RowKit
attribute [local go_sem ↓] Go.wp_at_zero Go.wp_at_succ

set_option maxRecDepth 100000 in
set_option maxHeartbeats 4000000 in
theorem b0_ok {b i nv vc : Nat} {va : Option Addr} {w : World} {vo : Value} {FL : List Nat} {tm : Array Value} {X : Code} {Q : Exit → Act → World → Prop} (j1 : (i : Int) ≤ (vc : Int)) (h1 : Calls Tryd.prog 5 #[.slice va i vc] w fun e w' => ∃ v', e = .returned (.tuple #[v', .int .i64 0]) ∧ Bytes w.heap.size w' v' FL ∧ Below w.heap.size w w') (hsz : tm.size = 228) (hchk : chk tm [(0, .slice va nv vc), (3, .pointer (some ⟨b, 0, none⟩)), (4, vo), (5, .int .i64 (i : Int))])
    (hX : ∀ (vf : Value) (w' : World) (tm' : Array Value), tm'.size = 228 → chk tm' [(0, .slice va nv vc), (3, .pointer (some ⟨b, 0, none⟩)), (4, vo), (5, .int .i64 (i : Int)), (6, .slice va i vc), (7, vf)] → Below w.heap.size w w' → Bytes w.heap.size w' vf FL → X.wp Tryd.prog Q { tmps := tm', defers := [] } w') :
    (bb0 X).wp Tryd.prog Q { tmps := tm, defers := [] } w := by
  have HX := hide hX
  have H1 := hide h1
  clear hX h1
  obtain ⟨u, rfl⟩ := frame228 hsz
  obtain ⟨e0, e3, e4, e5, _⟩ := hchk
  replace e0 : u 0 = .slice va nv vc := Option.some.inj e0
  replace e3 : u 3 = .pointer (some ⟨b, 0, none⟩) := Option.some.inj e3
  replace e4 : u 4 = vo := Option.some.inj e4
  replace e5 : u 5 = .int .i64 (i : Int) := Option.some.inj e5
  rw [e0, e3, e4, e5]
  clear e0 e3 e4 e5
  have j0 : (0 : Int) ≤ (i : Int) := Int.natCast_nonneg _
  unfold bb0
  dsimp only [tl, bRnd, bL, hd, bBody, Tryd.f3]
  go_wp2_with fail
  refine (unhide H1).mono ?_
  rintro e w1 ⟨vf, rfl, hf, hb1⟩
  have HF := hide hf
  have Hb1 := hide hb1
  clear hf hb1 H1
  go_wp2_with fail
  refine (num_any _ _).mono ?_
  rintro e wz ⟨rfl, he⟩
  obtain rfl : w1 = wz := he.symm
  clear he
  go_wp2
  exact unhide HX _ _ _ rfl ⟨rfl, rfl, rfl, rfl, rfl, rfl, trivial⟩ (unhide Hb1) (unhide HF)
set_option maxRecDepth 100000 in
set_option maxHeartbeats 4000000 in
theorem b0_no {b i nv vc : Nat} {va : Option Addr} {w : World} {vo : Value} {FL : List Nat} {tm : Array Value} {X : Code} {Q : Exit → Act → World → Prop} (j1 : (i : Int) ≤ (vc : Int)) (h1 : Calls Tryd.prog 5 #[.slice va i vc] w fun e w' => ∃ v', e = .returned (.tuple #[v', .int .i64 2]) ∧ Bytes w.heap.size w' v' FL ∧ Below w.heap.size w w') (h2 : ∀ w1, Below w.heap.size w w1 → Calls Tryd.prog 7 #[.pointer (some ⟨b, 0, none⟩)] w1 fun e w' => e = .returned (.bool true) ∧ ∃ m, w' = w1.drewN m) (hsz : tm.size = 228) (hchk : chk tm [(0, .slice va nv vc), (3, .pointer (some ⟨b, 0, none⟩)), (4, vo), (5, .int .i64 (i : Int))])
    (hX : ∀ (w' : World) (tm' : Array Value), tm'.size = 228 → chk tm' [(2, .bool true)] → Below w.heap.size w w' → Q .ret { tmps := tm', defers := [] } w') :
    (bb0 X).wp Tryd.prog Q { tmps := tm, defers := [] } w := by
  have HX := hide hX
  have H1 := hide h1
  have H2 := hide h2
  clear hX h1 h2
  obtain ⟨u, rfl⟩ := frame228 hsz
  obtain ⟨e0, e3, e4, e5, _⟩ := hchk
  replace e0 : u 0 = .slice va nv vc := Option.some.inj e0
  replace e3 : u 3 = .pointer (some ⟨b, 0, none⟩) := Option.some.inj e3
  replace e4 : u 4 = vo := Option.some.inj e4
  replace e5 : u 5 = .int .i64 (i : Int) := Option.some.inj e5
  rw [e0, e3, e4, e5]
  clear e0 e3 e4 e5
  have j0 : (0 : Int) ≤ (i : Int) := Int.natCast_nonneg _
  unfold bb0
  dsimp only [tl, bRnd, bL, hd, bBody, Tryd.f3]
  go_wp2_with fail
  refine (unhide H1).mono ?_
  rintro e w1 ⟨vf, rfl, hf, hb1⟩
  have HF := hide hf
  have Hb1 := hide hb1
  clear hf hb1 H1
  go_wp2_with fail
  refine (num_any _ _).mono ?_
  rintro e wz ⟨rfl, he⟩
  obtain rfl : w1 = wz := he.symm
  clear he
  go_wp2_with fail
  refine (num_any _ _).mono ?_
  rintro e wz ⟨rfl, he⟩
  obtain rfl : w1 = wz := he.symm
  clear he
  go_wp2_with fail
  refine (unhide H2 _ (unhide Hb1)).mono ?_
  rintro e w2 ⟨rfl, m, he⟩
  have Hb2 : Hid (Below w.heap.size w w2) := by rw [he]; exact below_drewN (unhide Hb1) m
  clear he
  go_wp2
  exact unhide HX _ _ rfl ⟨rfl, trivial⟩ (unhide Hb2)
set_option maxRecDepth 100000 in
set_option maxHeartbeats 4000000 in
theorem b4_zero {b i : Nat} {w : World} {p0 vo vp vf vl vd vr vs vt vu : Value} {tm : Array Value} {X : Code} {Q : Exit → Act → World → Prop} (hi : i = 0) (hsz : tm.size = 228) (hchk : chk tm [(0, p0), (3, .pointer (some ⟨b, 0, none⟩)), (4, vo), (5, .int .i64 (i : Int)), (6, vp), (7, vf), (9, vl), (11, vd), (13, vr), (15, vs), (16, vt), (17, vu)])
    (hX : ∀ tm' : Array Value, tm'.size = 228 → chk tm' [(0, p0), (3, .pointer (some ⟨b, 0, none⟩)), (4, vo), (5, .int .i64 (i : Int)), (6, vp), (7, vf), (9, vl), (11, vd), (13, vr), (15, vs), (16, vt), (17, vu)] → X.wp Tryd.prog Q { tmps := tm', defers := [] } w) :
    (bb4 X).wp Tryd.prog Q { tmps := tm, defers := [] } w := by
  have HX := hide hX
  clear hX
  obtain ⟨u, rfl⟩ := frame228 hsz
  obtain ⟨e0, e3, e4, e5, e6, e7, e9, e11, e13, e15, e16, e17, _⟩ := hchk
  replace e0 : u 0 = p0 := Option.some.inj e0
  replace e3 : u 3 = .pointer (some ⟨b, 0, none⟩) := Option.some.inj e3
  replace e4 : u 4 = vo := Option.some.inj e4
  replace e5 : u 5 = .int .i64 (i : Int) := Option.some.inj e5
  replace e6 : u 6 = vp := Option.some.inj e6
  replace e7 : u 7 = vf := Option.some.inj e7
  replace e9 : u 9 = vl := Option.some.inj e9
  replace e11 : u 11 = vd := Option.some.inj e11
  replace e13 : u 13 = vr := Option.some.inj e13
  replace e15 : u 15 = vs := Option.some.inj e15
  replace e16 : u 16 = vt := Option.some.inj e16
  replace e17 : u 17 = vu := Option.some.inj e17
  rw [e0, e3, e4, e5, e6, e7, e9, e11, e13, e15, e16, e17]
  clear e0 e3 e4 e5 e6 e7 e9 e11 e13 e15 e16 e17
  unfold bb4
  dsimp only [tl, bRnd, bL, hd, bBody, Tryd.f3]
  subst hi
  go_wp2
  exact unhide HX _ rfl ⟨rfl, rfl, rfl, rfl, rfl, rfl, rfl, rfl, rfl, rfl, rfl, rfl, trivial⟩
set_option maxRecDepth 100000 in
set_option maxHeartbeats 4000000 in
theorem b6_any {b i n m : Nat} {W1 w : World} {K : Nat → Prop} {p0 vo vp vl : Value} {us : List Value} {pl : List (List Nat)} {FL : List Nat} {tm : Array Value} {X : Code} {Q : Exit → Act → World → Prop} (hM : MK b W1 K n m w vo) (hrow : w.ownsRow b 29 1 vl us.length us) (hus : us.length ≤ 65536) (hkl : ∀ q, vl.ownBlock = some q → K q) (hm : m ≤ 1000) (h1 : ∀ w1, Below b W1 w1 → Calls Tryd.prog 19 #[vp] w1 fun e w' => ∃ v', e = .returned v' ∧ Bytes w1.heap.size w' v' FL ∧ Below w1.heap.size w1 w') (h2 : ∀ w1 v', HasB w1 v' FL → Calls Tryd.prog 8 #[v'] w1 fun e w' => ∃ v', e = .returned (.tuple #[v', .int .i64 0]) ∧ (∃ us, OwnBA w1.heap.size w' v' us pl) ∧ Below w1.heap.size w1 w') (hpn : pl.length = i) (hsz : tm.size = 228) (hchk : chk tm [(0, p0), (3, .pointer (some ⟨b, 0, none⟩)), (4, vo), (5, .int .i64 (i : Int)), (6, vp), (9, vl)])
    (hX : ∀ (vo' : Value) (am : Option Addr) (cm : Nat) (usm : List Value) (w' : World) (z : Nat) (tm' : Array Value), tm'.size = 228 → chk tm' [(0, p0), (3, .pointer (some ⟨b, 0, none⟩)), (4, vo'), (5, .int .i64 (i : Int)), (6, vp), (9, .slice am i cm), (10, .int .i64 0)] → MK b W1 (fun q => z ≤ q ∧ q < w'.heap.size) n (m + 1) w' vo' → OwnBA z w' (.slice am i cm) usm pl → b ≤ z → X.wp Tryd.prog Q { tmps := tm', defers := [] } w') :
    (bb6 X).wp Tryd.prog Q { tmps := tm, defers := [] } w := by
  obtain ⟨i3, ti, tz0, tz1, tz2⟩ := info_parts Tryd.infoBytess
  have HX := hide hX
  have H1 := hide h1
  have H2 := hide h2
  have HMK := hide hM
  have HRow := hide hrow
  have HLen := hide hus
  have HKx := hide hkl
  have Hpn := hide hpn
  obtain ⟨al, cl, hvl, -⟩ := own_form hrow
  subst hvl
  clear hX h1 h2 hM hrow hus hkl hpn
  obtain ⟨u, rfl⟩ := frame228 hsz
  obtain ⟨e0, e3, e4, e5, e6, e9, _⟩ := hchk
  replace e0 : u 0 = p0 := Option.some.inj e0
  replace e3 : u 3 = .pointer (some ⟨b, 0, none⟩) := Option.some.inj e3
  replace e4 : u 4 = vo := Option.some.inj e4
  replace e5 : u 5 = .int .i64 (i : Int) := Option.some.inj e5
  replace e6 : u 6 = vp := Option.some.inj e6
  replace e9 : u 9 = .slice al us.length cl := Option.some.inj e9
  rw [e0, e3, e4, e5, e6, e9]
  clear e0 e3 e4 e5 e6 e9
  unfold bb6
  dsimp only [tl, bRnd, bL, hd, bBody, Tryd.f3]
  obtain ⟨os2, ao, co, hvo, hom, hro, hpush⟩ := (unhide HMK).push
  subst hvo
  have HRo := hide hro
  have HPush := hide hpush
  have hle : b ≤ w.heap.size := (unhide HMK).le
  clear hro hpush
  go_wp2_with (at_builtin; refine wpList_append_own_at _ rfl _ _ 28 rfl b 22 i3 (.slice none 0 0) 1 24 Tryd.underlying28 ti tz0 tz1 tz2 rfl (by decide) _ _ _ rfl ((unhide HRo).alloc _) ⟨w.heap.size, 0, none⟩ 1 1 [.slice al us.length cl] rfl rfl (cell_one_new _ _ _) (by simp [Value.oneCell']) (by unfold maxLen; omega) (by omega) (by rw [World.size_alloc]; omega) ?_; intro v9 w18 hown9 hgrow9 _ hat9; have HA := hide (unhide HPush _ _ _ _ _ (unhide HRow) (unhide HLen) (unhide HKx) hown9 hgrow9 hat9); clear hown9 hgrow9 hat9)
  clear HRo HPush HRow HLen HKx hom hle HMK
  have HMK := hide (unhide HA).1
  clear HA
  go_wp2_with fail
  refine (unhide H1 _ (unhide HMK).be).mono ?_
  rintro e w19 ⟨vg, rfl, hf, hb1⟩
  have H2n := hide (unhide H2 w19 vg hf.has)
  have HMn := hide ((unhide HMK).up hb1)
  clear hf hb1 H1 H2 HMK
  go_wp2_with fail
  refine (unhide H2n).mono ?_
  rintro e w20 ⟨vl2, rfl, ⟨usm, hl⟩, hb2⟩
  obtain ⟨am, cm, hvl, -, -, -⟩ := own_form hl.bb.row
  subst hvl
  rw [unhide Hpn] at hl ⊢
  have HL := hide hl
  have HMK := hide ((unhide HMn).up hb2)
  have Hle := hide (unhide HMn).le
  clear hl hb2 H2n HMn
  go_wp2
  exact unhide HX _ _ _ _ _ w19.heap.size _ rfl ⟨rfl, rfl, rfl, rfl, rfl, rfl, rfl, trivial⟩ ((unhide HMK).weak (fun q hq => .inr hq) (Nat.le_refl _) (Nat.le_refl _)) (unhide HL) (unhide Hle)
set_option maxRecDepth 100000 in
set_option maxHeartbeats 4000000 in
theorem b7_any {b i n m cm : Nat} {am : Option Addr} {W1 w : World} {K : Nat → Prop} {p0 vo vp : Value} {us : List Value} {tm : Array Value} {Q : Exit → Act → World → Prop} (hM : MK b W1 K n m w vo) (h1 : Calls Tryd.prog 12 #[.slice am i cm, vp] w fun e w' => e = .returned (.bool true) ∧ ∃ m, w' = w.drewN m) (hrow : w.ownsRow b 29 1 (.slice am i cm) us.length us) (hus : us.length ≤ 65536) (hkl : ∀ q, (Value.slice am i cm).ownBlock = some q → K q) (hm : m ≤ 1000) (hsz : tm.size = 228) (hchk : chk tm [(0, p0), (3, .pointer (some ⟨b, 0, none⟩)), (4, vo), (5, .int .i64 (i : Int)), (6, vp), (9, .slice am i cm), (10, .int .i64 0)])
    (hX : ∀ (vo' : Value) (w' : World) (tm' : Array Value), tm'.size = 228 → chk tm' [(0, p0), (3, .pointer (some ⟨b, 0, none⟩)), (4, vo'), (5, .int .i64 (i : Int))] → MK b W1 (fun _ => False) n (m + 1) w' vo' → Q .normal { tmps := tm', defers := [] } w') :
    (bb7).wp Tryd.prog Q { tmps := tm, defers := [] } w := by
  obtain ⟨i3, ti, tz0, tz1, tz2⟩ := info_parts Tryd.infoBytess
  have HX := hide hX
  have H1 := hide h1
  have HM0 := hide hM
  have HRow0 := hide hrow
  have HLen := hide hus
  have HK0 := hide hkl
  clear hX h1 hM hrow hus hkl
  obtain ⟨u, rfl⟩ := frame228 hsz
  obtain ⟨e0, e3, e4, e5, e6, e9, e10, _⟩ := hchk
  replace e0 : u 0 = p0 := Option.some.inj e0
  replace e3 : u 3 = .pointer (some ⟨b, 0, none⟩) := Option.some.inj e3
  replace e4 : u 4 = vo := Option.some.inj e4
  replace e5 : u 5 = .int .i64 (i : Int) := Option.some.inj e5
  replace e6 : u 6 = vp := Option.some.inj e6
  replace e9 : u 9 = .slice am i cm := Option.some.inj e9
  replace e10 : u 10 = .int .i64 0 := Option.some.inj e10
  rw [e0, e3, e4, e5, e6, e9, e10]
  clear e0 e3 e4 e5 e6 e9 e10
  unfold bb7
  dsimp only [tl, bRnd, bL, hd, bBody, Tryd.f3]
  go_wp2_with fail
  refine (num_any _ _).mono ?_
  rintro e wz ⟨rfl, he⟩
  obtain rfl : w = wz := he.symm
  clear he
  go_wp2_with fail
  refine (unhide H1).mono ?_
  rintro e w21 ⟨rfl, k, he⟩
  have hb : Below w.heap.size w w21 := by rw [he]; exact below_drewN (Below.refl _ _) k
  have HMK := hide ((unhide HM0).up hb)
  have HRow : Hid (w21.ownsRow b 29 1 (.slice am i cm) us.length us) := own_same (unhide HRow0) (fun q e => hb.block q ((unhide HRow0).lt q e).2)
  have HKx : Hid (∀ q, (Value.slice am i cm).ownBlock = some q → K q ∨ (w.heap.size ≤ q ∧ q < w21.heap.size)) := fun q e => .inl (unhide HK0 q e)
  clear he hb HM0 HRow0 HK0 H1
  obtain ⟨os2, ao, co, hvo, hom, hro, hpush⟩ := (unhide HMK).push
  subst hvo
  have HRo := hide hro
  have HPush := hide hpush
  have hle : b ≤ w21.heap.size := (unhide HMK).le
  clear hro hpush
  go_wp2_with (at_builtin; refine wpList_append_own_at _ rfl _ _ 28 rfl b 22 i3 (.slice none 0 0) 1 24 Tryd.underlying28 ti tz0 tz1 tz2 rfl (by decide) _ _ _ rfl ((unhide HRo).alloc _) ⟨w21.heap.size, 0, none⟩ 1 1 [.slice am i cm] rfl rfl (cell_one_new _ _ _) (by simp [Value.oneCell']) (by unfold maxLen; omega) (by omega) (by rw [World.size_alloc]; omega) ?_; intro v9 w22 hown9 hgrow9 _ hat9; have HA := hide (unhide HPush _ _ _ _ _ (unhide HRow) (unhide HLen) (unhide HKx) hown9 hgrow9 hat9); clear hown9 hgrow9 hat9)
  clear HRo HPush HRow HLen HKx hom hle HMK
  have HE := hide ((unhide HA).1.weak (K' := fun _ => False) (fun q h => h.elim) (Nat.le_refl _) (Nat.le_refl _))
  clear HA
  go_wp2
  exact unhide HX _ _ _ rfl ⟨rfl, rfl, rfl, rfl, trivial⟩ (unhide HE)
end Go.Proofs.YtlblllghgdfpoaaDoor
