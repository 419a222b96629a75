import Derived.Test.YtlblllghgdfpoaaDoorJ40
import Derived.Deep.DeepCutAuto

namespace Go.Proofs.YtlblllghgdfpoaaDoor
open Go.RowKit
attribute [local go_sem ↓] Go.wp_at_zero Go.wp_at_succ

set_option maxRecDepth 100000 in
set_option maxHeartbeats 4000000 in
theorem b2_any {b i : Nat} {w : World} {p0 vo vp vf vl vd vr vs vt : Value} {zd : Int} {tm : Array Value} {X : Code} {Q : Exit → Act → World → Prop} (hz : zd = 0 ∨ zd = 2) (h1 : ∀ w1, Below w.heap.size w w1 → Calls Tryd.prog 12 #[vl, vp] w1 fun e w' => e = .returned (.bool true) ∧ ∃ m, w' = w1.drewN m) (h2 : ∀ w1, Below w.heap.size w w1 → Calls Tryd.prog 13 #[vs, vt] w1 fun e w' => e = .returned (.bool true) ∧ w' = w1) (h3 : ∀ w1, Below w.heap.size w w1 → Calls Tryd.prog 7 #[.pointer (some ⟨b, 0, none⟩)] w1 fun e w' => e = .returned (.bool true) ∧ ∃ m, w' = w1.drewN m) (hsz : tm.size = 228) (hchk : chk tm [(0, p0), (3, .pointer (some ⟨b, 0, none⟩)), (4, vo), (5, .int .i64 (i : Int)), (6, vp), (7, vf), (9, vl), (10, .int .i64 0), (11, vd), (12, .int .i64 zd), (13, vr), (14, .int .i64 0), (15, vs), (16, vt)])
    (hX : ∀ (w' : World) (tm' : Array Value), tm'.size = 228 → chk tm' [(0, p0), (3, .pointer (some ⟨b, 0, none⟩)), (4, vo), (5, .int .i64 (i : Int)), (6, vp), (7, vf), (9, vl), (11, vd), (13, vr), (15, vs), (16, vt)] → Below w.heap.size w w' → X.wp Tryd.prog Q { tmps := tm', defers := [] } w') :
    (bb2 X).wp Tryd.prog Q { tmps := tm, defers := [] } w := by
  have HX := hide hX
  have HC1 := hide h1
  have HC2 := hide h2
  have HC3 := hide h3
  clear hX h1 h2 h3
  obtain ⟨u, rfl⟩ := frame228 hsz
  obtain ⟨e0, e3, e4, e5, e6, e7, e9, e10, e11, e12, e13, e14, e15, e16, _⟩ := hchk
  replace e0 : u 0 = p0 := Option.some.inj e0
  replace e3 : u 3 = .pointer (some ⟨b, 0, none⟩) := Option.some.inj e3
  replace e4 : u 4 = vo := Option.some.inj e4
  replace e5 : u 5 = .int .i64 (i : Int) := Option.some.inj e5
  replace e6 : u 6 = vp := Option.some.inj e6
  replace e7 : u 7 = vf := Option.some.inj e7
  replace e9 : u 9 = vl := Option.some.inj e9
  replace e10 : u 10 = .int .i64 0 := Option.some.inj e10
  replace e11 : u 11 = vd := Option.some.inj e11
  replace e12 : u 12 = .int .i64 zd := Option.some.inj e12
  replace e13 : u 13 = vr := Option.some.inj e13
  replace e14 : u 14 = .int .i64 0 := Option.some.inj e14
  replace e15 : u 15 = vs := Option.some.inj e15
  replace e16 : u 16 = vt := Option.some.inj e16
  rw [e0, e3, e4, e5, e6, e7, e9, e10, e11, e12, e13, e14, e15, e16]
  clear e0 e3 e4 e5 e6 e7 e9 e10 e11 e12 e13 e14 e15 e16
  unfold bb2
  dsimp only [tl, bRnd, bL, hd, bBody, Tryd.f3]
  go_upto_region 17 with fail
  rcases hz with rfl | rfl
  · refine wp_region_lit ?_
    refine Zz.lt 76 (.int .i64 0) rfl (by kernel_rfl) (by kernel_rfl) ?_
    simp only [Act.put, List.setIfInBounds_toArray, List.set_cons_zero, List.set_cons_succ]
    refine Zz.lc 77 rfl (by kernel_rfl) 6 (fun vs => by kernel_rfl) #[.tmp 76] #[30] rfl #[.int .i64 0] (by kernel_rfl) (num_any _ _) ?_
    rintro e wz ⟨rfl, he⟩
    obtain rfl : w = wz := he.symm
    refine ⟨_, rfl, ?_⟩
    clear he
    simp only [Act.put, List.setIfInBounds_toArray, List.set_cons_zero, List.set_cons_succ]
    refine Zz.lt 78 (.bool false) rfl (by kernel_rfl) (by kernel_rfl) ?_
    simp only [Act.put, List.setIfInBounds_toArray, List.set_cons_zero, List.set_cons_succ]
    refine Zz.lt 79 (.bool false) rfl (by kernel_rfl) (by kernel_rfl) ?_
    simp only [Act.put, List.setIfInBounds_toArray, List.set_cons_zero, List.set_cons_succ]
    refine Zz.lt 80 (.int .i64 0) rfl (by kernel_rfl) (by kernel_rfl) ?_
    simp only [Act.put, List.setIfInBounds_toArray, List.set_cons_zero, List.set_cons_succ]
    refine Zz.lc 81 rfl (by kernel_rfl) 6 (fun vs => by kernel_rfl) #[.tmp 80] #[30] rfl #[.int .i64 0] (by kernel_rfl) (num_any _ _) ?_
    rintro e wz ⟨rfl, he⟩
    obtain rfl : w = wz := he.symm
    refine ⟨_, rfl, ?_⟩
    clear he
    simp only [Act.put, List.setIfInBounds_toArray, List.set_cons_zero, List.set_cons_succ]
    refine Zz.lt 82 (.bool false) rfl (by kernel_rfl) (by kernel_rfl) ?_
    simp only [Act.put, List.setIfInBounds_toArray, List.set_cons_zero, List.set_cons_succ]
    refine Zz.lt 83 (.bool false) rfl (by kernel_rfl) (by kernel_rfl) ?_
    simp only [Act.put, List.setIfInBounds_toArray, List.set_cons_zero, List.set_cons_succ]
    refine Zz.lt 84 (.bool false) rfl (by kernel_rfl) (by kernel_rfl) ?_
    simp only [Act.put, List.setIfInBounds_toArray, List.set_cons_zero, List.set_cons_succ]
    refine Zz.lt 85 (.int .i64 0) rfl (by kernel_rfl) (by kernel_rfl) ?_
    simp only [Act.put, List.setIfInBounds_toArray, List.set_cons_zero, List.set_cons_succ]
    refine Zz.lc 86 rfl (by kernel_rfl) 6 (fun vs => by kernel_rfl) #[.tmp 85] #[30] rfl #[.int .i64 0] (by kernel_rfl) (num_any _ _) ?_
    rintro e wz ⟨rfl, he⟩
    obtain rfl : w = wz := he.symm
    refine ⟨_, rfl, ?_⟩
    clear he
    simp only [Act.put, List.setIfInBounds_toArray, List.set_cons_zero, List.set_cons_succ]
    refine Zz.lt 87 (.bool false) rfl (by kernel_rfl) (by kernel_rfl) ?_
    simp only [Act.put, List.setIfInBounds_toArray, List.set_cons_zero, List.set_cons_succ]
    refine Zz.lt 88 (.bool false) rfl (by kernel_rfl) (by kernel_rfl) ?_
    simp only [Act.put, List.setIfInBounds_toArray, List.set_cons_zero, List.set_cons_succ]
    refine Zz.ls 89 rfl (by kernel_rfl) ?_
    simp only [Act.put, List.setIfInBounds_toArray, List.set_cons_zero, List.set_cons_succ]
    refine Zz.ls 90 rfl (by kernel_rfl) ?_
    simp only [Act.put, List.setIfInBounds_toArray, List.set_cons_zero, List.set_cons_succ]
    refine Zz.ls 91 rfl (by kernel_rfl) ?_
    simp only [Act.put, List.setIfInBounds_toArray, List.set_cons_zero, List.set_cons_succ]
    refine Zz.lt 92 (.bool false) rfl (by kernel_rfl) (by kernel_rfl) ?_
    simp only [Act.put, List.setIfInBounds_toArray, List.set_cons_zero, List.set_cons_succ]
    refine Zz.lt 93 (.bool false) rfl (by kernel_rfl) (by kernel_rfl) ?_
    simp only [Act.put, List.setIfInBounds_toArray, List.set_cons_zero, List.set_cons_succ]
    refine Zz.lt 94 (.bool false) rfl (by kernel_rfl) (by kernel_rfl) ?_
    simp only [Act.put, List.setIfInBounds_toArray, List.set_cons_zero, List.set_cons_succ]
    refine Zz.lt 95 (vl) rfl (by kernel_rfl) (by kernel_rfl) ?_
    simp only [Act.put, List.setIfInBounds_toArray, List.set_cons_zero, List.set_cons_succ]
    refine Zz.lt 96 (vp) rfl (by kernel_rfl) (by kernel_rfl) ?_
    simp only [Act.put, List.setIfInBounds_toArray, List.set_cons_zero, List.set_cons_succ]
    refine Zz.lc 97 rfl (by kernel_rfl) 12 (fun vs => by kernel_rfl) #[.tmp 95, .tmp 96] #[22, 22] rfl #[vl, vp] (by kernel_rfl) (unhide HC1 _ (Below.refl _ _)) ?_
    rintro e wn1 ⟨rfl, m7, hm7⟩
    have Hbn1 : Hid (Below w.heap.size w wn1) := by rw [hm7]; exact below_drewN (Below.refl _ _) m7
    refine ⟨_, rfl, ?_⟩
    clear hm7
    simp only [Act.put, List.setIfInBounds_toArray, List.set_cons_zero, List.set_cons_succ]
    refine Zz.lt 98 (.bool false) rfl (by kernel_rfl) (by kernel_rfl) ?_
    simp only [Act.put, List.setIfInBounds_toArray, List.set_cons_zero, List.set_cons_succ]
    refine Zz.lt 99 (.bool false) rfl (by kernel_rfl) (by kernel_rfl) ?_
    simp only [Act.put, List.setIfInBounds_toArray, List.set_cons_zero, List.set_cons_succ]
    refine Zz.lt 100 (.bool false) rfl (by kernel_rfl) (by kernel_rfl) ?_
    simp only [Act.put, List.setIfInBounds_toArray, List.set_cons_zero, List.set_cons_succ]
    refine Zz.lt 101 (vs) rfl (by kernel_rfl) (by kernel_rfl) ?_
    simp only [Act.put, List.setIfInBounds_toArray, List.set_cons_zero, List.set_cons_succ]
    refine Zz.lt 102 (vt) rfl (by kernel_rfl) (by kernel_rfl) ?_
    simp only [Act.put, List.setIfInBounds_toArray, List.set_cons_zero, List.set_cons_succ]
    refine Zz.lc 103 rfl (by kernel_rfl) 13 (fun vs => by kernel_rfl) #[.tmp 101, .tmp 102] #[29, 29] rfl #[vs, vt] (by kernel_rfl) (unhide HC2 _ (unhide Hbn1)) ?_
    rintro e wz ⟨rfl, he⟩
    obtain rfl : wn1 = wz := he.symm
    refine ⟨_, rfl, ?_⟩
    clear he
    simp only [Act.put, List.setIfInBounds_toArray, List.set_cons_zero, List.set_cons_succ]
    refine Zz.lt 104 (.bool false) rfl (by kernel_rfl) (by kernel_rfl) ?_
    simp only [Act.put, List.setIfInBounds_toArray, List.set_cons_zero, List.set_cons_succ]
    refine Zz.lt 105 (.bool false) rfl (by kernel_rfl) (by kernel_rfl) ?_
    simp only [Act.put, List.setIfInBounds_toArray, List.set_cons_zero, List.set_cons_succ]
    refine Zz.lt 106 (.bool false) rfl (by kernel_rfl) (by kernel_rfl) ?_
    simp only [Act.put, List.setIfInBounds_toArray, List.set_cons_zero, List.set_cons_succ]
    refine Zz.lt 107 (.pointer (some ⟨b, 0, none⟩)) rfl (by kernel_rfl) (by kernel_rfl) ?_
    simp only [Act.put, List.setIfInBounds_toArray, List.set_cons_zero, List.set_cons_succ]
    refine Zz.lc 108 rfl (by kernel_rfl) 7 (fun vs => by kernel_rfl) #[.tmp 107] #[24] rfl #[.pointer (some ⟨b, 0, none⟩)] (by kernel_rfl) (unhide HC3 _ (unhide Hbn1)) ?_
    rintro e wn2 ⟨rfl, m7, hm7⟩
    have Hbn2 : Hid (Below w.heap.size w wn2) := by rw [hm7]; exact below_drewN (unhide Hbn1) m7
    refine ⟨_, rfl, ?_⟩
    clear hm7
    simp only [Act.put, List.setIfInBounds_toArray, List.set_cons_zero, List.set_cons_succ]
    refine Zz.lt 109 (.bool false) rfl (by kernel_rfl) (by kernel_rfl) ?_
    simp only [Act.put, List.setIfInBounds_toArray, List.set_cons_zero, List.set_cons_succ]
    refine Zz.lt 110 (.bool false) rfl (by kernel_rfl) (by kernel_rfl) ?_
    simp only [Act.put, List.setIfInBounds_toArray, List.set_cons_zero, List.set_cons_succ]
    refine wpList_nil ?_
    go_wp2
    exact unhide HX _ _ rfl ⟨rfl, rfl, rfl, rfl, rfl, rfl, rfl, rfl, rfl, rfl, rfl, trivial⟩ (unhide Hbn2)
  · refine wp_region_lit ?_
    refine Zz.lt 76 (.int .i64 0) rfl (by kernel_rfl) (by kernel_rfl) ?_
    simp only [Act.put, List.setIfInBounds_toArray, List.set_cons_zero, List.set_cons_succ]
    refine Zz.lc 77 rfl (by kernel_rfl) 6 (fun vs => by kernel_rfl) #[.tmp 76] #[30] rfl #[.int .i64 0] (by kernel_rfl) (num_any _ _) ?_
    rintro e wz ⟨rfl, he⟩
    obtain rfl : w = wz := he.symm
    refine ⟨_, rfl, ?_⟩
    clear he
    simp only [Act.put, List.setIfInBounds_toArray, List.set_cons_zero, List.set_cons_succ]
    refine Zz.lt 78 (.bool false) rfl (by kernel_rfl) (by kernel_rfl) ?_
    simp only [Act.put, List.setIfInBounds_toArray, List.set_cons_zero, List.set_cons_succ]
    refine Zz.lt 79 (.bool false) rfl (by kernel_rfl) (by kernel_rfl) ?_
    simp only [Act.put, List.setIfInBounds_toArray, List.set_cons_zero, List.set_cons_succ]
    refine Zz.lt 80 (.int .i64 0) rfl (by kernel_rfl) (by kernel_rfl) ?_
    simp only [Act.put, List.setIfInBounds_toArray, List.set_cons_zero, List.set_cons_succ]
    refine Zz.lc 81 rfl (by kernel_rfl) 6 (fun vs => by kernel_rfl) #[.tmp 80] #[30] rfl #[.int .i64 0] (by kernel_rfl) (num_any _ _) ?_
    rintro e wz ⟨rfl, he⟩
    obtain rfl : w = wz := he.symm
    refine ⟨_, rfl, ?_⟩
    clear he
    simp only [Act.put, List.setIfInBounds_toArray, List.set_cons_zero, List.set_cons_succ]
    refine Zz.lt 82 (.bool false) rfl (by kernel_rfl) (by kernel_rfl) ?_
    simp only [Act.put, List.setIfInBounds_toArray, List.set_cons_zero, List.set_cons_succ]
    refine Zz.lt 83 (.bool false) rfl (by kernel_rfl) (by kernel_rfl) ?_
    simp only [Act.put, List.setIfInBounds_toArray, List.set_cons_zero, List.set_cons_succ]
    refine Zz.lt 84 (.bool false) rfl (by kernel_rfl) (by kernel_rfl) ?_
    simp only [Act.put, List.setIfInBounds_toArray, List.set_cons_zero, List.set_cons_succ]
    refine Zz.lt 85 (.int .i64 2) rfl (by kernel_rfl) (by kernel_rfl) ?_
    simp only [Act.put, List.setIfInBounds_toArray, List.set_cons_zero, List.set_cons_succ]
    refine Zz.lc 86 rfl (by kernel_rfl) 6 (fun vs => by kernel_rfl) #[.tmp 85] #[30] rfl #[.int .i64 2] (by kernel_rfl) (num_any _ _) ?_
    rintro e wz ⟨rfl, he⟩
    obtain rfl : w = wz := he.symm
    refine ⟨_, rfl, ?_⟩
    clear he
    simp only [Act.put, List.setIfInBounds_toArray, List.set_cons_zero, List.set_cons_succ]
    refine Zz.lt 87 (.bool true) rfl (by kernel_rfl) (by kernel_rfl) ?_
    simp only [Act.put, List.setIfInBounds_toArray, List.set_cons_zero, List.set_cons_succ]
    refine Zz.lt 88 (.bool true) rfl (by kernel_rfl) (by kernel_rfl) ?_
    simp only [Act.put, List.setIfInBounds_toArray, List.set_cons_zero, List.set_cons_succ]
    refine Zz.lt 89 (.int .i64 2) rfl (by kernel_rfl) (by kernel_rfl) ?_
    simp only [Act.put, List.setIfInBounds_toArray, List.set_cons_zero, List.set_cons_succ]
    refine Zz.lc 90 rfl (by kernel_rfl) 6 (fun vs => by kernel_rfl) #[.tmp 89] #[30] rfl #[.int .i64 2] (by kernel_rfl) (num_any _ _) ?_
    rintro e wz ⟨rfl, he⟩
    obtain rfl : w = wz := he.symm
    refine ⟨_, rfl, ?_⟩
    clear he
    simp only [Act.put, List.setIfInBounds_toArray, List.set_cons_zero, List.set_cons_succ]
    refine Zz.lt 91 (.bool false) rfl (by kernel_rfl) (by kernel_rfl) ?_
    simp only [Act.put, List.setIfInBounds_toArray, List.set_cons_zero, List.set_cons_succ]
    refine Zz.lt 92 (.bool false) rfl (by kernel_rfl) (by kernel_rfl) ?_
    simp only [Act.put, List.setIfInBounds_toArray, List.set_cons_zero, List.set_cons_succ]
    refine Zz.lt 93 (.bool false) rfl (by kernel_rfl) (by kernel_rfl) ?_
    simp only [Act.put, List.setIfInBounds_toArray, List.set_cons_zero, List.set_cons_succ]
    refine Zz.lt 94 (.bool false) rfl (by kernel_rfl) (by kernel_rfl) ?_
    simp only [Act.put, List.setIfInBounds_toArray, List.set_cons_zero, List.set_cons_succ]
    refine Zz.lt 95 (vl) rfl (by kernel_rfl) (by kernel_rfl) ?_
    simp only [Act.put, List.setIfInBounds_toArray, List.set_cons_zero, List.set_cons_succ]
    refine Zz.lt 96 (vp) rfl (by kernel_rfl) (by kernel_rfl) ?_
    simp only [Act.put, List.setIfInBounds_toArray, List.set_cons_zero, List.set_cons_succ]
    refine Zz.lc 97 rfl (by kernel_rfl) 12 (fun vs => by kernel_rfl) #[.tmp 95, .tmp 96] #[22, 22] rfl #[vl, vp] (by kernel_rfl) (unhide HC1 _ (Below.refl _ _)) ?_
    rintro e wn1 ⟨rfl, m7, hm7⟩
    have Hbn1 : Hid (Below w.heap.size w wn1) := by rw [hm7]; exact below_drewN (Below.refl _ _) m7
    refine ⟨_, rfl, ?_⟩
    clear hm7
    simp only [Act.put, List.setIfInBounds_toArray, List.set_cons_zero, List.set_cons_succ]
    refine Zz.lt 98 (.bool false) rfl (by kernel_rfl) (by kernel_rfl) ?_
    simp only [Act.put, List.setIfInBounds_toArray, List.set_cons_zero, List.set_cons_succ]
    refine Zz.lt 99 (.bool false) rfl (by kernel_rfl) (by kernel_rfl) ?_
    simp only [Act.put, List.setIfInBounds_toArray, List.set_cons_zero, List.set_cons_succ]
    refine Zz.lt 100 (.bool false) rfl (by kernel_rfl) (by kernel_rfl) ?_
    simp only [Act.put, List.setIfInBounds_toArray, List.set_cons_zero, List.set_cons_succ]
    refine Zz.lt 101 (vs) rfl (by kernel_rfl) (by kernel_rfl) ?_
    simp only [Act.put, List.setIfInBounds_toArray, List.set_cons_zero, List.set_cons_succ]
    refine Zz.lt 102 (vt) rfl (by kernel_rfl) (by kernel_rfl) ?_
    simp only [Act.put, List.setIfInBounds_toArray, List.set_cons_zero, List.set_cons_succ]
    refine Zz.lc 103 rfl (by kernel_rfl) 13 (fun vs => by kernel_rfl) #[.tmp 101, .tmp 102] #[29, 29] rfl #[vs, vt] (by kernel_rfl) (unhide HC2 _ (unhide Hbn1)) ?_
    rintro e wz ⟨rfl, he⟩
    obtain rfl : wn1 = wz := he.symm
    refine ⟨_, rfl, ?_⟩
    clear he
    simp only [Act.put, List.setIfInBounds_toArray, List.set_cons_zero, List.set_cons_succ]
    refine Zz.lt 104 (.bool false) rfl (by kernel_rfl) (by kernel_rfl) ?_
    simp only [Act.put, List.setIfInBounds_toArray, List.set_cons_zero, List.set_cons_succ]
    refine Zz.lt 105 (.bool false) rfl (by kernel_rfl) (by kernel_rfl) ?_
    simp only [Act.put, List.setIfInBounds_toArray, List.set_cons_zero, List.set_cons_succ]
    refine Zz.lt 106 (.bool false) rfl (by kernel_rfl) (by kernel_rfl) ?_
    simp only [Act.put, List.setIfInBounds_toArray, List.set_cons_zero, List.set_cons_succ]
    refine Zz.lt 107 (.pointer (some ⟨b, 0, none⟩)) rfl (by kernel_rfl) (by kernel_rfl) ?_
    simp only [Act.put, List.setIfInBounds_toArray, List.set_cons_zero, List.set_cons_succ]
    refine Zz.lc 108 rfl (by kernel_rfl) 7 (fun vs => by kernel_rfl) #[.tmp 107] #[24] rfl #[.pointer (some ⟨b, 0, none⟩)] (by kernel_rfl) (unhide HC3 _ (unhide Hbn1)) ?_
    rintro e wn2 ⟨rfl, m7, hm7⟩
    have Hbn2 : Hid (Below w.heap.size w wn2) := by rw [hm7]; exact below_drewN (unhide Hbn1) m7
    refine ⟨_, rfl, ?_⟩
    clear hm7
    simp only [Act.put, List.setIfInBounds_toArray, List.set_cons_zero, List.set_cons_succ]
    refine Zz.lt 109 (.bool false) rfl (by kernel_rfl) (by kernel_rfl) ?_
    simp only [Act.put, List.setIfInBounds_toArray, List.set_cons_zero, List.set_cons_succ]
    refine Zz.lt 110 (.bool false) rfl (by kernel_rfl) (by kernel_rfl) ?_
    simp only [Act.put, List.setIfInBounds_toArray, List.set_cons_zero, List.set_cons_succ]
    refine wpList_nil ?_
    go_wp2
    exact unhide HX _ _ rfl ⟨rfl, rfl, rfl, rfl, rfl, rfl, rfl, rfl, rfl, rfl, rfl, trivial⟩ (unhide Hbn2)
end Go.Proofs.YtlblllghgdfpoaaDoor
