import Derived.Test.YtlblllghgdfpoaaDoorJ40

namespace Go.Proofs.YtlblllghgdfpoaaDoor
open Go.RowKit
attribute [local go_sem ↓] Go.wp_at_zero Go.wp_at_succ

set_option maxRecDepth 100000 in
set_option maxHeartbeats 4000000 in
theorem p1_any {B : Nat} {W w : World} {K : Nat → Prop} {n : Nat} {p0 vL vW p5 p6 p7 p9 p11 : Value} {li : List Nat} {tm : Array Value} {X : Code} {Q : Exit → Act → World → Prop} {z : Value} (hq : QK B W K n w vL vW) (hA : ∀ w, Below B W w → Calls Tryd.prog 5 #[p6] w fun e w' => ∃ v', e = .returned (.tuple #[v', z]) ∧ Bytes w.heap.size w' v' li ∧ Below w.heap.size w w') (hi : Bytes B w p7 li) (hik : ∀ q, (p7).ownBlock = some q → K q) (hl : Byt li) (hll : li.length ≤ 67108864) (hn : n ≤ 100000000) (hsz : tm.size = 401) (hchk : chk tm [(0, p0), (3, vL), (4, vW), (5, p5), (6, p6), (7, p7), (9, p9), (11, p11)])
    (hX : ∀ (vL' vW' : Value) (w' : World) (tm' : Array Value), tm'.size = 401 → chk tm' [(0, p0), (3, vL'), (4, vW'), (5, p5), (6, p6), (7, p7), (9, p9), (11, p11)] → QK B W K (n + 2) w' vL' vW' → (∀ q, K q → w'.heap[q]? = w.heap[q]?) → w.heap.size ≤ w'.heap.size → X.wp Tryd.prog Q { tmps := tm', defers := [] } w') :
    (qq1 X).wp Tryd.prog Q { tmps := tm, defers := [] } w := by
  have HX := hide hX
  have HBe := hide hq.be
  have Hle := hide hq.le
  have HQ := hide hq
  have HA := hide hA
  have HL := hide (And.intro hl hll)
  have HN := hide hn
  have HI := hide hi
  have HK := hide hik
  clear hX hq hA hl hll hn hi hik
  obtain ⟨u, rfl⟩ := frame401 hsz
  obtain ⟨e0, e3, e4, e5, e6, e7, e9, e11, _⟩ := hchk
  replace e0 : u 0 = p0 := Option.some.inj e0
  replace e3 : u 3 = vL := Option.some.inj e3
  replace e4 : u 4 = vW := Option.some.inj e4
  replace e5 : u 5 = p5 := Option.some.inj e5
  replace e6 : u 6 = p6 := Option.some.inj e6
  replace e7 : u 7 = p7 := Option.some.inj e7
  replace e9 : u 9 = p9 := Option.some.inj e9
  replace e11 : u 11 = p11 := Option.some.inj e11
  rw [e0, e3, e4, e5, e6, e7, e9, e11]
  clear e0 e3 e4 e5 e6 e7 e9 e11
  unfold qq1
  dsimp only [tl, qRnd, qL1, hd, qBody, Tryd.f21]
  go_wp2_with fail
  refine (unhide HA _ (unhide HBe)).mono ?_
  rintro e wa ⟨va, rfl, hf, hb1⟩
  have HVa := hide hf
  have Hba := hide hb1
  have HB1 : Hid (Below B W wa) := (unhide HBe).trans (hb1.mono (unhide Hle))
  clear hf hb1
  go_wp2_with fail
  refine (unhide HA _ (unhide HB1)).mono ?_
  rintro e wb ⟨vb, rfl, hf, hb1⟩
  have HVb := hide hf
  have Hbb := hide hb1
  clear hf hb1 HA
  have HwB : Hid (Below w.heap.size w wb) := (unhide Hba).trans ((unhide Hbb).mono (unhide Hba).size)
  have Ht := hide ((unhide HQ).pair (unhide Hba) (unhide Hbb) (Below.refl _ _) (unhide HVa) (unhide HVb) (unhide HL).1 (unhide HL).2 ((unhide HI).upw2 (unhide HwB)).has (fun _ q e => .inl (unhide HK q e)) (unhide HN))
  go_wp2_with fail
  refine (unhide Ht).mono ?_
  rintro e w' ⟨vL2, vW2, rfl, h1, h2, h3⟩
  have H1 := hide h1
  have H2 := hide h2
  have H3 := hide h3
  clear h1 h2 h3 Ht HQ HVa HVb Hba Hbb HB1 HBe HL
  go_wp2
  exact unhide HX _ _ _ _ rfl ⟨rfl, rfl, rfl, rfl, rfl, rfl, rfl, rfl, trivial⟩ (unhide H1) (unhide H2) (unhide H3)
set_option maxRecDepth 100000 in
set_option maxHeartbeats 4000000 in
theorem p2_any {B : Nat} {W w : World} {K : Nat → Prop} {n : Nat} {p0 vL vW p5 p6 p7 p9 p11 : Value} {li : List Nat} {tm : Array Value} {X : Code} {Q : Exit → Act → World → Prop} {z : Value} (hq : QK B W K n w vL vW) (hA : ∀ w, Below B W w → Calls Tryd.prog 9 #[.string ⟨#[120]⟩, p6] w fun e w' => ∃ v', e = .returned (.tuple #[v', z]) ∧ Bytes w.heap.size w' v' li ∧ Below w.heap.size w w') (hi : Bytes B w p9 li) (hik : ∀ q, (p9).ownBlock = some q → K q) (hl : Byt li) (hll : li.length ≤ 67108864) (hn : n ≤ 100000000) (hsz : tm.size = 401) (hchk : chk tm [(0, p0), (3, vL), (4, vW), (5, p5), (6, p6), (7, p7), (9, p9), (11, p11)])
    (hX : ∀ (vL' vW' : Value) (w' : World) (tm' : Array Value), tm'.size = 401 → chk tm' [(0, p0), (3, vL'), (4, vW'), (5, p5), (6, p6), (7, p7), (9, p9), (11, p11)] → QK B W K (n + 2) w' vL' vW' → (∀ q, K q → w'.heap[q]? = w.heap[q]?) → w.heap.size ≤ w'.heap.size → X.wp Tryd.prog Q { tmps := tm', defers := [] } w') :
    (qq2 X).wp Tryd.prog Q { tmps := tm, defers := [] } w := by
  have HX := hide hX
  have HBe := hide hq.be
  have Hle := hide hq.le
  have HQ := hide hq
  have HA := hide hA
  have HL := hide (And.intro hl hll)
  have HN := hide hn
  have HI := hide hi
  have HK := hide hik
  clear hX hq hA hl hll hn hi hik
  obtain ⟨u, rfl⟩ := frame401 hsz
  obtain ⟨e0, e3, e4, e5, e6, e7, e9, e11, _⟩ := hchk
  replace e0 : u 0 = p0 := Option.some.inj e0
  replace e3 : u 3 = vL := Option.some.inj e3
  replace e4 : u 4 = vW := Option.some.inj e4
  replace e5 : u 5 = p5 := Option.some.inj e5
  replace e6 : u 6 = p6 := Option.some.inj e6
  replace e7 : u 7 = p7 := Option.some.inj e7
  replace e9 : u 9 = p9 := Option.some.inj e9
  replace e11 : u 11 = p11 := Option.some.inj e11
  rw [e0, e3, e4, e5, e6, e7, e9, e11]
  clear e0 e3 e4 e5 e6 e7 e9 e11
  unfold qq2
  dsimp only [tl, qRnd, qL1, hd, qBody, Tryd.f21]
  go_wp2_with fail
  refine (unhide HA _ (unhide HBe)).mono ?_
  rintro e wa ⟨va, rfl, hf, hb1⟩
  have HVa := hide hf
  have Hba := hide hb1
  have HB1 : Hid (Below B W wa) := (unhide HBe).trans (hb1.mono (unhide Hle))
  clear hf hb1
  go_wp2_with fail
  refine (unhide HA _ (unhide HB1)).mono ?_
  rintro e wb ⟨vb, rfl, hf, hb1⟩
  have HVb := hide hf
  have Hbb := hide hb1
  clear hf hb1 HA
  have HwB : Hid (Below w.heap.size w wb) := (unhide Hba).trans ((unhide Hbb).mono (unhide Hba).size)
  have Ht := hide ((unhide HQ).pair (unhide Hba) (unhide Hbb) (Below.refl _ _) (unhide HVa) (unhide HVb) (unhide HL).1 (unhide HL).2 ((unhide HI).upw2 (unhide HwB)).has (fun _ q e => .inl (unhide HK q e)) (unhide HN))
  go_wp2_with fail
  refine (unhide Ht).mono ?_
  rintro e w' ⟨vL2, vW2, rfl, h1, h2, h3⟩
  have H1 := hide h1
  have H2 := hide h2
  have H3 := hide h3
  clear h1 h2 h3 Ht HQ HVa HVb Hba Hbb HB1 HBe HL
  go_wp2
  exact unhide HX _ _ _ _ rfl ⟨rfl, rfl, rfl, rfl, rfl, rfl, rfl, rfl, trivial⟩ (unhide H1) (unhide H2) (unhide H3)
set_option maxRecDepth 100000 in
set_option maxHeartbeats 4000000 in
theorem p3_any {B : Nat} {W w : World} {K : Nat → Prop} {n : Nat} {p0 vL vW p5 p6 p7 p9 p11 : Value} {li : List Nat} {tm : Array Value} {X : Code} {Q : Exit → Act → World → Prop} {z : Value} (hq : QK B W K n w vL vW) (hA : ∀ w, Below B W w → Calls Tryd.prog 10 #[p6] w fun e w' => ∃ v', e = .returned (.tuple #[v', z]) ∧ Bytes w.heap.size w' v' li ∧ Below w.heap.size w w') (hi : Bytes B w p11 li) (hik : ∀ q, (p11).ownBlock = some q → K q) (hl : Byt li) (hll : li.length ≤ 67108864) (hn : n ≤ 100000000) (hsz : tm.size = 401) (hchk : chk tm [(0, p0), (3, vL), (4, vW), (5, p5), (6, p6), (7, p7), (9, p9), (11, p11)])
    (hX : ∀ (vL' vW' : Value) (w' : World) (tm' : Array Value), tm'.size = 401 → chk tm' [(0, p0), (3, vL'), (4, vW'), (5, p5), (6, p6), (7, p7), (9, p9), (11, p11)] → QK B W K (n + 2) w' vL' vW' → (∀ q, K q → w'.heap[q]? = w.heap[q]?) → w.heap.size ≤ w'.heap.size → X.wp Tryd.prog Q { tmps := tm', defers := [] } w') :
    (qq3 X).wp Tryd.prog Q { tmps := tm, defers := [] } w := by
  have HX := hide hX
  have HBe := hide hq.be
  have Hle := hide hq.le
  have HQ := hide hq
  have HA := hide hA
  have HL := hide (And.intro hl hll)
  have HN := hide hn
  have HI := hide hi
  have HK := hide hik
  clear hX hq hA hl hll hn hi hik
  obtain ⟨u, rfl⟩ := frame401 hsz
  obtain ⟨e0, e3, e4, e5, e6, e7, e9, e11, _⟩ := hchk
  replace e0 : u 0 = p0 := Option.some.inj e0
  replace e3 : u 3 = vL := Option.some.inj e3
  replace e4 : u 4 = vW := Option.some.inj e4
  replace e5 : u 5 = p5 := Option.some.inj e5
  replace e6 : u 6 = p6 := Option.some.inj e6
  replace e7 : u 7 = p7 := Option.some.inj e7
  replace e9 : u 9 = p9 := Option.some.inj e9
  replace e11 : u 11 = p11 := Option.some.inj e11
  rw [e0, e3, e4, e5, e6, e7, e9, e11]
  clear e0 e3 e4 e5 e6 e7 e9 e11
  unfold qq3
  dsimp only [tl, qRnd, qL1, hd, qBody, Tryd.f21]
  go_wp2_with fail
  refine (unhide HA _ (unhide HBe)).mono ?_
  rintro e wa ⟨va, rfl, hf, hb1⟩
  have HVa := hide hf
  have Hba := hide hb1
  have HB1 : Hid (Below B W wa) := (unhide HBe).trans (hb1.mono (unhide Hle))
  clear hf hb1
  go_wp2_with fail
  refine (unhide HA _ (unhide HB1)).mono ?_
  rintro e wb ⟨vb, rfl, hf, hb1⟩
  have HVb := hide hf
  have Hbb := hide hb1
  clear hf hb1 HA
  have HwB : Hid (Below w.heap.size w wb) := (unhide Hba).trans ((unhide Hbb).mono (unhide Hba).size)
  have Ht := hide ((unhide HQ).pair (unhide Hba) (unhide Hbb) (Below.refl _ _) (unhide HVa) (unhide HVb) (unhide HL).1 (unhide HL).2 ((unhide HI).upw2 (unhide HwB)).has (fun _ q e => .inl (unhide HK q e)) (unhide HN))
  go_wp2_with fail
  refine (unhide Ht).mono ?_
  rintro e w' ⟨vL2, vW2, rfl, h1, h2, h3⟩
  have H1 := hide h1
  have H2 := hide h2
  have H3 := hide h3
  clear h1 h2 h3 Ht HQ HVa HVb Hba Hbb HB1 HBe HL
  go_wp2
  exact unhide HX _ _ _ _ rfl ⟨rfl, rfl, rfl, rfl, rfl, rfl, rfl, rfl, trivial⟩ (unhide H1) (unhide H2) (unhide H3)
set_option maxRecDepth 100000 in
set_option maxHeartbeats 4000000 in
theorem p4_any {B : Nat} {W w : World} {K : Nat → Prop} {n : Nat} {p0 vL vW p5 p6 p7 p9 p11 : Value} {li : List Nat} {tm : Array Value} {X : Code} {Q : Exit → Act → World → Prop} {fl : List Nat} (hq : QK B W K n w vL vW) (hA : ∀ w, Below B W w → HasB w p7 fl → Calls Tryd.prog 11 #[p7] w fun e w' => ∃ v', e = .returned v' ∧ Bytes w.heap.size w' v' li ∧ Below w.heap.size w w') (hU : ∀ w, Below B W w → HasB w p7 fl → Calls Tryd.prog 43 #[p7] w fun e w' => ∃ v', e = .returned v' ∧ Bytes w.heap.size w' v' li ∧ Below w.heap.size w w') (hF : Bytes B w p7 fl) (hl : Byt li) (hll : li.length ≤ 67108864) (hn : n ≤ 100000000) (hsz : tm.size = 401) (hchk : chk tm [(0, p0), (3, vL), (4, vW), (5, p5), (6, p6), (7, p7), (9, p9), (11, p11)])
    (hX : ∀ (vL' vW' : Value) (w' : World) (tm' : Array Value), tm'.size = 401 → chk tm' [(0, p0), (3, vL'), (4, vW'), (5, p5), (6, p6), (7, p7), (9, p9), (11, p11)] → QK B W K (n + 2) w' vL' vW' → (∀ q, K q → w'.heap[q]? = w.heap[q]?) → w.heap.size ≤ w'.heap.size → X.wp Tryd.prog Q { tmps := tm', defers := [] } w') :
    (qq4 X).wp Tryd.prog Q { tmps := tm, defers := [] } w := by
  have HX := hide hX
  have HBe := hide hq.be
  have Hle := hide hq.le
  have HQ := hide hq
  have HA := hide hA
  have HL := hide (And.intro hl hll)
  have HN := hide hn
  have HU := hide hU
  have HF := hide hF
  clear hX hq hA hl hll hn hU hF
  obtain ⟨u, rfl⟩ := frame401 hsz
  obtain ⟨e0, e3, e4, e5, e6, e7, e9, e11, _⟩ := hchk
  replace e0 : u 0 = p0 := Option.some.inj e0
  replace e3 : u 3 = vL := Option.some.inj e3
  replace e4 : u 4 = vW := Option.some.inj e4
  replace e5 : u 5 = p5 := Option.some.inj e5
  replace e6 : u 6 = p6 := Option.some.inj e6
  replace e7 : u 7 = p7 := Option.some.inj e7
  replace e9 : u 9 = p9 := Option.some.inj e9
  replace e11 : u 11 = p11 := Option.some.inj e11
  rw [e0, e3, e4, e5, e6, e7, e9, e11]
  clear e0 e3 e4 e5 e6 e7 e9 e11
  unfold qq4
  dsimp only [tl, qRnd, qL1, hd, qBody, Tryd.f21]
  go_wp2_with fail
  refine (unhide HA _ (unhide HBe) (unhide HF).has).mono ?_
  rintro e wa ⟨va, rfl, hf, hb1⟩
  have HVa := hide hf
  have Hba := hide hb1
  have HB1 : Hid (Below B W wa) := (unhide HBe).trans (hb1.mono (unhide Hle))
  clear hf hb1
  go_wp2_with fail
  refine (unhide HA _ (unhide HB1) ((unhide HF).upw2 (unhide Hba)).has).mono ?_
  rintro e wb ⟨vb, rfl, hf, hb1⟩
  have HVb := hide hf
  have Hbb := hide hb1
  clear hf hb1 HA
  have HwB : Hid (Below w.heap.size w wb) := (unhide Hba).trans ((unhide Hbb).mono (unhide Hba).size)
  have HB2 : Hid (Below B W wb) := (unhide HB1).trans ((unhide Hbb).mono (Nat.le_trans (unhide Hle) (unhide Hba).size))
  go_wp2_with fail
  refine (unhide HU _ (unhide HB2) ((unhide HF).upw2 (unhide HwB)).has).mono ?_
  rintro e wc ⟨vs, rfl, hf, hb1⟩
  have Ht := hide ((unhide HQ).pair (unhide Hba) (unhide Hbb) hb1 (unhide HVa) (unhide HVb) (unhide HL).1 (unhide HL).2 hf.has (fun _ q e => .inr (.inr (World.ownsRow.lt hf q e))) (unhide HN))
  clear hf hb1
  go_wp2_with fail
  refine (unhide Ht).mono ?_
  rintro e w' ⟨vL2, vW2, rfl, h1, h2, h3⟩
  have H1 := hide h1
  have H2 := hide h2
  have H3 := hide h3
  clear h1 h2 h3 Ht HQ HVa HVb Hba Hbb HB1 HBe HL
  go_wp2
  exact unhide HX _ _ _ _ rfl ⟨rfl, rfl, rfl, rfl, rfl, rfl, rfl, rfl, trivial⟩ (unhide H1) (unhide H2) (unhide H3)
set_option maxRecDepth 100000 in
set_option maxHeartbeats 4000000 in
theorem p5_any {B : Nat} {W w : World} {K : Nat → Prop} {n : Nat} {p0 vL vW p5 p6 p7 p9 p11 : Value} {li : List Nat} {tm : Array Value} {X : Code} {Q : Exit → Act → World → Prop} {z : Value} (hq : QK B W K n w vL vW) (hA : ∀ w, Below B W w → Calls Tryd.prog 14 #[.string ⟨#[48, 48, 102, 102, 49, 55, 48, 48]⟩] w fun e w' => ∃ v', e = .returned (.tuple #[v', z]) ∧ Bytes w.heap.size w' v' li ∧ Below w.heap.size w w') (hl : Byt li) (hll : li.length ≤ 67108864) (hn : n ≤ 100000000) (hli : li = [0, 255, 23, 0]) (hsz : tm.size = 401) (hchk : chk tm [(0, p0), (3, vL), (4, vW), (5, p5), (6, p6), (7, p7), (9, p9), (11, p11)])
    (hX : ∀ (vL' vW' : Value) (w' : World) (tm' : Array Value), tm'.size = 401 → chk tm' [(0, p0), (3, vL'), (4, vW'), (5, p5), (6, p6), (7, p7), (9, p9), (11, p11)] → QK B W K (n + 2) w' vL' vW' → (∀ q, K q → w'.heap[q]? = w.heap[q]?) → w.heap.size ≤ w'.heap.size → X.wp Tryd.prog Q { tmps := tm', defers := [] } w') :
    (qq5 X).wp Tryd.prog Q { tmps := tm, defers := [] } w := by
  have HX := hide hX
  have HBe := hide hq.be
  have Hle := hide hq.le
  have HQ := hide hq
  have HA := hide hA
  have HL := hide (And.intro hl hll)
  have HN := hide hn
  clear hX hq hA hl hll hn
  obtain ⟨u, rfl⟩ := frame401 hsz
  obtain ⟨e0, e3, e4, e5, e6, e7, e9, e11, _⟩ := hchk
  replace e0 : u 0 = p0 := Option.some.inj e0
  replace e3 : u 3 = vL := Option.some.inj e3
  replace e4 : u 4 = vW := Option.some.inj e4
  replace e5 : u 5 = p5 := Option.some.inj e5
  replace e6 : u 6 = p6 := Option.some.inj e6
  replace e7 : u 7 = p7 := Option.some.inj e7
  replace e9 : u 9 = p9 := Option.some.inj e9
  replace e11 : u 11 = p11 := Option.some.inj e11
  rw [e0, e3, e4, e5, e6, e7, e9, e11]
  clear e0 e3 e4 e5 e6 e7 e9 e11
  unfold qq5
  dsimp only [tl, qRnd, qL1, hd, qBody, Tryd.f21]
  go_wp2_with fail
  refine (unhide HA _ (unhide HBe)).mono ?_
  rintro e wa ⟨va, rfl, hf, hb1⟩
  have HVa := hide hf
  have Hba := hide hb1
  have HB1 : Hid (Below B W wa) := (unhide HBe).trans (hb1.mono (unhide Hle))
  clear hf hb1
  go_wp2_with fail
  refine (unhide HA _ (unhide HB1)).mono ?_
  rintro e wb ⟨vb, rfl, hf, hb1⟩
  have HVb := hide hf
  have Hbb := hide hb1
  clear hf hb1 HA
  have Ht := hide ((unhide HQ).pair (is := .slice (some ⟨wb.heap.size, 0, none⟩) 4 4) (wc := (wb.alloc (.cells #[.int .u8 0, .int .u8 255, .int .u8 23, .int .u8 0] 5))) (unhide Hba) (unhide Hbb) ((Below.refl _ _).alloc (Nat.le_refl _) _) (unhide HVa) (unhide HVb) (unhide HL).1 (unhide HL).2 (by rw [hli]; exact hasB_lit4 _) (fun _ q e => .inr (.inr (by have e2 : wb.heap.size = q := Option.some.inj e; rw [World.size_alloc]; omega))) (unhide HN))
  clear hli
  go_wp2_with fail
  refine (unhide Ht).mono ?_
  rintro e w' ⟨vL2, vW2, rfl, h1, h2, h3⟩
  have H1 := hide h1
  have H2 := hide h2
  have H3 := hide h3
  clear h1 h2 h3 Ht HQ HVa HVb Hba Hbb HB1 HBe HL
  go_wp2
  exact unhide HX _ _ _ _ rfl ⟨rfl, rfl, rfl, rfl, rfl, rfl, rfl, rfl, trivial⟩ (unhide H1) (unhide H2) (unhide H3)
end Go.Proofs.YtlblllghgdfpoaaDoor
