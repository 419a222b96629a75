import Derived.Test.YtadmamfekodkaaaDoorHsC

namespace Go.Proofs.YtadmamfekodkaaaDoor
open Go.RowKit
attribute [local go_sem ↓] Go.wp_at_zero Go.wp_at_succ

/-- Between two lists that are appended to. -/
def CK (W : World) (B N : Nat) (v5 : Value) (ys : List (Value × List Value)) (C : Value → Nat → List (Nat × Value)) (m : Nat) (a : Act) (w : World) : Prop := ∃ (tm : Array Value) (i : Nat) (v6 : Value) (ms : List Value), a = ⟨tm, []⟩ ∧ tm.size = 233 ∧ chk tm (C v6 i) ∧ m = N - i ∧ i ≤ N ∧ ms.length = i ∧ Al B w v5 ys ∧ Mz B w v5 v6 ys ms ∧ Below B W w
set_option maxRecDepth 100000 in
set_option maxHeartbeats 4000000 in
theorem oC_any {W : World} {B N g5 c5 : Nat} {p0 : Value} {ys : List (Value × List Value)} (hA : Al B W (.slice (some ⟨g5, 0, none⟩) N c5) ys) (hyl : ys.length = N) (hn : N ≤ 9000) (hBW : B ≤ W.heap.size)
    {tm : Array Value} (hsz : tm.size = 233) (hchk : chk tm [(0, p0), (5, .slice (some ⟨g5, 0, none⟩) N c5), (6, .slice none 0 0)]) {Q : Exit → Act → World → Prop}
    (hQ : ∀ W' v6 ms, Al B W' (.slice (some ⟨g5, 0, none⟩) N c5) ys → Mz B W' (.slice (some ⟨g5, 0, none⟩) N c5) v6 ys ms → ms.length = N → Below B W W' → ∀ tm : Array Value, tm.size = 233 → chk tm [(0, p0), (5, .slice (some ⟨g5, 0, none⟩) N c5), (6, v6)] → Q .normal { tmps := tm, defers := [] } W') :
    kC.wp Tryd.prog Q { tmps := tm, defers := [] } W := by
  have HIN : Hid (∀ (i : Nat) (w : World) (v6 : Value) (ms : List Value) (y : Value × List Value), Al B w (.slice (some ⟨g5, 0, none⟩) N c5) ys → Mz B w (.slice (some ⟨g5, 0, none⟩) N c5) v6 ys ms → ys[i]? = some y → ms.length = i → B ≤ w.heap.size → ∀ (tm : Array Value), tm.size = 233 → chk tm [(0, p0), (5, .slice (some ⟨g5, 0, none⟩) N c5), (6, v6), (17, .int .i64 (i : Int))] → ∀ (Q : Exit → Act → World → Prop), (∀ W' v6' gv, Al B W' (.slice (some ⟨g5, 0, none⟩) N c5) ys → Mz B W' (.slice (some ⟨g5, 0, none⟩) N c5) v6' ys (ms ++ [gv]) → Below B w W' → ∀ tm : Array Value, tm.size = 233 → chk tm [(0, p0), (5, .slice (some ⟨g5, 0, none⟩) N c5), (6, v6'), (17, .int .i64 (i : Int))] → Q .normal { tmps := tm, defers := [] } W') → (ckOne kC).wp Tryd.prog Q { tmps := tm, defers := [] } w) := fun i w v6 ms y h1 h2 h3 h4 h5 tm h6 h7 Q h8 => inC_any h1 h2 h3 h4 (by omega) h5 h6 h7 h8
  have HQ := hide hQ
  have HA := hide hA
  have Hyl := hide hyl
  obtain ⟨u, rfl⟩ := frame233 hsz
  obtain ⟨e0, e5, e6, _⟩ := hchk
  replace e0 : u 0 = p0 := Option.some.inj e0
  replace e5 : u 5 = .slice (some ⟨g5, 0, none⟩) N c5 := Option.some.inj e5
  replace e6 : u 6 = .slice none 0 0 := Option.some.inj e6
  rw [e0, e5, e6]
  clear e0 e5 e6
  clear hQ hA hyl
  rw [kC_split]
  obtain ⟨t, ht⟩ : ∃ t, ckOne kC = t := ⟨_, rfl⟩
  rw [ht]
  unfold ckWith kC kBody
  dsimp only [Tryd.f6]
  go_wp2
  refine wp_loop_count (CK W B N (.slice (some ⟨g5, 0, none⟩) N c5) ys (fun v6 i => [(0, p0), (5, .slice (some ⟨g5, 0, none⟩) N c5), (6, v6), (17, .int .i64 (i : Int))])) ?_ N _ _ ⟨_, 0, _, [], rfl, rfl, ⟨rfl, rfl, rfl, rfl, trivial⟩, rfl, Nat.zero_le _, rfl, unhide HA, Mz.start, Below.refl _ _⟩
  clear HA
  rintro m _ wr ⟨tm, i, v6, ms, rfl, hsz, hchk, hm, hi, hml, hA, hM, hB⟩
  obtain ⟨x, rfl⟩ := frame233 hsz
  obtain ⟨e0, e5, e6, e17, _⟩ := hchk
  replace e0 : x 0 = p0 := Option.some.inj e0
  replace e5 : x 5 = .slice (some ⟨g5, 0, none⟩) N c5 := Option.some.inj e5
  replace e6 : x 6 = v6 := Option.some.inj e6
  replace e17 : x 17 = .int .i64 (i : Int) := Option.some.inj e17
  rw [e0, e5, e6, e17]
  clear e0 e5 e6 e17
  have Hm := hide hm
  have HA := hide hA
  have HM := hide hM
  have HB := hide hB
  have Hml := hide hml
  clear hm hA hM hB hml
  by_cases hlt : i < N
  · have k1 : (i : Int) < (N : Int) := by omega
    obtain ⟨y, hy⟩ : ∃ y, ys[i]? = some y := ⟨_, List.getElem?_eq_getElem (by have := unhide Hyl; omega)⟩
    have Hy := hide hy
    clear hy
    go_wp2
    rw [← ht]
    refine unhide HIN i wr v6 ms y (unhide HA) (unhide HM) (unhide Hy) (unhide Hml) (Nat.le_trans hBW (unhide HB).size) _ rfl ⟨rfl, rfl, rfl, rfl, trivial⟩ _ ?_
    intro W' v6' gv r1 r2 r3 tm hsz hchk
    have R1 := hide r1
    have R2 := hide r2
    have HB' := hide ((unhide HB).trans r3)
    clear r1 r2 r3
    obtain ⟨zz, rfl⟩ := frame233 hsz
    obtain ⟨e0, e5, e6, e17, _⟩ := hchk
    replace e0 : zz 0 = p0 := Option.some.inj e0
    replace e5 : zz 5 = .slice (some ⟨g5, 0, none⟩) N c5 := Option.some.inj e5
    replace e6 : zz 6 = v6' := Option.some.inj e6
    replace e17 : zz 17 = .int .i64 (i : Int) := Option.some.inj e17
    rw [e0, e5, e6, e17]
    clear e0 e5 e6 e17
    go_wp2
    exact ⟨N - (i + 1), by have := unhide Hm; omega, _, i + 1, _, ms ++ [gv], rfl, rfl, ⟨rfl, rfl, rfl, (by first | rfl | (congr 1; go_num) | (simp; go_num)), trivial⟩, rfl, by omega, by rw [List.length_append, unhide Hml]; rfl, unhide R1, unhide R2, unhide HB'⟩
  · obtain rfl : i = N := by omega
    have k1 : ¬ (i : Int) < (i : Int) := by omega
    go_wp2
    exact unhide HQ _ _ ms (unhide HA) (unhide HM) (unhide Hml) (unhide HB) _ rfl ⟨rfl, rfl, rfl, trivial⟩
/-- Between two looks. -/
def DJ (W : World) (M : Nat) (C : Nat → List (Nat × Value)) (m : Nat) (a : Act) (w : World) : Prop := ∃ (tm : Array Value) (j : Nat), a = ⟨tm, []⟩ ∧ tm.size = 233 ∧ chk tm (C j) ∧ m = M - j ∧ j ≤ M ∧ Below W.heap.size W w
theorem lt_of_cell {w : World} {b i : Nat} {v : Value} (h : w.cell? ⟨b, i, none⟩ = some v) : b < w.heap.size := World.block_lt_of_cell? w _ h
set_option maxRecDepth 100000 in
set_option maxHeartbeats 16000000 in
theorem inD_any {W : World} {B N g5 c5 g6 c6 i : Nat} {p0 : Value} {ys : List (Value × List Value)} {ms : List Value} {y : Value × List Value} (hA : Al B W (.slice (some ⟨g5, 0, none⟩) N c5) ys) (hM : Mz B W (.slice (some ⟨g5, 0, none⟩) N c5) (.slice (some ⟨g6, 0, none⟩) N c6) ys ms) (hy : ys[i]? = some y) (hyk : y.2 = List.replicate y.2.length (keptV i)) (hyl : ys.length = N) (hml : ms.length = N) (hn : N ≤ 9000)
    {tm : Array Value} (hsz : tm.size = 233) (hchk : chk tm [(0, p0), (5, .slice (some ⟨g5, 0, none⟩) N c5), (6, .slice (some ⟨g6, 0, none⟩) N c6), (20, .int .i64 (i : Int))]) {Q : Exit → Act → World → Prop}
    (hQ : ∀ W', Below W.heap.size W W' → ∀ tm : Array Value, tm.size = 233 → chk tm [(0, p0), (5, .slice (some ⟨g5, 0, none⟩) N c5), (6, .slice (some ⟨g6, 0, none⟩) N c6), (20, .int .i64 (i : Int))] → Q .normal { tmps := tm, defers := [] } W') :
    (ckOne kD).wp Tryd.prog Q { tmps := tm, defers := [] } W := by
  have hil : i < ys.length := (List.getElem?_eq_some_iff.1 hy).1
  obtain ⟨yv, ks⟩ := y
  obtain ⟨hr, hks⟩ := hA.each _ (List.mem_of_getElem? hy)
  obtain ⟨mv, hmv⟩ : ∃ m, ms[i]? = some m := ⟨_, List.getElem?_eq_getElem (by omega)⟩
  have hrm := hM.each i mv _ hmv hy
  simp only at hr hks hrm hyk
  obtain ⟨n, hnn⟩ : ∃ n, ks.length = n := ⟨_, rfl⟩
  rw [hnn] at hyk hks
  subst hyk
  have c5a := hA.cell' hy
  simp only at c5a
  obtain ⟨ay, cy, rfl⟩ := hr.form
  rw [List.length_replicate] at c5a
  have hrl : (List.replicate n (keptV i) ++ moreL i 71).length = n + 71 := by rw [List.length_append, List.length_replicate, moreL_len]
  have c6a : W.cell? ⟨g6, i, none⟩ = some mv := by
    have h1 := hM.row
    obtain ⟨p1, ⟨q, h0⟩ | ⟨g, cap, cur, q, h2, h3⟩⟩ := id h1
    · cases q
    · cases q
      have hc := World.ownsRow.cellAt h1 i (by omega)
      rw [hmv] at hc
      exact hc
  obtain ⟨gm, cm, rfl, -⟩ := hrm.at' (i := n) (x := moreV i) (by rw [List.getElem?_append_right (by simp)]; simp [moreL])
  rw [hrl] at c6a
  obtain ⟨M, hMM⟩ : ∃ M, n + 71 = M := ⟨_, rfl⟩
  rw [hMM] at c6a
  obtain ⟨mi, hmi⟩ : ∃ m, mkS i = m := ⟨_, rfl⟩
  have hms : mi.size ≤ 9001 := by rw [← hmi]; have := mkS_size i; omega
  have n1 : ¬ 9223372036854775807 < 5 + mi.size := by omega
  have HMk : Hid (∀ w, Calls Tryd.prog 12 #[.int .i64 (i : Int)] w fun e w' => e = .returned (.string mi) ∧ Below w.heap.size w w') := fun w => by
    rw [← hmi]
    exact marked_any i (by omega) w
  have HKc : Hid (∀ j, j < n → ∃ gy, ay = some ⟨gy, 0, none⟩ ∧ W.cell? ⟨gy, j, none⟩ = some (.string (⟨#[107, 101, 112, 116, 32]⟩ ++ mi))) := fun j hj => by
    obtain ⟨gy, c', e, hc⟩ := hr.at' (i := j) (x := keptV i) (by rw [List.getElem?_replicate, if_pos hj])
    cases e
    refine ⟨gy, rfl, ?_⟩
    rw [hc, ← hmi]
    rfl
  have HLc : Hid (∀ j, j < n → W.cell? ⟨gm, j, none⟩ = some (.string (⟨#[107, 101, 112, 116, 32]⟩ ++ mi))) := fun j hj => by
    obtain ⟨g', c', e, hc⟩ := hrm.at' (i := j) (x := keptV i) (by rw [List.getElem?_append_left (by simpa using hj), List.getElem?_replicate, if_pos hj])
    cases e
    rw [hc, ← hmi]
    rfl
  have HLm : Hid (∀ j, ¬ j < n → j < M → W.cell? ⟨gm, j, none⟩ = some (.string (⟨#[109, 111, 114, 101, 32]⟩ ++ mi))) := fun j hj hj2 => by
    obtain ⟨g', c', e, hc⟩ := hrm.at' (i := j) (x := moreV i) (by rw [List.getElem?_append_right (by simpa using hj), moreL, List.getElem?_replicate, if_pos (by rw [List.length_replicate]; omega)])
    cases e
    rw [hc, ← hmi]
    rfl
  have HQ := hide hQ
  have HMM := hide hMM
  have C5 := hide c5a
  have C6 := hide c6a
  have k0 : (0 : Int) ≤ (i : Int) := Int.natCast_nonneg _
  have k1 : (i : Int) < (N : Int) := by omega
  rw [List.length_replicate] at hr
  obtain ⟨u, rfl⟩ := frame233 hsz
  obtain ⟨e0, e5, e6, e20, _⟩ := hchk
  replace e0 : u 0 = p0 := Option.some.inj e0
  replace e5 : u 5 = .slice (some ⟨g5, 0, none⟩) N c5 := Option.some.inj e5
  replace e6 : u 6 = .slice (some ⟨g6, 0, none⟩) N c6 := Option.some.inj e6
  replace e20 : u 20 = .int .i64 (i : Int) := Option.some.inj e20
  rw [e0, e5, e6, e20]
  clear e0 e5 e6 e20
  clear hQ hA hM hy hyl hml hr hrm hrl hmv hMM hmi hms hnn c6a hil
  unfold ckOne kD kBody
  dsimp only [Tryd.f6]
  go_wp2
  refine wp_loop_count (DJ W M (fun j => [(0, p0), (5, .slice (some ⟨g5, 0, none⟩) N c5), (6, .slice (some ⟨g6, 0, none⟩) N c6), (20, .int .i64 (i : Int)), (21, .int .i64 (n : Int)), (22, .int .i64 (j : Int))])) ?_ M _ _ ⟨_, 0, rfl, rfl, ⟨rfl, rfl, rfl, rfl, rfl, rfl, trivial⟩, rfl, Nat.zero_le _, Below.refl _ _⟩
  clear c5a
  rintro m _ wr ⟨tm, j, rfl, hsz, hchk, hm, hj, hB⟩
  obtain ⟨x, rfl⟩ := frame233 hsz
  obtain ⟨e0, e5, e6, e20, e21, e22, _⟩ := hchk
  replace e0 : x 0 = p0 := Option.some.inj e0
  replace e5 : x 5 = .slice (some ⟨g5, 0, none⟩) N c5 := Option.some.inj e5
  replace e6 : x 6 = .slice (some ⟨g6, 0, none⟩) N c6 := Option.some.inj e6
  replace e20 : x 20 = .int .i64 (i : Int) := Option.some.inj e20
  replace e21 : x 21 = .int .i64 (n : Int) := Option.some.inj e21
  replace e22 : x 22 = .int .i64 (j : Int) := Option.some.inj e22
  rw [e0, e5, e6, e20, e21, e22]
  clear e0 e5 e6 e20 e21 e22
  have Hm := hide hm
  have HB := hide hB
  have c5b := (hB.cell (p := ⟨g5, i, none⟩) (lt_of_cell (unhide C5))).trans (unhide C5)
  have c6b := (hB.cell (p := ⟨g6, i, none⟩) (lt_of_cell (unhide C6))).trans (unhide C6)
  clear hm hB
  by_cases hlt : j < M
  · have q0 : (0 : Int) ≤ (j : Int) := Int.natCast_nonneg _
    have q1 : (j : Int) < (M : Int) := by omega
    have hM7 : M ≤ 70100 := by have := unhide HMM; omega
    by_cases hjn : j < n
    · obtain ⟨gy, rfl, cya⟩ := unhide HKc j hjn
      have cyb := ((unhide HB).cell (p := ⟨gy, j, none⟩) (lt_of_cell cya)).trans cya
      have cma := unhide HLc j hjn
      have cmb := ((unhide HB).cell (p := ⟨gm, j, none⟩) (lt_of_cell cma)).trans cma
      have q2 : (j : Int) < (n : Int) := by omega
      have q3 : ¬ (n : Int) ≤ (j : Int) := by omega
      have q4 : decide ((j : Int) < (n : Int)) = true := by simp; omega
      have q5 : decide ((n : Int) ≤ (j : Int)) = false := by simp; omega
      clear cya cma hjn
      go_upto_region 40 with fail
      refine wp_region_noPanic ?_
      refine wp_region_any (by kernel_rfl) ?_
      try (change wpAny _ _ _ _ _ _ _ (World.drew _))
      have hdr : Below wr.heap.size wr wr.drew := below_drewN (Below.refl _ _) 1
      have HBd := hide ((unhide HB).trans (hdr.mono (unhide HB).size))
      have c5d := (hdr.cell (p := ⟨g5, i, none⟩) (lt_of_cell c5b)).trans c5b
      have c6d := (hdr.cell (p := ⟨g6, i, none⟩) (lt_of_cell c6b)).trans c6b
      have cyd := (hdr.cell (p := ⟨gy, j, none⟩) (lt_of_cell cyb)).trans cyb
      have cmd := (hdr.cell (p := ⟨gm, j, none⟩) (lt_of_cell cmb)).trans cmb
      clear c5b c6b cyb cmb
      obtain ⟨wd, hwd⟩ : ∃ x, wr.drew = x := ⟨_, rfl⟩
      rw [hwd] at HBd c5d c6d cyd cmd ⊢
      clear hwd hdr HB
      refine wpAny_of_Z (z := 99) (T := fun w' => w'.cell? ⟨g5, i, none⟩ = some (.slice (some ⟨gy, 0, none⟩) n cy) ∧ w'.cell? ⟨g6, i, none⟩ = some (.slice (some ⟨gm, 0, none⟩) M cm) ∧ w'.cell? ⟨gy, j, none⟩ = some (.string (⟨#[107, 101, 112, 116, 32]⟩ ++ mi)) ∧ w'.cell? ⟨gm, j, none⟩ = some (.string (⟨#[107, 101, 112, 116, 32]⟩ ++ mi))) _ _ _ _ ?_
      have hT : (fun w' : World => w'.cell? ⟨g5, i, none⟩ = some (.slice (some ⟨gy, 0, none⟩) n cy) ∧ w'.cell? ⟨g6, i, none⟩ = some (.slice (some ⟨gm, 0, none⟩) M cm) ∧ w'.cell? ⟨gy, j, none⟩ = some (.string (⟨#[107, 101, 112, 116, 32]⟩ ++ mi)) ∧ w'.cell? ⟨gm, j, none⟩ = some (.string (⟨#[107, 101, 112, 116, 32]⟩ ++ mi))) wd := ⟨c5d, c6d, cyd, cmd⟩
      refine wpAnyZ_tk 0 (.int .i64 (j : Int)) 184 rfl rfl (Or.inl ⟨by rfl, fun w' hw => by obtain ⟨t0, t1, t2, t3⟩ := hw; go_simp⟩) hT ?_
      simp only [Act.put, List.setIfInBounds_toArray, List.set_cons_zero, List.set_cons_succ]
      refine wpAnyZ_tk 1 (.int .i64 (n : Int)) 185 rfl rfl (Or.inl ⟨by rfl, fun w' hw => by obtain ⟨t0, t1, t2, t3⟩ := hw; go_simp⟩) hT ?_
      simp only [Act.put, List.setIfInBounds_toArray, List.set_cons_zero, List.set_cons_succ]
      refine wpAnyZ_tk 2 (.bool true) 186 rfl rfl (Or.inl ⟨by rfl, fun w' hw => by obtain ⟨t0, t1, t2, t3⟩ := hw; go_simp⟩) hT ?_
      simp only [Act.put, List.setIfInBounds_toArray, List.set_cons_zero, List.set_cons_succ]
      refine wpAnyZ_tk 3 (.bool true) 187 rfl rfl (Or.inl ⟨by rfl, fun w' hw => by obtain ⟨t0, t1, t2, t3⟩ := hw; go_simp⟩) hT ?_
      simp only [Act.put, List.setIfInBounds_toArray, List.set_cons_zero, List.set_cons_succ]
      refine wpAnyZ_tk 4 (.slice (some ⟨g5, 0, none⟩) N c5) 188 rfl rfl (Or.inl ⟨by rfl, fun w' hw => by obtain ⟨t0, t1, t2, t3⟩ := hw; go_simp⟩) hT ?_
      simp only [Act.put, List.setIfInBounds_toArray, List.set_cons_zero, List.set_cons_succ]
      refine wpAnyZ_tk 5 (.int .i64 (i : Int)) 189 rfl rfl (Or.inl ⟨by rfl, fun w' hw => by obtain ⟨t0, t1, t2, t3⟩ := hw; go_simp⟩) hT ?_
      simp only [Act.put, List.setIfInBounds_toArray, List.set_cons_zero, List.set_cons_succ]
      refine wpAnyZ_tk 6 (.pointer (some ⟨g5, i, none⟩)) 190 rfl rfl (Or.inl ⟨by rfl, fun w' hw => by obtain ⟨t0, t1, t2, t3⟩ := hw; go_simp⟩) hT ?_
      simp only [Act.put, List.setIfInBounds_toArray, List.set_cons_zero, List.set_cons_succ]
      refine wpAnyZ_tk 7 (.slice (some ⟨gy, 0, none⟩) n cy) 191 rfl rfl (Or.inl ⟨by rfl, fun w' hw => by obtain ⟨t0, t1, t2, t3⟩ := hw; go_simp⟩) hT ?_
      simp only [Act.put, List.setIfInBounds_toArray, List.set_cons_zero, List.set_cons_succ]
      refine wpAnyZ_tk 8 (.int .i64 (j : Int)) 192 rfl rfl (Or.inl ⟨by rfl, fun w' hw => by obtain ⟨t0, t1, t2, t3⟩ := hw; go_simp⟩) hT ?_
      simp only [Act.put, List.setIfInBounds_toArray, List.set_cons_zero, List.set_cons_succ]
      refine wpAnyZ_tk 9 (.pointer (some ⟨gy, j, none⟩)) 193 rfl rfl (Or.inl ⟨by rfl, fun w' hw => by obtain ⟨t0, t1, t2, t3⟩ := hw; go_simp⟩) hT ?_
      simp only [Act.put, List.setIfInBounds_toArray, List.set_cons_zero, List.set_cons_succ]
      refine wpAnyZ_tk 10 (.string (⟨#[107, 101, 112, 116, 32]⟩ ++ mi)) 194 rfl rfl (Or.inl ⟨by rfl, fun w' hw => by obtain ⟨t0, t1, t2, t3⟩ := hw; go_simp⟩) hT ?_
      simp only [Act.put, List.setIfInBounds_toArray, List.set_cons_zero, List.set_cons_succ]
      refine wpAnyZ_tk 11 (.int .i64 (i : Int)) 195 rfl rfl (Or.inl ⟨by rfl, fun w' hw => by obtain ⟨t0, t1, t2, t3⟩ := hw; go_simp⟩) hT ?_
      simp only [Act.put, List.setIfInBounds_toArray, List.set_cons_zero, List.set_cons_succ]
      refine wpAnyZ_one 12 (by kernel_rfl) rfl (fun K hK => ?_)
      refine step_callG 196 rfl 12 (fun vs => by kernel_rfl) #[.tmp 195] #[3] rfl #[.int .i64 (i : Int)] (by first | rfl | simp [Act.eval]) (unhide HMk wd) (by rfl) ?_
      rintro e w1 ⟨rfl, hb1⟩
      have HB1 := hide ((unhide HBd).trans (hb1.mono (unhide HBd).size))
      have c5e := (hb1.cell (p := ⟨g5, i, none⟩) (lt_of_cell c5d)).trans c5d
      have c6e := (hb1.cell (p := ⟨g6, i, none⟩) (lt_of_cell c6d)).trans c6d
      have cye := (hb1.cell (p := ⟨gy, j, none⟩) (lt_of_cell cyd)).trans cyd
      have cme := (hb1.cell (p := ⟨gm, j, none⟩) (lt_of_cell cmd)).trans cmd
      have hT1 : (fun w' : World => w'.cell? ⟨g5, i, none⟩ = some (.slice (some ⟨gy, 0, none⟩) n cy) ∧ w'.cell? ⟨g6, i, none⟩ = some (.slice (some ⟨gm, 0, none⟩) M cm) ∧ w'.cell? ⟨gy, j, none⟩ = some (.string (⟨#[107, 101, 112, 116, 32]⟩ ++ mi)) ∧ w'.cell? ⟨gm, j, none⟩ = some (.string (⟨#[107, 101, 112, 116, 32]⟩ ++ mi))) w1 := ⟨c5e, c6e, cye, cme⟩
      refine ⟨_, rfl, ?_⟩
      refine hK _ _ ⟨fun _ => hT1, ?_⟩
      clear hK K hb1 hT HBd c5d c6d cyd cmd
      simp only [Act.put, List.setIfInBounds_toArray, List.set_cons_zero, List.set_cons_succ]
      refine wpAnyZ_tk 13 (.string (⟨#[107, 101, 112, 116, 32]⟩ ++ mi)) 197 rfl rfl (Or.inl ⟨by rfl, fun w' hw => by obtain ⟨t0, t1, t2, t3⟩ := hw; go_simp⟩) hT1 ?_
      simp only [Act.put, List.setIfInBounds_toArray, List.set_cons_zero, List.set_cons_succ]
      refine wpAnyZ_tk 14 (.bool false) 198 rfl rfl (Or.inl ⟨by rfl, fun w' hw => by obtain ⟨t0, t1, t2, t3⟩ := hw; go_simp⟩) hT1 ?_
      simp only [Act.put, List.setIfInBounds_toArray, List.set_cons_zero, List.set_cons_succ]
      refine wpAnyZ_tk 15 (.bool false) 199 rfl rfl (Or.inl ⟨by rfl, fun w' hw => by obtain ⟨t0, t1, t2, t3⟩ := hw; go_simp⟩) hT1 ?_
      simp only [Act.put, List.setIfInBounds_toArray, List.set_cons_zero, List.set_cons_succ]
      refine wpAnyZ_tk 16 (.slice (some ⟨g6, 0, none⟩) N c6) 200 rfl rfl (Or.inl ⟨by rfl, fun w' hw => by obtain ⟨t0, t1, t2, t3⟩ := hw; go_simp⟩) hT1 ?_
      simp only [Act.put, List.setIfInBounds_toArray, List.set_cons_zero, List.set_cons_succ]
      refine wpAnyZ_tk 17 (.int .i64 (i : Int)) 201 rfl rfl (Or.inl ⟨by rfl, fun w' hw => by obtain ⟨t0, t1, t2, t3⟩ := hw; go_simp⟩) hT1 ?_
      simp only [Act.put, List.setIfInBounds_toArray, List.set_cons_zero, List.set_cons_succ]
      refine wpAnyZ_tk 18 (.pointer (some ⟨g6, i, none⟩)) 202 rfl rfl (Or.inl ⟨by rfl, fun w' hw => by obtain ⟨t0, t1, t2, t3⟩ := hw; go_simp⟩) hT1 ?_
      simp only [Act.put, List.setIfInBounds_toArray, List.set_cons_zero, List.set_cons_succ]
      refine wpAnyZ_tk 19 (.slice (some ⟨gm, 0, none⟩) M cm) 203 rfl rfl (Or.inl ⟨by rfl, fun w' hw => by obtain ⟨t0, t1, t2, t3⟩ := hw; go_simp⟩) hT1 ?_
      simp only [Act.put, List.setIfInBounds_toArray, List.set_cons_zero, List.set_cons_succ]
      refine wpAnyZ_tk 20 (.int .i64 (j : Int)) 204 rfl rfl (Or.inl ⟨by rfl, fun w' hw => by obtain ⟨t0, t1, t2, t3⟩ := hw; go_simp⟩) hT1 ?_
      simp only [Act.put, List.setIfInBounds_toArray, List.set_cons_zero, List.set_cons_succ]
      refine wpAnyZ_tk 21 (.pointer (some ⟨gm, j, none⟩)) 205 rfl rfl (Or.inl ⟨by rfl, fun w' hw => by obtain ⟨t0, t1, t2, t3⟩ := hw; go_simp⟩) hT1 ?_
      simp only [Act.put, List.setIfInBounds_toArray, List.set_cons_zero, List.set_cons_succ]
      refine wpAnyZ_tk 22 (.string (⟨#[107, 101, 112, 116, 32]⟩ ++ mi)) 206 rfl rfl (Or.inl ⟨by rfl, fun w' hw => by obtain ⟨t0, t1, t2, t3⟩ := hw; go_simp⟩) hT1 ?_
      simp only [Act.put, List.setIfInBounds_toArray, List.set_cons_zero, List.set_cons_succ]
      refine wpAnyZ_tk 23 (.slice (some ⟨g5, 0, none⟩) N c5) 207 rfl rfl (Or.inl ⟨by rfl, fun w' hw => by obtain ⟨t0, t1, t2, t3⟩ := hw; go_simp⟩) hT1 ?_
      simp only [Act.put, List.setIfInBounds_toArray, List.set_cons_zero, List.set_cons_succ]
      refine wpAnyZ_tk 24 (.int .i64 (i : Int)) 208 rfl rfl (Or.inl ⟨by rfl, fun w' hw => by obtain ⟨t0, t1, t2, t3⟩ := hw; go_simp⟩) hT1 ?_
      simp only [Act.put, List.setIfInBounds_toArray, List.set_cons_zero, List.set_cons_succ]
      refine wpAnyZ_tk 25 (.pointer (some ⟨g5, i, none⟩)) 209 rfl rfl (Or.inl ⟨by rfl, fun w' hw => by obtain ⟨t0, t1, t2, t3⟩ := hw; go_simp⟩) hT1 ?_
      simp only [Act.put, List.setIfInBounds_toArray, List.set_cons_zero, List.set_cons_succ]
      refine wpAnyZ_tk 26 (.slice (some ⟨gy, 0, none⟩) n cy) 210 rfl rfl (Or.inl ⟨by rfl, fun w' hw => by obtain ⟨t0, t1, t2, t3⟩ := hw; go_simp⟩) hT1 ?_
      simp only [Act.put, List.setIfInBounds_toArray, List.set_cons_zero, List.set_cons_succ]
      refine wpAnyZ_tk 27 (.int .i64 (j : Int)) 211 rfl rfl (Or.inl ⟨by rfl, fun w' hw => by obtain ⟨t0, t1, t2, t3⟩ := hw; go_simp⟩) hT1 ?_
      simp only [Act.put, List.setIfInBounds_toArray, List.set_cons_zero, List.set_cons_succ]
      refine wpAnyZ_tk 28 (.pointer (some ⟨gy, j, none⟩)) 212 rfl rfl (Or.inl ⟨by rfl, fun w' hw => by obtain ⟨t0, t1, t2, t3⟩ := hw; go_simp⟩) hT1 ?_
      simp only [Act.put, List.setIfInBounds_toArray, List.set_cons_zero, List.set_cons_succ]
      refine wpAnyZ_tk 29 (.string (⟨#[107, 101, 112, 116, 32]⟩ ++ mi)) 213 rfl rfl (Or.inl ⟨by rfl, fun w' hw => by obtain ⟨t0, t1, t2, t3⟩ := hw; go_simp⟩) hT1 ?_
      simp only [Act.put, List.setIfInBounds_toArray, List.set_cons_zero, List.set_cons_succ]
      refine wpAnyZ_tk 30 (.bool false) 214 rfl rfl (Or.inl ⟨by rfl, fun w' hw => by obtain ⟨t0, t1, t2, t3⟩ := hw; go_simp⟩) hT1 ?_
      simp only [Act.put, List.setIfInBounds_toArray, List.set_cons_zero, List.set_cons_succ]
      refine wpAnyZ_tk 31 (.bool false) 215 rfl rfl (Or.inl ⟨by rfl, fun w' hw => by obtain ⟨t0, t1, t2, t3⟩ := hw; go_simp⟩) hT1 ?_
      simp only [Act.put, List.setIfInBounds_toArray, List.set_cons_zero, List.set_cons_succ]
      refine wpAnyZ_tk 32 (.bool false) 216 rfl rfl (Or.inl ⟨by rfl, fun w' hw => by obtain ⟨t0, t1, t2, t3⟩ := hw; go_simp⟩) hT1 ?_
      simp only [Act.put, List.setIfInBounds_toArray, List.set_cons_zero, List.set_cons_succ]
      refine wpAnyZ_done (by kernel_rfl) ?_
      refine NoPanic.normal ?_
      clear hT1 c5e c6e cye cme
      go_upto_region 42 with fail
      go_quiet (fail)
      go_wp2
      exact ⟨M - (j + 1), by have := unhide Hm; omega, _, j + 1, rfl, rfl, ⟨rfl, rfl, rfl, rfl, rfl, (by first | rfl | (congr 1; go_num) | (simp; go_num)), trivial⟩, rfl, by omega, below_drewN (unhide HB1) _⟩
    · have cma := unhide HLm j hjn hlt
      have cmb := ((unhide HB).cell (p := ⟨gm, j, none⟩) (lt_of_cell cma)).trans cma
      have q2 : ¬ (j : Int) < (n : Int) := by omega
      have q3 : (n : Int) ≤ (j : Int) := by omega
      have q4 : decide ((j : Int) < (n : Int)) = false := by simp; omega
      have q5 : decide ((n : Int) ≤ (j : Int)) = true := by simp; omega
      clear cma hjn
      go_upto_region 40 with fail
      go_quiet (fail)
      go_upto_region 42 with fail
      have hdr0 : Below wr.heap.size wr (wr.drewN nq) := below_drewN (Below.refl _ _) _
      have HB0 := hide ((unhide HB).trans (hdr0.mono (unhide HB).size))
      have c60 := (hdr0.cell (p := ⟨g6, i, none⟩) (lt_of_cell c6b)).trans c6b
      have cm0 := (hdr0.cell (p := ⟨gm, j, none⟩) (lt_of_cell cmb)).trans cmb
      clear c5b c6b cmb HB
      obtain ⟨wr, hwr⟩ : ∃ x, wr.drewN nq = x := ⟨_, rfl⟩
      rw [hwr] at HB0 c60 cm0 ⊢
      clear hwr hdr0
      refine wp_region_noPanic ?_
      refine wp_region_any (by kernel_rfl) ?_
      try (change wpAny _ _ _ _ _ _ _ (World.drew _))
      have HB := HB0
      have hdr : Below wr.heap.size wr wr.drew := below_drewN (Below.refl _ _) 1
      have HBd := hide ((unhide HB0).trans (hdr.mono (unhide HB0).size))
      have c6d := (hdr.cell (p := ⟨g6, i, none⟩) (lt_of_cell c60)).trans c60
      have cmd := (hdr.cell (p := ⟨gm, j, none⟩) (lt_of_cell cm0)).trans cm0
      clear c60 cm0 HB0
      obtain ⟨wd, hwd⟩ : ∃ x, wr.drew = x := ⟨_, rfl⟩
      rw [hwd] at HBd c6d cmd ⊢
      clear hwd hdr HB
      refine wpAny_of_Z (z := 99) (T := fun w' => w'.cell? ⟨g6, i, none⟩ = some (.slice (some ⟨gm, 0, none⟩) M cm) ∧ w'.cell? ⟨gm, j, none⟩ = some (.string (⟨#[109, 111, 114, 101, 32]⟩ ++ mi))) _ _ _ _ ?_
      have hT : (fun w' : World => w'.cell? ⟨g6, i, none⟩ = some (.slice (some ⟨gm, 0, none⟩) M cm) ∧ w'.cell? ⟨gm, j, none⟩ = some (.string (⟨#[109, 111, 114, 101, 32]⟩ ++ mi))) wd := ⟨c6d, cmd⟩
      refine wpAnyZ_tk 0 (.int .i64 (j : Int)) 217 rfl rfl (Or.inl ⟨by rfl, fun w' hw => by obtain ⟨t0, t1⟩ := hw; go_simp⟩) hT ?_
      simp only [Act.put, List.setIfInBounds_toArray, List.set_cons_zero, List.set_cons_succ]
      refine wpAnyZ_tk 1 (.int .i64 (n : Int)) 218 rfl rfl (Or.inl ⟨by rfl, fun w' hw => by obtain ⟨t0, t1⟩ := hw; go_simp⟩) hT ?_
      simp only [Act.put, List.setIfInBounds_toArray, List.set_cons_zero, List.set_cons_succ]
      refine wpAnyZ_tk 2 (.bool true) 219 rfl rfl (Or.inl ⟨by rfl, fun w' hw => by obtain ⟨t0, t1⟩ := hw; go_simp⟩) hT ?_
      simp only [Act.put, List.setIfInBounds_toArray, List.set_cons_zero, List.set_cons_succ]
      refine wpAnyZ_tk 3 (.bool true) 220 rfl rfl (Or.inl ⟨by rfl, fun w' hw => by obtain ⟨t0, t1⟩ := hw; go_simp⟩) hT ?_
      simp only [Act.put, List.setIfInBounds_toArray, List.set_cons_zero, List.set_cons_succ]
      refine wpAnyZ_tk 4 (.slice (some ⟨g6, 0, none⟩) N c6) 221 rfl rfl (Or.inl ⟨by rfl, fun w' hw => by obtain ⟨t0, t1⟩ := hw; go_simp⟩) hT ?_
      simp only [Act.put, List.setIfInBounds_toArray, List.set_cons_zero, List.set_cons_succ]
      refine wpAnyZ_tk 5 (.int .i64 (i : Int)) 222 rfl rfl (Or.inl ⟨by rfl, fun w' hw => by obtain ⟨t0, t1⟩ := hw; go_simp⟩) hT ?_
      simp only [Act.put, List.setIfInBounds_toArray, List.set_cons_zero, List.set_cons_succ]
      refine wpAnyZ_tk 6 (.pointer (some ⟨g6, i, none⟩)) 223 rfl rfl (Or.inl ⟨by rfl, fun w' hw => by obtain ⟨t0, t1⟩ := hw; go_simp⟩) hT ?_
      simp only [Act.put, List.setIfInBounds_toArray, List.set_cons_zero, List.set_cons_succ]
      refine wpAnyZ_tk 7 (.slice (some ⟨gm, 0, none⟩) M cm) 224 rfl rfl (Or.inl ⟨by rfl, fun w' hw => by obtain ⟨t0, t1⟩ := hw; go_simp⟩) hT ?_
      simp only [Act.put, List.setIfInBounds_toArray, List.set_cons_zero, List.set_cons_succ]
      refine wpAnyZ_tk 8 (.int .i64 (j : Int)) 225 rfl rfl (Or.inl ⟨by rfl, fun w' hw => by obtain ⟨t0, t1⟩ := hw; go_simp⟩) hT ?_
      simp only [Act.put, List.setIfInBounds_toArray, List.set_cons_zero, List.set_cons_succ]
      refine wpAnyZ_tk 9 (.pointer (some ⟨gm, j, none⟩)) 226 rfl rfl (Or.inl ⟨by rfl, fun w' hw => by obtain ⟨t0, t1⟩ := hw; go_simp⟩) hT ?_
      simp only [Act.put, List.setIfInBounds_toArray, List.set_cons_zero, List.set_cons_succ]
      refine wpAnyZ_tk 10 (.string (⟨#[109, 111, 114, 101, 32]⟩ ++ mi)) 227 rfl rfl (Or.inl ⟨by rfl, fun w' hw => by obtain ⟨t0, t1⟩ := hw; go_simp⟩) hT ?_
      simp only [Act.put, List.setIfInBounds_toArray, List.set_cons_zero, List.set_cons_succ]
      refine wpAnyZ_tk 11 (.int .i64 (i : Int)) 228 rfl rfl (Or.inl ⟨by rfl, fun w' hw => by obtain ⟨t0, t1⟩ := hw; go_simp⟩) hT ?_
      simp only [Act.put, List.setIfInBounds_toArray, List.set_cons_zero, List.set_cons_succ]
      refine wpAnyZ_one 12 (by kernel_rfl) rfl (fun K hK => ?_)
      refine step_callG 229 rfl 12 (fun vs => by kernel_rfl) #[.tmp 228] #[3] rfl #[.int .i64 (i : Int)] (by first | rfl | simp [Act.eval]) (unhide HMk wd) (by rfl) ?_
      rintro e w1 ⟨rfl, hb1⟩
      have HB1 := hide ((unhide HBd).trans (hb1.mono (unhide HBd).size))
      have c6e := (hb1.cell (p := ⟨g6, i, none⟩) (lt_of_cell c6d)).trans c6d
      have cme := (hb1.cell (p := ⟨gm, j, none⟩) (lt_of_cell cmd)).trans cmd
      have hT1 : (fun w' : World => w'.cell? ⟨g6, i, none⟩ = some (.slice (some ⟨gm, 0, none⟩) M cm) ∧ w'.cell? ⟨gm, j, none⟩ = some (.string (⟨#[109, 111, 114, 101, 32]⟩ ++ mi))) w1 := ⟨c6e, cme⟩
      refine ⟨_, rfl, ?_⟩
      refine hK _ _ ⟨fun _ => hT1, ?_⟩
      clear hK K hb1 hT HBd c6d cmd
      simp only [Act.put, List.setIfInBounds_toArray, List.set_cons_zero, List.set_cons_succ]
      refine wpAnyZ_tk 13 (.string (⟨#[109, 111, 114, 101, 32]⟩ ++ mi)) 230 rfl rfl (Or.inl ⟨by rfl, fun w' hw => by obtain ⟨t0, t1⟩ := hw; go_simp⟩) hT1 ?_
      simp only [Act.put, List.setIfInBounds_toArray, List.set_cons_zero, List.set_cons_succ]
      refine wpAnyZ_tk 14 (.bool false) 231 rfl rfl (Or.inl ⟨by rfl, fun w' hw => by obtain ⟨t0, t1⟩ := hw; go_simp⟩) hT1 ?_
      simp only [Act.put, List.setIfInBounds_toArray, List.set_cons_zero, List.set_cons_succ]
      refine wpAnyZ_tk 15 (.bool false) 232 rfl rfl (Or.inl ⟨by rfl, fun w' hw => by obtain ⟨t0, t1⟩ := hw; go_simp⟩) hT1 ?_
      simp only [Act.put, List.setIfInBounds_toArray, List.set_cons_zero, List.set_cons_succ]
      refine wpAnyZ_done (by kernel_rfl) ?_
      refine NoPanic.normal ?_
      clear hT1 c6e cme
      go_wp2
      exact ⟨M - (j + 1), by have := unhide Hm; omega, _, j + 1, rfl, rfl, ⟨rfl, rfl, rfl, rfl, rfl, (by first | rfl | (congr 1; go_num) | (simp; go_num)), trivial⟩, rfl, by omega, unhide HB1⟩
  · obtain rfl : j = M := by omega
    have q1 : ¬ (j : Int) < (j : Int) := by omega
    go_wp2
    exact unhide HQ _ (unhide HB) _ rfl ⟨rfl, rfl, rfl, rfl, trivial⟩
end Go.Proofs.YtadmamfekodkaaaDoor
