import Derived.Test.YtlblllghgdfpoaaDoorDRc

namespace Go.Proofs.YtlblllghgdfpoaaDoor
open Go.RowKit
attribute [local go_sem ↓] Go.wp_at_zero Go.wp_at_succ

/-- The reference's words k, as they are laid. -/
def HasX (W : World) : Prop := 1 < W.heap.size ∧ ∀ (i k : Nat), kw[i]? = some k → W.cell? ⟨1, i, none⟩ = some (.int .i64 (k : Int))
theorem HasX.up {W w : World} (h : HasX W) (hb : Below W.heap.size W w) : HasX w := ⟨Nat.lt_of_lt_of_le h.1 hb.size, fun i t hi => (hb.cell (p := ⟨1, i, none⟩) h.1).trans (h.2 i t hi)⟩
theorem kw_lt : ∀ k ∈ kw, k < 4294967296 := by decide
theorem zi8_eq : (ni (List.replicate 8 0)).toArray = #[.int .i64 0, .int .i64 0, .int .i64 0, .int .i64 0, .int .i64 0, .int .i64 0, .int .i64 0, .int .i64 0] := by rfl
theorem only_setRow {A B : World} {b : Nat} (h : Only A b B) (cs : Array Value) : Only A b (B.setRow b cs) :=
  ⟨h.os, h.tape, h.output, by simp [World.setRow]; exact h.size, fun k hk hn => (setRow_other _ _ _ _ (by omega)).trans (h.far k hk hn)⟩
set_option maxRecDepth 100000 in
set_option maxHeartbeats 4000000 in
theorem xblock_any {W : World} (hK : HasX W) (v : St) (hv : v.Ok) (ws : List Nat) (hl : ws.length = 64) (hw : W32 ws) :
    Calls Tryd.prog 56 #[.agg (ni v.list).toArray, .agg (ni ws).toArray] W fun e W' => e = .returned (.agg (ni (v.add (rnds kw ws v)).list).toArray) ∧ Below W.heap.size W W' := by
  have hif8 : (Tryd.prog.info? 76).map (·.size) = some 8 := by kernel_rfl
  have hif64 : (Tryd.prog.info? 77).map (·.size) = some 64 := by kernel_rfl
  obtain ⟨S, hS⟩ : ∃ A, (ni v.list).toArray = A := ⟨_, rfl⟩
  obtain ⟨C, hC⟩ : ∃ A, (ni ws).toArray = A := ⟨_, rfl⟩
  have hCs : C.size = 64 := by rw [← hC]; simp [hl]
  have hSs : S.size = 8 := by rw [← hS]; rfl
  have hS1 : S.all (·.oneCell') = true := by rw [← hS]; exact ni_one _
  have hifC : (Tryd.prog.info? 77).map (·.size) = some C.size := by rw [hCs]; exact hif64
  have hifS : (Tryd.prog.info? 76).map (·.size) = some S.size := by rw [hSs]; exact hif8
  obtain ⟨Y, hY⟩ : ∃ Y : World, Y = ((W.alloc (.cells S 76)).alloc (.cells C 77)).alloc (.cells #[.int .i64 0, .int .i64 0, .int .i64 0, .int .i64 0, .int .i64 0, .int .i64 0, .int .i64 0, .int .i64 0] 76) := ⟨_, rfl⟩
  have hYs : Y.heap.size = W.heap.size + 3 := by rw [hY]; simp
  have hYb : Below W.heap.size W Y := by rw [hY]; exact (((Below.refl _ _).alloc (Nat.le_refl _) _).alloc (by simp) _).alloc (by simp; omega) _
  have hY0 : Y.heap[W.heap.size]? = some (.cells S 76 (0, 0)) := by
    rw [hY, Below.heap_alloc _ _ _ (by simp; omega), Below.heap_alloc _ _ _ (by simp)]
    exact heap_new _ _
  have hY1 : Y.heap[W.heap.size + 1]? = some (.cells C 77 (0, 0)) := by
    rw [hY, Below.heap_alloc _ _ _ (by simp)]
    exact heap_alloc2_new _ _ _
  have hY2 : Y.heap[W.heap.size + 1 + 1]? = some (.cells (ni (List.replicate 8 0)).toArray 76 (0, 0)) := by
    rw [hY, zi8_eq]
    have := heap_alloc2_new (W.alloc (.cells S 76)) (.cells C 77) (.cells #[.int .i64 0, .int .i64 0, .int .i64 0, .int .i64 0, .int .i64 0, .int .i64 0, .int .i64 0, .int .i64 0] 76)
    simpa using this
  obtain ⟨Z, hZ⟩ : ∃ Z : World, Z = Y.alloc (.cells #[.int .i64 0, .int .i64 0, .int .i64 0, .int .i64 0, .int .i64 0, .int .i64 0, .int .i64 0, .int .i64 0] 76) := ⟨_, rfl⟩
  have hZs : Z.heap.size = W.heap.size + 4 := by rw [hZ]; simp [hYs]
  have hZY : Below Y.heap.size Y Z := by rw [hZ]; exact (Below.refl _ _).alloc (Nat.le_refl _) _
  have hZ3 : Z.heap[W.heap.size + 1 + 1 + 1]? = some (.cells (ni (List.replicate 8 0)).toArray 76 (0, 0)) := by
    rw [hZ, zi8_eq, show W.heap.size + 1 + 1 + 1 = Y.heap.size by omega]
    exact heap_new _ _
  have hold : (ni (List.replicate 8 0)).toArray.size = S.size := by rw [hSs]; rfl
  obtain ⟨V, hV⟩ : ∃ V : World, V = Z.setRow (W.heap.size + 1 + 1 + 1) S := ⟨_, rfl⟩
  have hVs : V.heap.size = W.heap.size + 4 := by rw [hV]; simp [World.setRow, hZs]
  have hVb : Below W.heap.size W V := by rw [hV]; exact below_setRow (hYb.trans (hZY.mono (by omega))) (by omega) _
  have hVo : ∀ k, k < W.heap.size + 3 → V.heap[k]? = Y.heap[k]? := fun k hk => by rw [hV, setRow_other _ _ _ _ (by omega)]; exact hZY.block k (by omega)
  have v0 : ArrI V W.heap.size 76 v.list := by unfold ArrI; rw [hS, hVo _ (by omega)]; exact hY0
  have v1 : ArrI V (W.heap.size + 1) 77 ws := by unfold ArrI; rw [hC, hVo _ (by omega)]; exact hY1
  have v2 : ArrI V (W.heap.size + 1 + 1) 76 (List.replicate 8 0) := by unfold ArrI; rw [hVo _ (by omega)]; exact hY2
  have v3 : ArrI V (W.heap.size + 1 + 1 + 1) 76 v.list := by unfold ArrI; rw [hS, hV]; exact setRow_heap Z _ _ _ _ _ hZ3
  have HY := hide hY
  have HZ := hide hZ
  have HV := hide hV
  have H0 := hide v0
  have H1 := hide v1
  have H2 := hide v2
  have H3 := hide v3
  have HK := hide (hK.up hVb)
  have HVb := hide hVb
  have hK3 : 1 < W.heap.size := hK.1
  clear hK
  rw [hS, hC]
  clear v0 v1 v2 v3 hVo hYb hZY hY1 hY2 hC hS hY hZ hV hVb
  go_enter Tryd.func56, Tryd.ntmps56
  go_wp2_with (first
    | (rw [← unhide HY]; refine wpList_load_row rfl 76 (.tmp 2) rfl W.heap.size rfl 76 S (0, 0) _ hY0 Tryd.underlying76 rfl hifS ?_)
    | (rw [← unhide HZ]; refine wpList_store_row rfl 76 (.tmp 5) (.tmp 14) rfl (W.heap.size + 1 + 1 + 1) S rfl rfl 76 _ hZ3 hifS hold hS1 ?_; rw [← unhide HV]))
  clear HY HZ HV hY0 hZ3 hold
  go_loopg [6] 64 (fun gk v6 wr => ∃ (t : Nat), v6 = .int .i64 (t : Int) ∧ gk = 64 - t ∧ t ≤ 64 ∧ Hid (ArrI wr (W.heap.size + 1 + 1 + 1) 76 (rnds (kw.take t) (ws.take t) v).list) ∧ Hid (Only V (W.heap.size + 1 + 1 + 1) wr))
  case atStart => exact ⟨0, rfl, rfl, by omega, H3, Only.refl _ _⟩
  case round =>
    clear H3
    obtain ⟨t, rfl, hgk, hk, HA, HO⟩ := hrel
    have Hgk := hide hgk
    clear hgk
    by_cases hlt : t < 64
    · obtain ⟨k, hkk⟩ : ∃ x, kw[t]? = some x := ⟨_, List.getElem?_eq_getElem (by rw [kw_len]; omega)⟩
      obtain ⟨w, hx⟩ : ∃ x, ws[t]? = some x := ⟨_, List.getElem?_eq_getElem (by omega)⟩
      have hnx : rnds (kw.take (t + 1)) (ws.take (t + 1)) v = rnd (rnds (kw.take t) (ws.take t) v) k w := by
        rw [List.take_add_one, List.take_add_one, hkk, hx]
        exact rnds_snoc _ _ k w v (by rw [List.length_take, List.length_take, kw_len, hl])
      have ck := ((unhide HO).far 1 (by omega) (by omega))
      have ck' : wr.cell? ⟨1, t, none⟩ = some (.int .i64 (k : Int)) := (cell_heap (p := ⟨1, t, none⟩) ck).trans ((unhide HK).2 t k hkk)
      have ca : wr.cell? ⟨W.heap.size + 1, t, none⟩ = some (.int .i64 (w : Int)) := ((unhide H1).same ((unhide HO).far _ (by omega) (by omega))).cell hx
      have hok := rnds_ok (kw.take t) (ws.take t) v hv
      have lk := kw_lt k (List.mem_of_getElem? hkk)
      have lw := hw w (List.mem_of_getElem? hx)
      have Hnx := hide hnx
      clear hnx hkk hx ck
      obtain ⟨s, hs⟩ : ∃ s, rnds (kw.take t) (ws.take t) v = s := ⟨_, rfl⟩
      rw [hs] at HA Hnx hok
      clear hs
      obtain ⟨a, b, c, d, e, f, g, h⟩ := s
      have hA := unhide HA
      have c0 := hA.cell (i := 0) rfl
      have c1 := hA.cell (i := 1) rfl
      have c2 := hA.cell (i := 2) rfl
      have c3 := hA.cell (i := 3) rfl
      have c4 := hA.cell (i := 4) rfl
      have c5 := hA.cell (i := 5) rfl
      have c6 := hA.cell (i := 6) rfl
      have c7 := hA.cell (i := 7) rfl
      obtain ⟨la, lb, lc, ld, le, lf, lg, lh⟩ := hok
      simp only at la lb lc ld le lf lg lh c0 c1 c2 c3 c4 c5 c6 c7
      have ht' : (t : Int) < 64 := by omega
      clear hA
      have b1 : bits .and .i64 (e : Int) (f : Int) = ((e &&& f : Nat) : Int) := i64_and_nat e f (by omega) (by omega)
      have l2 := xor_lt32 le (show 4294967295 < 4294967296 by decide)
      have b2 : bits .xor .i64 (e : Int) 4294967295 = ((e ^^^ 4294967295 : Nat) : Int) := i64_xor_nat e 4294967295 (by omega) (by omega)
      have b3 : bits .and .i64 ((e ^^^ 4294967295 : Nat) : Int) (g : Int) = (((e ^^^ 4294967295) &&& g : Nat) : Int) := i64_and_nat _ _ (by omega) (by omega)
      have l3 := and_lt32 (b := g) l2
      have l1 := and_lt32 (b := f) le
      have b4 : bits .or .i64 ((e &&& f : Nat) : Int) (((e ^^^ 4294967295) &&& g : Nat) : Int) = ((ch e f g : Nat) : Int) := i64_or_nat _ _ (by omega) (by omega)
      have lch := ch_lt (f := f) (g := g) le
      have q1 := and_lt32 (b := b) la
      have q2 := and_lt32 (b := c) la
      have q3 := and_lt32 (b := c) lb
      have q4 := or_lt32 q1 q2
      have b5 : bits .and .i64 (a : Int) (b : Int) = ((a &&& b : Nat) : Int) := i64_and_nat a b (by omega) (by omega)
      have b6 : bits .and .i64 (a : Int) (c : Int) = ((a &&& c : Nat) : Int) := i64_and_nat a c (by omega) (by omega)
      have b7 : bits .and .i64 (b : Int) (c : Int) = ((b &&& c : Nat) : Int) := i64_and_nat b c (by omega) (by omega)
      have b8 : bits .or .i64 ((a &&& b : Nat) : Int) ((a &&& c : Nat) : Int) = ((a &&& b ||| a &&& c : Nat) : Int) := i64_or_nat _ _ (by omega) (by omega)
      have b9 : bits .or .i64 ((a &&& b ||| a &&& c : Nat) : Int) ((b &&& c : Nat) : Int) = ((maj a b c : Nat) : Int) := i64_or_nat _ _ (by omega) (by omega)
      have lmj := maj_lt (c := c) la lb
      have r6 := rotr_lt e 6
      have r11 := rotr_lt e 11
      have r25 := rotr_lt e 25
      have r2 := rotr_lt a 2
      have r13 := rotr_lt a 13
      have r22 := rotr_lt a 22
      have z1 := xor_lt32 r6 r11
      have z2 := xor_lt32 r2 r13
      have x1 : bits .xor .i64 ((rotr e 6 : Nat) : Int) ((rotr e 11 : Nat) : Int) = ((rotr e 6 ^^^ rotr e 11 : Nat) : Int) := i64_xor_nat _ _ (by omega) (by omega)
      have x2 : bits .xor .i64 ((rotr e 6 ^^^ rotr e 11 : Nat) : Int) ((rotr e 25 : Nat) : Int) = ((big1 e : Nat) : Int) := i64_xor_nat _ _ (by omega) (by omega)
      have x3 : bits .xor .i64 ((rotr a 2 : Nat) : Int) ((rotr a 13 : Nat) : Int) = ((rotr a 2 ^^^ rotr a 13 : Nat) : Int) := i64_xor_nat _ _ (by omega) (by omega)
      have x4 : bits .xor .i64 ((rotr a 2 ^^^ rotr a 13 : Nat) : Int) ((rotr a 22 : Nat) : Int) = ((big0 a : Nat) : Int) := i64_xor_nat _ _ (by omega) (by omega)
      have lb1 : big1 e < 4294967296 := xor_lt32 z1 r25
      have lb0 : big0 a < 4294967296 := xor_lt32 z2 r22
      have Hrnd : Hid (rnd ⟨a, b, c, d, e, f, g, h⟩ k w = ⟨((h + big1 e + ch e f g + k + w) + (big0 a + maj a b c)) % 4294967296, a, b, c, (d + (h + big1 e + ch e f g + k + w)) % 4294967296, e, f, g⟩) := rfl
      generalize maj a b c = MJ at *
      generalize ch e f g = CH at *
      generalize big1 e = B1 at *
      generalize big0 a = B0 at *
      generalize (e ^^^ 4294967295) &&& g = n1 at *
      generalize e ^^^ 4294967295 = n2 at *
      generalize e &&& f = n3 at *
      generalize a &&& b ||| a &&& c = n4 at *
      generalize a &&& b = n5 at *
      generalize a &&& c = n6 at *
      generalize b &&& c = n7 at *
      generalize rotr e 6 ^^^ rotr e 11 = y1 at *
      generalize rotr a 2 ^^^ rotr a 13 = y2 at *
      obtain ⟨X, hX⟩ : ∃ X, X = h + B1 + CH + k + w := ⟨_, rfl⟩
      obtain ⟨Y', hY'⟩ : ∃ Y', Y' = B0 + MJ := ⟨_, rfl⟩
      rw [← hX, ← hY'] at Hrnd
      have eX : (h : Int) + (B1 : Int) + (CH : Int) + (k : Int) + (w : Int) = (X : Int) := by omega
      have eY : (B0 : Int) + (MJ : Int) = (Y' : Int) := by omega
      have lX : X < 32212254720 := by omega
      have lY : Y' < 32212254720 := by omega
      have m1 : bits .and .i64 ((X : Int) + (Y' : Int)) 4294967295 = (((X + Y') % 4294967296 : Nat) : Int) := by
        rw [show (X : Int) + (Y' : Int) = ((X + Y' : Nat) : Int) by omega, show (4294967295 : Int) = ((4294967295 : Nat) : Int) from rfl, i64_and_nat _ _ (by omega) (by decide), mask32]
      have m2 : bits .and .i64 ((d : Int) + (X : Int)) 4294967295 = (((d + X) % 4294967296 : Nat) : Int) := by
        rw [show (d : Int) + (X : Int) = ((d + X : Nat) : Int) by omega, show (4294967295 : Int) = ((4294967295 : Nat) : Int) from rfl, i64_and_nat _ _ (by omega) (by decide), mask32]
      generalize (X + Y') % 4294967296 = NA at *
      generalize (d + X) % 4294967296 = NE at *
      clear hX hY' r6 r11 r25 r2 r13 r22 z1 z2 q1 q2 q3 q4 l1 l2 l3
      go_wp2_with fail
      go_quiet (first | (go_at_call 66; first | with_reducible exact Calls.quiet_of (xturned_6 _ e le) | with_reducible exact Calls.quiet_of (xturned_11 _ e le) | with_reducible exact Calls.quiet_of (xturned_25 _ e le)))
      go_wp2_with fail
      refine (xturned_2 _ a la).mono ?_
      rintro o w' ⟨rfl, p1, rfl⟩
      go_wp2_with fail
      refine (xturned_13 _ a la).mono ?_
      rintro o w' ⟨rfl, p2, rfl⟩
      go_wp2_with fail
      refine (xturned_22 _ a la).mono ?_
      rintro o w3 ⟨rfl, p3, hw3⟩
      have hA3 : ArrI w3 (W.heap.size + 3) 76 (St.list ⟨a, b, c, d, e, f, g, h⟩) := by rw [hw3]; exact unhide HA
      have hO3 : Only V (W.heap.size + 1 + 1 + 1) w3 := by rw [hw3]; exact (((unhide HO).drewN _).drewN _)
      have HO3 := hide hO3
      have Hchain : Hid (∃ w4, w4 = w3.setCells (W.heap.size + 3) 0 (ni (rnd ⟨a, b, c, d, e, f, g, h⟩ k w).list) ∧ ArrI w4 (W.heap.size + 3) 76 (rnd ⟨a, b, c, d, e, f, g, h⟩ k w).list ∧ Only V (W.heap.size + 1 + 1 + 1) w4) := by
        refine ⟨_, rfl, ?_, hO3.trans (only_setCells _ _ _ _ _ (Only.refl _ _))⟩
        rw [unhide Hrnd]
        exact (((((((hA3.set 0 NA).set 1 a).set 2 b).set 3 c).set 4 NE).set 5 e).set 6 f).set 7 g
      have HA3 := hide hA3
      clear hw3 c0 c1 c2 c3 c4 c5 c6 c7 ck' ca HA HO hO3 hA3
      have c0 := (unhide HA3).cell (i := 0) rfl
      have f0 := (unhide HA3).frozen 0
      have c1 := (unhide HA3).cell (i := 1) rfl
      have f1 := (unhide HA3).frozen 1
      have c2 := (unhide HA3).cell (i := 2) rfl
      have f2 := (unhide HA3).frozen 2
      have c3 := (unhide HA3).cell (i := 3) rfl
      have f3 := (unhide HA3).frozen 3
      have c4 := (unhide HA3).cell (i := 4) rfl
      have f4 := (unhide HA3).frozen 4
      have c5 := (unhide HA3).cell (i := 5) rfl
      have f5 := (unhide HA3).frozen 5
      have c6 := (unhide HA3).cell (i := 6) rfl
      have f6 := (unhide HA3).frozen 6
      have c7 := (unhide HA3).cell (i := 7) rfl
      have f7 := (unhide HA3).frozen 7
      simp only at c0 c1 c2 c3 c4 c5 c6 c7
      go_wp2
      go_roundg (64 - (t + 1))
      case measure => have := unhide Hgk; omega
      case rel =>
        obtain ⟨w4, hw4, h4A, h4O⟩ := unhide Hchain
        rw [unhide Hrnd] at hw4
        have e4 : w4 = _ := hw4
        refine ⟨t + 1, by go_num, rfl, by omega, ?_, ?_⟩
        · show ArrI _ _ _ _
          rw [unhide Hnx]
          rw [hw4] at h4A
          exact h4A
        · rw [hw4] at h4O
          exact h4O
    · obtain rfl : t = 64 := by omega
      have hA := unhide HA
      rw [List.take_of_length_le (by rw [kw_len]; omega), List.take_of_length_le (by omega)] at hA
      obtain ⟨n, hn⟩ : ∃ n, rnds kw ws v = n := ⟨_, rfl⟩
      have hok : n.Ok := by rw [← hn]; exact rnds_ok _ _ _ hv
      rw [hn] at hA
      have Hn := hide hn
      clear hn
      have hvl : v.list.length = 8 := rfl
      have hnl : n.list.length = 8 := rfl
      have a0 : Hid (ArrI wr (W.heap.size + 3) 76 (addL (n.list.take 0) (v.list.take 0) ++ n.list.drop 0)) := hA
      have a1 : Hid (Only V (W.heap.size + 3) wr) := HO
      clear hA HA HO H1 HK Hgk hlt hk
      have lv : ∀ x ∈ v.list, x < 4294967296 := by
        intro x hx
        obtain ⟨a, b, c, d, e, f, g, h⟩ := hv
        simp [St.list] at hx
        omega
      have ln : ∀ x ∈ n.list, x < 4294967296 := by
        intro x hx
        obtain ⟨a, b, c, d, e, f, g, h⟩ := hok
        simp [St.list] at hx
        omega
      go_wp2
      go_loopg [13] 8 (fun gk v13 wr => ∃ (i : Nat), v13 = .int .i64 (i : Int) ∧ gk = 8 - i ∧ i ≤ 8 ∧ Hid (ArrI wr (W.heap.size + 3) 76 (addL (n.list.take i) (v.list.take i) ++ n.list.drop i)) ∧ Hid (Only V (W.heap.size + 3) wr))
      case atStart => exact ⟨0, rfl, rfl, by omega, a0, a1⟩
      case round =>
        clear a0 a1
        obtain ⟨i, rfl, hgk, hi8, HA, HO⟩ := hrel
        have Hgk := hide hgk
        clear hgk
        by_cases hlt : i < 8
        · obtain ⟨x, hx⟩ : ∃ x, n.list[i]? = some x := ⟨_, List.getElem?_eq_getElem (by omega)⟩
          obtain ⟨y, hy⟩ : ∃ x, v.list[i]? = some x := ⟨_, List.getElem?_eq_getElem (by omega)⟩
          have hal : (addL (n.list.take i) (v.list.take i)).length = i := by unfold addL; rw [List.length_zipWith, List.length_take, List.length_take]; omega
          have hstep := addL_step n.list v.list i x y hx hy rfl
          have lx := ln x (List.mem_of_getElem? hx)
          have ly := lv y (List.mem_of_getElem? hy)
          have cs := (unhide HA).cell (i := i) (x := x) (by rw [List.getElem?_append_right (by omega), hal, Nat.sub_self, List.getElem?_drop]; simpa using hx)
          have fs := (unhide HA).frozen i
          have cn : wr.cell? ⟨W.heap.size, i, none⟩ = some (.int .i64 (y : Int)) := ((unhide H0).same ((unhide HO).far _ (by omega) (by omega))).cell hy
          have hi' : (i : Int) < 8 := by omega
          have m1 : bits .and .i64 ((x : Int) + (y : Int)) 4294967295 = (((x + y) % 4294967296 : Nat) : Int) := by
            rw [show (x : Int) + (y : Int) = ((x + y : Nat) : Int) by omega, show (4294967295 : Int) = ((4294967295 : Nat) : Int) from rfl, i64_and_nat _ _ (by omega) (by decide), mask32]
          have Hst := hide hstep
          generalize (x + y) % 4294967296 = NS at *
          clear hx hy hal hstep
          go_wp2_with fail
          go_region
          all_goals go_wp2
          all_goals go_roundg (8 - (i + 1))
          all_goals first
            | (have := unhide Hgk; omega)
            | (refine ⟨i + 1, by go_num, rfl, by omega, ?_, ?_⟩
               · have e := (unhide HA).set i NS
                 rw [unhide Hst] at e
                 exact e
               · exact (unhide HO).trans ((only_setCells (W.heap.size + 3) [.int .i64 (NS : Int)] i wr wr (Only.refl _ _)).drewN _))
        · obtain rfl : i = 8 := by omega
          have hT := unhide HA
          rw [List.take_of_length_le (by omega), List.take_of_length_le (by omega), List.drop_eq_nil_of_le (by omega), List.append_nil, ← add_list] at hT
          have hcomm : n.add v = v.add n := by unfold St.add; simp only [Nat.add_comm]
          rw [hcomm] at hT
          obtain ⟨R, hR⟩ : ∃ R, (ni (v.add n).list).toArray = R := ⟨_, rfl⟩
          have hRs : R.size = 8 := by rw [← hR]; rfl
          have hR1 : R.all (·.oneCell') = true := by rw [← hR]; exact ni_one _
          have hifR : (Tryd.prog.info? 76).map (·.size) = some R.size := by rw [hRs]; exact hif8
          have hold : (ni (List.replicate 8 0)).toArray.size = R.size := by rw [hRs]; rfl
          have hRe : wr.heap[W.heap.size + 1 + 1]? = some (.cells (ni (List.replicate 8 0)).toArray 76 (0, 0)) := (unhide H2).same ((unhide HO).far _ (by omega) (by omega))
          have hB : Below W.heap.size W wr := (unhide HVb).trans ((unhide HO).below (by omega) (by omega))
          unfold ArrI at hT
          rw [hR] at hT
          have HR := hide hR
          clear hR hcomm HA
          go_wp2_with (first
            | (refine wpList_load_row rfl 76 (.tmp 5) rfl (W.heap.size + 3) rfl 76 R (0, 0) _ hT Tryd.underlying76 rfl hifR ?_)
            | (refine wpList_store_row rfl 76 (.tmp 4) (.tmp 113) rfl (W.heap.size + 1 + 1) R rfl rfl 76 _ hRe hifR hold hR1 ?_))
          refine bodyPost_ret (results_cell_row rfl _ _ (W.heap.size + 1 + 1) 76 R (0, 0) _ rfl (setRow_heap _ _ _ _ _ _ hRe) Tryd.underlying76 rfl hifR) rfl ?_
          rw [unhide Hn, unhide HR]
          exact ⟨rfl, below_setRow hB (by omega) _⟩
end Go.Proofs.YtlblllghgdfpoaaDoor
