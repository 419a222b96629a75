import Derived.Test.YtlblllghgdfpoaaDoorDSc

namespace Go.Proofs.YtlblllghgdfpoaaDoor
open Go.RowKit
attribute [local go_sem ↓] Go.wp_at_zero Go.wp_at_succ

/-- The round words, as they are laid. -/
def HasK (W : World) : Prop := 2 < W.heap.size ∧ ∀ (i k : Nat), kw[i]? = some k → W.cell? ⟨2, i, none⟩ = some (.int .u32 (k : Int))
theorem HasK.up {W w : World} (h : HasK W) (hb : Below W.heap.size W w) : HasK w := ⟨Nat.lt_of_lt_of_le h.1 hb.size, fun i t hi => (hb.cell (p := ⟨2, i, none⟩) h.1).trans (h.2 i t hi)⟩
theorem rnds_snoc : ∀ (ks ws : List Nat) (k w : Nat) (v : St), ks.length = ws.length → rnds (ks ++ [k]) (ws ++ [w]) v = rnd (rnds ks ws v) k w
  | [], [], _, _, _, _ => rfl
  | a :: ks, b :: ws, k, w, v, h => by
    simp only [List.cons_append, rnds]
    exact rnds_snoc ks ws k w _ (by simpa using h)
  | [], _ :: _, _, _, _, h => by simp at h
  | _ :: _, [], _, _, _, h => by simp at h
theorem rnd_ok {v : St} (h : v.Ok) (k w : Nat) : (rnd v k w).Ok := ⟨Nat.mod_lt _ (by decide), h.a, h.b, h.c, Nat.mod_lt _ (by decide), h.e, h.f, h.g⟩
theorem rnds_ok : ∀ (ks ws : List Nat) (v : St), v.Ok → (rnds ks ws v).Ok
  | [], _, _, h => h
  | _ :: _, [], _, h => h
  | k :: ks, w :: ws, _, h => rnds_ok ks ws _ (rnd_ok h k w)
def addL (a b : List Nat) : List Nat := List.zipWith (fun x y => (x + y) % 4294967296) a b
theorem add_list (s v : St) : (s.add v).list = addL s.list v.list := rfl
theorem z8_eq : (nw (List.replicate 8 0)).toArray = #[.int .u32 0, .int .u32 0, .int .u32 0, .int .u32 0, .int .u32 0, .int .u32 0, .int .u32 0, .int .u32 0] := by rfl
theorem kw_len : kw.length = 64 := rfl
theorem addL_step (a b : List Nat) (i x y : Nat) (ha : a[i]? = some x) (hb : b[i]? = some y) (hl : a.length = b.length) : (addL (a.take i) (b.take i) ++ a.drop i).set i ((x + y) % 4294967296) = addL (a.take (i + 1)) (b.take (i + 1)) ++ a.drop (i + 1) := by
  have hi : i < a.length := (List.getElem?_eq_some_iff.1 ha).1
  have h1 : (addL (a.take i) (b.take i)).length = i := by unfold addL; rw [List.length_zipWith, List.length_take, List.length_take]; omega
  have hd : a.drop i = x :: a.drop (i + 1) := by
    rw [List.drop_eq_getElem_cons hi]
    rw [List.getElem?_eq_getElem hi] at ha
    rw [Option.some.inj ha]
  rw [List.set_append, if_neg (by omega), h1, Nat.sub_self, hd, List.set_cons_zero, List.take_add_one, List.take_add_one, ha, hb]
  unfold addL
  rw [List.zipWith_append (by simp; omega)]
  simp

set_option maxRecDepth 100000 in
set_option maxHeartbeats 1000000 in
theorem after_any {W : World} (hK : HasK W) (v : St) (hv : v.Ok) (w16 : List Nat) (hl : w16.length = 16) (hw : W32 w16) :
    Calls Tryd.prog 59 #[.agg (nw v.list).toArray, .agg (nw w16).toArray] W fun e W' => e = .returned (.agg (nw (block v w16).list).toArray) ∧ Below W.heap.size W W' := by
  have hif8 : (Tryd.prog.info? 83).map (·.size) = some 8 := by kernel_rfl
  have hif16 : (Tryd.prog.info? 88).map (·.size) = some 16 := by kernel_rfl
  have hif64 : (Tryd.prog.info? 96).map (·.size) = some 64 := by kernel_rfl
  obtain ⟨S, hS⟩ : ∃ A, (nw v.list).toArray = A := ⟨_, rfl⟩
  obtain ⟨A, hA⟩ : ∃ A, (nw w16).toArray = A := ⟨_, rfl⟩
  have hAs : A.size = 16 := by rw [← hA]; simp [hl]
  have hSs : S.size = 8 := by rw [← hS]; rfl
  have hS1 : S.all (·.oneCell') = true := by rw [← hS]; exact nw_one _
  have hifA : (Tryd.prog.info? 88).map (·.size) = some A.size := by rw [hAs]; exact hif16
  have hifS : (Tryd.prog.info? 83).map (·.size) = some S.size := by rw [hSs]; exact hif8
  rw [hS, hA]
  have hz0 : ((W.alloc (.cells S 83)).alloc (.cells A 88)).heap[W.heap.size + 1]? = some (.cells A 88) := heap_alloc2_new _ _ _
  go_enter Tryd.func59, Tryd.ntmps59
  go_wp2_with (refine wpList_load_row rfl 88 (.tmp 3) rfl (W.heap.size + 1) rfl 88 A (0, 0) _ ?_ Tryd.underlying88 rfl hifA ?_; exact ((Below.heap_alloc _ _ _ (by simp)).trans hz0))
  obtain ⟨W3, hW3⟩ : ∃ w, w = ((W.alloc (.cells S 83)).alloc (.cells A 88)).alloc (.cells #[.int .u32 0, .int .u32 0, .int .u32 0, .int .u32 0, .int .u32 0, .int .u32 0, .int .u32 0, .int .u32 0] 83) := ⟨_, rfl⟩
  rw [← hW3]
  have hsz3 : W3.heap.size = W.heap.size + 3 := by rw [hW3]; simp
  have hb3 : Below W.heap.size W W3 := by rw [hW3]; exact (((Below.refl _ _).alloc (Nat.le_refl _) _).alloc (by simp) _).alloc (by simp; omega) _
  have t0 : ArrT W3 W.heap.size 83 v.list := by
    unfold ArrT
    rw [hW3, hS, Below.heap_alloc _ _ _ (by simp; omega), Below.heap_alloc _ _ _ (by simp)]
    exact heap_new _ _
  have t2 : ArrT W3 (W.heap.size + 1 + 1) 83 (List.replicate 8 0) := by
    unfold ArrT
    rw [hW3, z8_eq]
    have := heap_alloc2_new (W.alloc (.cells S 83)) (.cells A 88) (.cells #[.int .u32 0, .int .u32 0, .int .u32 0, .int .u32 0, .int .u32 0, .int .u32 0, .int .u32 0, .int .u32 0] 83)
    simpa using this
  have HS := hide hS
  clear hW3 hz0
  rw [← hA]
  refine (spread_any W3 w16 hl hw).mono ?_
  rintro o w1 ⟨rfl, hb1⟩
  obtain ⟨ws, hws⟩ : ∃ ws, ext 48 w16 = ws := ⟨_, rfl⟩
  have hwl : ws.length = 64 := by rw [← hws, ext_len, hl]
  have hww : W32 ws := by rw [← hws]; exact ext_w32 _ _ hw
  have hblk : block v w16 = v.add (rnds kw ws v) := by unfold block; rw [hws]
  have Hblk := hide hblk
  rw [hws]
  clear hws hblk
  obtain ⟨C, hC⟩ : ∃ C, (nw ws).toArray = C := ⟨_, rfl⟩
  rw [hC]
  have hCs : C.size = 64 := by rw [← hC]; simp [hwl]
  have hC1 : C.all (·.oneCell') = true := by rw [← hC]; exact nw_one _
  have hifC : (Tryd.prog.info? 96).map (·.size) = some C.size := by rw [hCs]; exact hif64
  have hsz1 := hb1.size
  obtain ⟨X, hX⟩ : ∃ X : World, X = w1.alloc (.cells #[.int .u32 0, .int .u32 0, .int .u32 0, .int .u32 0, .int .u32 0, .int .u32 0, .int .u32 0, .int .u32 0, .int .u32 0, .int .u32 0, .int .u32 0, .int .u32 0, .int .u32 0, .int .u32 0, .int .u32 0, .int .u32 0, .int .u32 0, .int .u32 0, .int .u32 0, .int .u32 0, .int .u32 0, .int .u32 0, .int .u32 0, .int .u32 0, .int .u32 0, .int .u32 0, .int .u32 0, .int .u32 0, .int .u32 0, .int .u32 0, .int .u32 0, .int .u32 0, .int .u32 0, .int .u32 0, .int .u32 0, .int .u32 0, .int .u32 0, .int .u32 0, .int .u32 0, .int .u32 0, .int .u32 0, .int .u32 0, .int .u32 0, .int .u32 0, .int .u32 0, .int .u32 0, .int .u32 0, .int .u32 0, .int .u32 0, .int .u32 0, .int .u32 0, .int .u32 0, .int .u32 0, .int .u32 0, .int .u32 0, .int .u32 0, .int .u32 0, .int .u32 0, .int .u32 0, .int .u32 0, .int .u32 0, .int .u32 0, .int .u32 0, .int .u32 0] 96) := ⟨_, rfl⟩
  have hXn : X.heap[w1.heap.size]? = some (.cells (nw (List.replicate 64 0)).toArray 96 (0, 0)) := by rw [hX, z64_eq]; exact heap_new _ _
  have hold : (nw (List.replicate 64 0)).toArray.size = C.size := by rw [hCs]; simp
  have hXb : Below w1.heap.size w1 X := by rw [hX]; exact (Below.refl _ _).alloc (Nat.le_refl _) _
  have hXs : X.heap.size = w1.heap.size + 1 := by rw [hX]; simp
  obtain ⟨Y, hY⟩ : ∃ Y : World, Y = X.setRow w1.heap.size C := ⟨_, rfl⟩
  have hYs : Y.heap.size = w1.heap.size + 1 := by rw [hY]; simp [World.setRow, hXs]
  have hYb : Below w1.heap.size w1 Y := by rw [hY]; exact below_setRow hXb (Nat.le_refl _) _
  have hbY : Below W3.heap.size W3 Y := hb1.trans (hYb.mono hsz1)
  have hYS : Y.heap[W.heap.size]? = some (.cells S 83 (0, 0)) := by
    have := t0.same (hbY.block _ (by omega))
    unfold ArrT at this
    rw [unhide HS] at this
    exact this
  obtain ⟨Y2, hY2⟩ : ∃ Y2 : World, Y2 = Y.alloc (.cells #[.int .u32 0, .int .u32 0, .int .u32 0, .int .u32 0, .int .u32 0, .int .u32 0, .int .u32 0, .int .u32 0] 83) := ⟨_, rfl⟩
  have hY2n : Y2.heap[w1.heap.size + 1]? = some (.cells (nw (List.replicate 8 0)).toArray 83 (0, 0)) := by rw [hY2, z8_eq, ← hYs]; exact heap_new _ _
  have hold2 : (nw (List.replicate 8 0)).toArray.size = S.size := by rw [hSs]; rfl
  have HX := hide hX
  have HY := hide hY
  have HY2 := hide hY2
  have hY2s : Y2.heap.size = w1.heap.size + 2 := by rw [hY2]; simp [hYs]
  have hbY2 : Below W.heap.size W (Y2.setRow (w1.heap.size + 1) S) := by
    have : Below Y.heap.size Y Y2 := by rw [hY2]; exact (Below.refl _ _).alloc (Nat.le_refl _) _
    exact below_setRow (hb3.trans ((hbY.mono (by omega)).trans (this.mono (by omega)))) (by omega) _
  have hnow : Arr (Y2.setRow (w1.heap.size + 1) S) (w1.heap.size + 1) v.list := by
    refine ArrT.arr (t := 83) ?_
    unfold ArrT
    rw [unhide HS]
    exact setRow_heap Y2 _ _ _ _ _ hY2n
  have hall : Arr (Y2.setRow (w1.heap.size + 1) S) w1.heap.size ws := by
    refine ArrT.arr (t := 96) ?_
    unfold ArrT
    rw [setRow_other _ _ _ _ (by omega), hY2, Below.heap_alloc _ _ _ (by omega), hY, hC]
    exact setRow_heap X _ _ _ _ _ hXn
  have hst : ArrT (Y2.setRow (w1.heap.size + 1) S) W.heap.size 83 v.list := by
    refine t0.same ?_
    rw [setRow_other _ _ _ _ (by omega), hY2, Below.heap_alloc _ _ _ (by omega)]
    exact hbY.block _ (by omega)
  have hres : ArrT (Y2.setRow (w1.heap.size + 1) S) (W.heap.size + 1 + 1) 83 (List.replicate 8 0) := by
    refine t2.same ?_
    rw [setRow_other _ _ _ _ (by omega), hY2, Below.heap_alloc _ _ _ (by omega)]
    exact hbY.block _ (by omega)
  have hs1 : W.heap.size + 3 ≤ w1.heap.size := by omega
  clear hX hY hY2 t0 t2 hb3 hb1 hbY hXb hYb hsz3 hsz1 hC hY2s
  go_wp2_with (first
    | (rw [← unhide HX]; refine wpList_store_row rfl 96 (.tmp 5) (.tmp 11) rfl w1.heap.size C rfl rfl 96 _ hXn hifC hold hC1 ?_; rw [← unhide HY])
    | (refine wpList_load_row rfl 83 (.tmp 2) rfl W.heap.size rfl 83 S (0, 0) _ hYS Tryd.underlying83 rfl hifS ?_)
    | (rw [← unhide HY2]; refine wpList_store_row rfl 83 (.tmp 6) (.tmp 12) rfl (w1.heap.size + 1) S rfl rfl 83 _ hY2n hifS hold2 hS1 ?_))
  clear HX HY HY2 hXn hXs hYs hYS hY2n hold hold2 hC1 hifC hCs
  generalize Y2.setRow (w1.heap.size + 1) S = V at *
  have Hnow := hide hnow
  have Hall := hide hall
  have Hst := hide hst
  have Hres := hide hres
  have HbV := hide hbY2
  have hg1 := hnow.lt
  clear hnow hall hst hres hbY2
  go_loopg [14] 64 (fun gk v14 wr => ∃ (t : Nat), v14 = .int .i64 (t : Int) ∧ gk = 64 - t ∧ t ≤ 64 ∧ Arr wr (w1.heap.size + 1) (rnds (kw.take t) (ws.take t) v).list ∧ Only V (w1.heap.size + 1) wr)
  case atStart => exact ⟨0, rfl, rfl, by omega, unhide Hnow, Only.refl _ _⟩
  case round =>
    obtain ⟨t, rfl, hgk, ht, hnow, hO⟩ := hrel
    have Hgk := hide hgk
    clear hgk Hnow
    by_cases hlt : t < 64
    · obtain ⟨k, hk⟩ : ∃ k, kw[t]? = some k := ⟨_, List.getElem?_eq_getElem (by rw [kw_len]; exact hlt)⟩
      obtain ⟨x, hx⟩ : ∃ x, ws[t]? = some x := ⟨_, List.getElem?_eq_getElem (by omega)⟩
      have hnx : rnds (kw.take (t + 1)) (ws.take (t + 1)) v = rnd (rnds (kw.take t) (ws.take t) v) k x := by
        rw [List.take_add_one, List.take_add_one, hk, hx]
        exact rnds_snoc _ _ _ _ _ (by rw [List.length_take, List.length_take, kw_len]; omega)
      have hbw : Below W.heap.size W wr := (unhide HbV).trans (hO.below (by have := (unhide HbV).size; omega) (by omega))
      have ck := (hK.up hbw).2 t k hk
      have ca := ((unhide Hall).only hO (by omega)).cell hx
      have hok := rnds_ok (kw.take t) (ws.take t) v hv
      have Hnx := hide hnx
      have Hn := hide hnow
      clear hnx hnow hbw hk hx
      go_wp2_with fail
      refine (round_any (unhide Hn) hok hlt ck ca).mono ?_
      rintro o w2 ⟨rfl, hA2, hO2⟩
      rw [← unhide Hnx] at hA2
      have HA2 := hide hA2
      have HO2 := hide (hO.trans hO2)
      clear hA2 hO2 ck ca hok Hn Hnx hO
      go_wp2
      go_roundg (64 - (t + 1))
      case measure => have := unhide Hgk; omega
      case rel => exact ⟨t + 1, by go_num, rfl, by omega, unhide HA2, unhide HO2⟩
    · obtain rfl : t = 64 := by omega
      rw [List.take_of_length_le (by rw [kw_len]; omega), List.take_of_length_le (by omega)] at hnow
      obtain ⟨n, hn⟩ : ∃ n, rnds kw ws v = n := ⟨_, rfl⟩
      have hok : n.Ok := by rw [← hn]; exact rnds_ok _ _ _ hv
      have Hblk' : Hid (block v w16 = v.add n) := by rw [← hn]; exact unhide Hblk
      rw [hn] at hnow
      have hstw := (unhide Hst).same (hO.far _ (by have := (unhide HbV).size; omega) (by omega))
      have hresw := (unhide Hres).same (hO.far _ (by omega) (by omega))
      have hbw : Below W.heap.size W wr := (unhide HbV).trans (hO.below (by have := (unhide HbV).size; omega) (by omega))
      have HN := hide hnow
      have HSt := hide hstw
      have HRe := hide hresw
      have HB := hide hbw
      clear hnow hstw hresw hbw hO Hall Hst Hres HbV hn Hblk hww
      go_wp2
      go_loopg [21] 8 (fun gk v21 wr => ∃ (i : Nat), v21 = .int .i64 (i : Int) ∧ gk = 8 - i ∧ i ≤ 8 ∧ ArrT wr W.heap.size 83 (addL (v.list.take i) (n.list.take i) ++ v.list.drop i) ∧ Arr wr (w1.heap.size + 1) n.list ∧ ArrT wr (W.heap.size + 1 + 1) 83 (List.replicate 8 0) ∧ Below W.heap.size W wr)
      case atStart => exact ⟨0, rfl, rfl, by omega, by simpa [addL] using unhide HSt, unhide HN, unhide HRe, unhide HB⟩
      case round =>
        clear HN HSt HRe HB
        obtain ⟨i, rfl, hgk2, hi8, hT, hN, hRe, hB⟩ := hrel
        have Hgk2 := hide hgk2
        clear hgk2
        have hvl : v.list.length = 8 := rfl
        have hnl : n.list.length = 8 := rfl
        by_cases hlt2 : i < 8
        · obtain ⟨x, hx⟩ : ∃ x, v.list[i]? = some x := ⟨_, List.getElem?_eq_getElem (by omega)⟩
          obtain ⟨y, hy⟩ : ∃ x, n.list[i]? = some x := ⟨_, List.getElem?_eq_getElem (by omega)⟩
          have hal : (addL (v.list.take i) (n.list.take i)).length = i := by unfold addL; rw [List.length_zipWith, List.length_take, List.length_take]; omega
          have hstep := addL_step v.list n.list i x y hx hy rfl
          have cs := hT.arr.cell (i := i) (x := x) (by rw [List.getElem?_append_right (by omega), hal, Nat.sub_self, List.getElem?_drop]; simpa using hx)
          have fs := hT.arr.frozen (i := i) (by rw [List.length_append, hal, List.length_drop]; omega)
          have cn := hN.cell hy
          have hi' : (i : Int) < 8 := by omega
          have HT := hide hT
          have HNn := hide hN
          have HRr := hide hRe
          have Hst := hide hstep
          clear hT hN hRe hx hy hal hstep
          go_wp2_with fail
          go_region
          all_goals go_wp2
          all_goals go_roundg (8 - (i + 1))
          all_goals first
            | (have := unhide Hgk2; omega)
            | (refine ⟨i + 1, by go_num, rfl, by omega, ?_, ?_, ?_, below_drewN (below_set hB (Nat.le_refl _) _ _) _⟩
               · have e := (unhide HT).set i ((x + y) % 4294967296)
                 rw [unhide Hst] at e
                 exact e
               · exact (unhide HNn).same (heap_setCell_other _ ⟨W.heap.size, i, none⟩ (w1.heap.size + 1) _ (by simp; omega))
               · exact (unhide HRr).same (heap_setCell_other _ ⟨W.heap.size, i, none⟩ (W.heap.size + 1 + 1) _ (by simp; omega)))
        · obtain rfl : i = 8 := by omega
          rw [List.take_of_length_le (by omega), List.take_of_length_le (by omega), List.drop_eq_nil_of_le (by omega), List.append_nil, ← add_list] at hT
          obtain ⟨R, hR⟩ : ∃ R, (nw (v.add n).list).toArray = R := ⟨_, rfl⟩
          have hRs : R.size = 8 := by rw [← hR]; rfl
          have hR1 : R.all (·.oneCell') = true := by rw [← hR]; exact nw_one _
          have hifR : (Tryd.prog.info? 83).map (·.size) = some R.size := by rw [hRs]; exact hif8
          have hold : (nw (List.replicate 8 0)).toArray.size = R.size := by rw [hRs]; rfl
          unfold ArrT at hT hRe
          rw [hR] at hT
          have HR := hide hR
          clear hR hN
          go_wp2_with (first
            | (refine wpList_load_row rfl 83 (.tmp 2) rfl W.heap.size rfl 83 R (0, 0) _ hT Tryd.underlying83 rfl hifR ?_)
            | (refine wpList_store_row rfl 83 (.tmp 4) (.tmp 33) rfl (W.heap.size + 1 + 1) R rfl rfl 83 _ hRe hifR hold hR1 ?_))
          refine bodyPost_ret (results_cell_row rfl _ _ (W.heap.size + 1 + 1) 83 R (0, 0) _ rfl (setRow_heap _ _ _ _ _ _ hRe) Tryd.underlying83 rfl hifR) rfl ?_
          rw [unhide Hblk', unhide HR]
          exact ⟨rfl, below_setRow hB (by omega) _⟩
end Go.Proofs.YtlblllghgdfpoaaDoor
