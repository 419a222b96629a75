import Derived.Test.YtaadpiimcaabkaaGreatDoorJ25

namespace Go.Proofs.YtaadpiimcaabkaaGreatDoor
open Go.RowKit
attribute [local go_sem ↓] Go.wp_at_zero Go.wp_at_succ

theorem en4 {w : World} {b : Nat} {v0 v1 v2 v3 : Value} {t : TypeId} (hn : w.heap[b]? = some (.cells #[v0, v1, v2, v3] t (0, 0))) : w.cell? ⟨b, 0, none⟩ = some v0 ∧ w.cell? ⟨b, 1, none⟩ = some v1 ∧ w.cell? ⟨b, 2, none⟩ = some v2 ∧ w.cell? ⟨b, 3, none⟩ = some v3 :=
  ⟨cell_of_row _ _ _ _ _ _ hn, cell_of_row _ _ _ _ _ _ hn, cell_of_row _ _ _ _ _ _ hn, cell_of_row _ _ _ _ _ _ hn⟩
def sEq : ByteArray := ⟨#[32, 61, 32]⟩
/-- The line of an enum's value. -/
def valL (n : Nat) (v : ByteArray × Int) : List Nat := lineL n [v.1, sEq, itoaB v.2, sSemi]
noncomputable def valsL (n : Nat) (e : En) : List Nat := rsvL n 2147483647 e.res e.gone ++ e.vals.flatMap (valL n)
set_option maxRecDepth 100000 in
set_option maxHeartbeats 2000000 in
theorem values_any {W w : World} {B bb dd ll : Nat} {L : List Nat} {n : Nat} (h : Pn W B bb dd L n w) (hP : HasP W) (hF : HasF W) {e : En} {vv vr vg : Value} (hv : Rl W vv e.vals.length (evC e.vals)) (hr : Rl W vr e.res.length (rgC e.res)) (hg : Rl W vg e.gone.length (strC e.gone))
    (hr1 : e.res.length ≤ 4096) (hr2 : ∀ r ∈ e.res, (-2147483648 ≤ r.1 ∧ r.1 ≤ 2147483647) ∧ (-2147483648 ≤ r.2 ∧ r.2 ≤ 2147483647)) (hg1 : e.gone.length ≤ 4096) (hg2 : ∀ s ∈ e.gone, s.size ≤ 1048576) (hv2 : ∀ v ∈ e.vals, -2147483648 ≤ v.2 ∧ v.2 ≤ 2147483647) (hl : L.length + (valsL n e).length ≤ 1099511627776) :
    Calls Tryz.prog 91 #[.agg (penV bb dd ll), .agg #[.string e.name, vv, vr, vg]] w (PnQ W B bb dd (L ++ valsL n e) n w) := by
  have hlt := h.bi.lt.2
  have s1 := World.size_alloc w (.cells (penV bb dd ll) 89)
  have k1 := heap_new w (.cells (penV bb dd ll) 89)
  have k2 := heap_new (w.alloc (.cells (penV bb dd ll) 89)) (.cells #[.string e.name, vv, vr, vg] 67)
  rw [s1] at k2
  have k1' := (Below.heap_alloc (w.alloc (.cells (penV bb dd ll) 89)) (.cells #[.string e.name, vv, vr, vg] 67) _ (by rw [s1]; omega)).trans k1
  have hbV : Below w.heap.size w ((w.alloc (.cells (penV bb dd ll) 89)).alloc (.cells #[.string e.name, vv, vr, vg] 67)) := ((Below.refl _ _).alloc (Nat.le_refl _) _).alloc (by omega) _
  have hlen : (valsL n e).length = (rsvL n 2147483647 e.res e.gone).length + (e.vals.flatMap (valL n)).length := by unfold valsL; rw [List.length_append]
  have HR := hide (reserved_any (ll := ll) (most := 2147483647) (h.below hbV) hP hF hr hg hr1 hr2 hg1 hg2 (by omega))
  unfold penV at k1' k2 hbV HR ⊢
  obtain ⟨V, hV⟩ : ∃ V, (w.alloc (.cells #[fLine bb dd, fBlock ll dd, fWhole bb] 89)).alloc (.cells #[.string e.name, vv, vr, vg] 67) = V := ⟨_, rfl⟩
  rw [hV] at k1' k2 hbV HR
  obtain ⟨c0, c1, c2, c3⟩ := en4 k2
  have p0 : V.cell? ⟨w.heap.size, 0, none⟩ = some (fLine bb dd) := cell_of_row _ _ _ _ _ _ k1'
  have p1 : V.cell? ⟨w.heap.size, 1, none⟩ = some (fBlock ll dd) := cell_of_row _ _ _ _ _ _ k1'
  have p2 : V.cell? ⟨w.heap.size, 2, none⟩ = some (fWhole bb) := cell_of_row _ _ _ _ _ _ k1'
  obtain ⟨av, cv, rfl, hnv, hv3⟩ := hv
  obtain ⟨ar, cr, rfl, -, -⟩ := hr
  obtain ⟨ag, cg, rfl, -, -⟩ := hg
  have HV := hide hv3
  have HKV := hide (show Kp bb w V from Kp.below hbV)
  have HK1 := hide k1'
  have HK2 := hide k2
  have Hpb := hide (show w.heap.size ≠ bb by omega)
  have Hpb2 := hide (show w.heap.size + 1 ≠ bb by omega)
  unfold fLine fBlock fWhole at hV HK1 HR ⊢
  unfold fLine at p0
  unfold fBlock at p1
  unfold fWhole at p2
  clear k1 k1' k2 hbV s1 hlt h hr1 hr2 hg1 hg2 hF hlen
  go_enter Tryz.func91, Tryz.ntmps91
  go_wp2_with fail
  refine (unhide HR).mono ?_
  rintro e' w1 ⟨rfl, hp1, hk1⟩
  have j1 := hk1 _ _ _ _ (unhide Hpb) (unhide HK1) (by decide)
  have j2 := hk1 _ _ _ _ (unhide Hpb2) (unhide HK2) (by decide)
  obtain ⟨d0, d1, d2, d3⟩ := en4 j2
  have HP1 := hide hp1
  have HKp1 := hide ((unhide HKV).trans hk1)
  have HJ1 := hide j1
  have Hl := hide hl
  have HvB := hide hv2
  have HPu : Hid (∀ w, Below W.heap.size W w → HasP w) := fun w h => hP.up h
  clear c0 c1 c2 c3 p0 p1 p2 hp1 hk1 j1 j2 hl hv2 hP HR HKV HK1 HK2 hV
  go_wp2_with fail
  clear d0 d1 d2 d3
  go_loopg [5, 15] e.vals.length (fun gk _ v15 wr => ∃ (i : Nat), v15 = .int .i64 (i : Int) ∧ gk = e.vals.length - i ∧ i ≤ e.vals.length ∧ Hid (Pn W B bb dd (L ++ rsvL n 2147483647 e.res e.gone ++ (e.vals.take i).flatMap (valL n)) n wr) ∧ Hid (Kp bb w wr) ∧ Hid (wr.heap[w.heap.size]? = some (.cells #[.func (.func 80) #[] #[.pointer (some ⟨bb, 0, none⟩), .pointer (some ⟨dd, 0, none⟩)], .func (.func 84) #[] #[.pointer (some ⟨ll, 0, none⟩), .pointer (some ⟨dd, 0, none⟩)], .func (.func 85) #[.pointer (some ⟨bb, 0, none⟩)] #[]] 89 (0, 0))))
  case atStart => exact ⟨0, rfl, rfl, by omega, by rw [List.take_zero, List.flatMap_nil, List.append_nil]; exact HP1, HKp1, HJ1⟩
  case round =>
    obtain ⟨i, rfl, hgk, hi, HP2, HK2, HJ2⟩ := hrel
    have Hgk := hide hgk
    clear hgk HP1 HKp1 HJ1
    by_cases hlt : i < e.vals.length
    · obtain ⟨g, o, rfl, hg, hc⟩ := unhide HV (by omega)
      have hr := List.getElem?_eq_getElem hlt
      have hmem := List.getElem_mem hlt
      obtain ⟨r, hrr⟩ : ∃ r, e.vals[i] = r := ⟨_, rfl⟩
      rw [hrr] at hr hmem
      have x0 := ((unhide HP2).bel.cell (p := ⟨g, o + (i * 2 + 0), none⟩) hg).trans (hc _ _ (evC_at hr (j := 0) (by decide)))
      have x1 := ((unhide HP2).bel.cell (p := ⟨g, o + (i * 2 + 1), none⟩) hg).trans (hc _ _ (evC_at hr (j := 1) (by decide)))
      rw [Nat.add_zero] at x0
      rw [← Nat.add_assoc] at x1
      have hfl : (e.vals.take (i + 1)).flatMap (valL n) = (e.vals.take i).flatMap (valL n) ++ valL n r := by
        obtain ⟨hi3, rfl⟩ := List.getElem?_eq_some_iff.1 hr
        rw [List.take_succ_eq_append_getElem hi3, List.flatMap_append]
        simp
      have hll : (L ++ rsvL n 2147483647 e.res e.gone ++ (e.vals.take i).flatMap (valL n)).length + (valL n r).length ≤ 1099511627776 := by
        have h1 : (valsL n e).length = (rsvL n 2147483647 e.res e.gone).length + ((e.vals.take (i + 1)).flatMap (valL n)).length + ((e.vals.drop (i + 1)).flatMap (valL n)).length := by
          have e2 : e.vals.flatMap (valL n) = (e.vals.take (i + 1)).flatMap (valL n) ++ (e.vals.drop (i + 1)).flatMap (valL n) := by rw [← List.flatMap_append, List.take_append_drop]
          unfold valsL
          rw [List.length_append, e2, List.length_append]
          omega
        rw [hfl, List.length_append] at h1
        rw [List.length_append, List.length_append]
        have := unhide Hl
        omega
      have hn0 := heap_new wr (.cells #[.string r.1, .int .i64 r.2] 74)
      have hb0 : Below wr.heap.size wr (wr.alloc (.cells #[.string r.1, .int .i64 r.2] 74)) := (Below.refl _ _).alloc (Nat.le_refl _) _
      obtain ⟨X, hX⟩ : ∃ X, wr.alloc (.cells #[.string r.1, .int .i64 r.2] 74) = X := ⟨_, rfl⟩
      rw [hX] at hn0 hb0
      have hpX := (unhide HP2).below hb0
      have jX := (hb0.block _ (Array.getElem?_eq_some_iff.1 (unhide HJ2)).1).trans (unhide HJ2)
      have hTX : (fun w' : World => w'.cell? ⟨w.heap.size, 0, none⟩ = some (.func (.func 80) #[] #[.pointer (some ⟨bb, 0, none⟩), .pointer (some ⟨dd, 0, none⟩)]) ∧ w'.cell? ⟨wr.heap.size, 0, none⟩ = some (.string r.1) ∧ w'.cell? ⟨wr.heap.size, 1, none⟩ = some (.int .i64 r.2)) X := ⟨cell_of_row _ _ _ _ _ _ jX, cell_of_row _ _ _ _ _ _ hn0, cell_of_row _ _ _ _ _ _ hn0⟩
      have hT : (fun w' : World => w'.cell? ⟨w.heap.size, 0, none⟩ = some (.func (.func 80) #[] #[.pointer (some ⟨bb, 0, none⟩), .pointer (some ⟨dd, 0, none⟩)]) ∧ w'.cell? ⟨wr.heap.size, 0, none⟩ = some (.string r.1) ∧ w'.cell? ⟨wr.heap.size, 1, none⟩ = some (.int .i64 r.2)) X.drew := hTX
      have i0 : (0 : Int) ≤ (i : Int) := Int.natCast_nonneg _
      have i1 : (i : Int) < (e.vals.length : Int) := by omega
      have Hlt := hide hlt
      have HJX := hide jX
      have HNX := hide hn0
      have HKX := hide (show Kp bb w X from (unhide HK2).trans (Kp.below hb0))
      have HIt := hide (fun w' (h : HasP w') => itoa_any h r.2 (by have := unhide HvB r hmem; omega) (by have := unhide HvB r hmem; omega))
      have Hll := hide hll
      have Hfl := hide hfl
      have Hwr := hide (show wr.heap.size ≠ bb by have := (unhide HP2).bi.lt.2; omega)
      clear hc hr hmem hrr hfl hll hn0 jX hTX hlt
      go_upto_region 5 with fail
      refine wp_region_any (by kernel_rfl) (wpAny_of_Z (z := 99) (T := fun w' => w'.cell? ⟨w.heap.size, 0, none⟩ = some (.func (.func 80) #[] #[.pointer (some ⟨bb, 0, none⟩), .pointer (some ⟨dd, 0, none⟩)]) ∧ w'.cell? ⟨wr.heap.size, 0, none⟩ = some (.string r.1) ∧ w'.cell? ⟨wr.heap.size, 1, none⟩ = some (.int .i64 r.2)) _ _ _ _ ?_)
      try (change wpAnyZ _ _ _ _ _ _ _ _ _ (World.drew _))
      refine wpAnyZ_tk 0 (.pointer (some ⟨w.heap.size, 0, none⟩)) 19 rfl rfl (Or.inl ⟨by rfl, fun w' hw => by obtain ⟨hw0, hw1, hw2⟩ := hw; go_simp⟩) hT ?_
      simp only [Act.put, List.setIfInBounds_toArray, List.set_cons_zero, List.set_cons_succ]
      refine wpAnyZ_tk 1 (.func (.func 80) #[] #[.pointer (some ⟨bb, 0, none⟩), .pointer (some ⟨dd, 0, none⟩)]) 20 rfl rfl (Or.inl ⟨by rfl, fun w' hw => by obtain ⟨hw0, hw1, hw2⟩ := hw; go_simp⟩) hT ?_
      simp only [Act.put, List.setIfInBounds_toArray, List.set_cons_zero, List.set_cons_succ]
      refine wpAnyZ_tk 2 (.pointer (some ⟨wr.heap.size, 0, none⟩)) 21 rfl rfl (Or.inl ⟨by rfl, fun w' hw => by obtain ⟨hw0, hw1, hw2⟩ := hw; go_simp⟩) hT ?_
      simp only [Act.put, List.setIfInBounds_toArray, List.set_cons_zero, List.set_cons_succ]
      refine wpAnyZ_tk 3 (.string r.1) 22 rfl rfl (Or.inl ⟨by rfl, fun w' hw => by obtain ⟨hw0, hw1, hw2⟩ := hw; go_simp⟩) hT ?_
      simp only [Act.put, List.setIfInBounds_toArray, List.set_cons_zero, List.set_cons_succ]
      refine wpAnyZ_tk 4 (.pointer (some ⟨wr.heap.size, 1, none⟩)) 23 rfl rfl (Or.inl ⟨by rfl, fun w' hw => by obtain ⟨hw0, hw1, hw2⟩ := hw; go_simp⟩) hT ?_
      simp only [Act.put, List.setIfInBounds_toArray, List.set_cons_zero, List.set_cons_succ]
      refine wpAnyZ_tk 5 (.int .i64 r.2) 24 rfl rfl (Or.inl ⟨by rfl, fun w' hw => by obtain ⟨hw0, hw1, hw2⟩ := hw; go_simp⟩) hT ?_
      simp only [Act.put, List.setIfInBounds_toArray, List.set_cons_zero, List.set_cons_succ]
      refine wpAnyZ_one 6 (by kernel_rfl) rfl (fun K hK => ?_)
      refine step_callD 25 rfl rfl 134 (fun vs => by kernel_rfl) #[.tmp 24] #[3] rfl #[.int .i64 r.2] (by first | rfl | simp [Act.eval]) (unhide HIt X.drew (unhide HPu _ (below_drewN hpX.bel 1))) ?_
      rintro e' w3 ⟨rfl, hb3⟩
      have hb3 : Below X.heap.size X w3 := ⟨hb3.os, hb3.tape, hb3.output, hb3.size, hb3.block⟩
      have hp3 := hpX.below hb3
      have hk3 := (unhide HKX).trans (Kp.below hb3)
      have hT3 : (fun w' : World => w'.cell? ⟨w.heap.size, 0, none⟩ = some (.func (.func 80) #[] #[.pointer (some ⟨bb, 0, none⟩), .pointer (some ⟨dd, 0, none⟩)]) ∧ w'.cell? ⟨wr.heap.size, 0, none⟩ = some (.string r.1) ∧ w'.cell? ⟨wr.heap.size, 1, none⟩ = some (.int .i64 r.2)) w3 := ⟨cell_of_row _ _ _ _ _ _ ((hb3.block _ (Array.getElem?_eq_some_iff.1 (unhide HJX)).1).trans (unhide HJX)), cell_of_row _ _ _ _ _ _ ((hb3.block _ (Array.getElem?_eq_some_iff.1 (unhide HNX)).1).trans (unhide HNX)), cell_of_row _ _ _ _ _ _ ((hb3.block _ (Array.getElem?_eq_some_iff.1 (unhide HNX)).1).trans (unhide HNX))⟩
      refine ⟨_, rfl, hK _ _ ⟨fun _ => hT3, ?_⟩⟩
      clear hK K hT
      simp only [Act.put, List.setIfInBounds_toArray, List.set_cons_zero, List.set_cons_succ]
      have hb4 : Below w3.heap.size w3 (w3.alloc (.cells #[.string r.1, .string ⟨#[32, 61, 32]⟩, .string (itoaB r.2), .string ⟨#[59]⟩] 9)) := (Below.refl _ _).alloc (Nat.le_refl _) _
      have hT4 : (fun w' : World => w'.cell? ⟨w.heap.size, 0, none⟩ = some (.func (.func 80) #[] #[.pointer (some ⟨bb, 0, none⟩), .pointer (some ⟨dd, 0, none⟩)]) ∧ w'.cell? ⟨wr.heap.size, 0, none⟩ = some (.string r.1) ∧ w'.cell? ⟨wr.heap.size, 1, none⟩ = some (.int .i64 r.2)) (w3.alloc (.cells #[.string r.1, .string ⟨#[32, 61, 32]⟩, .string (itoaB r.2), .string ⟨#[59]⟩] 9)) := ⟨cell_of_row _ _ _ _ _ _ (((Kp.below hb3).trans (Kp.below hb4)) _ _ _ _ (unhide Hpb) (unhide HJX) (by decide)), cell_of_row _ _ _ _ _ _ (((Kp.below hb3).trans (Kp.below hb4)) _ _ _ _ (unhide Hwr) (unhide HNX) (by decide)), cell_of_row _ _ _ _ _ _ (((Kp.below hb3).trans (Kp.below hb4)) _ _ _ _ (unhide Hwr) (unhide HNX) (by decide))⟩
      refine wpAnyZ_one 7 (by kernel_rfl) rfl (fun K hK => ?_)
      go_simp
      refine hK _ _ ⟨fun _ => hT4, ?_⟩
      clear hK K
      refine wpAnyZ_one 8 (by kernel_rfl) rfl (fun K hK => ?_)
      refine step_callF 27 20 rfl 80 #[] #[.pointer (some ⟨bb, 0, none⟩), .pointer (some ⟨dd, 0, none⟩)] (fun vs => by kernel_rfl) #[.tmp 26] #[22] rfl (by first | rfl | simp [Act.eval]) #[.slice (some ⟨w3.heap.size, 0, none⟩) 4 4, .pointer (some ⟨bb, 0, none⟩), .pointer (some ⟨dd, 0, none⟩)] (by first | rfl | simp [Act.eval]) (line_any (hp3.below hb4) (pt_new (ps := [r.1, ⟨#[32, 61, 32]⟩, itoaB r.2, ⟨#[59]⟩]) (c := 4) rfl hp3.bi.lt.2) (unhide Hll) (by simp)) (by rfl) ?_
      rintro e' w5 ⟨rfl, hp5, hk5⟩
      have hk5' : Kp bb X w5 := ((Kp.below hb3).trans (Kp.below hb4)).trans hk5
      have HP5 := hide (show Pn W B bb dd (L ++ rsvL n 2147483647 e.res e.gone ++ (e.vals.take (i + 1)).flatMap (valL n)) n w5 by rw [unhide Hfl, ← List.append_assoc]; exact hp5)
      have HK5 := hide ((unhide HKX).trans hk5')
      have HJ5 := hide (hk5' _ _ _ _ (unhide Hpb) (unhide HJX) (by decide))
      have hT5 : (fun w' : World => w'.cell? ⟨w.heap.size, 0, none⟩ = some (.func (.func 80) #[] #[.pointer (some ⟨bb, 0, none⟩), .pointer (some ⟨dd, 0, none⟩)]) ∧ w'.cell? ⟨wr.heap.size, 0, none⟩ = some (.string r.1) ∧ w'.cell? ⟨wr.heap.size, 1, none⟩ = some (.int .i64 r.2)) w5 := ⟨cell_of_row _ _ _ _ _ _ (unhide HJ5), cell_of_row _ _ _ _ _ _ (hk5' _ _ _ _ (unhide Hwr) (unhide HNX) (by decide)), cell_of_row _ _ _ _ _ _ (hk5' _ _ _ _ (unhide Hwr) (unhide HNX) (by decide))⟩
      refine ⟨_, rfl, hK _ _ ⟨fun _ => hT5, ?_⟩⟩
      clear hK K hT3 hT4 hT5 hp5 hk5 hk5' hb3 hb4 hp3 hk3 hpX hb0 HKX HJX HNX HIt Hll Hfl HP2 HK2 HJ2
      simp only [Act.put, List.setIfInBounds_toArray, List.set_cons_zero, List.set_cons_succ]
      refine wpAnyZ_done (by kernel_rfl) ?_
      go_wp2
      go_roundg (e.vals.length - (i + 1))
      case measure => have := unhide Hgk; have := unhide Hlt; omega
      case rel => exact ⟨i + 1, by go_num, rfl, unhide Hlt, HP5, HK5, HJ5⟩
    · obtain rfl : i = e.vals.length := by omega
      have hP9 := unhide HP2
      rw [List.take_length, List.append_assoc] at hP9
      have HE := hide (show PnQ W B bb dd (L ++ valsL n e) n w (.returned (.tuple #[])) wr from ⟨rfl, hP9, unhide HK2⟩)
      clear hP9 HP2 HK2
      go_wp2
      refine bodyPost_ret (results_none rfl _ _ _) rfl ?_
      exact unhide HE
end Go.Proofs.YtaadpiimcaabkaaGreatDoor
