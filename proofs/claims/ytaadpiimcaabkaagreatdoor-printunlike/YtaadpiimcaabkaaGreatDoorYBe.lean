import Derived.Test.YtaadpiimcaabkaaGreatDoorYBd

namespace Go.Proofs.YtaadpiimcaabkaaGreatDoor
open Go.RowKit
attribute [local go_sem ↓] Go.wp_at_zero Go.wp_at_succ

set_option maxRecDepth 100000 in
set_option maxHeartbeats 1000000 in
theorem messages_0 : MesC 0 := by
  intro W v l cs hv _ _ _ w0 hw
  obtain ⟨a, c, rfl, hn, -⟩ := hv
  have HB := hide (Below.refl w0.heap.size w0)
  clear hw
  go_enter Tryz.func17, Tryz.ntmps17
  go_wp2
  go_loopg [5, 6, 7, 8] 1 (fun gk v5 v6 _ _ wr => v5 = .slice none 0 0 ∧ v6 = .int .i64 0 ∧ gk = 1 ∧ Hid (wr = w0))
  case atStart => exact ⟨rfl, rfl, rfl, rfl⟩
  case round =>
    obtain ⟨rfl, rfl, hgk, HW⟩ := hrel
    clear hgk
    by_cases h0 : (0 : Int) < (l.length : Int)
    · go_wp2
      go_ret
      have := unhide HW
      subst this
      first | exact ⟨_, [], rfl, ⟨rfl, .inl ⟨rfl, rfl⟩⟩, .nil, unhide HB⟩ | exact ⟨_, rfl, [], ⟨rfl, .inl ⟨rfl, rfl⟩⟩, .nil, unhide HB⟩
    · go_wp2
      go_ret
      have := unhide HW
      subst this
      first | exact ⟨_, [], rfl, ⟨rfl, .inl ⟨rfl, rfl⟩⟩, .nil, unhide HB⟩ | exact ⟨_, rfl, [], ⟨rfl, .inl ⟨rfl, rfl⟩⟩, .nil, unhide HB⟩
set_option maxRecDepth 100000 in
set_option maxHeartbeats 8000000 in
theorem messages_succ {f : Nat} (hf : f < 200) (ih : MesC f) : MesC (f + 1) := by
  intro W v l cs hv hm hl hz w0 hw
  obtain ⟨a, c, rfl, hn, h2⟩ := hv
  obtain ⟨i0, hi, hz0, hz1, hz2⟩ := info_parts infoMs
  obtain ⟨j0, hj, jz0, jz1, jz2⟩ := info_parts infoFd
  obtain ⟨dz, hdz⟩ : ∃ z, (200 - ((f + 1 : Nat) : Int)) = z := ⟨_, rfl⟩
  rw [hdz]
  have hd0 : 0 ≤ dz := by omega
  have hd1 : dz < 200 := by omega
  have Hdz := hide (show dz + 1 = 200 - (f : Int) by omega)
  have H2 := hide h2
  have HW := hide hw
  have Hl := hide hl
  have Hms := hide hm
  have Hz := hide hz
  have Hih := hide ih
  clear h2 hw hl hm hz ih hdz hf
  go_enter Tryz.func17, Tryz.ntmps17
  go_wp2
  go_loopg [5, 6, 7, 8] l.length (fun gk v5 v6 _ _ wr => ∃ (i : Nat) (cs' : List Value), v6 = .int .i64 (i : Int) ∧ gk = l.length - i ∧ i ≤ l.length ∧ Hid (wr.ownsRow w0.heap.size 46 7 v5 i cs') ∧ Hid (MsO (Rest w0.heap.size v5) wr cs' ((l.take i).map (cutM f))) ∧ Hid (Below w0.heap.size w0 wr))
  case atStart => exact ⟨0, [], rfl, rfl, by omega, ⟨rfl, .inl ⟨rfl, rfl⟩⟩, .nil, Below.refl _ _⟩
  case round =>
    obtain ⟨i, cs', rfl, hgk, hi2, HO, HES, HB⟩ := hrel
    have Hgk := hide hgk
    clear hgk
    obtain ⟨wo, hwo⟩ : ∃ x, x = wr := ⟨_, rfl⟩
    subst hwo
    by_cases hlt : i < l.length
    · obtain ⟨g, o, rfl, hg, hc⟩ := unhide H2 (by omega)
      have hr := List.getElem?_eq_getElem hlt
      have hmem := List.getElem_mem hlt
      obtain ⟨m, hmm⟩ : ∃ m, l[i] = m := ⟨_, rfl⟩
      rw [hmm] at hr hmem
      obtain ⟨vf, vo, vm, ve, vr, vg, nm, fs, os, ms, es, rs, gs, cm, ce, hsl, hV⟩ := (unhide Hms).at i m hr
      obtain rfl := hV.is
      have hzm := unhide Hz _ hmem
      obtain ⟨s1, s2, s3, s4, s5, s6, s7⟩ := hzm.s
      have HBW := hide (show Below W.heap.size W wo from (unhide HW).trans ((unhide HB).mono (unhide HW).size))
      have HXs : Hid (∀ w', Below W.heap.size W w' → w'.cell? ⟨g, o + i * 7, none⟩ = some (.string nm) ∧ w'.cell? ⟨g, o + i * 7 + 1, none⟩ = some vf ∧ w'.cell? ⟨g, o + i * 7 + 2, none⟩ = some vo ∧ w'.cell? ⟨g, o + i * 7 + 3, none⟩ = some vm ∧ w'.cell? ⟨g, o + i * 7 + 4, none⟩ = some ve ∧ w'.cell? ⟨g, o + i * 7 + 5, none⟩ = some vr ∧ w'.cell? ⟨g, o + i * 7 + 6, none⟩ = some vg) := by
        intro w' hb
        have key : ∀ (j : Nat) (x : Value), [Value.string nm, vf, vo, vm, ve, vr, vg][j]? = some x → w'.cell? ⟨g, o + (i * 7 + j), none⟩ = some x := fun j x hx => (hb.cell (p := ⟨g, o + (i * 7 + j), none⟩) hg).trans (hc _ _ (by
          rw [← hsl, List.getElem?_take, List.getElem?_drop] at hx
          split at hx
          · exact hx
          · cases hx))
        exact ⟨key 0 _ rfl, key 1 _ rfl, key 2 _ rfl, key 3 _ rfl, key 4 _ rfl, key 5 _ rfl, key 6 _ rfl⟩
      have HO1 := hide (fun w' hb => texts_any hV.ho s2 w' hb)
      have HM1 := hide (fun w' hb => unhide Hih W vm ms cm hV.hm hV.hms s3 hzm.2 w' hb)
      rw [← unhide Hdz] at HM1
      have HE1 := hide (fun w' hb => enums_any hV.he hV.hes s4 s5 w' hb)
      have HR1 := hide (fun w' hb => ranges_any hV.hr s6 w' hb)
      have HG1 := hide (fun w' hb => texts_any hV.hg s7 w' hb)
      obtain ⟨af, cf, rfl, hnf, hv3⟩ := hV.hf
      obtain ⟨ao, co, rfl, -, -⟩ := hV.ho
      obtain ⟨am, cm', rfl, -, -⟩ := hV.hm
      obtain ⟨ae, ce', rfl, -, -⟩ := hV.he
      obtain ⟨ar, cr, rfl, -, -⟩ := hV.hr
      obtain ⟨ag, cg, rfl, -, -⟩ := hV.hg
      have HV3 := hide hv3
      have i0' : (0 : Int) ≤ (i : Int) := Int.natCast_nonneg _
      have i1 : (i : Int) < (l.length : Int) := by omega
      have Hlt := hide hlt
      have Hr := hide hr
      have HS := hide (show ReS fs os ms es rs gs from ⟨s1, s2, s3, s4, s5, s6, s7⟩)
      clear hc hmem hmm hsl hv3 hlt hr hV hzm s1 s2 s3 s4 s5 s6 s7
      go_upto_region 5 with fail
      go_cut [7] (fun v7 wx => ∃ (b : Nat) (uo um ue ur ug : Value) (cmx cex : List Value), v7 = .pointer (some ⟨b, 0, none⟩) ∧ ((∃ a c, uo = .slice a os.length c) ∧ (∃ a c, um = .slice a (cutL f ms).length c) ∧ (∃ a c, ue = .slice a es.length c) ∧ (∃ a c, ur = .slice a rs.length c) ∧ (∃ a c, ug = .slice a gs.length c)) ∧ Hid (CpM wo wx b (.slice none 0 0) uo um ue ur ug cmx cex nm os (cutL f ms) es rs gs))
      case first =>
        refine wp_region_any (by kernel_rfl) (wpAny_of_Z (z := 99) (T := fun w' => Below W.heap.size W w') _ _ _ _ ?_)
        try (change wpAnyZ _ _ _ _ _ _ _ _ _ (World.drew _))
        have hbW : Below W.heap.size W wo.drew := below_drewN (unhide HBW) 1
        have hbr : Below wo.heap.size wo wo.drew := below_drewN (Below.refl wo.heap.size wo) 1
        obtain ⟨wd, hwd⟩ : ∃ x, wo.drew = x := ⟨_, rfl⟩
        rw [hwd] at hbW hbr ⊢
        have hT := hbW
        refine wpAnyZ_tk 0 (.slice (some ⟨g, o, none⟩) l.length c) 19 rfl rfl (Or.inl ⟨by rfl, fun w' hw => by obtain ⟨x0, x1, x2, x3, x4, x5, x6⟩ := unhide HXs w' hw; go_simp⟩) hT ?_
        simp only [Act.put, List.setIfInBounds_toArray, List.set_cons_zero, List.set_cons_succ]
        refine wpAnyZ_tk 1 (.int .i64 (i : Int)) 20 rfl rfl (Or.inl ⟨by rfl, fun w' hw => by obtain ⟨x0, x1, x2, x3, x4, x5, x6⟩ := unhide HXs w' hw; go_simp⟩) hT ?_
        simp only [Act.put, List.setIfInBounds_toArray, List.set_cons_zero, List.set_cons_succ]
        refine wpAnyZ_tk 2 (.pointer (some ⟨g, o + i * 7, none⟩)) 21 rfl rfl (Or.inl ⟨by rfl, fun w' hw => by obtain ⟨x0, x1, x2, x3, x4, x5, x6⟩ := unhide HXs w' hw; go_simp⟩) hT ?_
        simp only [Act.put, List.setIfInBounds_toArray, List.set_cons_zero, List.set_cons_succ]
        refine wpAnyZ_tk 3 (.pointer (some ⟨g, o + i * 7, none⟩)) 22 rfl rfl (Or.inl ⟨by rfl, fun w' hw => by obtain ⟨x0, x1, x2, x3, x4, x5, x6⟩ := unhide HXs w' hw; go_simp⟩) hT ?_
        simp only [Act.put, List.setIfInBounds_toArray, List.set_cons_zero, List.set_cons_succ]
        refine wpAnyZ_tk 4 (.string nm) 23 rfl rfl (Or.inl ⟨by rfl, fun w' hw => by obtain ⟨x0, x1, x2, x3, x4, x5, x6⟩ := unhide HXs w' hw; go_simp⟩) hT ?_
        simp only [Act.put, List.setIfInBounds_toArray, List.set_cons_zero, List.set_cons_succ]
        refine wpAnyZ_tk 5 (.slice (some ⟨g, o, none⟩) l.length c) 24 rfl rfl (Or.inl ⟨by rfl, fun w' hw => by obtain ⟨x0, x1, x2, x3, x4, x5, x6⟩ := unhide HXs w' hw; go_simp⟩) hT ?_
        simp only [Act.put, List.setIfInBounds_toArray, List.set_cons_zero, List.set_cons_succ]
        refine wpAnyZ_tk 6 (.int .i64 (i : Int)) 25 rfl rfl (Or.inl ⟨by rfl, fun w' hw => by obtain ⟨x0, x1, x2, x3, x4, x5, x6⟩ := unhide HXs w' hw; go_simp⟩) hT ?_
        simp only [Act.put, List.setIfInBounds_toArray, List.set_cons_zero, List.set_cons_succ]
        refine wpAnyZ_tk 7 (.pointer (some ⟨g, o + i * 7, none⟩)) 26 rfl rfl (Or.inl ⟨by rfl, fun w' hw => by obtain ⟨x0, x1, x2, x3, x4, x5, x6⟩ := unhide HXs w' hw; go_simp⟩) hT ?_
        simp only [Act.put, List.setIfInBounds_toArray, List.set_cons_zero, List.set_cons_succ]
        refine wpAnyZ_tk 8 (.pointer (some ⟨g, o + i * 7 + 2, none⟩)) 27 rfl rfl (Or.inl ⟨by rfl, fun w' hw => by obtain ⟨x0, x1, x2, x3, x4, x5, x6⟩ := unhide HXs w' hw; go_simp⟩) hT ?_
        simp only [Act.put, List.setIfInBounds_toArray, List.set_cons_zero, List.set_cons_succ]
        refine wpAnyZ_tk 9 (.slice ao os.length co) 28 rfl rfl (Or.inl ⟨by rfl, fun w' hw => by obtain ⟨x0, x1, x2, x3, x4, x5, x6⟩ := unhide HXs w' hw; go_simp⟩) hT ?_
        simp only [Act.put, List.setIfInBounds_toArray, List.set_cons_zero, List.set_cons_succ]
        refine wpAnyZ_tk 11 (.slice (some ⟨g, o, none⟩) l.length c) 30 rfl rfl (Or.inl ⟨by rfl, fun w' hw => by obtain ⟨x0, x1, x2, x3, x4, x5, x6⟩ := unhide HXs w' hw; go_simp⟩) hT ?_
        simp only [Act.put, List.setIfInBounds_toArray, List.set_cons_zero, List.set_cons_succ]
        refine wpAnyZ_tk 12 (.int .i64 (i : Int)) 31 rfl rfl (Or.inl ⟨by rfl, fun w' hw => by obtain ⟨x0, x1, x2, x3, x4, x5, x6⟩ := unhide HXs w' hw; go_simp⟩) hT ?_
        simp only [Act.put, List.setIfInBounds_toArray, List.set_cons_zero, List.set_cons_succ]
        refine wpAnyZ_tk 13 (.pointer (some ⟨g, o + i * 7, none⟩)) 32 rfl rfl (Or.inl ⟨by rfl, fun w' hw => by obtain ⟨x0, x1, x2, x3, x4, x5, x6⟩ := unhide HXs w' hw; go_simp⟩) hT ?_
        simp only [Act.put, List.setIfInBounds_toArray, List.set_cons_zero, List.set_cons_succ]
        refine wpAnyZ_tk 14 (.pointer (some ⟨g, o + i * 7 + 3, none⟩)) 33 rfl rfl (Or.inl ⟨by rfl, fun w' hw => by obtain ⟨x0, x1, x2, x3, x4, x5, x6⟩ := unhide HXs w' hw; go_simp⟩) hT ?_
        simp only [Act.put, List.setIfInBounds_toArray, List.set_cons_zero, List.set_cons_succ]
        refine wpAnyZ_tk 15 (.slice am ms.length cm') 34 rfl rfl (Or.inl ⟨by rfl, fun w' hw => by obtain ⟨x0, x1, x2, x3, x4, x5, x6⟩ := unhide HXs w' hw; go_simp⟩) hT ?_
        simp only [Act.put, List.setIfInBounds_toArray, List.set_cons_zero, List.set_cons_succ]
        refine wpAnyZ_tk 16 (.int .i64 dz) 35 rfl rfl (Or.inl ⟨by rfl, fun w' hw => by obtain ⟨x0, x1, x2, x3, x4, x5, x6⟩ := unhide HXs w' hw; go_simp⟩) hT ?_
        simp only [Act.put, List.setIfInBounds_toArray, List.set_cons_zero, List.set_cons_succ]
        refine wpAnyZ_tk 17 (.int .i64 (dz + 1)) 36 rfl rfl (Or.inl ⟨by rfl, fun w' hw => by obtain ⟨x0, x1, x2, x3, x4, x5, x6⟩ := unhide HXs w' hw; go_simp; try exact IntWalk.i64_in _ (by omega)⟩) hT ?_
        simp only [Act.put, List.setIfInBounds_toArray, List.set_cons_zero, List.set_cons_succ]
        refine wpAnyZ_tk 19 (.slice (some ⟨g, o, none⟩) l.length c) 38 rfl rfl (Or.inl ⟨by rfl, fun w' hw => by obtain ⟨x0, x1, x2, x3, x4, x5, x6⟩ := unhide HXs w' hw; go_simp⟩) hT ?_
        simp only [Act.put, List.setIfInBounds_toArray, List.set_cons_zero, List.set_cons_succ]
        refine wpAnyZ_tk 20 (.int .i64 (i : Int)) 39 rfl rfl (Or.inl ⟨by rfl, fun w' hw => by obtain ⟨x0, x1, x2, x3, x4, x5, x6⟩ := unhide HXs w' hw; go_simp⟩) hT ?_
        simp only [Act.put, List.setIfInBounds_toArray, List.set_cons_zero, List.set_cons_succ]
        refine wpAnyZ_tk 21 (.pointer (some ⟨g, o + i * 7, none⟩)) 40 rfl rfl (Or.inl ⟨by rfl, fun w' hw => by obtain ⟨x0, x1, x2, x3, x4, x5, x6⟩ := unhide HXs w' hw; go_simp⟩) hT ?_
        simp only [Act.put, List.setIfInBounds_toArray, List.set_cons_zero, List.set_cons_succ]
        refine wpAnyZ_tk 22 (.pointer (some ⟨g, o + i * 7 + 4, none⟩)) 41 rfl rfl (Or.inl ⟨by rfl, fun w' hw => by obtain ⟨x0, x1, x2, x3, x4, x5, x6⟩ := unhide HXs w' hw; go_simp⟩) hT ?_
        simp only [Act.put, List.setIfInBounds_toArray, List.set_cons_zero, List.set_cons_succ]
        refine wpAnyZ_tk 23 (.slice ae es.length ce') 42 rfl rfl (Or.inl ⟨by rfl, fun w' hw => by obtain ⟨x0, x1, x2, x3, x4, x5, x6⟩ := unhide HXs w' hw; go_simp⟩) hT ?_
        simp only [Act.put, List.setIfInBounds_toArray, List.set_cons_zero, List.set_cons_succ]
        refine wpAnyZ_tk 25 (.slice (some ⟨g, o, none⟩) l.length c) 44 rfl rfl (Or.inl ⟨by rfl, fun w' hw => by obtain ⟨x0, x1, x2, x3, x4, x5, x6⟩ := unhide HXs w' hw; go_simp⟩) hT ?_
        simp only [Act.put, List.setIfInBounds_toArray, List.set_cons_zero, List.set_cons_succ]
        refine wpAnyZ_tk 26 (.int .i64 (i : Int)) 45 rfl rfl (Or.inl ⟨by rfl, fun w' hw => by obtain ⟨x0, x1, x2, x3, x4, x5, x6⟩ := unhide HXs w' hw; go_simp⟩) hT ?_
        simp only [Act.put, List.setIfInBounds_toArray, List.set_cons_zero, List.set_cons_succ]
        refine wpAnyZ_tk 27 (.pointer (some ⟨g, o + i * 7, none⟩)) 46 rfl rfl (Or.inl ⟨by rfl, fun w' hw => by obtain ⟨x0, x1, x2, x3, x4, x5, x6⟩ := unhide HXs w' hw; go_simp⟩) hT ?_
        simp only [Act.put, List.setIfInBounds_toArray, List.set_cons_zero, List.set_cons_succ]
        refine wpAnyZ_tk 28 (.pointer (some ⟨g, o + i * 7 + 5, none⟩)) 47 rfl rfl (Or.inl ⟨by rfl, fun w' hw => by obtain ⟨x0, x1, x2, x3, x4, x5, x6⟩ := unhide HXs w' hw; go_simp⟩) hT ?_
        simp only [Act.put, List.setIfInBounds_toArray, List.set_cons_zero, List.set_cons_succ]
        refine wpAnyZ_tk 29 (.slice ar rs.length cr) 48 rfl rfl (Or.inl ⟨by rfl, fun w' hw => by obtain ⟨x0, x1, x2, x3, x4, x5, x6⟩ := unhide HXs w' hw; go_simp⟩) hT ?_
        simp only [Act.put, List.setIfInBounds_toArray, List.set_cons_zero, List.set_cons_succ]
        refine wpAnyZ_tk 31 (.slice (some ⟨g, o, none⟩) l.length c) 50 rfl rfl (Or.inl ⟨by rfl, fun w' hw => by obtain ⟨x0, x1, x2, x3, x4, x5, x6⟩ := unhide HXs w' hw; go_simp⟩) hT ?_
        simp only [Act.put, List.setIfInBounds_toArray, List.set_cons_zero, List.set_cons_succ]
        refine wpAnyZ_tk 32 (.int .i64 (i : Int)) 51 rfl rfl (Or.inl ⟨by rfl, fun w' hw => by obtain ⟨x0, x1, x2, x3, x4, x5, x6⟩ := unhide HXs w' hw; go_simp⟩) hT ?_
        simp only [Act.put, List.setIfInBounds_toArray, List.set_cons_zero, List.set_cons_succ]
        refine wpAnyZ_tk 33 (.pointer (some ⟨g, o + i * 7, none⟩)) 52 rfl rfl (Or.inl ⟨by rfl, fun w' hw => by obtain ⟨x0, x1, x2, x3, x4, x5, x6⟩ := unhide HXs w' hw; go_simp⟩) hT ?_
        simp only [Act.put, List.setIfInBounds_toArray, List.set_cons_zero, List.set_cons_succ]
        refine wpAnyZ_tk 34 (.pointer (some ⟨g, o + i * 7 + 6, none⟩)) 53 rfl rfl (Or.inl ⟨by rfl, fun w' hw => by obtain ⟨x0, x1, x2, x3, x4, x5, x6⟩ := unhide HXs w' hw; go_simp⟩) hT ?_
        simp only [Act.put, List.setIfInBounds_toArray, List.set_cons_zero, List.set_cons_succ]
        refine wpAnyZ_tk 35 (.slice ag gs.length cg) 54 rfl rfl (Or.inl ⟨by rfl, fun w' hw => by obtain ⟨x0, x1, x2, x3, x4, x5, x6⟩ := unhide HXs w' hw; go_simp⟩) hT ?_
        simp only [Act.put, List.setIfInBounds_toArray, List.set_cons_zero, List.set_cons_succ]
        clear hT
        refine wpAnyZ_two 10 38 (by kernel_rfl) rfl rfl (fun K hK => ?_) (fun K hK => ?_)
        · refine step_callD 29 rfl rfl 16 (fun vs => by kernel_rfl) #[.tmp 28] #[22] rfl #[.slice ao os.length co] (by first | rfl | simp [Act.eval]) (unhide HO1 wd hbW) ?_
          rintro e' wc1 ⟨u1, rfl, ho1, hbn⟩
          obtain ⟨ua1, uc1, rfl⟩ := own_form ho1
          have ho1 := (own_owR ho1 (by have := (unhide HS).2.1; omega)).mono (st0 hbr.size)
          have hbr := hbr.trans (hbn.mono hbr.size)
          have hbW := hbW.trans (hbn.mono hbW.size)
          refine ⟨_, rfl, hK _ _ ⟨fun _ => hbW, ?_⟩⟩
          clear hK K hbn 
          simp only [Act.put, List.setIfInBounds_toArray, List.set_cons_zero, List.set_cons_succ]
          refine wpAnyZ_two 18 38 (by kernel_rfl) rfl rfl (fun K hK => ?_) (fun K hK => ?_)
          · refine step_callD 37 rfl rfl 17 (fun vs => by kernel_rfl) #[.tmp 34, .tmp 36] #[23, 3] rfl #[.slice am ms.length cm', .int .i64 (dz + 1)] (by first | rfl | simp [Act.eval]) (unhide HM1 wc1 hbW) ?_
            rintro e' wc2 ⟨u2, cs2, rfl, ho2, hs2, hbn⟩
            have ho1 := ho1.mono (stays_below hbn)
            obtain ⟨ua2, uc2, rfl⟩ := own_form ho2
            have ho2 := (own_owR ho2 (by have := (unhide HS).2.2.1; have := cutL_len (f := f) (l := ms); omega)).mono (st0 hbr.size)
            have hs2 := hs2.mono (sr0 hbr.size)
            have hbr := hbr.trans (hbn.mono hbr.size)
            have hbW := hbW.trans (hbn.mono hbW.size)
            refine ⟨_, rfl, hK _ _ ⟨fun _ => hbW, ?_⟩⟩
            clear hK K hbn 
            simp only [Act.put, List.setIfInBounds_toArray, List.set_cons_zero, List.set_cons_succ]
            refine wpAnyZ_two 24 38 (by kernel_rfl) rfl rfl (fun K hK => ?_) (fun K hK => ?_)
            · refine step_callD 43 rfl rfl 18 (fun vs => by kernel_rfl) #[.tmp 42] #[24] rfl #[.slice ae es.length ce'] (by first | rfl | simp [Act.eval]) (unhide HE1 wc2 hbW) ?_
              rintro e' wc3 ⟨u3, cs3, rfl, ho3, hs3, hbn⟩
              have ho1 := ho1.mono (stays_below hbn)
              have ho2 := ho2.mono (stays_below hbn)
              have hs2 := hs2.mono (stays_below hbn)
              obtain ⟨ua3, uc3, rfl⟩ := own_form ho3
              have ho3 := (own_owR ho3 (by have := (unhide HS).2.2.2.1; omega)).mono (st0 hbr.size)
              have hs3 := hs3.mono (sr0 hbr.size)
              have hbr := hbr.trans (hbn.mono hbr.size)
              have hbW := hbW.trans (hbn.mono hbW.size)
              refine ⟨_, rfl, hK _ _ ⟨fun _ => hbW, ?_⟩⟩
              clear hK K hbn 
              simp only [Act.put, List.setIfInBounds_toArray, List.set_cons_zero, List.set_cons_succ]
              refine wpAnyZ_two 30 38 (by kernel_rfl) rfl rfl (fun K hK => ?_) (fun K hK => ?_)
              · refine step_callD 49 rfl rfl 33 (fun vs => by kernel_rfl) #[.tmp 48] #[44] rfl #[.slice ar rs.length cr] (by first | rfl | simp [Act.eval]) (unhide HR1 wc3 hbW) ?_
                rintro e' wc4 ⟨u4, rfl, ho4, hbn⟩
                have ho1 := ho1.mono (stays_below hbn)
                have ho2 := ho2.mono (stays_below hbn)
                have hs2 := hs2.mono (stays_below hbn)
                have ho3 := ho3.mono (stays_below hbn)
                have hs3 := hs3.mono (stays_below hbn)
                obtain ⟨ua4, uc4, rfl⟩ := own_form ho4
                have ho4 := (own_owR ho4 (by have := (unhide HS).2.2.2.2.2.1; omega)).mono (st0 hbr.size)
                have hbr := hbr.trans (hbn.mono hbr.size)
                have hbW := hbW.trans (hbn.mono hbW.size)
                refine ⟨_, rfl, hK _ _ ⟨fun _ => hbW, ?_⟩⟩
                clear hK K hbn 
                simp only [Act.put, List.setIfInBounds_toArray, List.set_cons_zero, List.set_cons_succ]
                refine wpAnyZ_two 36 38 (by kernel_rfl) rfl rfl (fun K hK => ?_) (fun K hK => ?_)
                · refine step_callD 55 rfl rfl 16 (fun vs => by kernel_rfl) #[.tmp 54] #[22] rfl #[.slice ag gs.length cg] (by first | rfl | simp [Act.eval]) (unhide HG1 wc4 hbW) ?_
                  rintro e' wc5 ⟨u5, rfl, ho5, hbn⟩
                  have ho1 := ho1.mono (stays_below hbn)
                  have ho2 := ho2.mono (stays_below hbn)
                  have hs2 := hs2.mono (stays_below hbn)
                  have ho3 := ho3.mono (stays_below hbn)
                  have hs3 := hs3.mono (stays_below hbn)
                  have ho4 := ho4.mono (stays_below hbn)
                  obtain ⟨ua5, uc5, rfl⟩ := own_form ho5
                  have ho5 := (own_owR ho5 (by have := (unhide HS).2.2.2.2.2.2; omega)).mono (st0 hbr.size)
                  have hbr := hbr.trans (hbn.mono hbr.size)
                  have hbW := hbW.trans (hbn.mono hbW.size)
                  refine ⟨_, rfl, hK _ _ ⟨fun _ => hbW, ?_⟩⟩
                  clear hK K hbn 
                  simp only [Act.put, List.setIfInBounds_toArray, List.set_cons_zero, List.set_cons_succ]
                  have hT := hbW
                  refine wpAnyZ_tk 37 (.agg #[.string nm, .slice none 0 0, .slice ua1 (os.length) uc1, .slice ua2 ((cutL f ms).length) uc2, .slice ua3 (es.length) uc3, .slice ua4 (rs.length) uc4, .slice ua5 (gs.length) uc5]) 56 rfl rfl (Or.inl ⟨by rfl, fun w' hw => by go_simp⟩) hT ?_
                  simp only [Act.put, List.setIfInBounds_toArray, List.set_cons_zero, List.set_cons_succ]
                  clear hT
                  refine wpAnyZ_one 38 (by kernel_rfl) rfl (fun K hK => ?_)
                  obtain ⟨wc6, hw2⟩ : ∃ x, wc5.alloc (.cells #[.string ⟨#[]⟩, .slice none 0 0, .slice none 0 0, .slice none 0 0, .slice none 0 0, .slice none 0 0, .slice none 0 0] 46) = x := ⟨_, rfl⟩
                  have hbn : Below wc5.heap.size wc5 wc6 := by rw [← hw2]; exact (Below.refl _ _).alloc (Nat.le_refl _) _
                  have hbk : wc6.heap[wc5.heap.size]? = some (.cells #[.string ⟨#[]⟩, .slice none 0 0, .slice none 0 0, .slice none 0 0, .slice none 0 0, .slice none 0 0, .slice none 0 0] 46 (0, 0)) := by rw [← hw2]; exact heap_new _ _
                  have hlo : wo.heap.size ≤ wc5.heap.size := hbr.size
                  go_simp
                  have ho1 := ho1.mono (sta hbn)
                  have ho2 := ho2.mono (sta hbn)
                  have hs2 := hs2.mono (sta hbn)
                  have ho3 := ho3.mono (sta hbn)
                  have hs3 := hs3.mono (sta hbn)
                  have ho4 := ho4.mono (sta hbn)
                  have ho5 := ho5.mono (sta hbn)
                  have hbr := hbr.trans (hbn.mono hbr.size)
                  have hbW := hbW.trans (hbn.mono hbW.size)
                  obtain ⟨bk, hbb⟩ : ∃ b, wc5.heap.size = b := ⟨_, rfl⟩
                  rw [hbb] at hbk hlo ho1 ho2 hs2 ho3 hs3 ho4 ho5
                  rw [hbb]
                  refine hK _ _ ⟨fun _ => hbW, ?_⟩
                  clear hK K hw2 hbn hbb
                  refine wpAnyZ_one 39 (by kernel_rfl) rfl (fun K hK => ?_)
                  obtain ⟨c0, c1, c2, c3, c4, c5, c6⟩ := ms_of hbk
                  have z : ∀ j, wc6.frozen? ⟨bk, j, none⟩ = false := fun j => by simp [World.frozen?, hbk]
                  have z0 := z 0
                  have z1 := z 1
                  have z2 := z 2
                  have z3 := z 3
                  have z4 := z 4
                  have z5 := z 5
                  have z6 := z 6
                  have hC := CpM.new (nm := nm) hbr hlo hbk ho1 ho2 hs2 ho3 hs3 ho4 ho5
                  go_simp
                  refine hK _ _ ⟨fun _ => (unhide HBW).trans (hC.bel.mono (unhide HBW).size), ?_⟩
                  clear hK K
                  refine wpAnyZ_done (by kernel_rfl) ?_
                  have HC := hide hC
                  clear hC hbr hbW hlo hbk z z0 z1 z2 z3 z4 z5 z6 c0 c1 c2 c3 c4 c5 c6 ho1 ho2 hs2 ho3 hs3 ho4 ho5
                  go_wp2_with fail
                  go_meet
                  exact ⟨bk, _, _, _, _, _, _, _, rfl, ⟨⟨_, _, rfl⟩, ⟨_, _, rfl⟩, ⟨_, _, rfl⟩, ⟨_, _, rfl⟩, ⟨_, _, rfl⟩⟩, HC⟩
                · obtain ⟨wc7, hw2⟩ : ∃ x, wc4.alloc (.cells #[.string ⟨#[]⟩, .slice none 0 0, .slice none 0 0, .slice none 0 0, .slice none 0 0, .slice none 0 0, .slice none 0 0] 46) = x := ⟨_, rfl⟩
                  have hbn : Below wc4.heap.size wc4 wc7 := by rw [← hw2]; exact (Below.refl _ _).alloc (Nat.le_refl _) _
                  have hbk : wc7.heap[wc4.heap.size]? = some (.cells #[.string ⟨#[]⟩, .slice none 0 0, .slice none 0 0, .slice none 0 0, .slice none 0 0, .slice none 0 0, .slice none 0 0] 46 (0, 0)) := by rw [← hw2]; exact heap_new _ _
                  have hlo : wo.heap.size ≤ wc4.heap.size := hbr.size
                  go_simp
                  have ho1 := ho1.mono (sta hbn)
                  have ho2 := ho2.mono (sta hbn)
                  have hs2 := hs2.mono (sta hbn)
                  have ho3 := ho3.mono (sta hbn)
                  have hs3 := hs3.mono (sta hbn)
                  have ho4 := ho4.mono (sta hbn)
                  have hbr := hbr.trans (hbn.mono hbr.size)
                  have hbW := hbW.trans (hbn.mono hbW.size)
                  obtain ⟨bk, hbb⟩ : ∃ b, wc4.heap.size = b := ⟨_, rfl⟩
                  rw [hbb] at hbk hlo ho1 ho2 hs2 ho3 hs3 ho4
                  rw [hbb]
                  refine hK _ _ ⟨fun _ => hbW, ?_⟩
                  clear hK K hw2 hbn hbb
                  refine wpAnyZ_one 36 (by kernel_rfl) rfl (fun K hK => ?_)
                  refine step_callD 55 rfl rfl 16 (fun vs => by kernel_rfl) #[.tmp 54] #[22] rfl #[.slice ag gs.length cg] (by first | rfl | simp [Act.eval]) (unhide HG1 wc7 hbW) ?_
                  rintro e' wc8 ⟨u8, rfl, ho8, hbn⟩
                  have ho1 := ho1.mono (stays_below hbn)
                  have ho2 := ho2.mono (stays_below hbn)
                  have hs2 := hs2.mono (stays_below hbn)
                  have ho3 := ho3.mono (stays_below hbn)
                  have hs3 := hs3.mono (stays_below hbn)
                  have ho4 := ho4.mono (stays_below hbn)
                  obtain ⟨ua8, uc8, rfl⟩ := own_form ho8
                  have hlb : bk < wc7.heap.size := (Array.getElem?_eq_some_iff.1 hbk).1
                  have ho8 := (own_owR ho8 (by have := (unhide HS).2.2.2.2.2.2; omega)).mono (st1 hbr.size hlb)
                  have hbr := hbr.trans (hbn.mono hbr.size)
                  have hbW := hbW.trans (hbn.mono hbW.size)
                  have hbk := (hbn.block _ (Array.getElem?_eq_some_iff.1 hbk).1).trans hbk
                  refine ⟨_, rfl, hK _ _ ⟨fun _ => hbW, ?_⟩⟩
                  clear hK K hbn hlb
                  simp only [Act.put, List.setIfInBounds_toArray, List.set_cons_zero, List.set_cons_succ]
                  have hT := hbW
                  refine wpAnyZ_tk 37 (.agg #[.string nm, .slice none 0 0, .slice ua1 (os.length) uc1, .slice ua2 ((cutL f ms).length) uc2, .slice ua3 (es.length) uc3, .slice ua4 (rs.length) uc4, .slice ua8 (gs.length) uc8]) 56 rfl rfl (Or.inl ⟨by rfl, fun w' hw => by go_simp⟩) hT ?_
                  simp only [Act.put, List.setIfInBounds_toArray, List.set_cons_zero, List.set_cons_succ]
                  clear hT
                  refine wpAnyZ_one 39 (by kernel_rfl) rfl (fun K hK => ?_)
                  obtain ⟨c0, c1, c2, c3, c4, c5, c6⟩ := ms_of hbk
                  have z : ∀ j, wc8.frozen? ⟨bk, j, none⟩ = false := fun j => by simp [World.frozen?, hbk]
                  have z0 := z 0
                  have z1 := z 1
                  have z2 := z 2
                  have z3 := z 3
                  have z4 := z 4
                  have z5 := z 5
                  have z6 := z 6
                  have hC := CpM.new (nm := nm) hbr hlo hbk ho1 ho2 hs2 ho3 hs3 ho4 ho8
                  go_simp
                  refine hK _ _ ⟨fun _ => (unhide HBW).trans (hC.bel.mono (unhide HBW).size), ?_⟩
                  clear hK K
                  refine wpAnyZ_done (by kernel_rfl) ?_
                  have HC := hide hC
                  clear hC hbr hbW hlo hbk z z0 z1 z2 z3 z4 z5 z6 c0 c1 c2 c3 c4 c5 c6 ho1 ho2 hs2 ho3 hs3 ho4 ho8
                  go_wp2_with fail
                  go_meet
                  exact ⟨bk, _, _, _, _, _, _, _, rfl, ⟨⟨_, _, rfl⟩, ⟨_, _, rfl⟩, ⟨_, _, rfl⟩, ⟨_, _, rfl⟩, ⟨_, _, rfl⟩⟩, HC⟩
              · obtain ⟨wc9, hw2⟩ : ∃ x, wc3.alloc (.cells #[.string ⟨#[]⟩, .slice none 0 0, .slice none 0 0, .slice none 0 0, .slice none 0 0, .slice none 0 0, .slice none 0 0] 46) = x := ⟨_, rfl⟩
                have hbn : Below wc3.heap.size wc3 wc9 := by rw [← hw2]; exact (Below.refl _ _).alloc (Nat.le_refl _) _
                have hbk : wc9.heap[wc3.heap.size]? = some (.cells #[.string ⟨#[]⟩, .slice none 0 0, .slice none 0 0, .slice none 0 0, .slice none 0 0, .slice none 0 0, .slice none 0 0] 46 (0, 0)) := by rw [← hw2]; exact heap_new _ _
                have hlo : wo.heap.size ≤ wc3.heap.size := hbr.size
                go_simp
                have ho1 := ho1.mono (sta hbn)
                have ho2 := ho2.mono (sta hbn)
                have hs2 := hs2.mono (sta hbn)
                have ho3 := ho3.mono (sta hbn)
                have hs3 := hs3.mono (sta hbn)
                have hbr := hbr.trans (hbn.mono hbr.size)
                have hbW := hbW.trans (hbn.mono hbW.size)
                obtain ⟨bk, hbb⟩ : ∃ b, wc3.heap.size = b := ⟨_, rfl⟩
                rw [hbb] at hbk hlo ho1 ho2 hs2 ho3 hs3
                rw [hbb]
                refine hK _ _ ⟨fun _ => hbW, ?_⟩
                clear hK K hw2 hbn hbb
                refine wpAnyZ_one 30 (by kernel_rfl) rfl (fun K hK => ?_)
                refine step_callD 49 rfl rfl 33 (fun vs => by kernel_rfl) #[.tmp 48] #[44] rfl #[.slice ar rs.length cr] (by first | rfl | simp [Act.eval]) (unhide HR1 wc9 hbW) ?_
                rintro e' wc10 ⟨u10, rfl, ho10, hbn⟩
                have ho1 := ho1.mono (stays_below hbn)
                have ho2 := ho2.mono (stays_below hbn)
                have hs2 := hs2.mono (stays_below hbn)
                have ho3 := ho3.mono (stays_below hbn)
                have hs3 := hs3.mono (stays_below hbn)
                obtain ⟨ua10, uc10, rfl⟩ := own_form ho10
                have hlb : bk < wc9.heap.size := (Array.getElem?_eq_some_iff.1 hbk).1
                have ho10 := (own_owR ho10 (by have := (unhide HS).2.2.2.2.2.1; omega)).mono (st1 hbr.size hlb)
                have hbr := hbr.trans (hbn.mono hbr.size)
                have hbW := hbW.trans (hbn.mono hbW.size)
                have hbk := (hbn.block _ (Array.getElem?_eq_some_iff.1 hbk).1).trans hbk
                refine ⟨_, rfl, hK _ _ ⟨fun _ => hbW, ?_⟩⟩
                clear hK K hbn hlb
                simp only [Act.put, List.setIfInBounds_toArray, List.set_cons_zero, List.set_cons_succ]
                refine wpAnyZ_one 36 (by kernel_rfl) rfl (fun K hK => ?_)
                refine step_callD 55 rfl rfl 16 (fun vs => by kernel_rfl) #[.tmp 54] #[22] rfl #[.slice ag gs.length cg] (by first | rfl | simp [Act.eval]) (unhide HG1 wc10 hbW) ?_
                rintro e' wc11 ⟨u11, rfl, ho11, hbn⟩
                have ho1 := ho1.mono (stays_below hbn)
                have ho2 := ho2.mono (stays_below hbn)
                have hs2 := hs2.mono (stays_below hbn)
                have ho3 := ho3.mono (stays_below hbn)
                have hs3 := hs3.mono (stays_below hbn)
                have ho10 := ho10.mono (stays_below hbn)
                obtain ⟨ua11, uc11, rfl⟩ := own_form ho11
                have hlb : bk < wc10.heap.size := (Array.getElem?_eq_some_iff.1 hbk).1
                have ho11 := (own_owR ho11 (by have := (unhide HS).2.2.2.2.2.2; omega)).mono (st1 hbr.size hlb)
                have hbr := hbr.trans (hbn.mono hbr.size)
                have hbW := hbW.trans (hbn.mono hbW.size)
                have hbk := (hbn.block _ (Array.getElem?_eq_some_iff.1 hbk).1).trans hbk
                refine ⟨_, rfl, hK _ _ ⟨fun _ => hbW, ?_⟩⟩
                clear hK K hbn hlb
                simp only [Act.put, List.setIfInBounds_toArray, List.set_cons_zero, List.set_cons_succ]
                have hT := hbW
                refine wpAnyZ_tk 37 (.agg #[.string nm, .slice none 0 0, .slice ua1 (os.length) uc1, .slice ua2 ((cutL f ms).length) uc2, .slice ua3 (es.length) uc3, .slice ua10 (rs.length) uc10, .slice ua11 (gs.length) uc11]) 56 rfl rfl (Or.inl ⟨by rfl, fun w' hw => by go_simp⟩) hT ?_
                simp only [Act.put, List.setIfInBounds_toArray, List.set_cons_zero, List.set_cons_succ]
                clear hT
                refine wpAnyZ_one 39 (by kernel_rfl) rfl (fun K hK => ?_)
                obtain ⟨c0, c1, c2, c3, c4, c5, c6⟩ := ms_of hbk
                have z : ∀ j, wc11.frozen? ⟨bk, j, none⟩ = false := fun j => by simp [World.frozen?, hbk]
                have z0 := z 0
                have z1 := z 1
                have z2 := z 2
                have z3 := z 3
                have z4 := z 4
                have z5 := z 5
                have z6 := z 6
                have hC := CpM.new (nm := nm) hbr hlo hbk ho1 ho2 hs2 ho3 hs3 ho10 ho11
                go_simp
                refine hK _ _ ⟨fun _ => (unhide HBW).trans (hC.bel.mono (unhide HBW).size), ?_⟩
                clear hK K
                refine wpAnyZ_done (by kernel_rfl) ?_
                have HC := hide hC
                clear hC hbr hbW hlo hbk z z0 z1 z2 z3 z4 z5 z6 c0 c1 c2 c3 c4 c5 c6 ho1 ho2 hs2 ho3 hs3 ho10 ho11
                go_wp2_with fail
                go_meet
                exact ⟨bk, _, _, _, _, _, _, _, rfl, ⟨⟨_, _, rfl⟩, ⟨_, _, rfl⟩, ⟨_, _, rfl⟩, ⟨_, _, rfl⟩, ⟨_, _, rfl⟩⟩, HC⟩
            · obtain ⟨wc12, hw2⟩ : ∃ x, wc2.alloc (.cells #[.string ⟨#[]⟩, .slice none 0 0, .slice none 0 0, .slice none 0 0, .slice none 0 0, .slice none 0 0, .slice none 0 0] 46) = x := ⟨_, rfl⟩
              have hbn : Below wc2.heap.size wc2 wc12 := by rw [← hw2]; exact (Below.refl _ _).alloc (Nat.le_refl _) _
              have hbk : wc12.heap[wc2.heap.size]? = some (.cells #[.string ⟨#[]⟩, .slice none 0 0, .slice none 0 0, .slice none 0 0, .slice none 0 0, .slice none 0 0, .slice none 0 0] 46 (0, 0)) := by rw [← hw2]; exact heap_new _ _
              have hlo : wo.heap.size ≤ wc2.heap.size := hbr.size
              go_simp
              have ho1 := ho1.mono (sta hbn)
              have ho2 := ho2.mono (sta hbn)
              have hs2 := hs2.mono (sta hbn)
              have hbr := hbr.trans (hbn.mono hbr.size)
              have hbW := hbW.trans (hbn.mono hbW.size)
              obtain ⟨bk, hbb⟩ : ∃ b, wc2.heap.size = b := ⟨_, rfl⟩
              rw [hbb] at hbk hlo ho1 ho2 hs2
              rw [hbb]
              refine hK _ _ ⟨fun _ => hbW, ?_⟩
              clear hK K hw2 hbn hbb
              refine wpAnyZ_one 24 (by kernel_rfl) rfl (fun K hK => ?_)
              refine step_callD 43 rfl rfl 18 (fun vs => by kernel_rfl) #[.tmp 42] #[24] rfl #[.slice ae es.length ce'] (by first | rfl | simp [Act.eval]) (unhide HE1 wc12 hbW) ?_
              rintro e' wc13 ⟨u13, cs13, rfl, ho13, hs13, hbn⟩
              have ho1 := ho1.mono (stays_below hbn)
              have ho2 := ho2.mono (stays_below hbn)
              have hs2 := hs2.mono (stays_below hbn)
              obtain ⟨ua13, uc13, rfl⟩ := own_form ho13
              have hlb : bk < wc12.heap.size := (Array.getElem?_eq_some_iff.1 hbk).1
              have ho13 := (own_owR ho13 (by have := (unhide HS).2.2.2.1; omega)).mono (st1 hbr.size hlb)
              have hs13 := hs13.mono (sr1 hbr.size hlb)
              have hbr := hbr.trans (hbn.mono hbr.size)
              have hbW := hbW.trans (hbn.mono hbW.size)
              have hbk := (hbn.block _ (Array.getElem?_eq_some_iff.1 hbk).1).trans hbk
              refine ⟨_, rfl, hK _ _ ⟨fun _ => hbW, ?_⟩⟩
              clear hK K hbn hlb
              simp only [Act.put, List.setIfInBounds_toArray, List.set_cons_zero, List.set_cons_succ]
              refine wpAnyZ_one 30 (by kernel_rfl) rfl (fun K hK => ?_)
              refine step_callD 49 rfl rfl 33 (fun vs => by kernel_rfl) #[.tmp 48] #[44] rfl #[.slice ar rs.length cr] (by first | rfl | simp [Act.eval]) (unhide HR1 wc13 hbW) ?_
              rintro e' wc14 ⟨u14, rfl, ho14, hbn⟩
              have ho1 := ho1.mono (stays_below hbn)
              have ho2 := ho2.mono (stays_below hbn)
              have hs2 := hs2.mono (stays_below hbn)
              have ho13 := ho13.mono (stays_below hbn)
              have hs13 := hs13.mono (stays_below hbn)
              obtain ⟨ua14, uc14, rfl⟩ := own_form ho14
              have hlb : bk < wc13.heap.size := (Array.getElem?_eq_some_iff.1 hbk).1
              have ho14 := (own_owR ho14 (by have := (unhide HS).2.2.2.2.2.1; omega)).mono (st1 hbr.size hlb)
              have hbr := hbr.trans (hbn.mono hbr.size)
              have hbW := hbW.trans (hbn.mono hbW.size)
              have hbk := (hbn.block _ (Array.getElem?_eq_some_iff.1 hbk).1).trans hbk
              refine ⟨_, rfl, hK _ _ ⟨fun _ => hbW, ?_⟩⟩
              clear hK K hbn hlb
              simp only [Act.put, List.setIfInBounds_toArray, List.set_cons_zero, List.set_cons_succ]
              refine wpAnyZ_one 36 (by kernel_rfl) rfl (fun K hK => ?_)
              refine step_callD 55 rfl rfl 16 (fun vs => by kernel_rfl) #[.tmp 54] #[22] rfl #[.slice ag gs.length cg] (by first | rfl | simp [Act.eval]) (unhide HG1 wc14 hbW) ?_
              rintro e' wc15 ⟨u15, rfl, ho15, hbn⟩
              have ho1 := ho1.mono (stays_below hbn)
              have ho2 := ho2.mono (stays_below hbn)
              have hs2 := hs2.mono (stays_below hbn)
              have ho13 := ho13.mono (stays_below hbn)
              have hs13 := hs13.mono (stays_below hbn)
              have ho14 := ho14.mono (stays_below hbn)
              obtain ⟨ua15, uc15, rfl⟩ := own_form ho15
              have hlb : bk < wc14.heap.size := (Array.getElem?_eq_some_iff.1 hbk).1
              have ho15 := (own_owR ho15 (by have := (unhide HS).2.2.2.2.2.2; omega)).mono (st1 hbr.size hlb)
              have hbr := hbr.trans (hbn.mono hbr.size)
              have hbW := hbW.trans (hbn.mono hbW.size)
              have hbk := (hbn.block _ (Array.getElem?_eq_some_iff.1 hbk).1).trans hbk
              refine ⟨_, rfl, hK _ _ ⟨fun _ => hbW, ?_⟩⟩
              clear hK K hbn hlb
              simp only [Act.put, List.setIfInBounds_toArray, List.set_cons_zero, List.set_cons_succ]
              have hT := hbW
              refine wpAnyZ_tk 37 (.agg #[.string nm, .slice none 0 0, .slice ua1 (os.length) uc1, .slice ua2 ((cutL f ms).length) uc2, .slice ua13 (es.length) uc13, .slice ua14 (rs.length) uc14, .slice ua15 (gs.length) uc15]) 56 rfl rfl (Or.inl ⟨by rfl, fun w' hw => by go_simp⟩) hT ?_
              simp only [Act.put, List.setIfInBounds_toArray, List.set_cons_zero, List.set_cons_succ]
              clear hT
              refine wpAnyZ_one 39 (by kernel_rfl) rfl (fun K hK => ?_)
              obtain ⟨c0, c1, c2, c3, c4, c5, c6⟩ := ms_of hbk
              have z : ∀ j, wc15.frozen? ⟨bk, j, none⟩ = false := fun j => by simp [World.frozen?, hbk]
              have z0 := z 0
              have z1 := z 1
              have z2 := z 2
              have z3 := z 3
              have z4 := z 4
              have z5 := z 5
              have z6 := z 6
              have hC := CpM.new (nm := nm) hbr hlo hbk ho1 ho2 hs2 ho13 hs13 ho14 ho15
              go_simp
              refine hK _ _ ⟨fun _ => (unhide HBW).trans (hC.bel.mono (unhide HBW).size), ?_⟩
              clear hK K
              refine wpAnyZ_done (by kernel_rfl) ?_
              have HC := hide hC
              clear hC hbr hbW hlo hbk z z0 z1 z2 z3 z4 z5 z6 c0 c1 c2 c3 c4 c5 c6 ho1 ho2 hs2 ho13 hs13 ho14 ho15
              go_wp2_with fail
              go_meet
              exact ⟨bk, _, _, _, _, _, _, _, rfl, ⟨⟨_, _, rfl⟩, ⟨_, _, rfl⟩, ⟨_, _, rfl⟩, ⟨_, _, rfl⟩, ⟨_, _, rfl⟩⟩, HC⟩
          · obtain ⟨wc16, hw2⟩ : ∃ x, wc1.alloc (.cells #[.string ⟨#[]⟩, .slice none 0 0, .slice none 0 0, .slice none 0 0, .slice none 0 0, .slice none 0 0, .slice none 0 0] 46) = x := ⟨_, rfl⟩
            have hbn : Below wc1.heap.size wc1 wc16 := by rw [← hw2]; exact (Below.refl _ _).alloc (Nat.le_refl _) _
            have hbk : wc16.heap[wc1.heap.size]? = some (.cells #[.string ⟨#[]⟩, .slice none 0 0, .slice none 0 0, .slice none 0 0, .slice none 0 0, .slice none 0 0, .slice none 0 0] 46 (0, 0)) := by rw [← hw2]; exact heap_new _ _
            have hlo : wo.heap.size ≤ wc1.heap.size := hbr.size
            go_simp
            have ho1 := ho1.mono (sta hbn)
            have hbr := hbr.trans (hbn.mono hbr.size)
            have hbW := hbW.trans (hbn.mono hbW.size)
            obtain ⟨bk, hbb⟩ : ∃ b, wc1.heap.size = b := ⟨_, rfl⟩
            rw [hbb] at hbk hlo ho1
            rw [hbb]
            refine hK _ _ ⟨fun _ => hbW, ?_⟩
            clear hK K hw2 hbn hbb
            refine wpAnyZ_one 18 (by kernel_rfl) rfl (fun K hK => ?_)
            refine step_callD 37 rfl rfl 17 (fun vs => by kernel_rfl) #[.tmp 34, .tmp 36] #[23, 3] rfl #[.slice am ms.length cm', .int .i64 (dz + 1)] (by first | rfl | simp [Act.eval]) (unhide HM1 wc16 hbW) ?_
            rintro e' wc17 ⟨u17, cs17, rfl, ho17, hs17, hbn⟩
            have ho1 := ho1.mono (stays_below hbn)
            obtain ⟨ua17, uc17, rfl⟩ := own_form ho17
            have hlb : bk < wc16.heap.size := (Array.getElem?_eq_some_iff.1 hbk).1
            have ho17 := (own_owR ho17 (by have := (unhide HS).2.2.1; have := cutL_len (f := f) (l := ms); omega)).mono (st1 hbr.size hlb)
            have hs17 := hs17.mono (sr1 hbr.size hlb)
            have hbr := hbr.trans (hbn.mono hbr.size)
            have hbW := hbW.trans (hbn.mono hbW.size)
            have hbk := (hbn.block _ (Array.getElem?_eq_some_iff.1 hbk).1).trans hbk
            refine ⟨_, rfl, hK _ _ ⟨fun _ => hbW, ?_⟩⟩
            clear hK K hbn hlb
            simp only [Act.put, List.setIfInBounds_toArray, List.set_cons_zero, List.set_cons_succ]
            refine wpAnyZ_one 24 (by kernel_rfl) rfl (fun K hK => ?_)
            refine step_callD 43 rfl rfl 18 (fun vs => by kernel_rfl) #[.tmp 42] #[24] rfl #[.slice ae es.length ce'] (by first | rfl | simp [Act.eval]) (unhide HE1 wc17 hbW) ?_
            rintro e' wc18 ⟨u18, cs18, rfl, ho18, hs18, hbn⟩
            have ho1 := ho1.mono (stays_below hbn)
            have ho17 := ho17.mono (stays_below hbn)
            have hs17 := hs17.mono (stays_below hbn)
            obtain ⟨ua18, uc18, rfl⟩ := own_form ho18
            have hlb : bk < wc17.heap.size := (Array.getElem?_eq_some_iff.1 hbk).1
            have ho18 := (own_owR ho18 (by have := (unhide HS).2.2.2.1; omega)).mono (st1 hbr.size hlb)
            have hs18 := hs18.mono (sr1 hbr.size hlb)
            have hbr := hbr.trans (hbn.mono hbr.size)
            have hbW := hbW.trans (hbn.mono hbW.size)
            have hbk := (hbn.block _ (Array.getElem?_eq_some_iff.1 hbk).1).trans hbk
            refine ⟨_, rfl, hK _ _ ⟨fun _ => hbW, ?_⟩⟩
            clear hK K hbn hlb
            simp only [Act.put, List.setIfInBounds_toArray, List.set_cons_zero, List.set_cons_succ]
            refine wpAnyZ_one 30 (by kernel_rfl) rfl (fun K hK => ?_)
            refine step_callD 49 rfl rfl 33 (fun vs => by kernel_rfl) #[.tmp 48] #[44] rfl #[.slice ar rs.length cr] (by first | rfl | simp [Act.eval]) (unhide HR1 wc18 hbW) ?_
            rintro e' wc19 ⟨u19, rfl, ho19, hbn⟩
            have ho1 := ho1.mono (stays_below hbn)
            have ho17 := ho17.mono (stays_below hbn)
            have hs17 := hs17.mono (stays_below hbn)
            have ho18 := ho18.mono (stays_below hbn)
            have hs18 := hs18.mono (stays_below hbn)
            obtain ⟨ua19, uc19, rfl⟩ := own_form ho19
            have hlb : bk < wc18.heap.size := (Array.getElem?_eq_some_iff.1 hbk).1
            have ho19 := (own_owR ho19 (by have := (unhide HS).2.2.2.2.2.1; omega)).mono (st1 hbr.size hlb)
            have hbr := hbr.trans (hbn.mono hbr.size)
            have hbW := hbW.trans (hbn.mono hbW.size)
            have hbk := (hbn.block _ (Array.getElem?_eq_some_iff.1 hbk).1).trans hbk
            refine ⟨_, rfl, hK _ _ ⟨fun _ => hbW, ?_⟩⟩
            clear hK K hbn hlb
            simp only [Act.put, List.setIfInBounds_toArray, List.set_cons_zero, List.set_cons_succ]
            refine wpAnyZ_one 36 (by kernel_rfl) rfl (fun K hK => ?_)
            refine step_callD 55 rfl rfl 16 (fun vs => by kernel_rfl) #[.tmp 54] #[22] rfl #[.slice ag gs.length cg] (by first | rfl | simp [Act.eval]) (unhide HG1 wc19 hbW) ?_
            rintro e' wc20 ⟨u20, rfl, ho20, hbn⟩
            have ho1 := ho1.mono (stays_below hbn)
            have ho17 := ho17.mono (stays_below hbn)
            have hs17 := hs17.mono (stays_below hbn)
            have ho18 := ho18.mono (stays_below hbn)
            have hs18 := hs18.mono (stays_below hbn)
            have ho19 := ho19.mono (stays_below hbn)
            obtain ⟨ua20, uc20, rfl⟩ := own_form ho20
            have hlb : bk < wc19.heap.size := (Array.getElem?_eq_some_iff.1 hbk).1
            have ho20 := (own_owR ho20 (by have := (unhide HS).2.2.2.2.2.2; omega)).mono (st1 hbr.size hlb)
            have hbr := hbr.trans (hbn.mono hbr.size)
            have hbW := hbW.trans (hbn.mono hbW.size)
            have hbk := (hbn.block _ (Array.getElem?_eq_some_iff.1 hbk).1).trans hbk
            refine ⟨_, rfl, hK _ _ ⟨fun _ => hbW, ?_⟩⟩
            clear hK K hbn hlb
            simp only [Act.put, List.setIfInBounds_toArray, List.set_cons_zero, List.set_cons_succ]
            have hT := hbW
            refine wpAnyZ_tk 37 (.agg #[.string nm, .slice none 0 0, .slice ua1 (os.length) uc1, .slice ua17 ((cutL f ms).length) uc17, .slice ua18 (es.length) uc18, .slice ua19 (rs.length) uc19, .slice ua20 (gs.length) uc20]) 56 rfl rfl (Or.inl ⟨by rfl, fun w' hw => by go_simp⟩) hT ?_
            simp only [Act.put, List.setIfInBounds_toArray, List.set_cons_zero, List.set_cons_succ]
            clear hT
            refine wpAnyZ_one 39 (by kernel_rfl) rfl (fun K hK => ?_)
            obtain ⟨c0, c1, c2, c3, c4, c5, c6⟩ := ms_of hbk
            have z : ∀ j, wc20.frozen? ⟨bk, j, none⟩ = false := fun j => by simp [World.frozen?, hbk]
            have z0 := z 0
            have z1 := z 1
            have z2 := z 2
            have z3 := z 3
            have z4 := z 4
            have z5 := z 5
            have z6 := z 6
            have hC := CpM.new (nm := nm) hbr hlo hbk ho1 ho17 hs17 ho18 hs18 ho19 ho20
            go_simp
            refine hK _ _ ⟨fun _ => (unhide HBW).trans (hC.bel.mono (unhide HBW).size), ?_⟩
            clear hK K
            refine wpAnyZ_done (by kernel_rfl) ?_
            have HC := hide hC
            clear hC hbr hbW hlo hbk z z0 z1 z2 z3 z4 z5 z6 c0 c1 c2 c3 c4 c5 c6 ho1 ho17 hs17 ho18 hs18 ho19 ho20
            go_wp2_with fail
            go_meet
            exact ⟨bk, _, _, _, _, _, _, _, rfl, ⟨⟨_, _, rfl⟩, ⟨_, _, rfl⟩, ⟨_, _, rfl⟩, ⟨_, _, rfl⟩, ⟨_, _, rfl⟩⟩, HC⟩
        · obtain ⟨wc21, hw2⟩ : ∃ x, wd.alloc (.cells #[.string ⟨#[]⟩, .slice none 0 0, .slice none 0 0, .slice none 0 0, .slice none 0 0, .slice none 0 0, .slice none 0 0] 46) = x := ⟨_, rfl⟩
          have hbn : Below wd.heap.size wd wc21 := by rw [← hw2]; exact (Below.refl _ _).alloc (Nat.le_refl _) _
          have hbk : wc21.heap[wd.heap.size]? = some (.cells #[.string ⟨#[]⟩, .slice none 0 0, .slice none 0 0, .slice none 0 0, .slice none 0 0, .slice none 0 0, .slice none 0 0] 46 (0, 0)) := by rw [← hw2]; exact heap_new _ _
          have hlo : wo.heap.size ≤ wd.heap.size := hbr.size
          go_simp
          have hbr := hbr.trans (hbn.mono hbr.size)
          have hbW := hbW.trans (hbn.mono hbW.size)
          obtain ⟨bk, hbb⟩ : ∃ b, wd.heap.size = b := ⟨_, rfl⟩
          rw [hbb] at hbk hlo 
          rw [hbb]
          refine hK _ _ ⟨fun _ => hbW, ?_⟩
          clear hK K hw2 hbn hbb
          refine wpAnyZ_one 10 (by kernel_rfl) rfl (fun K hK => ?_)
          refine step_callD 29 rfl rfl 16 (fun vs => by kernel_rfl) #[.tmp 28] #[22] rfl #[.slice ao os.length co] (by first | rfl | simp [Act.eval]) (unhide HO1 wc21 hbW) ?_
          rintro e' wc22 ⟨u22, rfl, ho22, hbn⟩
          obtain ⟨ua22, uc22, rfl⟩ := own_form ho22
          have hlb : bk < wc21.heap.size := (Array.getElem?_eq_some_iff.1 hbk).1
          have ho22 := (own_owR ho22 (by have := (unhide HS).2.1; omega)).mono (st1 hbr.size hlb)
          have hbr := hbr.trans (hbn.mono hbr.size)
          have hbW := hbW.trans (hbn.mono hbW.size)
          have hbk := (hbn.block _ (Array.getElem?_eq_some_iff.1 hbk).1).trans hbk
          refine ⟨_, rfl, hK _ _ ⟨fun _ => hbW, ?_⟩⟩
          clear hK K hbn hlb
          simp only [Act.put, List.setIfInBounds_toArray, List.set_cons_zero, List.set_cons_succ]
          refine wpAnyZ_one 18 (by kernel_rfl) rfl (fun K hK => ?_)
          refine step_callD 37 rfl rfl 17 (fun vs => by kernel_rfl) #[.tmp 34, .tmp 36] #[23, 3] rfl #[.slice am ms.length cm', .int .i64 (dz + 1)] (by first | rfl | simp [Act.eval]) (unhide HM1 wc22 hbW) ?_
          rintro e' wc23 ⟨u23, cs23, rfl, ho23, hs23, hbn⟩
          have ho22 := ho22.mono (stays_below hbn)
          obtain ⟨ua23, uc23, rfl⟩ := own_form ho23
          have hlb : bk < wc22.heap.size := (Array.getElem?_eq_some_iff.1 hbk).1
          have ho23 := (own_owR ho23 (by have := (unhide HS).2.2.1; have := cutL_len (f := f) (l := ms); omega)).mono (st1 hbr.size hlb)
          have hs23 := hs23.mono (sr1 hbr.size hlb)
          have hbr := hbr.trans (hbn.mono hbr.size)
          have hbW := hbW.trans (hbn.mono hbW.size)
          have hbk := (hbn.block _ (Array.getElem?_eq_some_iff.1 hbk).1).trans hbk
          refine ⟨_, rfl, hK _ _ ⟨fun _ => hbW, ?_⟩⟩
          clear hK K hbn hlb
          simp only [Act.put, List.setIfInBounds_toArray, List.set_cons_zero, List.set_cons_succ]
          refine wpAnyZ_one 24 (by kernel_rfl) rfl (fun K hK => ?_)
          refine step_callD 43 rfl rfl 18 (fun vs => by kernel_rfl) #[.tmp 42] #[24] rfl #[.slice ae es.length ce'] (by first | rfl | simp [Act.eval]) (unhide HE1 wc23 hbW) ?_
          rintro e' wc24 ⟨u24, cs24, rfl, ho24, hs24, hbn⟩
          have ho22 := ho22.mono (stays_below hbn)
          have ho23 := ho23.mono (stays_below hbn)
          have hs23 := hs23.mono (stays_below hbn)
          obtain ⟨ua24, uc24, rfl⟩ := own_form ho24
          have hlb : bk < wc23.heap.size := (Array.getElem?_eq_some_iff.1 hbk).1
          have ho24 := (own_owR ho24 (by have := (unhide HS).2.2.2.1; omega)).mono (st1 hbr.size hlb)
          have hs24 := hs24.mono (sr1 hbr.size hlb)
          have hbr := hbr.trans (hbn.mono hbr.size)
          have hbW := hbW.trans (hbn.mono hbW.size)
          have hbk := (hbn.block _ (Array.getElem?_eq_some_iff.1 hbk).1).trans hbk
          refine ⟨_, rfl, hK _ _ ⟨fun _ => hbW, ?_⟩⟩
          clear hK K hbn hlb
          simp only [Act.put, List.setIfInBounds_toArray, List.set_cons_zero, List.set_cons_succ]
          refine wpAnyZ_one 30 (by kernel_rfl) rfl (fun K hK => ?_)
          refine step_callD 49 rfl rfl 33 (fun vs => by kernel_rfl) #[.tmp 48] #[44] rfl #[.slice ar rs.length cr] (by first | rfl | simp [Act.eval]) (unhide HR1 wc24 hbW) ?_
          rintro e' wc25 ⟨u25, rfl, ho25, hbn⟩
          have ho22 := ho22.mono (stays_below hbn)
          have ho23 := ho23.mono (stays_below hbn)
          have hs23 := hs23.mono (stays_below hbn)
          have ho24 := ho24.mono (stays_below hbn)
          have hs24 := hs24.mono (stays_below hbn)
          obtain ⟨ua25, uc25, rfl⟩ := own_form ho25
          have hlb : bk < wc24.heap.size := (Array.getElem?_eq_some_iff.1 hbk).1
          have ho25 := (own_owR ho25 (by have := (unhide HS).2.2.2.2.2.1; omega)).mono (st1 hbr.size hlb)
          have hbr := hbr.trans (hbn.mono hbr.size)
          have hbW := hbW.trans (hbn.mono hbW.size)
          have hbk := (hbn.block _ (Array.getElem?_eq_some_iff.1 hbk).1).trans hbk
          refine ⟨_, rfl, hK _ _ ⟨fun _ => hbW, ?_⟩⟩
          clear hK K hbn hlb
          simp only [Act.put, List.setIfInBounds_toArray, List.set_cons_zero, List.set_cons_succ]
          refine wpAnyZ_one 36 (by kernel_rfl) rfl (fun K hK => ?_)
          refine step_callD 55 rfl rfl 16 (fun vs => by kernel_rfl) #[.tmp 54] #[22] rfl #[.slice ag gs.length cg] (by first | rfl | simp [Act.eval]) (unhide HG1 wc25 hbW) ?_
          rintro e' wc26 ⟨u26, rfl, ho26, hbn⟩
          have ho22 := ho22.mono (stays_below hbn)
          have ho23 := ho23.mono (stays_below hbn)
          have hs23 := hs23.mono (stays_below hbn)
          have ho24 := ho24.mono (stays_below hbn)
          have hs24 := hs24.mono (stays_below hbn)
          have ho25 := ho25.mono (stays_below hbn)
          obtain ⟨ua26, uc26, rfl⟩ := own_form ho26
          have hlb : bk < wc25.heap.size := (Array.getElem?_eq_some_iff.1 hbk).1
          have ho26 := (own_owR ho26 (by have := (unhide HS).2.2.2.2.2.2; omega)).mono (st1 hbr.size hlb)
          have hbr := hbr.trans (hbn.mono hbr.size)
          have hbW := hbW.trans (hbn.mono hbW.size)
          have hbk := (hbn.block _ (Array.getElem?_eq_some_iff.1 hbk).1).trans hbk
          refine ⟨_, rfl, hK _ _ ⟨fun _ => hbW, ?_⟩⟩
          clear hK K hbn hlb
          simp only [Act.put, List.setIfInBounds_toArray, List.set_cons_zero, List.set_cons_succ]
          have hT := hbW
          refine wpAnyZ_tk 37 (.agg #[.string nm, .slice none 0 0, .slice ua22 (os.length) uc22, .slice ua23 ((cutL f ms).length) uc23, .slice ua24 (es.length) uc24, .slice ua25 (rs.length) uc25, .slice ua26 (gs.length) uc26]) 56 rfl rfl (Or.inl ⟨by rfl, fun w' hw => by go_simp⟩) hT ?_
          simp only [Act.put, List.setIfInBounds_toArray, List.set_cons_zero, List.set_cons_succ]
          clear hT
          refine wpAnyZ_one 39 (by kernel_rfl) rfl (fun K hK => ?_)
          obtain ⟨c0, c1, c2, c3, c4, c5, c6⟩ := ms_of hbk
          have z : ∀ j, wc26.frozen? ⟨bk, j, none⟩ = false := fun j => by simp [World.frozen?, hbk]
          have z0 := z 0
          have z1 := z 1
          have z2 := z 2
          have z3 := z 3
          have z4 := z 4
          have z5 := z 5
          have z6 := z 6
          have hC := CpM.new (nm := nm) hbr hlo hbk ho22 ho23 hs23 ho24 hs24 ho25 ho26
          go_simp
          refine hK _ _ ⟨fun _ => (unhide HBW).trans (hC.bel.mono (unhide HBW).size), ?_⟩
          clear hK K
          refine wpAnyZ_done (by kernel_rfl) ?_
          have HC := hide hC
          clear hC hbr hbW hlo hbk z z0 z1 z2 z3 z4 z5 z6 c0 c1 c2 c3 c4 c5 c6 ho22 ho23 hs23 ho24 hs24 ho25 ho26
          go_wp2_with fail
          go_meet
          exact ⟨bk, _, _, _, _, _, _, _, rfl, ⟨⟨_, _, rfl⟩, ⟨_, _, rfl⟩, ⟨_, _, rfl⟩, ⟨_, _, rfl⟩, ⟨_, _, rfl⟩⟩, HC⟩
      case rest =>
        obtain ⟨b, uo, um, ue, ur, ug, cmx, cex, rfl, ⟨⟨uao, uco, rfl⟩, ⟨uam, ucm, rfl⟩, ⟨uae, uce, rfl⟩, ⟨uar, ucr, rfl⟩, ⟨uag, ucg, rfl⟩⟩, HC⟩ := hcut
        have HN : Hid (wc.ownsRow wo.heap.size 42 6 (.slice none 0 0) 0 []) := ⟨rfl, .inl ⟨rfl, rfl⟩⟩
        obtain ⟨x0, x1, x2, x3, x4, x5, x6⟩ := unhide HXs wc ((unhide HBW).trans ((unhide HC).bel.mono (unhide HBW).size))
        clear HO1 HM1 HE1 HR1 HG1
        go_wp2_with fail
        clear x0 x1 x2 x3 x4 x5 x6
        go_loopg [8] fs.length (fun gk v8 wi => ∃ (k : Nat) (uf : Value), v8 = .int .i64 (k : Int) ∧ gk = fs.length - k ∧ k ≤ fs.length ∧ Hid (CpM wo wi b (uf) (.slice uao os.length uco) (.slice uam (cutL f ms).length ucm) (.slice uae es.length uce) (.slice uar rs.length ucr) (.slice uag gs.length ucg) cmx cex nm os (cutL f ms) es rs gs) ∧ Hid (wi.ownsRow wo.heap.size 42 6 uf k (fldC (fs.take k))))
        case atStart => exact ⟨0, _, rfl, rfl, by omega, HC, HN⟩
        case round =>
          obtain ⟨k, uf, rfl, hgk2, hk2, HC2, HO2⟩ := hrel
          have Hgk2 := hide hgk2
          clear hgk2 HC HN
          obtain ⟨uav, ucv, rfl⟩ := own_form (unhide HO2)
          have HBi := hide (show Below W.heap.size W wr from (unhide HBW).trans ((unhide HC2).bel.mono (unhide HBW).size))
          obtain ⟨x0, x1, x2, x3, x4, x5, x6⟩ := unhide HXs wr (unhide HBi)
          by_cases hlt2 : k < fs.length
          · obtain ⟨gv, ov, rfl, hgv, hcv⟩ := unhide HV3 (by omega)
            have hr2 := List.getElem?_eq_getElem hlt2
            obtain ⟨y, hyy⟩ : ∃ y, fs[k] = y := ⟨_, rfl⟩
            rw [hyy] at hr2
            have HYs : Hid (∀ w', Below W.heap.size W w' → w'.cell? ⟨gv, ov + k * 6, none⟩ = some (.int .i64 y.card) ∧ w'.cell? ⟨gv, ov + k * 6 + 1, none⟩ = some (.string y.key) ∧ w'.cell? ⟨gv, ov + k * 6 + 2, none⟩ = some (.string y.ty) ∧ w'.cell? ⟨gv, ov + k * 6 + 3, none⟩ = some (.string y.name) ∧ w'.cell? ⟨gv, ov + k * 6 + 4, none⟩ = some (.int .i64 y.num) ∧ w'.cell? ⟨gv, ov + k * 6 + 5, none⟩ = some (.int .i64 y.oneof)) := by
              intro w' hb
              have key : ∀ (j : Nat) (x : Value), j < 6 → y.cs[j]? = some x → w'.cell? ⟨gv, ov + (k * 6 + j), none⟩ = some x := fun j x hj hx => (hb.cell (p := ⟨gv, ov + (k * 6 + j), none⟩) hgv).trans (hcv _ _ (by unfold fldC; rw [flat_at Fd.cs 6 (fun _ => rfl) fs k j y hr2 hj]; exact hx))
              exact ⟨key 0 _ (by decide) rfl, key 1 _ (by decide) rfl, key 2 _ (by decide) rfl, key 3 _ (by decide) rfl, key 4 _ (by decide) rfl, key 5 _ (by decide) rfl⟩
            have HTk := hide (take_fd hr2)
            have k0' : (0 : Int) ≤ (k : Int) := Int.natCast_nonneg _
            have k1' : (k : Int) < (fs.length : Int) := by omega
            have Hlt2 := hide hlt2
            clear hcv hr2 hyy hlt2
            go_upto_region 9 with fail
            refine wp_region_any (by kernel_rfl) (wpAny_of_Z (z := 13) (T := (fun w' : World => Below W.heap.size W w' ∧ w'.cell? ⟨b, 1, none⟩ = some (.slice uav k ucv))) _ _ _ _ ?_)
            try (change wpAnyZ _ _ _ _ _ _ _ _ _ (World.drew _))
            have hC := (unhide HC2).below (below_drewN (Below.refl wr.heap.size wr) 1)
            have hO := own_up (unhide HO2) (below_drewN (Below.refl wr.heap.size wr) 1)
            change CpM wo wr.drew b (.slice uav k ucv) (.slice uao os.length uco) (.slice uam (cutL f ms).length ucm) (.slice uae es.length uce) (.slice uar rs.length ucr) (.slice uag gs.length ucg) cmx cex nm os (cutL f ms) es rs gs at hC
            change World.ownsRow wr.drew _ _ _ _ _ _ at hO
            obtain ⟨wd, hwd⟩ : ∃ x, wr.drew = x := ⟨_, rfl⟩
            rw [hwd] at hC hO ⊢
            have hT : (fun w' : World => Below W.heap.size W w' ∧ w'.cell? ⟨b, 1, none⟩ = some (.slice uav k ucv)) wd := ⟨(unhide HBW).trans (hC.bel.mono (unhide HBW).size), cell_of_row _ _ _ _ _ _ hC.blk⟩
            clear x0 x1 x2 x3 x4 x5 x6
            refine wpAnyZ_tk 0 (.pointer (some ⟨b, 1, none⟩)) 67 rfl rfl (Or.inl ⟨by rfl, fun w' hw => by obtain ⟨hwa, hwb⟩ := hw; obtain ⟨x0, x1, x2, x3, x4, x5, x6⟩ := unhide HXs w' hwa; obtain ⟨y0, y1, y2, y3, y4, y5⟩ := unhide HYs w' hwa; go_simp⟩) hT ?_
            simp only [Act.put, List.setIfInBounds_toArray, List.set_cons_zero, List.set_cons_succ]
            refine wpAnyZ_tk 1 (.slice uav k ucv) 68 rfl rfl (Or.inl ⟨by rfl, fun w' hw => by obtain ⟨hwa, hwb⟩ := hw; obtain ⟨x0, x1, x2, x3, x4, x5, x6⟩ := unhide HXs w' hwa; obtain ⟨y0, y1, y2, y3, y4, y5⟩ := unhide HYs w' hwa; go_simp⟩) hT ?_
            simp only [Act.put, List.setIfInBounds_toArray, List.set_cons_zero, List.set_cons_succ]
            refine wpAnyZ_tk 2 (.slice (some ⟨g, o, none⟩) l.length c) 69 rfl rfl (Or.inl ⟨by rfl, fun w' hw => by obtain ⟨hwa, hwb⟩ := hw; obtain ⟨x0, x1, x2, x3, x4, x5, x6⟩ := unhide HXs w' hwa; obtain ⟨y0, y1, y2, y3, y4, y5⟩ := unhide HYs w' hwa; go_simp⟩) hT ?_
            simp only [Act.put, List.setIfInBounds_toArray, List.set_cons_zero, List.set_cons_succ]
            refine wpAnyZ_tk 3 (.int .i64 (i : Int)) 70 rfl rfl (Or.inl ⟨by rfl, fun w' hw => by obtain ⟨hwa, hwb⟩ := hw; obtain ⟨x0, x1, x2, x3, x4, x5, x6⟩ := unhide HXs w' hwa; obtain ⟨y0, y1, y2, y3, y4, y5⟩ := unhide HYs w' hwa; go_simp⟩) hT ?_
            simp only [Act.put, List.setIfInBounds_toArray, List.set_cons_zero, List.set_cons_succ]
            refine wpAnyZ_tk 4 (.pointer (some ⟨g, o + i * 7, none⟩)) 71 rfl rfl (Or.inl ⟨by rfl, fun w' hw => by obtain ⟨hwa, hwb⟩ := hw; obtain ⟨x0, x1, x2, x3, x4, x5, x6⟩ := unhide HXs w' hwa; obtain ⟨y0, y1, y2, y3, y4, y5⟩ := unhide HYs w' hwa; go_simp⟩) hT ?_
            simp only [Act.put, List.setIfInBounds_toArray, List.set_cons_zero, List.set_cons_succ]
            refine wpAnyZ_tk 5 (.pointer (some ⟨g, o + i * 7 + 1, none⟩)) 72 rfl rfl (Or.inl ⟨by rfl, fun w' hw => by obtain ⟨hwa, hwb⟩ := hw; obtain ⟨x0, x1, x2, x3, x4, x5, x6⟩ := unhide HXs w' hwa; obtain ⟨y0, y1, y2, y3, y4, y5⟩ := unhide HYs w' hwa; go_simp⟩) hT ?_
            simp only [Act.put, List.setIfInBounds_toArray, List.set_cons_zero, List.set_cons_succ]
            refine wpAnyZ_tk 6 (.slice (some ⟨gv, ov, none⟩) fs.length cf) 73 rfl rfl (Or.inl ⟨by rfl, fun w' hw => by obtain ⟨hwa, hwb⟩ := hw; obtain ⟨x0, x1, x2, x3, x4, x5, x6⟩ := unhide HXs w' hwa; obtain ⟨y0, y1, y2, y3, y4, y5⟩ := unhide HYs w' hwa; go_simp⟩) hT ?_
            simp only [Act.put, List.setIfInBounds_toArray, List.set_cons_zero, List.set_cons_succ]
            refine wpAnyZ_tk 7 (.int .i64 (k : Int)) 74 rfl rfl (Or.inl ⟨by rfl, fun w' hw => by obtain ⟨hwa, hwb⟩ := hw; obtain ⟨x0, x1, x2, x3, x4, x5, x6⟩ := unhide HXs w' hwa; obtain ⟨y0, y1, y2, y3, y4, y5⟩ := unhide HYs w' hwa; go_simp⟩) hT ?_
            simp only [Act.put, List.setIfInBounds_toArray, List.set_cons_zero, List.set_cons_succ]
            refine wpAnyZ_tk 8 (.pointer (some ⟨gv, ov + k * 6, none⟩)) 75 rfl rfl (Or.inl ⟨by rfl, fun w' hw => by obtain ⟨hwa, hwb⟩ := hw; obtain ⟨x0, x1, x2, x3, x4, x5, x6⟩ := unhide HXs w' hwa; obtain ⟨y0, y1, y2, y3, y4, y5⟩ := unhide HYs w' hwa; go_simp⟩) hT ?_
            simp only [Act.put, List.setIfInBounds_toArray, List.set_cons_zero, List.set_cons_succ]
            refine wpAnyZ_tk 9 (.agg #[.int .i64 y.card, .string y.key, .string y.ty, .string y.name, .int .i64 y.num, .int .i64 y.oneof]) 76 rfl rfl (Or.inl ⟨by rfl, fun w' hw => by obtain ⟨hwa, hwb⟩ := hw; obtain ⟨x0, x1, x2, x3, x4, x5, x6⟩ := unhide HXs w' hwa; obtain ⟨y0, y1, y2, y3, y4, y5⟩ := unhide HYs w' hwa; go_simp⟩) hT ?_
            simp only [Act.put, List.setIfInBounds_toArray, List.set_cons_zero, List.set_cons_succ]
            obtain ⟨wy, hwy⟩ : ∃ x, wd.alloc (.cells #[.int .i64 y.card, .string y.key, .string y.ty, .string y.name, .int .i64 y.num, .int .i64 y.oneof] 42) = x := ⟨_, rfl⟩
            have hbn : Below wd.heap.size wd wy := by rw [← hwy]; exact (Below.refl _ _).alloc (Nat.le_refl _) _
            have hC := hC.below hbn
            have hO := own_up hO hbn
            have hT : (fun w' : World => Below W.heap.size W w' ∧ w'.cell? ⟨b, 1, none⟩ = some (.slice uav k ucv)) wy := ⟨(unhide HBW).trans (hC.bel.mono (unhide HBW).size), cell_of_row _ _ _ _ _ _ hC.blk⟩
            have hnw : ∀ j u, y.cs[j]? = some u → wy.cell? ((⟨wd.heap.size, 0, none⟩ : Addr).add j) = some u := by rw [← hwy]; exact cells_new _ _ _
            refine wpAnyZ_one 10 (by kernel_rfl) rfl (fun K hK => ?_)
            go_simp
            refine hK _ _ ⟨fun _ => hT, ?_⟩
            clear hK K hwy hbn hwd
            refine wpAnyZ_one 11 (by kernel_rfl) rfl (fun K hK => ?_)
            refine step_app_own 78 rfl rfl (.tmp 68) (.tmp 77) 43 rfl wo.heap.size 42 j0 (.agg #[.int .i64 0, .string ByteArray.empty, .string ByteArray.empty, .string ByteArray.empty, .int .i64 0, .int .i64 0]) 6 72 Tryz.underlying43 hj jz0 jz1 jz2 rfl (by decide) (.slice uav k ucv) k _ (by first | rfl | simp [Act.eval]) hO ⟨wd.heap.size, 0, none⟩ 1 1 y.cs (by first | rfl | simp [Act.eval]) rfl hnw (by simp [Fd.cs, Value.oneCell']) (by have := unhide Hlt2; have := (unhide HS).1; unfold maxLen; omega) (by have := unhide Hlt2; have := (unhide HS).1; omega) hC.bel.size ?_
            intro v' w2 ho hg2 hob
            have hC2 := hC.keep hg2 (fun j e => (hO.lt j e).1) (own_apart hO hC.blk (by decide))
            obtain ⟨a', c', rfl⟩ := own_form ho
            have hT2 : (fun w' : World => Below W.heap.size W w' ∧ w'.cell? ⟨b, 1, none⟩ = some (.slice uav k ucv)) w2 := ⟨(unhide HBW).trans (hC2.bel.mono (unhide HBW).size), cell_of_row _ _ _ _ _ _ hC2.blk⟩
            rw [← unhide HTk] at ho
            refine hK _ _ ⟨fun _ => hT2, ?_⟩
            clear hK K hO hT hnw
            simp only [Act.put, List.setIfInBounds_toArray, List.set_cons_zero, List.set_cons_succ]
            refine wpAnyZ_tk 12 (.pointer (some ⟨b, 1, none⟩)) 79 rfl rfl (Or.inl ⟨by rfl, fun w' hw => by obtain ⟨hwa, hwb⟩ := hw; go_simp⟩) hT2 ?_
            simp only [Act.put, List.setIfInBounds_toArray, List.set_cons_zero, List.set_cons_succ]
            have hcb := hT2.2
            have hfb : w2.frozen? ⟨b, 1, none⟩ = false := by simp [World.frozen?, hC2.blk]
            have hC3 := hC.grow hg2 (u' := .slice a' (k + 1) c') hC2 hob
            have hg3 := (set_block (j := 1) hC2.blk (.slice a' (k + 1) c')).2
            have hO3 := ho.kept hg3 (.inr (own_apart ho hC2.blk (by decide)))
            refine wpAnyZ_one 13 (by kernel_rfl) rfl (fun K hK => ?_)
            go_simp
            refine hK _ _ ⟨fun h => absurd rfl h, ?_⟩
            have HC3 := hide hC3
            have HO3 := hide hO3
            clear hK K hcb hfb hT2 ho hC hC2 hC3 hO3 hg3 hob hg2
            refine wpAnyZ_done (by kernel_rfl) ?_
            go_wp2
            go_roundg (fs.length - (k + 1))
            case measure => have := unhide Hgk2; have := unhide Hlt2; omega
            case rel => exact ⟨k + 1, _, by go_num, rfl, unhide Hlt2, HC3, HO3⟩
          · obtain rfl : k = fs.length := by omega
            have hO := unhide HO2
            rw [List.take_length] at hO
            have HO4 := hide hO
            clear hO HO2
            obtain ⟨c0, c1, c2, c3, c4, c5, c6⟩ := ms_of (unhide HC2).blk
            have k1' : ¬ (fs.length : Int) < (fs.length : Int) := by omega
            have HS1 := hide (show w0.heap.size ≤ wr.heap.size from Nat.le_trans (unhide HB).size (unhide HC2).bel.size)
            have HO5 := hide ((unhide HO).kept (show wo.grownBy wr none from ⟨(unhide HC2).bel.os, (unhide HC2).bel.tape, (unhide HC2).bel.output, (unhide HC2).bel.size, fun q hq _ => (unhide HC2).bel.block q hq⟩) (by cases u5.ownBlock with | none => exact .inl rfl | some q => exact .inr (by simp)))
            have HB5 := hide ((unhide HB).trans ((unhide HC2).bel.mono (unhide HB).size))
            obtain ⟨ao2, co2, rfl⟩ := own_form (unhide HO)
            go_wp2_with (at_builtin; refine wpList_append_own_at _ rfl _ _ 23 rfl w0.heap.size 46 i0 (.agg #[.string ByteArray.empty, .slice none 0 0, .slice none 0 0, .slice none 0 0, .slice none 0 0, .slice none 0 0, .slice none 0 0]) 7 160 Tryz.underlying23 hi hz0 hz1 hz2 rfl (by decide) _ _ _ rfl ((unhide HO5).alloc _) ⟨wr.heap.size, 0, none⟩ 1 1 [.string nm, .slice uav fs.length ucv, .slice uao os.length uco, .slice uam (cutL f ms).length ucm, .slice uae es.length uce, .slice uar rs.length ucr, .slice uag gs.length ucg] rfl rfl (cells_new _ _ _) (by simp [Value.oneCell']) (by have := unhide Hlt; unfold maxLen; omega) (by have := unhide Hlt; have := unhide Hl; omega) (by rw [World.size_alloc]; have := unhide HS1; omega) ?_; intro v' w2 ho hg2 _ hob; have HO6 := hide ho; have HE6 := hide (out_newM (unhide HO) (unhide HES) (unhide HC2) (unhide HO4) (unhide HS).1 (unhide HB).size (unhide Hr) ((Below.refl _ _).alloc (Nat.le_refl _) _) hg2 hob); have HB6 := hide (((unhide HB5).alloc (unhide HB5).size _).grown hg2 (by rw [World.size_alloc]; have := unhide HS1; omega) (fun q e => ((unhide HO).lt q e).1)); clear ho hg2 hob)
            go_roundg (l.length - (i + 1))
            case measure => have := unhide Hgk; have := unhide Hlt; omega
            case rel => exact ⟨i + 1, _, by go_num, rfl, unhide Hlt, HO6, HE6, HB6⟩
    · obtain rfl : i = l.length := by omega
      have hE := unhide HES
      rw [List.take_length] at hE
      have HE2 := hide hE
      have HO2 := hide (show wo.ownsRow w0.heap.size 46 7 u5 (cutL (f + 1) l).length cs' by rw [show (cutL (f + 1) l).length = l.length from List.length_map _]; exact unhide HO)
      clear hE HO
      go_wp2
      go_ret
      exact ⟨_, _, rfl, unhide HO2, unhide HE2, unhide HB⟩
theorem messages_all : ∀ f, f ≤ 200 → MesC f
  | 0, _ => messages_0
  | f + 1, h => messages_succ (by omega) (messages_all f (by omega))
end Go.Proofs.YtaadpiimcaabkaaGreatDoor
