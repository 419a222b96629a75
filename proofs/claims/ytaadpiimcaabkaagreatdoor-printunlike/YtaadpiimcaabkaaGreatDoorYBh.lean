import Derived.Test.YtaadpiimcaabkaaGreatDoorYBg

namespace Go.Proofs.YtaadpiimcaabkaaGreatDoor
open Go.RowKit
attribute [local go_sem ↓] Go.wp_at_zero Go.wp_at_succ

/-- No deeper than this. -/
def DpM : Nat → Ms → Prop
  | 0, _ => False
  | f + 1, .mk _ _ _ ms _ _ _ => ∀ m ∈ ms, DpM f m
theorem rt_dp : ∀ (f : Nat) (m : Ms), RtM f m → DpM f m
  | 0, _, h => h
  | f + 1, .mk _ _ _ _ _ _ _, h => fun m hm => rt_dp f m (h.2.1 m hm)
/-- What a call of sameMessages comes to. -/
def SameC (f : Nat) : Prop := ∀ (W : World) (v u : Value) (l l' : List Ms) (cs cs' : List Value), Rl W v l.length cs → MsL W cs l → Rl W u l'.length cs' → MsL W cs' l' → (∀ m ∈ l, DpM f m) → (∀ m ∈ l', DpM f m) → ∀ (w0 : World), Below W.heap.size W w0 → ∀ deep : Int, 0 ≤ deep → deep + f ≤ 200 → Calls Tryz.prog 23 #[v, u, .int .i64 deep] w0 (SmP w0 (l = l'))
set_option maxRecDepth 100000 in
set_option maxHeartbeats 1000000 in
theorem sameMs_0 : SameC 0 := by
  intro W v u l l' cs cs' h _ h' _ hd hd' w0 hw deep h0 h1
  have e : l = [] := by cases l with | nil => rfl | cons m r => exact (hd m (List.mem_cons_self ..)).elim
  have e' : l' = [] := by cases l' with | nil => rfl | cons m r => exact (hd' m (List.mem_cons_self ..)).elim
  subst e e'
  obtain ⟨a, c, rfl, -, -⟩ := h
  obtain ⟨a', c', rfl, -, -⟩ := h'
  have h2 : deep ≤ 200 := by omega
  have HB := hide (Below.refl w0.heap.size w0)
  simp only [List.length_nil]
  clear hd hd' hw h1
  go_enter Tryz.func23, Tryz.ntmps23
  go_wp2
  go_loopg [7, 8, 9, 10] 1 (fun gk v7 _ _ _ wr => v7 = .int .i64 0 ∧ gk = 1 ∧ Hid (wr = w0))
  case atStart => exact ⟨rfl, rfl, rfl⟩
  case round =>
    obtain ⟨rfl, hgk, HW⟩ := hrel
    go_wp2
    go_ret
    have := unhide HW
    subst this
    exact smT (by trivial) (unhide HB)
set_option maxRecDepth 100000 in
set_option maxHeartbeats 8000000 in
theorem sameMs_succ {f : Nat} (ih : SameC f) : SameC (f + 1) := by
  intro W v u l l' cs cs' h hE h' hE' hd hd' w0 hw deep hp0 hp1
  obtain ⟨a, c, rfl, hc, h3⟩ := h
  obtain ⟨a', c', rfl, hc', h3'⟩ := h'
  have H3 := hide h3
  have H3' := hide h3'
  have HE := hide hE
  have HE' := hide hE'
  have HW := hide hw
  have Hd := hide hd
  have Hd' := hide hd'
  have Hih := hide ih
  have Hdp := hide (show 0 ≤ deep + 1 ∧ deep + 1 + f ≤ 200 from ⟨by omega, by omega⟩)
  have hp2 : deep ≤ 200 := by omega
  clear h3 h3' hE hE' hw hd hd' ih hp1
  by_cases hll : l.length = l'.length
  · have Hll := hide hll
    have e1 : ((l.length : Int) != (l'.length : Int)) = false := by simp [hll]
    have e2 : ((l.length : Int) == (l'.length : Int)) = true := by simp [hll]
    clear hll
    go_enter Tryz.func23, Tryz.ntmps23
    go_wp2
    clear e1 e2
    go_loopg [7, 8, 9, 10] l.length (fun gk v7 _ _ _ wr => ∃ (i : Nat), v7 = .int .i64 (i : Int) ∧ gk = l.length - i ∧ i ≤ l.length ∧ Hid (l.take i = l'.take i) ∧ Hid (Below w0.heap.size w0 wr))
    case atStart => exact ⟨0, rfl, rfl, by omega, rfl, Below.refl _ _⟩
    case round =>
      obtain ⟨i, rfl, hgk, hi, HT, HB⟩ := hrel
      have Hgk := hide hgk
      clear hgk
      obtain ⟨wo, hwo⟩ : ∃ x, x = wr := ⟨_, rfl⟩
      subst hwo
      by_cases hlt : i < l.length
      · obtain ⟨t, ht⟩ : ∃ t, l[i]? = some t := ⟨_, List.getElem?_eq_getElem hlt⟩
        obtain ⟨t', ht'⟩ : ∃ t, l'[i]? = some t := ⟨_, List.getElem?_eq_getElem (by have := unhide Hll; omega)⟩
        obtain ⟨g, o, rfl, hg, hx⟩ := unhide H3 (by omega)
        obtain ⟨g', o', rfl, hg', hx'⟩ := unhide H3' (by have := unhide Hll; omega)
        have hB : Below W.heap.size W wo := (unhide HW).trans ((unhide HB).mono (unhide HW).size)
        obtain ⟨vf, vo, vm, ve, vr, vg, nm, fs, os, ms, es, rs, gs, cm, ce, hsl, hV⟩ := (unhide HE).at i t ht
        obtain ⟨vf', vo', vm', ve', vr', vg', nm', fs', os', ms', es', rs', gs', dm, de, hsl', hV'⟩ := (unhide HE').at i t' ht'
        obtain rfl := hV.is
        obtain rfl := hV'.is
        have hdm := unhide Hd _ (List.mem_of_getElem? ht)
        have hdm' := unhide Hd' _ (List.mem_of_getElem? ht')
        have key : ∀ (j : Nat) (x : Value), [Value.string nm, vf, vo, vm, ve, vr, vg][j]? = some x → wo.cell? ⟨g, o + (i * 7 + j), none⟩ = some x := fun j x hx2 => (hB.cell (p := ⟨g, o + (i * 7 + j), none⟩) hg).trans (hx _ _ (by
          rw [← hsl, List.getElem?_take, List.getElem?_drop] at hx2
          split at hx2
          · exact hx2
          · cases hx2))
        have key' : ∀ (j : Nat) (x : Value), [Value.string nm', vf', vo', vm', ve', vr', vg'][j]? = some x → wo.cell? ⟨g', o' + (i * 7 + j), none⟩ = some x := fun j x hx2 => (hB.cell (p := ⟨g', o' + (i * 7 + j), none⟩) hg').trans (hx' _ _ (by
          rw [← hsl', List.getElem?_take, List.getElem?_drop] at hx2
          split at hx2
          · exact hx2
          · cases hx2))
        have hgw : g' < wo.heap.size := Nat.lt_of_lt_of_le hg' hB.size
        have d0 : wo.cell? ⟨g, o + i * 7, none⟩ = _ := key 0 _ rfl
        have d1 : wo.cell? ⟨g, o + i * 7 + 1, none⟩ = _ := key 1 _ rfl
        have d2 : wo.cell? ⟨g, o + i * 7 + 2, none⟩ = _ := key 2 _ rfl
        have d3 : wo.cell? ⟨g, o + i * 7 + 3, none⟩ = _ := key 3 _ rfl
        have d4 : wo.cell? ⟨g, o + i * 7 + 4, none⟩ = _ := key 4 _ rfl
        have d5 : wo.cell? ⟨g, o + i * 7 + 5, none⟩ = _ := key 5 _ rfl
        have d6 : wo.cell? ⟨g, o + i * 7 + 6, none⟩ = _ := key 6 _ rfl
        have f0 : ∀ q, (wo.alloc q).cell? ⟨g', o' + i * 7, none⟩ = _ := fun q => (World.cell?_alloc_lt _ _ _ hgw).trans (key' 0 _ rfl)
        have f1 : ∀ q, (wo.alloc q).cell? ⟨g', o' + i * 7 + 1, none⟩ = _ := fun q => (World.cell?_alloc_lt _ _ _ hgw).trans (key' 1 _ rfl)
        have f2 : ∀ q, (wo.alloc q).cell? ⟨g', o' + i * 7 + 2, none⟩ = _ := fun q => (World.cell?_alloc_lt _ _ _ hgw).trans (key' 2 _ rfl)
        have f3 : ∀ q, (wo.alloc q).cell? ⟨g', o' + i * 7 + 3, none⟩ = _ := fun q => (World.cell?_alloc_lt _ _ _ hgw).trans (key' 3 _ rfl)
        have f4 : ∀ q, (wo.alloc q).cell? ⟨g', o' + i * 7 + 4, none⟩ = _ := fun q => (World.cell?_alloc_lt _ _ _ hgw).trans (key' 4 _ rfl)
        have f5 : ∀ q, (wo.alloc q).cell? ⟨g', o' + i * 7 + 5, none⟩ = _ := fun q => (World.cell?_alloc_lt _ _ _ hgw).trans (key' 5 _ rfl)
        have f6 : ∀ q, (wo.alloc q).cell? ⟨g', o' + i * 7 + 6, none⟩ = _ := fun q => (World.cell?_alloc_lt _ _ _ hgw).trans (key' 6 _ rfl)
        have HO := hide (fun w' hb => sameTexts_any hV.ho hV'.ho w' hb)
        have HR := hide (fun w' hb => sameRanges_any hV.hr hV'.hr w' hb)
        have HG := hide (fun w' hb => sameTexts_any hV.hg hV'.hg w' hb)
        have HEn := hide (fun w' hb => sameEnums_any hV.he hV.hes hV'.he hV'.hes w' hb)
        have HMs := hide (fun w' hb => unhide Hih W vm vm' ms ms' cm dm hV.hm hV.hms hV'.hm hV'.hms hdm hdm' w' hb (deep + 1) (unhide Hdp).1 (unhide Hdp).2)
        obtain ⟨af, cf, rfl, hfl, rv3⟩ := hV.hf
        obtain ⟨af', cf', rfl, hfl', rv3'⟩ := hV'.hf
        obtain ⟨ao, co, rfl, -, -⟩ := hV.ho
        obtain ⟨ao', co', rfl, -, -⟩ := hV'.ho
        obtain ⟨am, cm', rfl, -, -⟩ := hV.hm
        obtain ⟨am', dm', rfl, -, -⟩ := hV'.hm
        obtain ⟨ae, ce', rfl, -, -⟩ := hV.he
        obtain ⟨ae', de', rfl, -, -⟩ := hV'.he
        obtain ⟨ar, cr, rfl, -, -⟩ := hV.hr
        obtain ⟨ar', cr', rfl, -, -⟩ := hV'.hr
        obtain ⟨ag, cg, rfl, -, -⟩ := hV.hg
        obtain ⟨ag', cg', rfl, -, -⟩ := hV'.hg
        have RV := hide rv3
        have RV' := hide rv3'
        have i0 : (0 : Int) ≤ (i : Int) := Int.natCast_nonneg _
        have i1 : (i : Int) < (l.length : Int) := by omega
        have i2 : (i : Int) < (l'.length : Int) := by have := unhide Hll; omega
        have HT0 := hide (twoB_new hB #[.string nm, .slice af fs.length cf, .slice ao os.length co, .slice am ms.length cm', .slice ae es.length ce', .slice ar rs.length cr, .slice ag gs.length cg] #[.string nm', .slice af' fs'.length cf', .slice ao' os'.length co', .slice am' ms'.length dm', .slice ae' es'.length de', .slice ar' rs'.length cr', .slice ag' gs'.length cg'] 46)
        have HB0 := hide ((unhide HB).trans (show Below w0.heap.size wo ((wo.alloc (.cells #[.string nm, .slice af fs.length cf, .slice ao os.length co, .slice am ms.length cm', .slice ae es.length ce', .slice ar rs.length cr, .slice ag gs.length cg] 46)).alloc (.cells #[.string nm', .slice af' fs'.length cf', .slice ao' os'.length co', .slice am' ms'.length dm', .slice ae' es'.length de', .slice ar' rs'.length cr', .slice ag' gs'.length cg'] 46)) from ((Below.refl _ _).alloc (unhide HB).size _).alloc (by rw [World.size_alloc]; have := (unhide HB).size; omega) _))
        have Hlt := hide hlt
        have Hto := hide (fun e : Ms.mk nm fs os ms es rs gs = .mk nm' fs' os' ms' es' rs' gs' => take_eq_succ (unhide HT) ht (by rw [e]; exact ht'))
        have Hne := hide (fun e : ¬ Ms.mk nm fs os ms es rs gs = .mk nm' fs' os' ms' es' rs' gs' => at_ne ht ht' e)
        clear hx hx' ht ht' hB key key' hsl hsl' rv3 rv3' HT hlt hV hV' hdm hdm'
        by_cases n1 : nm = nm'
        · by_cases n2 : fs.length = fs'.length
          · have Hn1 := hide n1
            have Hn2 := hide n2
            have e1 : ((fs.length : Int) != (fs'.length : Int)) = false := by simp [n2]
            have e2 : ((fs.length : Int) == (fs'.length : Int)) = true := by simp [n2]
            have e3 : (nm.toList == nm'.toList) = true := by rw [n1]; simp
            clear n1 n2
            go_wp2_with fail
            refine (unhide HO _ (unhide HT0).bl).mono ?_
            rintro e' w1 ⟨q1, rfl, hq1, hb1⟩
            have HT1 := hide ((unhide HT0).up hb1)
            have HB1 := hide ((unhide HB0).trans (hb1.mono (unhide HB0).size))
            have X1 := (unhide HT1).x
            have Y1 := (unhide HT1).y
            have Hq1 := hide hq1
            clear hb1 HT0 HB0 HO hq1 d0 d1 d2 d3 d4 d5 d6 f0 f1 f2 f3 f4 f5 f6
            cases q1 with
            | false =>
              have HN := hide (unhide Hne (fun e => by have := (unhide Hq1).2 (by injection e); cases this))
              go_wp2
              go_ret
              exact smF (unhide HN) (unhide HB1)
            | true =>
              go_wp2_with fail
              refine (unhide HR _ (unhide HT1).bl).mono ?_
              rintro e' w2 ⟨q2, rfl, hq2, hb2⟩
              have HT2 := hide ((unhide HT1).up hb2)
              have HB2 := hide ((unhide HB1).trans (hb2.mono (unhide HB1).size))
              have X2 := (unhide HT2).x
              have Y2 := (unhide HT2).y
              have Hq2 := hide hq2
              clear hb2 HT1 HB1 HR hq2 X1 Y1
              cases q2 with
              | false =>
                have HN := hide (unhide Hne (fun e => by have := (unhide Hq2).2 (by injection e); cases this))
                go_wp2
                go_ret
                exact smF (unhide HN) (unhide HB2)
              | true =>
                go_wp2_with fail
                refine (unhide HG _ (unhide HT2).bl).mono ?_
                rintro e' w3 ⟨q3, rfl, hq3, hb3⟩
                have HT3 := hide ((unhide HT2).up hb3)
                have HB3 := hide ((unhide HB2).trans (hb3.mono (unhide HB2).size))
                have X3 := (unhide HT3).x
                have Y3 := (unhide HT3).y
                have Hq3 := hide hq3
                clear hb3 HT2 HB2 HG hq3 X2 Y2
                cases q3 with
                | false =>
                  have HN := hide (unhide Hne (fun e => by have := (unhide Hq3).2 (by injection e); cases this))
                  go_wp2
                  go_ret
                  exact smF (unhide HN) (unhide HB3)
                | true =>
                  clear e1 e2 e3
                  go_wp2
                  go_loopg [10] fs.length (fun gk v10 wq => ∃ (k m : Nat), v10 = .int .i64 (k : Int) ∧ gk = fs.length - k ∧ k ≤ fs.length ∧ Hid (fs.take k = fs'.take k) ∧ wq = w3.drewN m)
                  case atStart => exact ⟨0, 0, rfl, rfl, by omega, rfl, rfl⟩
                  case round =>
                    obtain ⟨k, m, rfl, hgk2, hk, HTv, rfl⟩ := hrel
                    have Hgk2 := hide hgk2
                    clear hgk2
                    by_cases hkl : k < fs.length
                    · obtain ⟨p, hp⟩ : ∃ p, fs[k]? = some p := ⟨_, List.getElem?_eq_getElem hkl⟩
                      obtain ⟨p', hp'⟩ : ∃ p, fs'[k]? = some p := ⟨_, List.getElem?_eq_getElem (by have := unhide Hn2; omega)⟩
                      obtain ⟨gv, ov, rfl, hgv, hcv⟩ := unhide RV (by omega)
                      obtain ⟨gv', ov', rfl, hgv', hcv'⟩ := unhide RV' (by have := unhide Hn2; omega)
                      have hb9 := (unhide HT3).bl
                      obtain ⟨p0, p1, p2, p3, p4, p5⟩ := p
                      obtain ⟨r0, r1, r2, r3, r4, r5⟩ := p'
                      have kx : ∀ (j : Nat) (x : Value), j < 6 → [Value.int .i64 p0, .string p1, .string p2, .string p3, .int .i64 p4, .int .i64 p5][j]? = some x → w3.cell? ⟨gv, ov + (k * 6 + j), none⟩ = some x := fun j x hj hx => (hb9.cell (p := ⟨gv, ov + (k * 6 + j), none⟩) hgv).trans (hcv _ _ (by unfold fldC; rw [flat_at Fd.cs 6 (fun _ => rfl) fs k j _ hp hj]; exact hx))
                      have ky : ∀ (j : Nat) (x : Value), j < 6 → [Value.int .i64 r0, .string r1, .string r2, .string r3, .int .i64 r4, .int .i64 r5][j]? = some x → w3.cell? ⟨gv', ov' + (k * 6 + j), none⟩ = some x := fun j x hj hx => (hb9.cell (p := ⟨gv', ov' + (k * 6 + j), none⟩) hgv').trans (hcv' _ _ (by unfold fldC; rw [flat_at Fd.cs 6 (fun _ => rfl) fs' k j _ hp' hj]; exact hx))
                      have x0 : w3.cell? ⟨gv, ov + k * 6, none⟩ = _ := kx 0 _ (by decide) rfl
                      have x1 : w3.cell? ⟨gv, ov + k * 6 + 1, none⟩ = _ := kx 1 _ (by decide) rfl
                      have x2 : w3.cell? ⟨gv, ov + k * 6 + 2, none⟩ = _ := kx 2 _ (by decide) rfl
                      have x3 : w3.cell? ⟨gv, ov + k * 6 + 3, none⟩ = _ := kx 3 _ (by decide) rfl
                      have x4 : w3.cell? ⟨gv, ov + k * 6 + 4, none⟩ = _ := kx 4 _ (by decide) rfl
                      have x5 : w3.cell? ⟨gv, ov + k * 6 + 5, none⟩ = _ := kx 5 _ (by decide) rfl
                      have y0 : w3.cell? ⟨gv', ov' + k * 6, none⟩ = _ := ky 0 _ (by decide) rfl
                      have y1 : w3.cell? ⟨gv', ov' + k * 6 + 1, none⟩ = _ := ky 1 _ (by decide) rfl
                      have y2 : w3.cell? ⟨gv', ov' + k * 6 + 2, none⟩ = _ := ky 2 _ (by decide) rfl
                      have y3 : w3.cell? ⟨gv', ov' + k * 6 + 3, none⟩ = _ := ky 3 _ (by decide) rfl
                      have y4 : w3.cell? ⟨gv', ov' + k * 6 + 4, none⟩ = _ := ky 4 _ (by decide) rfl
                      have y5 : w3.cell? ⟨gv', ov' + k * 6 + 5, none⟩ = _ := ky 5 _ (by decide) rfl
                      have k0 : (0 : Int) ≤ (k : Int) := Int.natCast_nonneg _
                      have k1 : (k : Int) < (fs.length : Int) := by omega
                      have k2 : (k : Int) < (fs'.length : Int) := by have := unhide Hn2; omega
                      clear kx ky
                      by_cases h0 : p0 = r0
                      · by_cases h1 : p1 = r1
                        · by_cases h2 : p2 = r2
                          · by_cases h3 : p3 = r3
                            · by_cases h4 : p4 = r4
                              · by_cases h5 : p5 = r5
                                · subst h0 h1 h2 h3 h4 h5
                                  have HTv2 := hide (take_eq_succ (unhide HTv) hp hp')
                                  clear hcv hcv' hp hp' HTv hb9
                                  go_wp2
                                  go_quiet (fail)
                                  go_wp2
                                  go_roundg (fs.length - (k + 1))
                                  case measure => have := unhide Hgk2; omega
                                  case rel => exact ⟨k + 1, _, by go_num, rfl, by omega, HTv2, rfl⟩
                                · have HN := hide (unhide Hne (fun e => at_ne hp hp' (fun e2 => h5 (congrArg Fd.oneof e2)) (by injection e)))
                                  have n1 : (p5 == r5) = false := by simpa using h5
                                  clear hcv hcv' hp hp' HTv hb9
                                  go_wp2
                                  go_quiet (fail)
                                  go_wp2
                                  go_ret
                                  exact smF (unhide HN) (below_drewN (below_drewN (unhide HB3) _) _)
                              · have HN := hide (unhide Hne (fun e => at_ne hp hp' (fun e2 => h4 (congrArg Fd.num e2)) (by injection e)))
                                have n1 : (p4 == r4) = false := by simpa using h4
                                clear hcv hcv' hp hp' HTv hb9
                                go_wp2
                                go_quiet (fail)
                                go_wp2
                                go_ret
                                exact smF (unhide HN) (below_drewN (below_drewN (unhide HB3) _) _)
                            · have HN := hide (unhide Hne (fun e => at_ne hp hp' (fun e2 => h3 (congrArg Fd.name e2)) (by injection e)))
                              have n1 := str_ne h3
                              clear hcv hcv' hp hp' HTv hb9
                              go_wp2
                              go_quiet (fail)
                              go_wp2
                              go_ret
                              exact smF (unhide HN) (below_drewN (below_drewN (unhide HB3) _) _)
                          · have HN := hide (unhide Hne (fun e => at_ne hp hp' (fun e2 => h2 (congrArg Fd.ty e2)) (by injection e)))
                            have n1 := str_ne h2
                            clear hcv hcv' hp hp' HTv hb9
                            go_wp2
                            go_quiet (fail)
                            go_wp2
                            go_ret
                            exact smF (unhide HN) (below_drewN (below_drewN (unhide HB3) _) _)
                        · have HN := hide (unhide Hne (fun e => at_ne hp hp' (fun e2 => h1 (congrArg Fd.key e2)) (by injection e)))
                          have n1 := str_ne h1
                          clear hcv hcv' hp hp' HTv hb9
                          go_wp2
                          go_quiet (fail)
                          go_wp2
                          go_ret
                          exact smF (unhide HN) (below_drewN (below_drewN (unhide HB3) _) _)
                      · have HN := hide (unhide Hne (fun e => at_ne hp hp' (fun e2 => h0 (congrArg Fd.card e2)) (by injection e)))
                        have n1 : (p0 == r0) = false := by simpa using h0
                        clear hcv hcv' hp hp' HTv hb9
                        go_wp2
                        go_quiet (fail)
                        go_wp2
                        go_ret
                        exact smF (unhide HN) (below_drewN (below_drewN (unhide HB3) _) _)
                    · obtain rfl : k = fs.length := by omega
                      have HT4 := hide (show TwoB W wo.heap.size (wo.heap.size + 1) #[.string nm, .slice af fs.length cf, .slice ao os.length co, .slice am ms.length cm', .slice ae es.length ce', .slice ar rs.length cr, .slice ag gs.length cg] #[.string nm', .slice af' fs'.length cf', .slice ao' os'.length co', .slice am' ms'.length dm', .slice ae' es'.length de', .slice ar' rs'.length cr', .slice ag' gs'.length cg'] (w3.drewN m) from (unhide HT3).up (below_drewN (Below.refl _ _) m))
                      have HB4 := hide (below_drewN (unhide HB3) m)
                      have HTf := hide (take_all (unhide Hn2) (unhide HTv))
                      clear HTv HB3 HT3
                      go_wp2_with fail
                      refine (unhide HEn _ (unhide HT4).bl).mono ?_
                      rintro e' w5 ⟨q5, rfl, hq5, hb5⟩
                      have HT5 := hide ((unhide HT4).up hb5)
                      have HB5 := hide ((unhide HB4).trans (hb5.mono (unhide HB4).size))
                      have X5 := (unhide HT5).x
                      have Y5 := (unhide HT5).y
                      have Hq5 := hide hq5
                      clear hb5 HT4 HB4 HEn hq5 
                      cases q5 with
                      | false =>
                        have HN := hide (unhide Hne (fun e => by have := (unhide Hq5).2 (by injection e); cases this))
                        go_wp2
                        go_ret
                        exact smF (unhide HN) (unhide HB5)
                      | true =>
                        go_wp2_with fail
                        refine (unhide HMs _ (unhide HT5).bl).mono ?_
                        rintro e' w6 ⟨q6, rfl, hq6, hb6⟩
                        have HT6 := hide ((unhide HT5).up hb6)
                        have HB6 := hide ((unhide HB5).trans (hb6.mono (unhide HB5).size))
                        have X6 := (unhide HT6).x
                        have Y6 := (unhide HT6).y
                        have Hq6 := hide hq6
                        clear hb6 HT5 HB5 HMs hq6 X5 Y5
                        cases q6 with
                        | false =>
                          have HN := hide (unhide Hne (fun e => by have := (unhide Hq6).2 (by injection e); cases this))
                          go_wp2
                          go_ret
                          exact smF (unhide HN) (unhide HB6)
                        | true =>
                          have HT9 := hide (unhide Hto (by
                            have a1 := unhide Hn1
                            have a2 := unhide HTf
                            have a3 := (unhide Hq1).1 (by trivial)
                            have a4 := (unhide Hq2).1 (by trivial)
                            have a5 := (unhide Hq3).1 (by trivial)
                            have a6 := (unhide Hq5).1 (by trivial)
                            have a7 := (unhide Hq6).1 (by trivial)
                            rw [a1, a2, a3, a4, a5, a6, a7]))
                          go_wp2
                          go_roundg (l.length - (i + 1))
                          case measure => have := unhide Hgk; have := unhide Hlt; omega
                          case rel => exact ⟨i + 1, by go_num, rfl, by have := unhide Hlt; omega, HT9, HB6⟩
          · have HN := hide (unhide Hne (fun e => n2 (by injection e with _ e; rw [e])))
            have e1 : ((fs.length : Int) != (fs'.length : Int)) = true := by simp; omega
            have e2 : ((fs.length : Int) == (fs'.length : Int)) = false := by simp; omega
            have e3 : (nm.toList == nm'.toList) = true := by rw [n1]; simp
            have e4 : ¬ (fs.length : Int) = (fs'.length : Int) := by omega
            clear n1 n2 HR HG HO HEn HMs
            go_wp2
            go_ret
            exact smF (unhide HN) (unhide HB0)
        · have HN := hide (unhide Hne (fun e => n1 (by injection e)))
          have e3 := str_ne n1
          clear n1 HR HG HO HEn HMs
          go_wp2
          go_ret
          exact smF (unhide HN) (unhide HB0)
      · obtain rfl : i = l.length := by omega
        have HE9 := hide (take_all (unhide Hll) (unhide HT))
        clear HT
        go_wp2
        go_ret
        exact smT (unhide HE9) (unhide HB)
  · have HN : Hid (¬ l = l') := fun e => hll (by rw [e])
    have e1 : ((l.length : Int) != (l'.length : Int)) = true := by simp; omega
    have e2 : ((l.length : Int) == (l'.length : Int)) = false := by simp; omega
    have e3 : ¬ (l.length : Int) = (l'.length : Int) := by omega
    clear hll
    go_enter Tryz.func23, Tryz.ntmps23
    go_wp2
    go_ret
    exact smF (unhide HN) (Below.refl _ _)
theorem sameMs_all : ∀ f, SameC f
  | 0 => sameMs_0
  | f + 1 => sameMs_succ (sameMs_all f)
end Go.Proofs.YtaadpiimcaabkaaGreatDoor
