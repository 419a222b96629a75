import Derived.Test.YtdhncpeemcanlaaGreatDoorJ47

namespace Go.Proofs.YtdhncpeemcanlaaGreatDoor
open Go.RowKit
attribute [local go_sem ↓] Go.wp_at_zero Go.wp_at_succ

/-- Messages that are the same. -/
def MsCall (W : World) (v : Value) (ms : List Ms) : Prop := ∀ (Q : Nat → Prop) (u : Value) (cs' : List Value), RdR W u ms.length cs' → HasMs Q W cs' ms → ∀ w0, Below W.heap.size W w0 → Calls Tryz.prog 13 #[v, u] w0 (SameP w0)
/-- A message's cells. -/
def McR (W : World) (cs : List Value) (i : Nat) (nm : ByteArray) (fs : List Fd) (os : List ByteArray) (es : List En) (rs : List (Int × Int)) (gs : List ByteArray) (vf vo vm ve vr vg : Value) (ce : List Value) : Prop :=
  (cs[i * 7]? = some (.string nm) ∧ cs[i * 7 + 1]? = some vf ∧ cs[i * 7 + 2]? = some vo ∧ cs[i * 7 + 3]? = some vm ∧ cs[i * 7 + 4]? = some ve ∧ cs[i * 7 + 5]? = some vr ∧ cs[i * 7 + 6]? = some vg) ∧ RdR W vf fs.length (fldC fs) ∧ RdR W vo os.length (strC os) ∧ RdR W ve es.length ce ∧ EsR W ce es ∧ RdR W vr rs.length (rgC rs) ∧ RdR W vg gs.length (strC gs)
theorem McR.up {W : World} {cs : List Value} {i : Nat} {nm : ByteArray} {fs : List Fd} {os : List ByteArray} {es : List En} {rs : List (Int × Int)} {gs : List ByteArray} {vf vo vm ve vr vg : Value} {ce : List Value} {z0 z1 z2 z3 z4 z5 z6 : Value} (h : McR W cs i nm fs os es rs gs vf vo vm ve vr vg ce) : McR W (z0 :: z1 :: z2 :: z3 :: z4 :: z5 :: z6 :: cs) (i + 1) nm fs os es rs gs vf vo vm ve vr vg ce := by
  refine ⟨?_, h.2⟩
  rw [show (i + 1) * 7 = i * 7 + 7 by omega]
  exact h.1
def Each (W : World) (cs : List Value) (l : List Ms) : Prop := ∀ (i : Nat) (nm : ByteArray) (fs : List Fd) (os : List ByteArray) (ms : List Ms) (es : List En) (rs : List (Int × Int)) (gs : List ByteArray), l[i]? = some (.mk nm fs os ms es rs gs) → ∃ vf vo vm ve vr vg ce, McR W cs i nm fs os es rs gs vf vo vm ve vr vg ce ∧ (∃ a c, vm = .slice a ms.length c) ∧ MsCall W vm ms
def MsR (Q : Nat → Prop) (W : World) (cs : List Value) (l : List Ms) : Prop := ∀ (i : Nat) (nm : ByteArray) (fs : List Fd) (os : List ByteArray) (ms : List Ms) (es : List En) (rs : List (Int × Int)) (gs : List ByteArray), l[i]? = some (.mk nm fs os ms es rs gs) → ∃ vf vo vm ve vr vg cm ce, McR W cs i nm fs os es rs gs vf vo vm ve vr vg ce ∧ RdR W vm ms.length cm ∧ HasMs Q W cm ms
theorem HasMs.rd {P : Nat → Prop} {w : World} {cs : List Value} {l : List Ms} (h : HasMs P w cs l) : MsR P w cs l := by
  induction h with
  | nil => intro i _ _ _ _ _ _ _ h; simp at h
  | cons hf ho hm hms he hes hr hg _ _ ih =>
    intro i nm fs os ms es rs gs h
    cases i with
    | zero =>
      cases Option.some.inj h
      exact ⟨_, _, _, _, _, _, _, _, ⟨⟨rfl, rfl, rfl, rfl, rfl, rfl, rfl⟩, hf.rd, ho.rd, he.rd, hes.rd, hr.rd, hg.rd⟩, hm.rd, hms⟩
    | succ i =>
      obtain ⟨vf, vo, vm, ve, vr, vg, cm, ce, h1, h2⟩ := ih i nm fs os ms es rs gs (by simpa using h)
      exact ⟨vf, vo, vm, ve, vr, vg, cm, ce, h1.up, h2⟩
set_option maxRecDepth 100000 in
theorem sameMs_nil (W : World) (a a' : Option Addr) (c c' : Nat) : Calls Tryz.prog 13 #[.slice a 0 c, .slice a' 0 c'] W (SameP W) := by
  go_enter Tryz.func13, Tryz.ntmps13
  go_wp2
  go_loopg [5] 1 (fun gk v5 wr => v5 = .int .i64 0 ∧ wr = W)
  case atStart => exact ⟨rfl, rfl⟩
  case round =>
    obtain ⟨rfl, rfl⟩ := hrel
    go_wp2
    go_ret
    exact ⟨rfl, Below.refl _ _⟩
set_option maxRecDepth 100000 in
set_option maxHeartbeats 8000000 in
theorem sameMs_loop {W : World} {v : Value} {l : List Ms} {cs : List Value} (h : RdR W v l.length cs) (hE : Each W cs l) : MsCall W v l := by
  intro Q u cs' h' hM w0 hw0
  have hE' := hM.rd
  obtain ⟨a, c, rfl, hc, h3⟩ := h
  obtain ⟨a', c', rfl, hc', h3'⟩ := h'
  by_cases hz : l.length = 0
  · rw [hz]
    exact sameMs_nil w0 a a' c c'
  obtain ⟨g, rfl, hg, hx⟩ := h3 (by omega)
  obtain ⟨g', rfl, hg', hx'⟩ := h3' (by omega)
  have HX := hide hx
  have HX' := hide hx'
  have HE := hide hE
  have HE' := hide hE'
  have HW0 := hide hw0
  clear h3 h3' hx hx' hE hE' hz hM hw0
  unfold maxLen at hc hc'
  have hll : ((l.length : Int) != (l.length : Int)) = false := by simp
  go_enter Tryz.func13, Tryz.ntmps13
  go_wp2
  go_loopg [5] l.length (fun gk v5 wr => ∃ (i : Nat), v5 = .int .i64 (i : Int) ∧ gk = l.length - i ∧ i ≤ l.length ∧ Hid (Below w0.heap.size w0 wr))
  case atStart => exact ⟨0, rfl, rfl, by omega, Below.refl _ _⟩
  case round =>
    obtain ⟨i, rfl, hgk, hi, HB⟩ := hrel
    have Hgk := hide hgk
    clear hgk
    by_cases hlt : i < l.length
    · obtain ⟨⟨nm, fs, os, ms, es, rs, gs⟩, ht⟩ : ∃ t, l[i]? = some t := ⟨_, List.getElem?_eq_getElem hlt⟩
      have hB : Below W.heap.size W wr := (unhide HW0).trans ((unhide HB).mono (unhide HW0).size)
      obtain ⟨vf, vo, vm, ve, vr, vg, ce, ⟨⟨x0, x1, x2, x3, x4, x5, x6⟩, rf, ro, re, res, rr, rg⟩, ⟨am, cm, rfl⟩, hcall⟩ := unhide HE i _ _ _ _ _ _ _ ht
      obtain ⟨vf', vo', vm', ve', vr', vg', cm', ce', ⟨⟨y0, y1, y2, y3, y4, y5, y6⟩, rf', ro', re', res', rr', rg'⟩, rm', hms'⟩ := unhide HE' i _ _ _ _ _ _ _ ht
      have HCall := hide (hcall Q vm' cm' rm' hms')
      have Rf := hide rf
      have Rf' := hide rf'
      have Ro := hide ro
      have Ro' := hide ro'
      have Re := hide re
      have Re' := hide re'
      have Rr := hide rr
      have Rr' := hide rr'
      have Rg := hide rg
      have Rg' := hide rg'
      have RS := hide res
      have RS' := hide res'
      obtain ⟨af, cf, rfl, hfl, _⟩ := rf
      obtain ⟨af', cf', rfl, _, _⟩ := rf'
      obtain ⟨ao, co, rfl, hol, _⟩ := ro
      obtain ⟨ao', co', rfl, _, _⟩ := ro'
      obtain ⟨ae, ce_, rfl, hel, _⟩ := re
      obtain ⟨ae', ce_', rfl, _, _⟩ := re'
      obtain ⟨ar, cr, rfl, hrl, _⟩ := rr
      obtain ⟨ar', cr', rfl, _, _⟩ := rr'
      obtain ⟨ag, cg, rfl, hgl, _⟩ := rg
      obtain ⟨ag', cg', rfl, _, _⟩ := rg'
      obtain ⟨am', cmm', rfl, _, _⟩ := rm'
      unfold maxLen at hfl
      have hgw : g' < wr.heap.size := Nat.lt_of_lt_of_le hg' hB.size
      have d0 := (hB.cell (p := ⟨g, i * 7, none⟩) hg).trans (unhide HX _ _ x0)
      have f0 := (hB.cell (p := ⟨g', i * 7, none⟩) hg').trans (unhide HX' _ _ y0)
      have gf0 : ∀ o, (wr.alloc o).cell? ⟨g', i * 7, none⟩ = _ := fun o => (World.cell?_alloc_lt _ _ _ hgw).trans f0
      have d1 := (hB.cell (p := ⟨g, i * 7 + 1, none⟩) hg).trans (unhide HX _ _ x1)
      have f1 := (hB.cell (p := ⟨g', i * 7 + 1, none⟩) hg').trans (unhide HX' _ _ y1)
      have gf1 : ∀ o, (wr.alloc o).cell? ⟨g', i * 7 + 1, none⟩ = _ := fun o => (World.cell?_alloc_lt _ _ _ hgw).trans f1
      have d2 := (hB.cell (p := ⟨g, i * 7 + 2, none⟩) hg).trans (unhide HX _ _ x2)
      have f2 := (hB.cell (p := ⟨g', i * 7 + 2, none⟩) hg').trans (unhide HX' _ _ y2)
      have gf2 : ∀ o, (wr.alloc o).cell? ⟨g', i * 7 + 2, none⟩ = _ := fun o => (World.cell?_alloc_lt _ _ _ hgw).trans f2
      have d3 := (hB.cell (p := ⟨g, i * 7 + 3, none⟩) hg).trans (unhide HX _ _ x3)
      have f3 := (hB.cell (p := ⟨g', i * 7 + 3, none⟩) hg').trans (unhide HX' _ _ y3)
      have gf3 : ∀ o, (wr.alloc o).cell? ⟨g', i * 7 + 3, none⟩ = _ := fun o => (World.cell?_alloc_lt _ _ _ hgw).trans f3
      have d4 := (hB.cell (p := ⟨g, i * 7 + 4, none⟩) hg).trans (unhide HX _ _ x4)
      have f4 := (hB.cell (p := ⟨g', i * 7 + 4, none⟩) hg').trans (unhide HX' _ _ y4)
      have gf4 : ∀ o, (wr.alloc o).cell? ⟨g', i * 7 + 4, none⟩ = _ := fun o => (World.cell?_alloc_lt _ _ _ hgw).trans f4
      have d5 := (hB.cell (p := ⟨g, i * 7 + 5, none⟩) hg).trans (unhide HX _ _ x5)
      have f5 := (hB.cell (p := ⟨g', i * 7 + 5, none⟩) hg').trans (unhide HX' _ _ y5)
      have gf5 : ∀ o, (wr.alloc o).cell? ⟨g', i * 7 + 5, none⟩ = _ := fun o => (World.cell?_alloc_lt _ _ _ hgw).trans f5
      have d6 := (hB.cell (p := ⟨g, i * 7 + 6, none⟩) hg).trans (unhide HX _ _ x6)
      have f6 := (hB.cell (p := ⟨g', i * 7 + 6, none⟩) hg').trans (unhide HX' _ _ y6)
      have gf6 : ∀ o, (wr.alloc o).cell? ⟨g', i * 7 + 6, none⟩ = _ := fun o => (World.cell?_alloc_lt _ _ _ hgw).trans f6
      have i0 : (0 : Int) ≤ (i : Int) := Int.natCast_nonneg _
      have i1 : (i : Int) < (l.length : Int) := by omega
      have e1 : ((fs.length : Int) != (fs.length : Int)) = false := by simp
      have HT0 := hide (twoB_new (unhide HB) #[.string nm, .slice af fs.length cf, .slice ao os.length co, .slice am ms.length cm, .slice ae es.length ce_, .slice ar rs.length cr, .slice ag gs.length cg] #[.string nm, .slice af' fs.length cf', .slice ao' os.length co', .slice am' ms.length cmm', .slice ae' es.length ce_', .slice ar' rs.length cr', .slice ag' gs.length cg'] 51)
      clear x0 x1 x2 x3 x4 x5 x6 y0 y1 y2 y3 y4 y5 y6 hB ht hcall hms' res res'
      go_wp2_with fail
      have H0 := unhide HT0
      have W0 := (unhide HW0).trans (H0.bl.mono (unhide HW0).size)
      refine (sameTexts_any ((unhide Ro).up W0) ((unhide Ro').up W0)).mono ?_
      rintro e w2 ⟨rfl, hb2⟩
      have HT2 := hide (H0.up hb2)
      have X2 := (unhide HT2).x
      have Y2 := (unhide HT2).y
      clear H0 hb2 HT0 d0 d1 d2 d3 d4 d5 d6 f0 f1 f2 f3 f4 f5 f6 gf0 gf1 gf2 gf3 gf4 gf5 gf6 W0
      go_wp2_with fail
      have H2 := unhide HT2
      have W2 := (unhide HW0).trans (H2.bl.mono (unhide HW0).size)
      refine (sameRows_any ((unhide Rr).up W2) ((unhide Rr').up W2)).mono ?_
      rintro e w3 ⟨rfl, hb3⟩
      have HT3 := hide (H2.up hb3)
      have X3 := (unhide HT3).x
      have Y3 := (unhide HT3).y
      clear H2 hb3 HT2 X2 Y2 W2
      go_wp2_with fail
      have H3 := unhide HT3
      have W3 := (unhide HW0).trans (H3.bl.mono (unhide HW0).size)
      refine (sameTexts_any ((unhide Rg).up W3) ((unhide Rg').up W3)).mono ?_
      rintro e w4 ⟨rfl, hb4⟩
      have HT4 := hide (H3.up hb4)
      have X4 := (unhide HT4).x
      have Y4 := (unhide HT4).y
      clear H3 hb4 HT3 X3 Y3 W3
      go_wp2
      go_loopg [8] fs.length (fun gk v8 wq => ∃ (k m : Nat), v8 = .int .i64 (k : Int) ∧ gk = fs.length - k ∧ k ≤ fs.length ∧ wq = w4.drewN m)
      case atStart => exact ⟨0, 0, rfl, rfl, by omega, rfl⟩
      case round =>
        obtain ⟨k, m, rfl, hgk2, hk, rfl⟩ := hrel
        have Hgk2 := hide hgk2
        clear hgk2
        by_cases hkl : k < fs.length
        · obtain ⟨p, hp⟩ : ∃ p, fs[k]? = some p := ⟨_, List.getElem?_eq_getElem hkl⟩
          have W4 := (unhide HW0).trans ((unhide HT4).bl.mono (unhide HW0).size)
          obtain ⟨_, _, ee, _, hrow⟩ := (unhide Rf).up W4
          obtain ⟨_, _, ee', _, hrow'⟩ := (unhide Rf').up W4
          obtain ⟨gv, hav, hgv, hxv⟩ := hrow (by omega)
          obtain ⟨gv', hav', hgv', hxv'⟩ := hrow' (by omega)
          cases ee
          cases ee'
          subst hav
          subst hav'
          have z := fldC_at _ _ _ hp
          obtain ⟨q0, q1, q2, q3, q4, q5⟩ := p
          have d0 := hxv _ _ (z 0 (.int .i64 q0) rfl)
          have f0 := hxv' _ _ (z 0 (.int .i64 q0) rfl)
          have d1 := hxv _ _ (z 1 (.string q1) rfl)
          have f1 := hxv' _ _ (z 1 (.string q1) rfl)
          have d2 := hxv _ _ (z 2 (.string q2) rfl)
          have f2 := hxv' _ _ (z 2 (.string q2) rfl)
          have d3 := hxv _ _ (z 3 (.string q3) rfl)
          have f3 := hxv' _ _ (z 3 (.string q3) rfl)
          have d4 := hxv _ _ (z 4 (.int .i64 q4) rfl)
          have f4 := hxv' _ _ (z 4 (.int .i64 q4) rfl)
          have d5 := hxv _ _ (z 5 (.int .i64 q5) rfl)
          have f5 := hxv' _ _ (z 5 (.int .i64 q5) rfl)
          have k0 : (0 : Int) ≤ (k : Int) := Int.natCast_nonneg _
          have k1 : (k : Int) < (fs.length : Int) := by omega
          rw [Nat.add_zero] at d0 f0
          clear hxv hxv' z hrow hrow' hp W4
          go_wp2
          go_quiet (fail)
          go_wp2
          go_roundg (fs.length - (k + 1))
          case measure => have := unhide Hgk2; omega
          case rel => exact ⟨k + 1, _, by go_num, rfl, by omega, rfl⟩
        · obtain rfl : k = fs.length := by omega
          go_wp2_with fail
          have H4 : TwoB w0 _ _ _ _ _ (w4.drewN m) := (unhide HT4).up (below_drewN (Below.refl _ _) m)
          have W4 := (unhide HW0).trans (H4.bl.mono (unhide HW0).size)
          refine (sameEnums_any ((unhide Re).up W4) ((unhide RS).up W4) ((unhide Re').up W4) ((unhide RS').up W4)).mono ?_
          rintro e w5 ⟨rfl, hb5⟩
          have HT5 := hide (H4.up hb5)
          have X5 := (unhide HT5).x
          have Y5 := (unhide HT5).y
          clear H4 W4 hb5 HT4 X4 Y4
          go_wp2_with fail
          have H5 := unhide HT5
          refine (unhide HCall _ ((unhide HW0).trans (H5.bl.mono (unhide HW0).size))).mono ?_
          rintro e w6 ⟨rfl, hb6⟩
          have HB6 := hide (H5.up hb6).bl
          clear H5 hb6 HT5 X5 Y5
          go_wp2
          go_roundg (l.length - (i + 1))
          case measure => have := unhide Hgk; omega
          case rel => exact ⟨i + 1, by go_num, rfl, by omega, HB6⟩
    · obtain rfl : i = l.length := by omega
      go_wp2
      go_ret
      exact ⟨rfl, unhide HB⟩
theorem HasMs.each {P : Nat → Prop} {w : World} {cs : List Value} {l : List Ms} (h : HasMs P w cs l) : Each w cs l := by
  induction h with
  | nil => intro i _ _ _ _ _ _ _ h; simp at h
  | cons hf ho hm hms he hes hr hg _ ih1 ih2 =>
    intro i nm fs os ms es rs gs h
    cases i with
    | zero =>
      cases Option.some.inj h
      obtain ⟨a, c, e, _⟩ := hm.rd
      exact ⟨_, _, _, _, _, _, _, ⟨⟨rfl, rfl, rfl, rfl, rfl, rfl, rfl⟩, hf.rd, ho.rd, he.rd, hes.rd, hr.rd, hg.rd⟩, ⟨a, c, e⟩, sameMs_loop hm.rd ih1⟩
    | succ i =>
      obtain ⟨vf, vo, vm, ve, vr, vg, ce, h1, h2⟩ := ih2 i nm fs os ms es rs gs (by simpa using h)
      exact ⟨vf, vo, vm, ve, vr, vg, ce, h1.up, h2⟩
theorem sameMs_any {P Q : Nat → Prop} {W : World} {v u : Value} {l : List Ms} {cs cs' : List Value} (h : RdR W v l.length cs) (hm : HasMs P W cs l) (h' : RdR W u l.length cs') (hm' : HasMs Q W cs' l) : Calls Tryz.prog 13 #[v, u] W (SameP W) := sameMs_loop h hm.each Q u cs' h' hm' W (Below.refl _ _)
end Go.Proofs.YtdhncpeemcanlaaGreatDoor
