import Derived.Test.YtaadpiimcaabkaaGreatDoorJ42

namespace Go.Proofs.YtaadpiimcaabkaaGreatDoor
open Go.RowKit
attribute [local go_sem ↓] Go.wp_at_zero Go.wp_at_succ

/-- Two boxes stand. -/
structure TwoB (W : World) (p q : Nat) (xs ys : Array Value) (w : World) : Prop where
  bl : Below W.heap.size W w
  x : ∀ j, w.cell? ⟨p, j, none⟩ = xs[j]?
  y : ∀ j, w.cell? ⟨q, j, none⟩ = ys[j]?
  lx : p < w.heap.size
  ly : q < w.heap.size
theorem twoB_new {W wr : World} (hb : Below W.heap.size W wr) (xs ys : Array Value) (t : TypeId) : TwoB W wr.heap.size (wr.heap.size + 1) xs ys ((wr.alloc (.cells xs t)).alloc (.cells ys t)) := by
  have h1 := hb.size
  refine ⟨(hb.alloc h1 _).alloc (by rw [World.size_alloc]; omega) _, fun j => ?_, fun j => ?_, by rw [World.size_alloc, World.size_alloc]; omega, by rw [World.size_alloc, World.size_alloc]; omega⟩
  · rw [World.cell?_alloc_past _ _ _ (by rw [World.size_alloc]; omega), World.cell?_alloc_at _ _ _ _ rfl]
  · rw [World.cell?_alloc_at _ _ _ _ (by rw [World.size_alloc])]
theorem TwoB.up {W w w' : World} {p q : Nat} {xs ys : Array Value} (h : TwoB W p q xs ys w) (hb : Below w.heap.size w w') : TwoB W p q xs ys w' :=
  ⟨h.bl.trans (hb.mono h.bl.size), fun j => (hb.cell (p := ⟨p, j, none⟩) h.lx).trans (h.x j), fun j => (hb.cell (p := ⟨q, j, none⟩) h.ly).trans (h.y j), Nat.lt_of_lt_of_le h.lx hb.size, Nat.lt_of_lt_of_le h.ly hb.size⟩
set_option maxRecDepth 100000 in
set_option maxHeartbeats 4000000 in
theorem sameEnums_any {W : World} {v u : Value} {l l' : List En} {cs cs' : List Value} (h : Rl W v l.length cs) (hE : EsL W cs l) (h' : Rl W u l'.length cs') (hE' : EsL W cs' l') (w0 : World) (hw : Below W.heap.size W w0) : Calls Tryz.prog 24 #[v, u] w0 (SmP w0 (l = l')) := by
  obtain ⟨a, c, rfl, hc, h3⟩ := h
  obtain ⟨a', c', rfl, hc', h3'⟩ := h'
  have H3 := hide h3
  have H3' := hide h3'
  have HE := hide hE
  have HE' := hide hE'
  have HW := hide hw
  clear h3 h3' hE hE' hw
  by_cases hll : l.length = l'.length
  · have Hll := hide hll
    have e1 : ((l.length : Int) != (l'.length : Int)) = false := by simp [hll]
    have e2 : ((l.length : Int) == (l'.length : Int)) = true := by simp [hll]
    clear hll
    go_enter Tryz.func24, Tryz.ntmps24
    go_wp2
    clear e1 e2
    go_loopg [5, 6, 7, 8] l.length (fun gk v5 _ _ _ wr => ∃ (i : Nat), v5 = .int .i64 (i : Int) ∧ gk = l.length - i ∧ i ≤ l.length ∧ Hid (l.take i = l'.take i) ∧ Hid (Below w0.heap.size w0 wr))
    case atStart => exact ⟨0, rfl, rfl, by omega, rfl, Below.refl _ _⟩
    case round =>
      obtain ⟨i, rfl, hgk, hi, HT, HB⟩ := hrel
      have Hgk := hide hgk
      clear hgk
      obtain ⟨wo, hwo⟩ : ∃ x, x = wr := ⟨_, rfl⟩
      subst hwo
      by_cases hlt : i < l.length
      · obtain ⟨t, ht⟩ : ∃ t, l[i]? = some t := ⟨_, List.getElem?_eq_getElem hlt⟩
        obtain ⟨t', ht'⟩ : ∃ t, l'[i]? = some t := ⟨_, List.getElem?_eq_getElem (by have := unhide Hll; omega)⟩
        obtain ⟨g, o, rfl, hg, hx⟩ := unhide H3 (by omega)
        obtain ⟨g', o', rfl, hg', hx'⟩ := unhide H3' (by have := unhide Hll; omega)
        have hB : Below W.heap.size W wo := (unhide HW).trans ((unhide HB).mono (unhide HW).size)
        obtain ⟨vv, vr, vg, hsl, rv, rr, rg⟩ := (unhide HE).at i t ht
        obtain ⟨vv', vr', vg', hsl', rv', rr', rg'⟩ := (unhide HE').at i t' ht'
        have key : ∀ (j : Nat) (x : Value), [Value.string t.name, vv, vr, vg][j]? = some x → wo.cell? ⟨g, o + (i * 4 + j), none⟩ = some x := fun j x hx2 => (hB.cell (p := ⟨g, o + (i * 4 + j), none⟩) hg).trans (hx _ _ (by
          rw [← hsl, List.getElem?_take, List.getElem?_drop] at hx2
          split at hx2
          · exact hx2
          · cases hx2))
        have key' : ∀ (j : Nat) (x : Value), [Value.string t'.name, vv', vr', vg'][j]? = some x → wo.cell? ⟨g', o' + (i * 4 + j), none⟩ = some x := fun j x hx2 => (hB.cell (p := ⟨g', o' + (i * 4 + j), none⟩) hg').trans (hx' _ _ (by
          rw [← hsl', List.getElem?_take, List.getElem?_drop] at hx2
          split at hx2
          · exact hx2
          · cases hx2))
        have hgw : g' < wo.heap.size := Nat.lt_of_lt_of_le hg' hB.size
        have d0 : wo.cell? ⟨g, o + i * 4, none⟩ = _ := key 0 _ rfl
        have d1 : wo.cell? ⟨g, o + i * 4 + 1, none⟩ = _ := key 1 _ rfl
        have d2 : wo.cell? ⟨g, o + i * 4 + 2, none⟩ = _ := key 2 _ rfl
        have d3 : wo.cell? ⟨g, o + i * 4 + 3, none⟩ = _ := key 3 _ rfl
        have f0 : ∀ q, (wo.alloc q).cell? ⟨g', o' + i * 4, none⟩ = _ := fun q => (World.cell?_alloc_lt _ _ _ hgw).trans (key' 0 _ rfl)
        have f1 : ∀ q, (wo.alloc q).cell? ⟨g', o' + i * 4 + 1, none⟩ = _ := fun q => (World.cell?_alloc_lt _ _ _ hgw).trans (key' 1 _ rfl)
        have f2 : ∀ q, (wo.alloc q).cell? ⟨g', o' + i * 4 + 2, none⟩ = _ := fun q => (World.cell?_alloc_lt _ _ _ hgw).trans (key' 2 _ rfl)
        have f3 : ∀ q, (wo.alloc q).cell? ⟨g', o' + i * 4 + 3, none⟩ = _ := fun q => (World.cell?_alloc_lt _ _ _ hgw).trans (key' 3 _ rfl)
        have HR := hide (fun w' hb => sameRanges_any rr rr' w' hb)
        have HG := hide (fun w' hb => sameTexts_any rg rg' w' hb)
        obtain ⟨av, cv, rfl, hvl, rv3⟩ := rv
        obtain ⟨av', cv', rfl, hvl', rv3'⟩ := rv'
        obtain ⟨ar, cr, rfl, -, -⟩ := rr
        obtain ⟨ar', cr', rfl, -, -⟩ := rr'
        obtain ⟨ag, cg, rfl, -, -⟩ := rg
        obtain ⟨ag', cg', rfl, -, -⟩ := rg'
        have RV := hide rv3
        have RV' := hide rv3'
        have i0 : (0 : Int) ≤ (i : Int) := Int.natCast_nonneg _
        have i1 : (i : Int) < (l.length : Int) := by omega
        have i2 : (i : Int) < (l'.length : Int) := by have := unhide Hll; omega
        have HT0 := hide (twoB_new hB #[.string t.name, .slice av t.vals.length cv, .slice ar t.res.length cr, .slice ag t.gone.length cg] #[.string t'.name, .slice av' t'.vals.length cv', .slice ar' t'.res.length cr', .slice ag' t'.gone.length cg'] 67)
        have HB0 := hide ((unhide HB).trans (show Below w0.heap.size wo ((wo.alloc (.cells #[.string t.name, .slice av t.vals.length cv, .slice ar t.res.length cr, .slice ag t.gone.length cg] 67)).alloc (.cells #[.string t'.name, .slice av' t'.vals.length cv', .slice ar' t'.res.length cr', .slice ag' t'.gone.length cg'] 67)) from ((Below.refl _ _).alloc (unhide HB).size _).alloc (by rw [World.size_alloc]; have := (unhide HB).size; omega) _))
        have Hlt := hide hlt
        have Hto := hide (fun e : t = t' => take_eq_succ (unhide HT) ht (by rw [e]; exact ht'))
        have Hne := hide (fun e : ¬ t = t' => at_ne ht ht' e)
        clear hx hx' ht ht' hB key key' hsl hsl' rv3 rv3' HT hlt
        by_cases n1 : t.name = t'.name
        · by_cases n2 : t.vals.length = t'.vals.length
          · have Hn1 := hide n1
            have Hn2 := hide n2
            have e1 : ((t.vals.length : Int) != (t'.vals.length : Int)) = false := by simp [n2]
            have e2 : ((t.vals.length : Int) == (t'.vals.length : Int)) = true := by simp [n2]
            have e3 : (t.name.toList == t'.name.toList) = true := by rw [n1]; simp
            clear n1 n2
            go_wp2_with fail
            refine (unhide HR _ (unhide HT0).bl).mono ?_
            rintro e' w2 ⟨q1, rfl, hq1, hb2⟩
            have HT2 := hide ((unhide HT0).up hb2)
            have HB2 := hide ((unhide HB0).trans (hb2.mono (unhide HB0).size))
            have X2 := (unhide HT2).x
            have Y2 := (unhide HT2).y
            have Hq1 := hide hq1
            clear hb2 HT0 HB0 HR d0 d1 d2 d3 f0 f1 f2 f3 hq1
            cases q1 with
            | false =>
              have HN := hide (unhide Hne (fun e => by have := (unhide Hq1).2 (by rw [e]); cases this))
              clear HG
              go_wp2
              go_ret
              exact smF (unhide HN) (unhide HB2)
            | true =>
              go_wp2_with fail
              refine (unhide HG _ (unhide HT2).bl).mono ?_
              rintro e' w3 ⟨q2, rfl, hq2, hb3⟩
              have HT3 := hide ((unhide HT2).up hb3)
              have HB3 := hide ((unhide HB2).trans (hb3.mono (unhide HB2).size))
              have X3 := (unhide HT3).x
              have Y3 := (unhide HT3).y
              have Hq2 := hide hq2
              clear hb3 HT2 HB2 HG X2 Y2 hq2
              cases q2 with
              | false =>
                have HN := hide (unhide Hne (fun e => by have := (unhide Hq2).2 (by rw [e]); cases this))
                go_wp2
                go_ret
                exact smF (unhide HN) (unhide HB3)
              | true =>
                clear e1 e2 e3
                go_wp2
                go_loopg [8] t.vals.length (fun gk v8 wq => ∃ (k m : Nat), v8 = .int .i64 (k : Int) ∧ gk = t.vals.length - k ∧ k ≤ t.vals.length ∧ Hid (t.vals.take k = t'.vals.take k) ∧ wq = w3.drewN m)
                case atStart => exact ⟨0, 0, rfl, rfl, by omega, rfl, rfl⟩
                case round =>
                  obtain ⟨k, m, rfl, hgk2, hk, HTv, rfl⟩ := hrel
                  have Hgk2 := hide hgk2
                  clear hgk2
                  by_cases hkl : k < t.vals.length
                  · obtain ⟨p, hp⟩ : ∃ p, t.vals[k]? = some p := ⟨_, List.getElem?_eq_getElem hkl⟩
                    obtain ⟨p', hp'⟩ : ∃ p, t'.vals[k]? = some p := ⟨_, List.getElem?_eq_getElem (by have := unhide Hn2; omega)⟩
                    obtain ⟨gv, ov, rfl, hgv, hcv⟩ := unhide RV (by omega)
                    obtain ⟨gv', ov', rfl, hgv', hcv'⟩ := unhide RV' (by have := unhide Hn2; omega)
                    have hb9 := (unhide HT3).bl
                    have x1 := (hb9.cell (p := ⟨gv, ov + (k * 2 + 0), none⟩) hgv).trans (hcv _ _ (evC_at hp (j := 0) (by decide)))
                    have x2 := (hb9.cell (p := ⟨gv, ov + (k * 2 + 1), none⟩) hgv).trans (hcv _ _ (evC_at hp (j := 1) (by decide)))
                    have y1 := (hb9.cell (p := ⟨gv', ov' + (k * 2 + 0), none⟩) hgv').trans (hcv' _ _ (evC_at hp' (j := 0) (by decide)))
                    have y2 := (hb9.cell (p := ⟨gv', ov' + (k * 2 + 1), none⟩) hgv').trans (hcv' _ _ (evC_at hp' (j := 1) (by decide)))
                    rw [Nat.add_zero] at x1 y1
                    rw [← Nat.add_assoc] at x2 y2
                    obtain ⟨t1, t2⟩ := p
                    obtain ⟨r1, r2⟩ := p'
                    simp only at x1 x2 y1 y2
                    have k0 : (0 : Int) ≤ (k : Int) := Int.natCast_nonneg _
                    have k1 : (k : Int) < (t.vals.length : Int) := by omega
                    have k2 : (k : Int) < (t'.vals.length : Int) := by have := unhide Hn2; omega
                    by_cases h1 : t1 = r1
                    · by_cases h2 : t2 = r2
                      · subst h1 h2
                        have HTv2 := hide (take_eq_succ (unhide HTv) hp hp')
                        clear hcv hcv' hp hp' HTv hb9
                        go_wp2
                        go_quiet (fail)
                        go_wp2
                        go_roundg (t.vals.length - (k + 1))
                        case measure => have := unhide Hgk2; omega
                        case rel => exact ⟨k + 1, _, by go_num, rfl, by omega, HTv2, rfl⟩
                      · have HN := hide (unhide Hne (fun e => at_ne hp hp' (fun e2 => h2 (congrArg Prod.snd e2)) (by rw [e])))
                        have n1 : (t2 == r2) = false := by simpa using h2
                        clear hcv hcv' hp hp' HTv hb9
                        go_wp2
                        go_quiet (fail)
                        go_wp2
                        go_ret
                        exact smF (unhide HN) (below_drewN (below_drewN (unhide HB3) _) _)
                    · have HN := hide (unhide Hne (fun e => at_ne hp hp' (fun e2 => h1 (congrArg Prod.fst e2)) (by rw [e])))
                      have n1 := str_ne h1
                      clear hcv hcv' hp hp' HTv hb9
                      go_wp2
                      go_quiet (fail)
                      go_wp2
                      go_ret
                      exact smF (unhide HN) (below_drewN (below_drewN (unhide HB3) _) _)
                  · obtain rfl : k = t.vals.length := by omega
                    have HT9 := hide (unhide Hto (by
                      have a1 := unhide Hn1
                      have a2 := take_all (unhide Hn2) (unhide HTv)
                      have a3 := (unhide Hq1).1 trivial
                      have a4 := (unhide Hq2).1 trivial
                      obtain ⟨p1, p2, p3, p4⟩ := t
                      obtain ⟨r1, r2, r3, r4⟩ := t'
                      simp only at a1 a2 a3 a4
                      rw [a1, a2, a3, a4]))
                    have HB9 := hide (below_drewN (unhide HB3) m)
                    clear HTv HB3
                    go_wp2
                    go_roundg (l.length - (i + 1))
                    case measure => have := unhide Hgk; have := unhide Hlt; omega
                    case rel => exact ⟨i + 1, by go_num, rfl, by have := unhide Hlt; omega, HT9, HB9⟩
          · have HN := hide (unhide Hne (fun e => n2 (by rw [e])))
            have e1 : ((t.vals.length : Int) != (t'.vals.length : Int)) = true := by simp; omega
            have e2 : ((t.vals.length : Int) == (t'.vals.length : Int)) = false := by simp; omega
            have e3 : (t.name.toList == t'.name.toList) = true := by rw [n1]; simp
            have e4 : ¬ (t.vals.length : Int) = (t'.vals.length : Int) := by omega
            clear n1 n2 HR HG
            go_wp2
            go_ret
            exact smF (unhide HN) (unhide HB0)
        · have HN := hide (unhide Hne (fun e => n1 (by rw [e])))
          have e3 := str_ne n1
          clear n1 HR HG
          go_wp2
          go_ret
          exact smF (unhide HN) (unhide HB0)
      · obtain rfl : i = l.length := by omega
        have HE9 := hide (take_all (unhide Hll) (unhide HT))
        clear HT
        go_wp2
        go_ret
        exact smT (unhide HE9) (unhide HB)
  · have HN : Hid (¬ l = l') := fun e => hll (by rw [e])
    have e1 : ((l.length : Int) != (l'.length : Int)) = true := by simp; omega
    have e2 : ((l.length : Int) == (l'.length : Int)) = false := by simp; omega
    have e3 : ¬ (l.length : Int) = (l'.length : Int) := by omega
    clear hll
    go_enter Tryz.func24, Tryz.ntmps24
    go_wp2
    go_ret
    exact smF (unhide HN) (Below.refl _ _)
end Go.Proofs.YtaadpiimcaabkaaGreatDoor
