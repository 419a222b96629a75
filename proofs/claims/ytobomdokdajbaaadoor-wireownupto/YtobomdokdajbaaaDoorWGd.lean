import Derived.Test.YtobomdokdajbaaaDoorJ33
import Derived.Test.YtobomdokdajbaaaDoorJ33

namespace Go.Proofs.YtobomdokdajbaaaDoor
open Go.RowKit
attribute [local go_sem ↓] Go.wp_at_zero Go.wp_at_succ

theorem enc_take {ts : List Rt} {i : Nat} {r : Rt} (h : ts[i]? = some r) : encL (ts.take (i + 1)) = encL (ts.take i) ++ encR r := by
  rw [List.take_add_one, h, encL_append]
  simp [encL]
theorem enc_front {ts : List Rt} (i : Nat) : (encL (ts.take i)).length ≤ (encL ts).length := by
  have e : ts = ts.take i ++ ts.drop i := (List.take_append_drop _ _).symm
  conv => rhs; rw [e, encL_append, List.length_append]
  omega
theorem vN_cons {u : Nat} (h : ¬ u ≤ 127) : vN u = (u % 128 + 128) :: vN (u / 128) := by rw [vN, if_neg h]
theorem vN_tag (nb kd : Nat) (h : kd < 8) : (vN (8 * nb + kd)).length = (vint (8 * nb)).length := by
  rw [← byB_vN, show (byB (vN (8 * nb))).length = (vN (8 * nb)).length by simp [byB]]
  by_cases h1 : 8 * nb ≤ 127
  · rw [vN_small h1, vN_small (by omega)]; rfl
  · rw [vN_cons h1, vN_cons (by omega), List.length_cons, List.length_cons, show (8 * nb + kd) / 128 = 8 * nb / 128 by omega]
theorem vint_vN (u : Nat) : (vint u).length = (vN u).length := by rw [← byB_vN]; simp [byB]
theorem add_step {m a b n : Nat} (e : n = m + (a + b)) (h : n ≤ 1099511627776) : Value.int .i64 (IntKind.i64.wrap ((m : Int) + IntKind.i64.wrap ((a : Int) + (b : Int)))) = .int .i64 (n : Int) := by
  refine congrArg (Value.int .i64) ?_
  rw [IntKind.wrap_i64, IntKind.wrap_i64]
  omega
theorem sizeText_all (W : World) (s : ByteArray) (hs : s.size ≤ 1099511627776) : Calls Tryd.prog 42 #[.string s] W fun e W' => e = .returned (.int .i64 (((vint s.size).length + s.size : Nat) : Int)) ∧ W' = W := by
  have hb := vint_ten (u := s.size) (by omega)
  have Hs := hide (sizeVarint_any W (s.size : Int) s.size (by rw [wrapu_eq]; omega) (by omega))
  obtain ⟨z, hz⟩ : ∃ z, (vint s.size).length = z := ⟨_, rfl⟩
  rw [hz] at hb Hs ⊢
  have Hw : Hid (wrap64 ((z : Int) + (s.size : Int)) = ((z + s.size : Nat) : Int)) := by show _ = _; rw [wrap64_eq]; omega
  clear hb hz hs
  go_enter Tryd.func42, Tryd.ntmps42
  go_wp2_with fail
  refine (unhide Hs).mono ?_
  rintro e w' ⟨rfl, he⟩
  obtain rfl : W = w' := he.symm
  go_wp2
  go_ret
  exact ⟨retI (unhide Hw), rfl⟩
set_option maxRecDepth 100000 in
set_option maxHeartbeats 2000000 in
theorem size2 {W : World} {nb : Nat} {t : ByteArray} {ia : Option Addr} {ic : Nat} (ht : t.size ≤ 1099511627776) :
    Calls Tryd.prog 81 #[.agg #[.int .i64 (nb : Int), .int .i64 2, .int .i64 0, .string t, .slice ia 0 ic]] W fun e W' => e = .returned (.int .i64 (((vint t.size).length + t.size : Nat) : Int)) ∧ Below W.heap.size W W' := by
  have HB : Hid (Below W.heap.size W (W.alloc (.cells #[.int .i64 (nb : Int), .int .i64 2, .int .i64 0, .string t, .slice ia 0 ic] 35))) := (Below.refl _ _).alloc (Nat.le_refl _) _
  have Hs := hide (sizeText_all (W.alloc (.cells #[.int .i64 (nb : Int), .int .i64 2, .int .i64 0, .string t, .slice ia 0 ic] 35)) t ht)
  clear ht
  go_enter Tryd.func81, Tryd.ntmps81
  go_wp2_with fail
  refine (unhide Hs).mono ?_
  rintro e w1 ⟨rfl, hw⟩
  subst hw
  go_wp2
  go_ret
  exact ⟨rfl, unhide HB⟩
set_option maxRecDepth 100000 in
set_option maxHeartbeats 4000000 in
theorem size3 {W Y : World} {nb a il : Nat} {ia : Option Addr} {ic : Nat} (hn : nb ≤ 536870911) (ha : a ≤ 1099511627776) (hc : ∀ w0, Below W.heap.size W w0 → Calls Tryd.prog 39 #[.slice ia il ic] w0 fun e W' => e = .returned (.int .i64 (a : Int)) ∧ Below w0.heap.size w0 W') (hY : Below W.heap.size W Y) :
    Calls Tryd.prog 85 #[.agg #[.int .i64 (nb : Int), .int .i64 3, .int .i64 0, .string ⟨#[]⟩, .slice ia il ic]] Y fun e W' => e = .returned (.int .i64 ((a + (vint (8 * nb)).length : Nat) : Int)) ∧ Below Y.heap.size Y W' := by
  have hten := vint_ten (u := 8 * nb) (by omega)
  have Hst := hide (fun V : World => sizeTag_any V nb hn)
  generalize (vint (8 * nb)).length = tz at *
  have hsum : IntKind.i64.wrap ((a : Int) + (tz : Int)) = ((a + tz : Nat) : Int) := by rw [IntKind.wrap_i64]; omega
  have Hsum := hide hsum
  have hV : Below Y.heap.size Y (Y.alloc (.cells #[.int .i64 (nb : Int), .int .i64 3, .int .i64 0, .string ⟨#[]⟩, .slice ia il ic] 35)) := (Below.refl _ _).alloc (Nat.le_refl _) _
  have hbx := heap_alloc_new Y (.cells #[.int .i64 (nb : Int), .int .i64 3, .int .i64 0, .string ⟨#[]⟩, .slice ia il ic] 35)
  have hVs : (Y.alloc (.cells #[.int .i64 (nb : Int), .int .i64 3, .int .i64 0, .string ⟨#[]⟩, .slice ia il ic] 35)).heap.size = Y.heap.size + 1 := World.size_alloc _ _
  have Hc := hide hc
  have HY := hide hY
  have HVb := hide hV
  have HBX := hide hbx
  have HVs := hide hVs
  clear hc hY hV hbx hVs hn ha hten hsum
  go_enter Tryd.func85, Tryd.ntmps85
  go_wp2_with fail
  have hV := unhide HVb
  have hbx := unhide HBX
  have hVs := unhide HVs
  clear HVb HBX HVs
  generalize Y.alloc (.cells #[.int .i64 (nb : Int), .int .i64 3, .int .i64 0, .string ⟨#[]⟩, .slice ia il ic] 35) = V at *
  obtain ⟨x0, x1, x2, x3, x4, _⟩ := cells5_of' hbx
  have HWV : Hid (Below W.heap.size W V) := (unhide HY).trans (hV.mono (unhide HY).size)
  have HS : Hid (∀ w', Below V.heap.size V w' → (w'.cell? ⟨Y.heap.size, 0, none⟩ = some (.int .i64 (nb : Int)) ∧ w'.cell? ⟨Y.heap.size, 4, none⟩ = some (.slice ia il ic)) ∧ Below V.heap.size V w') := fun w' h => ⟨⟨(h.cell (p := ⟨Y.heap.size, 0, none⟩) (by simp; omega)).trans x0, (h.cell (p := ⟨Y.heap.size, 4, none⟩) (by simp; omega)).trans x4⟩, h⟩
  clear x0 x1 x2 x3 x4 hbx
  go_region_held3 (fun w' => (w'.cell? ⟨Y.heap.size, 0, none⟩ = some (.int .i64 (nb : Int)) ∧ w'.cell? ⟨Y.heap.size, 4, none⟩ = some (.slice ia il ic)) ∧ Below V.heap.size V w')
    ((refine unhide HS _ ?_; first | exact (Below.refl _ _).drew | exact hB2 | exact hB1 | exact Below.refl _ _))
    (first
      | (go_at_call 39; refine (unhide Hc _ ((unhide HWV).drew)).mono ?_; rintro o W2 ⟨rfl, hb2⟩; have hB2 : Below V.heap.size V W2 := ((Below.refl _ V).drew).trans hb2)
      | (go_at_call 64; refine (unhide Hst _).mono ?_; rintro o W1 ⟨rfl, rfl⟩))
  go_wp2
  go_ret
  exact ⟨retI (unhide Hsum), hV.trans (hB2.mono hV.size)⟩
set_option maxRecDepth 100000 in
set_option maxHeartbeats 8000000 in
theorem sizeAll_rt {W : World} {P : Nat → Prop} {v : Value} {ts : List Rt} (h : HasRt W P v ts) : WfL ts → (encL ts).length ≤ 1099511627000 → ∀ w0, Below W.heap.size W w0 → Calls Tryd.prog 39 #[v] w0 fun e W' => e = .returned (.int .i64 (((encL ts).length : Nat) : Int)) ∧ Below w0.heap.size w0 W' := by
  induction h with
  | nil a c =>
    intro _ _ w0 _
    have q := sizeAll_flat (W := w0) (v := .slice a 0 c) (rs := []) ⟨a, c, rfl, by simp, fun h => by simp at h⟩ (fun _ => 0) (fun _ => 0) (fun _ => []) (fun r hr => by simp at hr) (by simp)
    exact q
  | row g n c ts us hp hn hm hg hc hi ih =>
    intro hrg hbd w0 hw0
    unfold maxLen at hm
    have Hc := hide hc
    have Hih := hide ih
    have Hi := hide hi
    have Hn := hide hn
    have Hw0 := hide hw0
    have Hrg := hide hrg
    have Hbd0 := hide hbd
    clear hc ih hi hn hp hw0 hrg hbd
    go_enter Tryd.func39, Tryd.ntmps39
    go_wp2_with fail
    refine (acts_any w0).mono ?_
    rintro e w1 ⟨rfl, hb1⟩
    obtain ⟨A, hA, hTab⟩ : ∃ A, actCells.toArray = A ∧ Tab A := ⟨_, rfl, tab_any⟩
    rw [hA]
    clear hA
    have hth := there_new w1 hTab
    have hif := hTab.info
    have hone := hTab.one
    go_wp2_with (refine wpList_store_mid rfl 113 (.tmp 3) (.tmp 7) rfl w1.heap.size 0 A rfl rfl hth hif hone ?_)
    have hT := hasT_new w1 hTab
    have hB0 := below_setCells hb1.size A.toList 0 _ (hb1.alloc hb1.size (.cells #[.nilFunc, .nilFunc, .nilFunc, .nilFunc, .nilFunc, .nilFunc, .nilFunc, .nilFunc, .nilFunc, .nilFunc, .nilFunc, .nilFunc, .nilFunc, .nilFunc, .nilFunc, .nilFunc, .nilFunc, .nilFunc, .nilFunc, .nilFunc, .nilFunc, .nilFunc, .nilFunc, .nilFunc] 113))
    generalize (w1.alloc (.cells #[.nilFunc, .nilFunc, .nilFunc, .nilFunc, .nilFunc, .nilFunc, .nilFunc, .nilFunc, .nilFunc, .nilFunc, .nilFunc, .nilFunc, .nilFunc, .nilFunc, .nilFunc, .nilFunc, .nilFunc, .nilFunc, .nilFunc, .nilFunc, .nilFunc, .nilFunc, .nilFunc, .nilFunc] 113)).setCells w1.heap.size 0 A.toList = X at *
    have hX := hb1.size
    go_loopg [4, 10] n (fun gk v4 v10 wr => ∃ (i m : Nat), v4 = .int .i64 (m : Int) ∧ v10 = .int .i64 (i : Int) ∧ gk = n - i ∧ i ≤ n ∧ Hid (m = (encL (ts.take i)).length) ∧ HasT wr w1.heap.size ∧ Hid (Below w0.heap.size w0 wr))
    case atStart => exact ⟨0, 0, rfl, rfl, rfl, Nat.zero_le _, by show 0 = _; simp [encL], hT, hB0⟩
    case round =>
     clear hB0 hT
     obtain ⟨i, m, rfl, rfl, hgk, hin, Hm, hT, HB⟩ := hrel
     have Hgk := hide hgk
     clear hgk
     by_cases hlt : i < n
     · obtain ⟨r, hr⟩ : ∃ r, ts[i]? = some r := ⟨_, List.getElem?_eq_getElem (by rw [unhide Hn]; exact hlt)⟩
       have hBW : Below W.heap.size W wr := (unhide Hw0).trans ((unhide HB).mono (unhide Hw0).size)
       have hcs := unhide Hc i r hr
       obtain ⟨ia, ic, eu⟩ := (unhide Hi i r hr).form
       have hcall0 := unhide Hih i r hr
       rw [eu] at hcs hcall0
       have hnx := enc_take hr
       have hbd := unhide Hbd0
       have hle : (encR r).length ≤ 1099511627000 := by
         have q1 := enc_front (ts := ts) (i + 1)
         rw [hnx, List.length_append] at q1
         omega
       obtain ⟨nb, kd, x, t, li⟩ := r
       obtain ⟨hR, hRL⟩ := (unhide Hrg).at' hr
       have hd0 : li.length = 0 ∨ (encL li).length ≤ 1099511627000 := by
         by_cases h3 : kd = 3
         · subst h3
           rw [encR, show bodyN nb 3 x t (encL li) = encL li ++ vN (8 * nb + 4) from rfl, List.length_append, List.length_append] at hle
           exact .inr (by omega)
         · rw [hR.rg.inner h3]
           exact .inl rfl
       have hlb : (encL li).length ≤ 1099511627000 := by
         rcases hd0 with q | q
         · rw [List.eq_nil_of_length_eq_zero q]; simp [encL]
         · exact q
       have hcall : ∀ w0, Below W.heap.size W w0 → Calls Tryd.prog 39 #[.slice ia li.length ic] w0 fun e W' => e = .returned (.int .i64 (((encL li).length : Nat) : Int)) ∧ Below w0.heap.size w0 W' := hcall0 hRL hlb
       have d0 := (hBW.cell (p := ⟨g, i * 5, none⟩) hg).trans (hcs 0 _ rfl)
       have d1 := (hBW.cell (p := ⟨g, i * 5 + 1, none⟩) hg).trans (hcs 1 _ rfl)
       have d2 := (hBW.cell (p := ⟨g, i * 5 + 2, none⟩) hg).trans (hcs 2 _ rfl)
       have d3 := (hBW.cell (p := ⟨g, i * 5 + 3, none⟩) hg).trans (hcs 3 _ rfl)
       have d4 : wr.cell? ⟨g, i * 5 + 4, none⟩ = some (.slice ia li.length ic) := (hBW.cell (p := ⟨g, i * 5 + 4, none⟩) hg).trans (hcs 4 _ rfl)
       have hi0 : (0 : Int) ≤ (i : Int) := Int.natCast_nonneg _
       have hi1 : (i : Int) < (n : Int) := by omega
       have htb := (Array.getElem?_eq_some_iff.1 hT).1
       have HT := hide hT
       clear hcs eu hcall0 hBW hr hd0 hlb
       have hkk : kd = 0 ∨ kd = 1 ∨ kd = 2 ∨ kd = 3 ∨ kd = 5 := by have := hR.rg.kind; omega
       rcases hkk with rfl | rfl | rfl | rfl | rfl
       · obtain rfl := hR.rg.text (by decide)
         obtain rfl := hR.rg.inner (by decide)
         have ht1 := (hT.cell 1).trans (show actCells[1]? = some (.func (.func 72) #[] #[]) from rfl)
         have hbe : encR (.mk nb 0 x ⟨#[]⟩ []) = vN (8 * nb + 0) ++ (vN (un x)) := by rw [encR]; rfl
         rw [hbe] at hnx hle
         have hl := congrArg List.length hnx
         rw [List.length_append, List.length_append, vN_tag nb 0 (by decide)] at hl
         have hfr := enc_front (ts := ts) (i + 1)
         have HRr : Hid (∀ Y : World, Below W.heap.size W Y → Calls Tryd.prog 72 #[.agg #[.int .i64 (nb : Int), .int .i64 0, .int .i64 x, .string ⟨#[]⟩, .slice ia 0 ic]] Y fun e W' => e = .returned (.int .i64 (((vN (un x)).length : Nat) : Int)) ∧ Below Y.heap.size Y W') := fun Y hY => (by rw [← vint_vN]; exact size0 hR.int)
         have Hst := hide (fun V : World => sizeTag_any V nb hR.rg.num.2)
         generalize (vint (8 * nb)).length = tz at *
         generalize (vN (un x)).length = bz at *
         obtain ⟨m2, hm2⟩ : ∃ m2, (encL (ts.take (i + 1))).length = m2 := ⟨_, rfl⟩
         rw [hm2] at hl hfr
         have Hval : Hid (m2 = m + (tz + bz)) := by show _ = _; rw [unhide Hm]; exact hl
         have Hm2 := hide hm2
         have Hbd : Hid (m2 ≤ 1099511627776) := by show _ ≤ _; omega
         have d1' : wr.cell? ⟨g, i * 5 + 1, none⟩ = some (.int .i64 0) := d1
         have d4' : wr.cell? ⟨g, i * 5 + 4, none⟩ = some (.slice ia 0 ic) := d4
         clear hT d1 d4 hcall hR hnx hle hbe hl hfr hm2 hbd hRL
         go_wp2_with fail
         have hV : Below wr.heap.size wr (wr.alloc (.cells #[.int .i64 (nb : Int), .int .i64 0, .int .i64 x, .string ⟨#[]⟩, .slice ia 0 ic] 35)) := (Below.refl _ _).alloc (Nat.le_refl _) _
         have hbx := heap_alloc_new wr (.cells #[.int .i64 (nb : Int), .int .i64 0, .int .i64 x, .string ⟨#[]⟩, .slice ia 0 ic] 35)
         have hVs : (wr.alloc (.cells #[.int .i64 (nb : Int), .int .i64 0, .int .i64 x, .string ⟨#[]⟩, .slice ia 0 ic] 35)).heap.size = wr.heap.size + 1 := World.size_alloc _ _
         generalize wr.alloc (.cells #[.int .i64 (nb : Int), .int .i64 0, .int .i64 x, .string ⟨#[]⟩, .slice ia 0 ic] 35) = V at *
         obtain ⟨x0, x1, x2, x3, x4, _⟩ := cells5_of' hbx
         have xt := (hV.cell (p := ⟨w1.heap.size, 1, none⟩) htb).trans ht1
         have HBV : Hid (Below w0.heap.size w0 V) := (unhide HB).trans (hV.mono (unhide HB).size)
         have HWV : Hid (Below W.heap.size W V) := (unhide Hw0).trans ((unhide HBV).mono (unhide Hw0).size)
         have HS : Hid (∀ w', Below V.heap.size V w' → (w'.cell? ⟨wr.heap.size, 0, none⟩ = some (.int .i64 (nb : Int)) ∧ w'.cell? ⟨wr.heap.size, 1, none⟩ = some (.int .i64 0) ∧ w'.cell? ⟨wr.heap.size, 2, none⟩ = some (.int .i64 x) ∧ w'.cell? ⟨wr.heap.size, 3, none⟩ = some (.string ⟨#[]⟩) ∧ w'.cell? ⟨wr.heap.size, 4, none⟩ = some (.slice ia 0 ic) ∧ w'.cell? ⟨w1.heap.size, 1, none⟩ = some (.func (.func 72) #[] #[])) ∧ Below V.heap.size V w') := fun w' h => ⟨⟨(h.cell (p := ⟨wr.heap.size, 0, none⟩) (by simp; omega)).trans x0, (h.cell (p := ⟨wr.heap.size, 1, none⟩) (by simp; omega)).trans x1, (h.cell (p := ⟨wr.heap.size, 2, none⟩) (by simp; omega)).trans x2, (h.cell (p := ⟨wr.heap.size, 3, none⟩) (by simp; omega)).trans x3, (h.cell (p := ⟨wr.heap.size, 4, none⟩) (by simp; omega)).trans x4, (h.cell (p := ⟨w1.heap.size, 1, none⟩) (by simp; omega)).trans xt⟩, h⟩
         clear d0 d1' d2 d3 d4' x0 x1 x2 x3 x4 xt
         go_region_held3 (fun w' => (w'.cell? ⟨wr.heap.size, 0, none⟩ = some (.int .i64 (nb : Int)) ∧ w'.cell? ⟨wr.heap.size, 1, none⟩ = some (.int .i64 0) ∧ w'.cell? ⟨wr.heap.size, 2, none⟩ = some (.int .i64 x) ∧ w'.cell? ⟨wr.heap.size, 3, none⟩ = some (.string ⟨#[]⟩) ∧ w'.cell? ⟨wr.heap.size, 4, none⟩ = some (.slice ia 0 ic) ∧ w'.cell? ⟨w1.heap.size, 1, none⟩ = some (.func (.func 72) #[] #[])) ∧ Below V.heap.size V w')
           ((refine unhide HS _ ?_; first | exact (Below.refl _ _).drew | exact hB2 | exact hB1 | exact Below.refl _ _))
           (first
             | (go_at_call 64; refine (unhide Hst _).mono ?_; rintro o W1 ⟨rfl, rfl⟩)
             | (go_at_call 72; refine (unhide HRr _ ((unhide HWV).drew)).mono ?_; rintro o W2 ⟨rfl, hb2⟩; have hB2 : Below V.heap.size V W2 := ((Below.refl _ V).drew).trans hb2))
         go_wp2
         go_roundg (n - (i + 1))
         case measure => have := unhide Hgk; omega
         case rel => exact ⟨i + 1, m2, add_step (unhide Hval) (unhide Hbd), by go_num, rfl, by omega, (unhide Hm2).symm, hasT_up (unhide HT) hV hB2, (unhide HBV).trans (hB2.mono (unhide HBV).size)⟩
       · obtain rfl := hR.rg.text (by decide)
         obtain rfl := hR.rg.inner (by decide)
         have ht1 := (hT.cell 5).trans (show actCells[5]? = some (.func (.func 77) #[] #[]) from rfl)
         have hbe : encR (.mk nb 1 x ⟨#[]⟩ []) = vN (8 * nb + 1) ++ (fN (un x) 8) := by rw [encR]; rfl
         rw [hbe] at hnx hle
         have hl := congrArg List.length hnx
         rw [List.length_append, List.length_append, vN_tag nb 1 (by decide)] at hl
         have hfr := enc_front (ts := ts) (i + 1)
         have HRr : Hid (∀ Y : World, Below W.heap.size W Y → Calls Tryd.prog 77 #[.agg #[.int .i64 (nb : Int), .int .i64 1, .int .i64 x, .string ⟨#[]⟩, .slice ia 0 ic]] Y fun e W' => e = .returned (.int .i64 (((fN (un x) 8).length : Nat) : Int)) ∧ Below Y.heap.size Y W') := fun Y hY => (by rw [fN_len]; exact size1)
         have Hst := hide (fun V : World => sizeTag_any V nb hR.rg.num.2)
         generalize (vint (8 * nb)).length = tz at *
         generalize (fN (un x) 8).length = bz at *
         obtain ⟨m2, hm2⟩ : ∃ m2, (encL (ts.take (i + 1))).length = m2 := ⟨_, rfl⟩
         rw [hm2] at hl hfr
         have Hval : Hid (m2 = m + (tz + bz)) := by show _ = _; rw [unhide Hm]; exact hl
         have Hm2 := hide hm2
         have Hbd : Hid (m2 ≤ 1099511627776) := by show _ ≤ _; omega
         have d1' : wr.cell? ⟨g, i * 5 + 1, none⟩ = some (.int .i64 1) := d1
         have d4' : wr.cell? ⟨g, i * 5 + 4, none⟩ = some (.slice ia 0 ic) := d4
         clear hT d1 d4 hcall hR hnx hle hbe hl hfr hm2 hbd hRL
         go_wp2_with fail
         have hV : Below wr.heap.size wr (wr.alloc (.cells #[.int .i64 (nb : Int), .int .i64 1, .int .i64 x, .string ⟨#[]⟩, .slice ia 0 ic] 35)) := (Below.refl _ _).alloc (Nat.le_refl _) _
         have hbx := heap_alloc_new wr (.cells #[.int .i64 (nb : Int), .int .i64 1, .int .i64 x, .string ⟨#[]⟩, .slice ia 0 ic] 35)
         have hVs : (wr.alloc (.cells #[.int .i64 (nb : Int), .int .i64 1, .int .i64 x, .string ⟨#[]⟩, .slice ia 0 ic] 35)).heap.size = wr.heap.size + 1 := World.size_alloc _ _
         generalize wr.alloc (.cells #[.int .i64 (nb : Int), .int .i64 1, .int .i64 x, .string ⟨#[]⟩, .slice ia 0 ic] 35) = V at *
         obtain ⟨x0, x1, x2, x3, x4, _⟩ := cells5_of' hbx
         have xt := (hV.cell (p := ⟨w1.heap.size, 5, none⟩) htb).trans ht1
         have HBV : Hid (Below w0.heap.size w0 V) := (unhide HB).trans (hV.mono (unhide HB).size)
         have HWV : Hid (Below W.heap.size W V) := (unhide Hw0).trans ((unhide HBV).mono (unhide Hw0).size)
         have HS : Hid (∀ w', Below V.heap.size V w' → (w'.cell? ⟨wr.heap.size, 0, none⟩ = some (.int .i64 (nb : Int)) ∧ w'.cell? ⟨wr.heap.size, 1, none⟩ = some (.int .i64 1) ∧ w'.cell? ⟨wr.heap.size, 2, none⟩ = some (.int .i64 x) ∧ w'.cell? ⟨wr.heap.size, 3, none⟩ = some (.string ⟨#[]⟩) ∧ w'.cell? ⟨wr.heap.size, 4, none⟩ = some (.slice ia 0 ic) ∧ w'.cell? ⟨w1.heap.size, 5, none⟩ = some (.func (.func 77) #[] #[])) ∧ Below V.heap.size V w') := fun w' h => ⟨⟨(h.cell (p := ⟨wr.heap.size, 0, none⟩) (by simp; omega)).trans x0, (h.cell (p := ⟨wr.heap.size, 1, none⟩) (by simp; omega)).trans x1, (h.cell (p := ⟨wr.heap.size, 2, none⟩) (by simp; omega)).trans x2, (h.cell (p := ⟨wr.heap.size, 3, none⟩) (by simp; omega)).trans x3, (h.cell (p := ⟨wr.heap.size, 4, none⟩) (by simp; omega)).trans x4, (h.cell (p := ⟨w1.heap.size, 5, none⟩) (by simp; omega)).trans xt⟩, h⟩
         clear d0 d1' d2 d3 d4' x0 x1 x2 x3 x4 xt
         go_region_held3 (fun w' => (w'.cell? ⟨wr.heap.size, 0, none⟩ = some (.int .i64 (nb : Int)) ∧ w'.cell? ⟨wr.heap.size, 1, none⟩ = some (.int .i64 1) ∧ w'.cell? ⟨wr.heap.size, 2, none⟩ = some (.int .i64 x) ∧ w'.cell? ⟨wr.heap.size, 3, none⟩ = some (.string ⟨#[]⟩) ∧ w'.cell? ⟨wr.heap.size, 4, none⟩ = some (.slice ia 0 ic) ∧ w'.cell? ⟨w1.heap.size, 5, none⟩ = some (.func (.func 77) #[] #[])) ∧ Below V.heap.size V w')
           ((refine unhide HS _ ?_; first | exact (Below.refl _ _).drew | exact hB2 | exact hB1 | exact Below.refl _ _))
           (first
             | (go_at_call 64; refine (unhide Hst _).mono ?_; rintro o W1 ⟨rfl, rfl⟩)
             | (go_at_call 77; refine (unhide HRr _ ((unhide HWV).drew)).mono ?_; rintro o W2 ⟨rfl, hb2⟩; have hB2 : Below V.heap.size V W2 := ((Below.refl _ V).drew).trans hb2))
         go_wp2
         go_roundg (n - (i + 1))
         case measure => have := unhide Hgk; omega
         case rel => exact ⟨i + 1, m2, add_step (unhide Hval) (unhide Hbd), by go_num, rfl, by omega, (unhide Hm2).symm, hasT_up (unhide HT) hV hB2, (unhide HBV).trans (hB2.mono (unhide HBV).size)⟩
       · obtain rfl := hR.rg.zero (.inl rfl)
         obtain rfl := hR.rg.inner (by decide)
         have ht1 := (hT.cell 9).trans (show actCells[9]? = some (.func (.func 81) #[] #[]) from rfl)
         have hbe : encR (.mk nb 2 0 t []) = vN (8 * nb + 2) ++ (vN t.size ++ tN t) := by rw [encR]; rfl
         rw [hbe] at hnx hle
         have hl := congrArg List.length hnx
         rw [List.length_append, List.length_append, vN_tag nb 2 (by decide)] at hl
         have hfr := enc_front (ts := ts) (i + 1)
         have htx : t.size ≤ 1099511627776 := by rw [List.length_append, List.length_append, tN_len] at hle; omega
         have HRr : Hid (∀ Y : World, Below W.heap.size W Y → Calls Tryd.prog 81 #[.agg #[.int .i64 (nb : Int), .int .i64 2, .int .i64 0, .string t, .slice ia 0 ic]] Y fun e W' => e = .returned (.int .i64 (((vN t.size ++ tN t).length : Nat) : Int)) ∧ Below Y.heap.size Y W') := fun Y hY => (by rw [List.length_append, tN_len, ← vint_vN]; exact size2 htx)
         have Hst := hide (fun V : World => sizeTag_any V nb hR.rg.num.2)
         generalize (vint (8 * nb)).length = tz at *
         generalize (vN t.size ++ tN t).length = bz at *
         obtain ⟨m2, hm2⟩ : ∃ m2, (encL (ts.take (i + 1))).length = m2 := ⟨_, rfl⟩
         rw [hm2] at hl hfr
         have Hval : Hid (m2 = m + (tz + bz)) := by show _ = _; rw [unhide Hm]; exact hl
         have Hm2 := hide hm2
         have Hbd : Hid (m2 ≤ 1099511627776) := by show _ ≤ _; omega
         have d1' : wr.cell? ⟨g, i * 5 + 1, none⟩ = some (.int .i64 2) := d1
         have d4' : wr.cell? ⟨g, i * 5 + 4, none⟩ = some (.slice ia 0 ic) := d4
         clear hT d1 d4 hcall hR hnx hle hbe hl hfr hm2 hbd hRL htx
         go_wp2_with fail
         have hV : Below wr.heap.size wr (wr.alloc (.cells #[.int .i64 (nb : Int), .int .i64 2, .int .i64 0, .string t, .slice ia 0 ic] 35)) := (Below.refl _ _).alloc (Nat.le_refl _) _
         have hbx := heap_alloc_new wr (.cells #[.int .i64 (nb : Int), .int .i64 2, .int .i64 0, .string t, .slice ia 0 ic] 35)
         have hVs : (wr.alloc (.cells #[.int .i64 (nb : Int), .int .i64 2, .int .i64 0, .string t, .slice ia 0 ic] 35)).heap.size = wr.heap.size + 1 := World.size_alloc _ _
         generalize wr.alloc (.cells #[.int .i64 (nb : Int), .int .i64 2, .int .i64 0, .string t, .slice ia 0 ic] 35) = V at *
         obtain ⟨x0, x1, x2, x3, x4, _⟩ := cells5_of' hbx
         have xt := (hV.cell (p := ⟨w1.heap.size, 9, none⟩) htb).trans ht1
         have HBV : Hid (Below w0.heap.size w0 V) := (unhide HB).trans (hV.mono (unhide HB).size)
         have HWV : Hid (Below W.heap.size W V) := (unhide Hw0).trans ((unhide HBV).mono (unhide Hw0).size)
         have HS : Hid (∀ w', Below V.heap.size V w' → (w'.cell? ⟨wr.heap.size, 0, none⟩ = some (.int .i64 (nb : Int)) ∧ w'.cell? ⟨wr.heap.size, 1, none⟩ = some (.int .i64 2) ∧ w'.cell? ⟨wr.heap.size, 2, none⟩ = some (.int .i64 0) ∧ w'.cell? ⟨wr.heap.size, 3, none⟩ = some (.string t) ∧ w'.cell? ⟨wr.heap.size, 4, none⟩ = some (.slice ia 0 ic) ∧ w'.cell? ⟨w1.heap.size, 9, none⟩ = some (.func (.func 81) #[] #[])) ∧ Below V.heap.size V w') := fun w' h => ⟨⟨(h.cell (p := ⟨wr.heap.size, 0, none⟩) (by simp; omega)).trans x0, (h.cell (p := ⟨wr.heap.size, 1, none⟩) (by simp; omega)).trans x1, (h.cell (p := ⟨wr.heap.size, 2, none⟩) (by simp; omega)).trans x2, (h.cell (p := ⟨wr.heap.size, 3, none⟩) (by simp; omega)).trans x3, (h.cell (p := ⟨wr.heap.size, 4, none⟩) (by simp; omega)).trans x4, (h.cell (p := ⟨w1.heap.size, 9, none⟩) (by simp; omega)).trans xt⟩, h⟩
         clear d0 d1' d2 d3 d4' x0 x1 x2 x3 x4 xt
         go_region_held3 (fun w' => (w'.cell? ⟨wr.heap.size, 0, none⟩ = some (.int .i64 (nb : Int)) ∧ w'.cell? ⟨wr.heap.size, 1, none⟩ = some (.int .i64 2) ∧ w'.cell? ⟨wr.heap.size, 2, none⟩ = some (.int .i64 0) ∧ w'.cell? ⟨wr.heap.size, 3, none⟩ = some (.string t) ∧ w'.cell? ⟨wr.heap.size, 4, none⟩ = some (.slice ia 0 ic) ∧ w'.cell? ⟨w1.heap.size, 9, none⟩ = some (.func (.func 81) #[] #[])) ∧ Below V.heap.size V w')
           ((refine unhide HS _ ?_; first | exact (Below.refl _ _).drew | exact hB2 | exact hB1 | exact Below.refl _ _))
           (first
             | (go_at_call 64; refine (unhide Hst _).mono ?_; rintro o W1 ⟨rfl, rfl⟩)
             | (go_at_call 81; refine (unhide HRr _ ((unhide HWV).drew)).mono ?_; rintro o W2 ⟨rfl, hb2⟩; have hB2 : Below V.heap.size V W2 := ((Below.refl _ V).drew).trans hb2))
         go_wp2
         go_roundg (n - (i + 1))
         case measure => have := unhide Hgk; omega
         case rel => exact ⟨i + 1, m2, add_step (unhide Hval) (unhide Hbd), by go_num, rfl, by omega, (unhide Hm2).symm, hasT_up (unhide HT) hV hB2, (unhide HBV).trans (hB2.mono (unhide HBV).size)⟩
       · obtain rfl := hR.rg.zero (.inr rfl)
         obtain rfl := hR.rg.text (by decide)
         have ht1 := (hT.cell 13).trans (show actCells[13]? = some (.func (.func 85) #[] #[]) from rfl)
         have hbe : encR (.mk nb 3 0 ⟨#[]⟩ li) = vN (8 * nb + 3) ++ (encL li ++ vN (8 * nb + 4)) := by rw [encR]; rfl
         rw [hbe] at hnx hle
         have hl := congrArg List.length hnx
         rw [List.length_append, List.length_append, vN_tag nb 3 (by decide)] at hl
         have hfr := enc_front (ts := ts) (i + 1)
         have hlx : (encL li).length ≤ 1099511627776 := by rw [List.length_append, List.length_append] at hle; omega
         have HRr : Hid (∀ Y : World, Below W.heap.size W Y → Calls Tryd.prog 85 #[.agg #[.int .i64 (nb : Int), .int .i64 3, .int .i64 0, .string ⟨#[]⟩, .slice ia li.length ic]] Y fun e W' => e = .returned (.int .i64 (((encL li ++ vN (8 * nb + 4)).length : Nat) : Int)) ∧ Below Y.heap.size Y W') := fun Y hY => (by rw [List.length_append, vN_tag nb 4 (by decide)]; exact size3 hR.rg.num.2 hlx hcall hY)
         have Hst := hide (fun V : World => sizeTag_any V nb hR.rg.num.2)
         generalize (vint (8 * nb)).length = tz at *
         generalize (encL li ++ vN (8 * nb + 4)).length = bz at *
         obtain ⟨m2, hm2⟩ : ∃ m2, (encL (ts.take (i + 1))).length = m2 := ⟨_, rfl⟩
         rw [hm2] at hl hfr
         have Hval : Hid (m2 = m + (tz + bz)) := by show _ = _; rw [unhide Hm]; exact hl
         have Hm2 := hide hm2
         have Hbd : Hid (m2 ≤ 1099511627776) := by show _ ≤ _; omega
         have d1' : wr.cell? ⟨g, i * 5 + 1, none⟩ = some (.int .i64 3) := d1
         have d4' : wr.cell? ⟨g, i * 5 + 4, none⟩ = some (.slice ia li.length ic) := d4
         clear hT d1 d4 hcall hR hnx hle hbe hl hfr hm2 hbd hRL hlx
         go_wp2_with fail
         have hV : Below wr.heap.size wr (wr.alloc (.cells #[.int .i64 (nb : Int), .int .i64 3, .int .i64 0, .string ⟨#[]⟩, .slice ia li.length ic] 35)) := (Below.refl _ _).alloc (Nat.le_refl _) _
         have hbx := heap_alloc_new wr (.cells #[.int .i64 (nb : Int), .int .i64 3, .int .i64 0, .string ⟨#[]⟩, .slice ia li.length ic] 35)
         have hVs : (wr.alloc (.cells #[.int .i64 (nb : Int), .int .i64 3, .int .i64 0, .string ⟨#[]⟩, .slice ia li.length ic] 35)).heap.size = wr.heap.size + 1 := World.size_alloc _ _
         generalize wr.alloc (.cells #[.int .i64 (nb : Int), .int .i64 3, .int .i64 0, .string ⟨#[]⟩, .slice ia li.length ic] 35) = V at *
         obtain ⟨x0, x1, x2, x3, x4, _⟩ := cells5_of' hbx
         have xt := (hV.cell (p := ⟨w1.heap.size, 13, none⟩) htb).trans ht1
         have HBV : Hid (Below w0.heap.size w0 V) := (unhide HB).trans (hV.mono (unhide HB).size)
         have HWV : Hid (Below W.heap.size W V) := (unhide Hw0).trans ((unhide HBV).mono (unhide Hw0).size)
         have HS : Hid (∀ w', Below V.heap.size V w' → (w'.cell? ⟨wr.heap.size, 0, none⟩ = some (.int .i64 (nb : Int)) ∧ w'.cell? ⟨wr.heap.size, 1, none⟩ = some (.int .i64 3) ∧ w'.cell? ⟨wr.heap.size, 2, none⟩ = some (.int .i64 0) ∧ w'.cell? ⟨wr.heap.size, 3, none⟩ = some (.string ⟨#[]⟩) ∧ w'.cell? ⟨wr.heap.size, 4, none⟩ = some (.slice ia li.length ic) ∧ w'.cell? ⟨w1.heap.size, 13, none⟩ = some (.func (.func 85) #[] #[])) ∧ Below V.heap.size V w') := fun w' h => ⟨⟨(h.cell (p := ⟨wr.heap.size, 0, none⟩) (by simp; omega)).trans x0, (h.cell (p := ⟨wr.heap.size, 1, none⟩) (by simp; omega)).trans x1, (h.cell (p := ⟨wr.heap.size, 2, none⟩) (by simp; omega)).trans x2, (h.cell (p := ⟨wr.heap.size, 3, none⟩) (by simp; omega)).trans x3, (h.cell (p := ⟨wr.heap.size, 4, none⟩) (by simp; omega)).trans x4, (h.cell (p := ⟨w1.heap.size, 13, none⟩) (by simp; omega)).trans xt⟩, h⟩
         clear d0 d1' d2 d3 d4' x0 x1 x2 x3 x4 xt
         go_region_held3 (fun w' => (w'.cell? ⟨wr.heap.size, 0, none⟩ = some (.int .i64 (nb : Int)) ∧ w'.cell? ⟨wr.heap.size, 1, none⟩ = some (.int .i64 3) ∧ w'.cell? ⟨wr.heap.size, 2, none⟩ = some (.int .i64 0) ∧ w'.cell? ⟨wr.heap.size, 3, none⟩ = some (.string ⟨#[]⟩) ∧ w'.cell? ⟨wr.heap.size, 4, none⟩ = some (.slice ia li.length ic) ∧ w'.cell? ⟨w1.heap.size, 13, none⟩ = some (.func (.func 85) #[] #[])) ∧ Below V.heap.size V w')
           ((refine unhide HS _ ?_; first | exact (Below.refl _ _).drew | exact hB2 | exact hB1 | exact Below.refl _ _))
           (first
             | (go_at_call 64; refine (unhide Hst _).mono ?_; rintro o W1 ⟨rfl, rfl⟩)
             | (go_at_call 85; refine (unhide HRr _ ((unhide HWV).drew)).mono ?_; rintro o W2 ⟨rfl, hb2⟩; have hB2 : Below V.heap.size V W2 := ((Below.refl _ V).drew).trans hb2))
         go_wp2
         go_roundg (n - (i + 1))
         case measure => have := unhide Hgk; omega
         case rel => exact ⟨i + 1, m2, add_step (unhide Hval) (unhide Hbd), by go_num, rfl, by omega, (unhide Hm2).symm, hasT_up (unhide HT) hV hB2, (unhide HBV).trans (hB2.mono (unhide HBV).size)⟩
       · obtain rfl := hR.rg.text (by decide)
         obtain rfl := hR.rg.inner (by decide)
         have ht1 := (hT.cell 21).trans (show actCells[21]? = some (.func (.func 90) #[] #[]) from rfl)
         have hbe : encR (.mk nb 5 x ⟨#[]⟩ []) = vN (8 * nb + 5) ++ (fN (un x) 4) := by rw [encR]; rfl
         rw [hbe] at hnx hle
         have hl := congrArg List.length hnx
         rw [List.length_append, List.length_append, vN_tag nb 5 (by decide)] at hl
         have hfr := enc_front (ts := ts) (i + 1)
         have HRr : Hid (∀ Y : World, Below W.heap.size W Y → Calls Tryd.prog 90 #[.agg #[.int .i64 (nb : Int), .int .i64 5, .int .i64 x, .string ⟨#[]⟩, .slice ia 0 ic]] Y fun e W' => e = .returned (.int .i64 (((fN (un x) 4).length : Nat) : Int)) ∧ Below Y.heap.size Y W') := fun Y hY => (by rw [fN_len]; exact size5)
         have Hst := hide (fun V : World => sizeTag_any V nb hR.rg.num.2)
         generalize (vint (8 * nb)).length = tz at *
         generalize (fN (un x) 4).length = bz at *
         obtain ⟨m2, hm2⟩ : ∃ m2, (encL (ts.take (i + 1))).length = m2 := ⟨_, rfl⟩
         rw [hm2] at hl hfr
         have Hval : Hid (m2 = m + (tz + bz)) := by show _ = _; rw [unhide Hm]; exact hl
         have Hm2 := hide hm2
         have Hbd : Hid (m2 ≤ 1099511627776) := by show _ ≤ _; omega
         have d1' : wr.cell? ⟨g, i * 5 + 1, none⟩ = some (.int .i64 5) := d1
         have d4' : wr.cell? ⟨g, i * 5 + 4, none⟩ = some (.slice ia 0 ic) := d4
         clear hT d1 d4 hcall hR hnx hle hbe hl hfr hm2 hbd hRL
         go_wp2_with fail
         have hV : Below wr.heap.size wr (wr.alloc (.cells #[.int .i64 (nb : Int), .int .i64 5, .int .i64 x, .string ⟨#[]⟩, .slice ia 0 ic] 35)) := (Below.refl _ _).alloc (Nat.le_refl _) _
         have hbx := heap_alloc_new wr (.cells #[.int .i64 (nb : Int), .int .i64 5, .int .i64 x, .string ⟨#[]⟩, .slice ia 0 ic] 35)
         have hVs : (wr.alloc (.cells #[.int .i64 (nb : Int), .int .i64 5, .int .i64 x, .string ⟨#[]⟩, .slice ia 0 ic] 35)).heap.size = wr.heap.size + 1 := World.size_alloc _ _
         generalize wr.alloc (.cells #[.int .i64 (nb : Int), .int .i64 5, .int .i64 x, .string ⟨#[]⟩, .slice ia 0 ic] 35) = V at *
         obtain ⟨x0, x1, x2, x3, x4, _⟩ := cells5_of' hbx
         have xt := (hV.cell (p := ⟨w1.heap.size, 21, none⟩) htb).trans ht1
         have HBV : Hid (Below w0.heap.size w0 V) := (unhide HB).trans (hV.mono (unhide HB).size)
         have HWV : Hid (Below W.heap.size W V) := (unhide Hw0).trans ((unhide HBV).mono (unhide Hw0).size)
         have HS : Hid (∀ w', Below V.heap.size V w' → (w'.cell? ⟨wr.heap.size, 0, none⟩ = some (.int .i64 (nb : Int)) ∧ w'.cell? ⟨wr.heap.size, 1, none⟩ = some (.int .i64 5) ∧ w'.cell? ⟨wr.heap.size, 2, none⟩ = some (.int .i64 x) ∧ w'.cell? ⟨wr.heap.size, 3, none⟩ = some (.string ⟨#[]⟩) ∧ w'.cell? ⟨wr.heap.size, 4, none⟩ = some (.slice ia 0 ic) ∧ w'.cell? ⟨w1.heap.size, 21, none⟩ = some (.func (.func 90) #[] #[])) ∧ Below V.heap.size V w') := fun w' h => ⟨⟨(h.cell (p := ⟨wr.heap.size, 0, none⟩) (by simp; omega)).trans x0, (h.cell (p := ⟨wr.heap.size, 1, none⟩) (by simp; omega)).trans x1, (h.cell (p := ⟨wr.heap.size, 2, none⟩) (by simp; omega)).trans x2, (h.cell (p := ⟨wr.heap.size, 3, none⟩) (by simp; omega)).trans x3, (h.cell (p := ⟨wr.heap.size, 4, none⟩) (by simp; omega)).trans x4, (h.cell (p := ⟨w1.heap.size, 21, none⟩) (by simp; omega)).trans xt⟩, h⟩
         clear d0 d1' d2 d3 d4' x0 x1 x2 x3 x4 xt
         go_region_held3 (fun w' => (w'.cell? ⟨wr.heap.size, 0, none⟩ = some (.int .i64 (nb : Int)) ∧ w'.cell? ⟨wr.heap.size, 1, none⟩ = some (.int .i64 5) ∧ w'.cell? ⟨wr.heap.size, 2, none⟩ = some (.int .i64 x) ∧ w'.cell? ⟨wr.heap.size, 3, none⟩ = some (.string ⟨#[]⟩) ∧ w'.cell? ⟨wr.heap.size, 4, none⟩ = some (.slice ia 0 ic) ∧ w'.cell? ⟨w1.heap.size, 21, none⟩ = some (.func (.func 90) #[] #[])) ∧ Below V.heap.size V w')
           ((refine unhide HS _ ?_; first | exact (Below.refl _ _).drew | exact hB2 | exact hB1 | exact Below.refl _ _))
           (first
             | (go_at_call 64; refine (unhide Hst _).mono ?_; rintro o W1 ⟨rfl, rfl⟩)
             | (go_at_call 90; refine (unhide HRr _ ((unhide HWV).drew)).mono ?_; rintro o W2 ⟨rfl, hb2⟩; have hB2 : Below V.heap.size V W2 := ((Below.refl _ V).drew).trans hb2))
         go_wp2
         go_roundg (n - (i + 1))
         case measure => have := unhide Hgk; omega
         case rel => exact ⟨i + 1, m2, add_step (unhide Hval) (unhide Hbd), by go_num, rfl, by omega, (unhide Hm2).symm, hasT_up (unhide HT) hV hB2, (unhide HBV).trans (hB2.mono (unhide HBV).size)⟩
     · obtain rfl : i = n := by omega
       have hmm := unhide Hm
       rw [List.take_of_length_le (by rw [unhide Hn]; exact Nat.le_refl _)] at hmm
       have Hmm := hide hmm
       clear hmm
       go_wp2
       go_ret
       exact ⟨by rw [unhide Hmm]; rfl, unhide HB⟩
#print axioms sizeAll_rt
end Go.Proofs.YtobomdokdajbaaaDoor
