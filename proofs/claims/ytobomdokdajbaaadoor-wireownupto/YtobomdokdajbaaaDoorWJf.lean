import Derived.Test.YtobomdokdajbaaaDoorJ39

namespace Go.Proofs.YtobomdokdajbaaaDoor
open Go.RowKit
attribute [local go_sem ↓] Go.wp_at_zero Go.wp_at_succ

set_option maxRecDepth 100000 in
set_option maxHeartbeats 2000000 in
theorem rk5 {W : World} {nb x : Int} {t : ByteArray} {ia : Option Addr} {il ic : Nat} :
    Calls Tryd.prog 89 #[.agg #[.int .i64 nb, .int .i64 5, .int .i64 x, .string t, .slice ia il ic]] W fun e W' => e = .returned (.bool (rightK 5 x t il)) ∧ Below W.heap.size W W' := by
  have hw := fun V : World => word_any V x
  have er : rightK 5 x t il = (decide (0 ≤ x ∧ x ≤ 4294967295) && (decide (t.toList = []) && decide (il = 0))) := rfl
  rw [er]
  generalize decide (0 ≤ x ∧ x ≤ 4294967295) = wd at *
  have Hw := hide hw
  clear hw er
  cases wd <;> by_cases te : t.toList = [] <;> by_cases l0 : il = 0 <;> simp only [te, l0] <;> (
    go_enter Tryd.func89, Tryd.ntmps89
    go_wp2_with fail
    refine (unhide Hw _).mono ?_
    rintro e w1 ⟨rfl, hw1⟩
    subst hw1
    go_wp2
    all_goals (go_ret; exact ⟨by first | rfl | simp [l0] | simp [te] | (simp at te ⊢; simp [te, l0]), (Below.refl _ _).alloc (Nat.le_refl _) _⟩))
set_option maxRecDepth 100000 in
set_option maxHeartbeats 16000000 in
theorem firstFault_rk {W : World} {P : Nat → Prop} {v : Value} {ts : List Ri} (h : HasRk W P v ts) : ∀ w0, Below W.heap.size W w0 → Calls Tryd.prog 38 #[v] w0 fun e W' => e = .returned (.int .i64 ((fkL ts : Nat) : Int)) ∧ Below w0.heap.size w0 W' := by
  induction h with
  | row g n ts us hp hn hm hg hk hw hc hi ih =>
    intro w0 hw0
    have Hc := hide hc
    have Hih := hide ih
    have Hi := hide hi
    have Hn := hide hn
    have Hw0 := hide hw0
    clear hc ih hi hn hp hw0 hk hw
    obtain ⟨D, hD⟩ : ∃ D, fkL ts = D := ⟨_, rfl⟩
    rw [hD]
    have HD := hide hD
    clear hD
    go_enter Tryd.func38, Tryd.ntmps38
    go_wp2_with fail
    refine (acts_any w0).mono ?_
    rintro e w1 ⟨rfl, hb1⟩
    obtain ⟨A, hA, hTab⟩ : ∃ A, actCells.toArray = A ∧ Tab A := ⟨_, rfl, tab_any⟩
    rw [hA]
    clear hA
    have hth := there_new w1 hTab
    have hif := hTab.info
    have hone := hTab.one
    go_wp2_with (refine wpList_store_mid rfl 113 (.tmp 3) (.tmp 8) rfl w1.heap.size 0 A rfl rfl hth hif hone ?_)
    have hT := hasT_new w1 hTab
    have hB0 := below_setCells hb1.size A.toList 0 _ (hb1.alloc hb1.size (.cells #[.nilFunc, .nilFunc, .nilFunc, .nilFunc, .nilFunc, .nilFunc, .nilFunc, .nilFunc, .nilFunc, .nilFunc, .nilFunc, .nilFunc, .nilFunc, .nilFunc, .nilFunc, .nilFunc, .nilFunc, .nilFunc, .nilFunc, .nilFunc, .nilFunc, .nilFunc, .nilFunc, .nilFunc] 113))
    generalize (w1.alloc (.cells #[.nilFunc, .nilFunc, .nilFunc, .nilFunc, .nilFunc, .nilFunc, .nilFunc, .nilFunc, .nilFunc, .nilFunc, .nilFunc, .nilFunc, .nilFunc, .nilFunc, .nilFunc, .nilFunc, .nilFunc, .nilFunc, .nilFunc, .nilFunc, .nilFunc, .nilFunc, .nilFunc, .nilFunc] 113)).setCells w1.heap.size 0 A.toList = X at *
    have hX := hb1.size
    go_loopg [11] n (fun gk v11 wr => ∃ (i : Nat), v11 = .int .i64 (i : Int) ∧ gk = n - i ∧ i ≤ n ∧ Hid (fkL (ts.take i) = 0) ∧ HasT wr w1.heap.size ∧ Hid (Below w0.heap.size w0 wr))
    case atStart => exact ⟨0, rfl, rfl, Nat.zero_le _, by show fkL (ts.take 0) = 0; rfl, hT, hB0⟩
    case round =>
     clear hB0 hT
     obtain ⟨i, rfl, hgk, hin, HF, hT, HB⟩ := hrel
     have Hgk := hide hgk
     clear hgk
     by_cases hlt : i < n
     · obtain ⟨r, hr⟩ : ∃ r, ts[i]? = some r := ⟨_, List.getElem?_eq_getElem (by rw [unhide Hn]; exact hlt)⟩
       have hBW : Below W.heap.size W wr := (unhide Hw0).trans ((unhide HB).mono (unhide Hw0).size)
       have hcs := unhide Hc i r hr
       obtain ⟨ia, ic, eu⟩ := (unhide Hi i r hr).form2
       have hcall0 := unhide Hih i r hr
       rw [eu] at hcs hcall0
       have hnx := fk_next hr (unhide HF)
       rw [unhide HD] at hnx
       obtain ⟨nb, kd, x, t, li⟩ := r
       have Hno : Hid (fkR (.mk nb kd x t li) = 0 → fkL (ts.take (i + 1)) = 0) := hnx.1
       have Hyes : Hid (fkR (.mk nb kd x t li) ≠ 0 → D = fkR (.mk nb kd x t li)) := hnx.2
       have Hcall : Hid (∀ w0, Below W.heap.size W w0 → Calls Tryd.prog 38 #[.slice ia li.length ic] w0 fun e W' => e = .returned (.int .i64 ((fkL li : Nat) : Int)) ∧ Below w0.heap.size w0 W') := hcall0
       have d0 := (hBW.cell (p := ⟨g, i * 5, none⟩) hg).trans (hcs 0 _ rfl)
       have d1 := (hBW.cell (p := ⟨g, i * 5 + 1, none⟩) hg).trans (hcs 1 _ rfl)
       have d2 := (hBW.cell (p := ⟨g, i * 5 + 2, none⟩) hg).trans (hcs 2 _ rfl)
       have d3 := (hBW.cell (p := ⟨g, i * 5 + 3, none⟩) hg).trans (hcs 3 _ rfl)
       have d4 : wr.cell? ⟨g, i * 5 + 4, none⟩ = some (.slice ia li.length ic) := (hBW.cell (p := ⟨g, i * 5 + 4, none⟩) hg).trans (hcs 4 _ rfl)
       have hi0 : (0 : Int) ≤ (i : Int) := Int.natCast_nonneg _
       have hi1 : (i : Int) < (n : Int) := by omega
       have htb := (Array.getElem?_eq_some_iff.1 hT).1
       have HT := hide hT
       clear hcs eu hcall0 hBW hr hnx
       by_cases hA : nb < 1 ∨ 536870911 < nb
       · have hfin : D = 24 := (unhide Hyes) (by rw [fkR, if_pos hA]; decide) |>.trans (by rw [fkR, if_pos hA])
         go_wp2_with fail
         have hV : Below wr.heap.size wr (wr.alloc (.cells #[.int .i64 nb, .int .i64 kd, .int .i64 x, .string t, .slice ia li.length ic] 35)) := (Below.refl _ _).alloc (Nat.le_refl _) _
         have hbx := heap_alloc_new wr (.cells #[.int .i64 nb, .int .i64 kd, .int .i64 x, .string t, .slice ia li.length ic] 35)
         have hVs : (wr.alloc (.cells #[.int .i64 nb, .int .i64 kd, .int .i64 x, .string t, .slice ia li.length ic] 35)).heap.size = wr.heap.size + 1 := World.size_alloc _ _
         generalize wr.alloc (.cells #[.int .i64 nb, .int .i64 kd, .int .i64 x, .string t, .slice ia li.length ic] 35) = V at *
         obtain ⟨x0, x1, x2, x3, x4, _⟩ := cells5_of' hbx
         have HBV : Hid (Below w0.heap.size w0 V) := (unhide HB).trans (hV.mono (unhide HB).size)
         refine (tag_any V nb kd).mono ?_
         rintro e w' ⟨rfl, he⟩
         obtain rfl : V = w' := he.symm
         rw [if_pos hA]
         clear x0 x1 x2 x3 x4 hbx d0 d1 d2 d3 d4
         go_wp2
         go_ret
         exact ⟨by rw [hfin]; rfl, unhide HBV⟩
       by_cases hK : kd < 0 ∨ 5 < kd
       · have hfin : D = 23 := (unhide Hyes) (by rw [fkR, if_neg hA, if_pos hK]; decide) |>.trans (by rw [fkR, if_neg hA, if_pos hK])
         go_wp2_with fail
         have hV : Below wr.heap.size wr (wr.alloc (.cells #[.int .i64 nb, .int .i64 kd, .int .i64 x, .string t, .slice ia li.length ic] 35)) := (Below.refl _ _).alloc (Nat.le_refl _) _
         have hbx := heap_alloc_new wr (.cells #[.int .i64 nb, .int .i64 kd, .int .i64 x, .string t, .slice ia li.length ic] 35)
         have hVs : (wr.alloc (.cells #[.int .i64 nb, .int .i64 kd, .int .i64 x, .string t, .slice ia li.length ic] 35)).heap.size = wr.heap.size + 1 := World.size_alloc _ _
         generalize wr.alloc (.cells #[.int .i64 nb, .int .i64 kd, .int .i64 x, .string t, .slice ia li.length ic] 35) = V at *
         obtain ⟨x0, x1, x2, x3, x4, _⟩ := cells5_of' hbx
         have HBV : Hid (Below w0.heap.size w0 V) := (unhide HB).trans (hV.mono (unhide HB).size)
         refine (tag_any V nb kd).mono ?_
         rintro e w' ⟨rfl, he⟩
         obtain rfl : V = w' := he.symm
         rw [if_neg hA, if_pos hK]
         clear x0 x1 x2 x3 x4 hbx d0 d1 d2 d3 d4
         go_wp2
         go_ret
         exact ⟨by rw [hfin]; rfl, unhide HBV⟩
       have hkk : kd = 0 ∨ kd = 1 ∨ kd = 2 ∨ kd = 3 ∨ kd = 4 ∨ kd = 5 := by omega
       rcases hkk with rfl | rfl | rfl | rfl | rfl | rfl
       · have ht1 := (hT.cell 0).trans (show actCells[0]? = some (.func (.func 71) #[] #[]) from rfl)
         have hfk : fkR (.mk nb 0 x t li) = if rightK 0 x t li.length = true then fkL li else 1 := by rw [fkR, if_neg hA, if_neg hK, if_neg (by decide)]; rfl
         rw [hfk] at Hyes Hno
         clear hfk
         obtain ⟨R, hR⟩ : ∃ R, rightK 0 x t li.length = R := ⟨_, rfl⟩
         have HRr : Hid (∀ Y : World, Calls Tryd.prog 71 #[.agg #[.int .i64 nb, .int .i64 0, .int .i64 x, .string t, .slice ia li.length ic]] Y fun e W' => e = .returned (.bool R) ∧ Below Y.heap.size Y W') := fun Y => by rw [← hR]; exact rk0
         rw [hR] at Hyes Hno
         clear hR
         cases R with
         | false =>
           have hfin : D = 1 := unhide Hyes (by show (1 : Nat) ≠ 0; decide)
           go_wp2_with fail
           have hV : Below wr.heap.size wr (wr.alloc (.cells #[.int .i64 nb, .int .i64 0, .int .i64 x, .string t, .slice ia li.length ic] 35)) := (Below.refl _ _).alloc (Nat.le_refl _) _
           have hbx := heap_alloc_new wr (.cells #[.int .i64 nb, .int .i64 0, .int .i64 x, .string t, .slice ia li.length ic] 35)
           have hVs : (wr.alloc (.cells #[.int .i64 nb, .int .i64 0, .int .i64 x, .string t, .slice ia li.length ic] 35)).heap.size = wr.heap.size + 1 := World.size_alloc _ _
           generalize wr.alloc (.cells #[.int .i64 nb, .int .i64 0, .int .i64 x, .string t, .slice ia li.length ic] 35) = V at *
           obtain ⟨x0, x1, x2, x3, x4, _⟩ := cells5_of' hbx
           have HBV : Hid (Below w0.heap.size w0 V) := (unhide HB).trans (hV.mono (unhide HB).size)
           have xt := (hV.cell (p := ⟨w1.heap.size, 0, none⟩) htb).trans ht1
           clear d0 d1 d2 d3 d4
           refine (tag_any V nb 0).mono ?_
           rintro e w' ⟨rfl, he⟩
           obtain rfl : V = w' := he.symm
           rw [if_neg hA, if_neg (by decide)]
           go_wp2_with fail
           have HS : Hid (∀ w', Below V.heap.size V w' → (w'.cell? ⟨wr.heap.size, 0, none⟩ = some (.int .i64 nb) ∧ w'.cell? ⟨wr.heap.size, 1, none⟩ = some (.int .i64 0) ∧ w'.cell? ⟨wr.heap.size, 2, none⟩ = some (.int .i64 x) ∧ w'.cell? ⟨wr.heap.size, 3, none⟩ = some (.string t) ∧ w'.cell? ⟨wr.heap.size, 4, none⟩ = some (.slice ia li.length ic) ∧ w'.cell? ⟨w1.heap.size, 0, none⟩ = some (.func (.func 71) #[] #[])) ∧ Below V.heap.size V w') := fun w' h => ⟨⟨(h.cell (p := ⟨wr.heap.size, 0, none⟩) (by simp; omega)).trans x0, (h.cell (p := ⟨wr.heap.size, 1, none⟩) (by simp; omega)).trans x1, (h.cell (p := ⟨wr.heap.size, 2, none⟩) (by simp; omega)).trans x2, (h.cell (p := ⟨wr.heap.size, 3, none⟩) (by simp; omega)).trans x3, (h.cell (p := ⟨wr.heap.size, 4, none⟩) (by simp; omega)).trans x4, (h.cell (p := ⟨w1.heap.size, 0, none⟩) (by simp; omega)).trans xt⟩, h⟩
           go_region_held3 (fun w' => (w'.cell? ⟨wr.heap.size, 0, none⟩ = some (.int .i64 nb) ∧ w'.cell? ⟨wr.heap.size, 1, none⟩ = some (.int .i64 0) ∧ w'.cell? ⟨wr.heap.size, 2, none⟩ = some (.int .i64 x) ∧ w'.cell? ⟨wr.heap.size, 3, none⟩ = some (.string t) ∧ w'.cell? ⟨wr.heap.size, 4, none⟩ = some (.slice ia li.length ic) ∧ w'.cell? ⟨w1.heap.size, 0, none⟩ = some (.func (.func 71) #[] #[])) ∧ Below V.heap.size V w')
             ((refine unhide HS _ ?_; first | exact (Below.refl _ _).drew | exact hB2 | exact Below.refl _ _))
             (first
               | (go_at_call 71; refine (unhide HRr _).mono ?_; rintro o W2 ⟨rfl, hb2⟩; have hB2 : Below V.heap.size V W2 := ((Below.refl _ V).drew).trans hb2))
           go_wp2
           go_ret
           exact ⟨by rw [hfin]; rfl, (unhide HBV).trans (hB2.mono (unhide HBV).size)⟩
         | true =>
           have Hyes2 : Hid (fkL li ≠ 0 → D = fkL li) := unhide Hyes
           have Hno2 : Hid (fkL li = 0 → fkL (ts.take (i + 1)) = 0) := unhide Hno
           go_wp2_with fail
           have hV : Below wr.heap.size wr (wr.alloc (.cells #[.int .i64 nb, .int .i64 0, .int .i64 x, .string t, .slice ia li.length ic] 35)) := (Below.refl _ _).alloc (Nat.le_refl _) _
           have hbx := heap_alloc_new wr (.cells #[.int .i64 nb, .int .i64 0, .int .i64 x, .string t, .slice ia li.length ic] 35)
           have hVs : (wr.alloc (.cells #[.int .i64 nb, .int .i64 0, .int .i64 x, .string t, .slice ia li.length ic] 35)).heap.size = wr.heap.size + 1 := World.size_alloc _ _
           generalize wr.alloc (.cells #[.int .i64 nb, .int .i64 0, .int .i64 x, .string t, .slice ia li.length ic] 35) = V at *
           obtain ⟨x0, x1, x2, x3, x4, _⟩ := cells5_of' hbx
           have HBV : Hid (Below w0.heap.size w0 V) := (unhide HB).trans (hV.mono (unhide HB).size)
           have xt := (hV.cell (p := ⟨w1.heap.size, 0, none⟩) htb).trans ht1
           clear d0 d1 d2 d3 d4
           refine (tag_any V nb 0).mono ?_
           rintro e w' ⟨rfl, he⟩
           obtain rfl : V = w' := he.symm
           rw [if_neg hA, if_neg (by decide)]
           go_wp2_with fail
           have HS : Hid (∀ w', Below V.heap.size V w' → (w'.cell? ⟨wr.heap.size, 0, none⟩ = some (.int .i64 nb) ∧ w'.cell? ⟨wr.heap.size, 1, none⟩ = some (.int .i64 0) ∧ w'.cell? ⟨wr.heap.size, 2, none⟩ = some (.int .i64 x) ∧ w'.cell? ⟨wr.heap.size, 3, none⟩ = some (.string t) ∧ w'.cell? ⟨wr.heap.size, 4, none⟩ = some (.slice ia li.length ic) ∧ w'.cell? ⟨w1.heap.size, 0, none⟩ = some (.func (.func 71) #[] #[])) ∧ Below V.heap.size V w') := fun w' h => ⟨⟨(h.cell (p := ⟨wr.heap.size, 0, none⟩) (by simp; omega)).trans x0, (h.cell (p := ⟨wr.heap.size, 1, none⟩) (by simp; omega)).trans x1, (h.cell (p := ⟨wr.heap.size, 2, none⟩) (by simp; omega)).trans x2, (h.cell (p := ⟨wr.heap.size, 3, none⟩) (by simp; omega)).trans x3, (h.cell (p := ⟨wr.heap.size, 4, none⟩) (by simp; omega)).trans x4, (h.cell (p := ⟨w1.heap.size, 0, none⟩) (by simp; omega)).trans xt⟩, h⟩
           go_region_held3 (fun w' => (w'.cell? ⟨wr.heap.size, 0, none⟩ = some (.int .i64 nb) ∧ w'.cell? ⟨wr.heap.size, 1, none⟩ = some (.int .i64 0) ∧ w'.cell? ⟨wr.heap.size, 2, none⟩ = some (.int .i64 x) ∧ w'.cell? ⟨wr.heap.size, 3, none⟩ = some (.string t) ∧ w'.cell? ⟨wr.heap.size, 4, none⟩ = some (.slice ia li.length ic) ∧ w'.cell? ⟨w1.heap.size, 0, none⟩ = some (.func (.func 71) #[] #[])) ∧ Below V.heap.size V w')
             ((refine unhide HS _ ?_; first | exact (Below.refl _ _).drew | exact hB2 | exact Below.refl _ _))
             (first
               | (go_at_call 71; refine (unhide HRr _).mono ?_; rintro o W2 ⟨rfl, hb2⟩; have hB2 : Below V.heap.size V W2 := ((Below.refl _ V).drew).trans hb2))
           have y4 := (hB2.cell (p := ⟨wr.heap.size, 4, none⟩) (by simp; omega)).trans x4
           have HBW2 : Hid (Below W.heap.size W W2) := (unhide Hw0).trans (((unhide HBV).trans (hB2.mono (unhide HBV).size)).mono (unhide Hw0).size)
           go_wp2_with fail
           refine (unhide Hcall W2 (unhide HBW2)).mono ?_
           rintro e W3 ⟨rfl, hb3⟩
           have hB3 := hB2.trans (hb3.mono hB2.size)
           obtain ⟨lf, hlf⟩ : ∃ lf, fkL li = lf := ⟨_, rfl⟩
           rw [hlf] at Hyes2 Hno2 ⊢
           clear hlf x0 x1 x2 x3 x4 xt
           by_cases hz : lf = 0
           · subst hz
             have HF2 : Hid (fkL (ts.take (i + 1)) = 0) := unhide Hno2 rfl
             go_wp2
             go_roundg (n - (i + 1))
             case measure => have := unhide Hgk; omega
             case rel => exact ⟨i + 1, by go_num, rfl, by omega, HF2, hasT_up (unhide HT) hV hB3, (unhide HBV).trans (hB3.mono (unhide HBV).size)⟩
           · have q2 : ((lf : Int) != 0) = true := by simpa using hz
             have hfin : D = lf := unhide Hyes2 hz
             go_wp2
             go_ret
             exact ⟨by rw [hfin]; rfl, (unhide HBV).trans (hB3.mono (unhide HBV).size)⟩
       · have ht1 := (hT.cell 4).trans (show actCells[4]? = some (.func (.func 76) #[] #[]) from rfl)
         have hfk : fkR (.mk nb 1 x t li) = if rightK 1 x t li.length = true then fkL li else 1 := by rw [fkR, if_neg hA, if_neg hK, if_neg (by decide)]; rfl
         rw [hfk] at Hyes Hno
         clear hfk
         obtain ⟨R, hR⟩ : ∃ R, rightK 1 x t li.length = R := ⟨_, rfl⟩
         have HRr : Hid (∀ Y : World, Calls Tryd.prog 76 #[.agg #[.int .i64 nb, .int .i64 1, .int .i64 x, .string t, .slice ia li.length ic]] Y fun e W' => e = .returned (.bool R) ∧ Below Y.heap.size Y W') := fun Y => by rw [← hR]; exact rk1
         rw [hR] at Hyes Hno
         clear hR
         cases R with
         | false =>
           have hfin : D = 1 := unhide Hyes (by show (1 : Nat) ≠ 0; decide)
           go_wp2_with fail
           have hV : Below wr.heap.size wr (wr.alloc (.cells #[.int .i64 nb, .int .i64 1, .int .i64 x, .string t, .slice ia li.length ic] 35)) := (Below.refl _ _).alloc (Nat.le_refl _) _
           have hbx := heap_alloc_new wr (.cells #[.int .i64 nb, .int .i64 1, .int .i64 x, .string t, .slice ia li.length ic] 35)
           have hVs : (wr.alloc (.cells #[.int .i64 nb, .int .i64 1, .int .i64 x, .string t, .slice ia li.length ic] 35)).heap.size = wr.heap.size + 1 := World.size_alloc _ _
           generalize wr.alloc (.cells #[.int .i64 nb, .int .i64 1, .int .i64 x, .string t, .slice ia li.length ic] 35) = V at *
           obtain ⟨x0, x1, x2, x3, x4, _⟩ := cells5_of' hbx
           have HBV : Hid (Below w0.heap.size w0 V) := (unhide HB).trans (hV.mono (unhide HB).size)
           have xt := (hV.cell (p := ⟨w1.heap.size, 4, none⟩) htb).trans ht1
           clear d0 d1 d2 d3 d4
           refine (tag_any V nb 1).mono ?_
           rintro e w' ⟨rfl, he⟩
           obtain rfl : V = w' := he.symm
           rw [if_neg hA, if_neg (by decide)]
           go_wp2_with fail
           have HS : Hid (∀ w', Below V.heap.size V w' → (w'.cell? ⟨wr.heap.size, 0, none⟩ = some (.int .i64 nb) ∧ w'.cell? ⟨wr.heap.size, 1, none⟩ = some (.int .i64 1) ∧ w'.cell? ⟨wr.heap.size, 2, none⟩ = some (.int .i64 x) ∧ w'.cell? ⟨wr.heap.size, 3, none⟩ = some (.string t) ∧ w'.cell? ⟨wr.heap.size, 4, none⟩ = some (.slice ia li.length ic) ∧ w'.cell? ⟨w1.heap.size, 4, none⟩ = some (.func (.func 76) #[] #[])) ∧ Below V.heap.size V w') := fun w' h => ⟨⟨(h.cell (p := ⟨wr.heap.size, 0, none⟩) (by simp; omega)).trans x0, (h.cell (p := ⟨wr.heap.size, 1, none⟩) (by simp; omega)).trans x1, (h.cell (p := ⟨wr.heap.size, 2, none⟩) (by simp; omega)).trans x2, (h.cell (p := ⟨wr.heap.size, 3, none⟩) (by simp; omega)).trans x3, (h.cell (p := ⟨wr.heap.size, 4, none⟩) (by simp; omega)).trans x4, (h.cell (p := ⟨w1.heap.size, 4, none⟩) (by simp; omega)).trans xt⟩, h⟩
           go_region_held3 (fun w' => (w'.cell? ⟨wr.heap.size, 0, none⟩ = some (.int .i64 nb) ∧ w'.cell? ⟨wr.heap.size, 1, none⟩ = some (.int .i64 1) ∧ w'.cell? ⟨wr.heap.size, 2, none⟩ = some (.int .i64 x) ∧ w'.cell? ⟨wr.heap.size, 3, none⟩ = some (.string t) ∧ w'.cell? ⟨wr.heap.size, 4, none⟩ = some (.slice ia li.length ic) ∧ w'.cell? ⟨w1.heap.size, 4, none⟩ = some (.func (.func 76) #[] #[])) ∧ Below V.heap.size V w')
             ((refine unhide HS _ ?_; first | exact (Below.refl _ _).drew | exact hB2 | exact Below.refl _ _))
             (first
               | (go_at_call 76; refine (unhide HRr _).mono ?_; rintro o W2 ⟨rfl, hb2⟩; have hB2 : Below V.heap.size V W2 := ((Below.refl _ V).drew).trans hb2))
           go_wp2
           go_ret
           exact ⟨by rw [hfin]; rfl, (unhide HBV).trans (hB2.mono (unhide HBV).size)⟩
         | true =>
           have Hyes2 : Hid (fkL li ≠ 0 → D = fkL li) := unhide Hyes
           have Hno2 : Hid (fkL li = 0 → fkL (ts.take (i + 1)) = 0) := unhide Hno
           go_wp2_with fail
           have hV : Below wr.heap.size wr (wr.alloc (.cells #[.int .i64 nb, .int .i64 1, .int .i64 x, .string t, .slice ia li.length ic] 35)) := (Below.refl _ _).alloc (Nat.le_refl _) _
           have hbx := heap_alloc_new wr (.cells #[.int .i64 nb, .int .i64 1, .int .i64 x, .string t, .slice ia li.length ic] 35)
           have hVs : (wr.alloc (.cells #[.int .i64 nb, .int .i64 1, .int .i64 x, .string t, .slice ia li.length ic] 35)).heap.size = wr.heap.size + 1 := World.size_alloc _ _
           generalize wr.alloc (.cells #[.int .i64 nb, .int .i64 1, .int .i64 x, .string t, .slice ia li.length ic] 35) = V at *
           obtain ⟨x0, x1, x2, x3, x4, _⟩ := cells5_of' hbx
           have HBV : Hid (Below w0.heap.size w0 V) := (unhide HB).trans (hV.mono (unhide HB).size)
           have xt := (hV.cell (p := ⟨w1.heap.size, 4, none⟩) htb).trans ht1
           clear d0 d1 d2 d3 d4
           refine (tag_any V nb 1).mono ?_
           rintro e w' ⟨rfl, he⟩
           obtain rfl : V = w' := he.symm
           rw [if_neg hA, if_neg (by decide)]
           go_wp2_with fail
           have HS : Hid (∀ w', Below V.heap.size V w' → (w'.cell? ⟨wr.heap.size, 0, none⟩ = some (.int .i64 nb) ∧ w'.cell? ⟨wr.heap.size, 1, none⟩ = some (.int .i64 1) ∧ w'.cell? ⟨wr.heap.size, 2, none⟩ = some (.int .i64 x) ∧ w'.cell? ⟨wr.heap.size, 3, none⟩ = some (.string t) ∧ w'.cell? ⟨wr.heap.size, 4, none⟩ = some (.slice ia li.length ic) ∧ w'.cell? ⟨w1.heap.size, 4, none⟩ = some (.func (.func 76) #[] #[])) ∧ Below V.heap.size V w') := fun w' h => ⟨⟨(h.cell (p := ⟨wr.heap.size, 0, none⟩) (by simp; omega)).trans x0, (h.cell (p := ⟨wr.heap.size, 1, none⟩) (by simp; omega)).trans x1, (h.cell (p := ⟨wr.heap.size, 2, none⟩) (by simp; omega)).trans x2, (h.cell (p := ⟨wr.heap.size, 3, none⟩) (by simp; omega)).trans x3, (h.cell (p := ⟨wr.heap.size, 4, none⟩) (by simp; omega)).trans x4, (h.cell (p := ⟨w1.heap.size, 4, none⟩) (by simp; omega)).trans xt⟩, h⟩
           go_region_held3 (fun w' => (w'.cell? ⟨wr.heap.size, 0, none⟩ = some (.int .i64 nb) ∧ w'.cell? ⟨wr.heap.size, 1, none⟩ = some (.int .i64 1) ∧ w'.cell? ⟨wr.heap.size, 2, none⟩ = some (.int .i64 x) ∧ w'.cell? ⟨wr.heap.size, 3, none⟩ = some (.string t) ∧ w'.cell? ⟨wr.heap.size, 4, none⟩ = some (.slice ia li.length ic) ∧ w'.cell? ⟨w1.heap.size, 4, none⟩ = some (.func (.func 76) #[] #[])) ∧ Below V.heap.size V w')
             ((refine unhide HS _ ?_; first | exact (Below.refl _ _).drew | exact hB2 | exact Below.refl _ _))
             (first
               | (go_at_call 76; refine (unhide HRr _).mono ?_; rintro o W2 ⟨rfl, hb2⟩; have hB2 : Below V.heap.size V W2 := ((Below.refl _ V).drew).trans hb2))
           have y4 := (hB2.cell (p := ⟨wr.heap.size, 4, none⟩) (by simp; omega)).trans x4
           have HBW2 : Hid (Below W.heap.size W W2) := (unhide Hw0).trans (((unhide HBV).trans (hB2.mono (unhide HBV).size)).mono (unhide Hw0).size)
           go_wp2_with fail
           refine (unhide Hcall W2 (unhide HBW2)).mono ?_
           rintro e W3 ⟨rfl, hb3⟩
           have hB3 := hB2.trans (hb3.mono hB2.size)
           obtain ⟨lf, hlf⟩ : ∃ lf, fkL li = lf := ⟨_, rfl⟩
           rw [hlf] at Hyes2 Hno2 ⊢
           clear hlf x0 x1 x2 x3 x4 xt
           by_cases hz : lf = 0
           · subst hz
             have HF2 : Hid (fkL (ts.take (i + 1)) = 0) := unhide Hno2 rfl
             go_wp2
             go_roundg (n - (i + 1))
             case measure => have := unhide Hgk; omega
             case rel => exact ⟨i + 1, by go_num, rfl, by omega, HF2, hasT_up (unhide HT) hV hB3, (unhide HBV).trans (hB3.mono (unhide HBV).size)⟩
           · have q2 : ((lf : Int) != 0) = true := by simpa using hz
             have hfin : D = lf := unhide Hyes2 hz
             go_wp2
             go_ret
             exact ⟨by rw [hfin]; rfl, (unhide HBV).trans (hB3.mono (unhide HBV).size)⟩
       · have ht1 := (hT.cell 8).trans (show actCells[8]? = some (.func (.func 80) #[] #[]) from rfl)
         have hfk : fkR (.mk nb 2 x t li) = if rightK 2 x t li.length = true then fkL li else 1 := by rw [fkR, if_neg hA, if_neg hK, if_neg (by decide)]; rfl
         rw [hfk] at Hyes Hno
         clear hfk
         obtain ⟨R, hR⟩ : ∃ R, rightK 2 x t li.length = R := ⟨_, rfl⟩
         have HRr : Hid (∀ Y : World, Calls Tryd.prog 80 #[.agg #[.int .i64 nb, .int .i64 2, .int .i64 x, .string t, .slice ia li.length ic]] Y fun e W' => e = .returned (.bool R) ∧ Below Y.heap.size Y W') := fun Y => by rw [← hR]; exact rk2
         rw [hR] at Hyes Hno
         clear hR
         cases R with
         | false =>
           have hfin : D = 1 := unhide Hyes (by show (1 : Nat) ≠ 0; decide)
           go_wp2_with fail
           have hV : Below wr.heap.size wr (wr.alloc (.cells #[.int .i64 nb, .int .i64 2, .int .i64 x, .string t, .slice ia li.length ic] 35)) := (Below.refl _ _).alloc (Nat.le_refl _) _
           have hbx := heap_alloc_new wr (.cells #[.int .i64 nb, .int .i64 2, .int .i64 x, .string t, .slice ia li.length ic] 35)
           have hVs : (wr.alloc (.cells #[.int .i64 nb, .int .i64 2, .int .i64 x, .string t, .slice ia li.length ic] 35)).heap.size = wr.heap.size + 1 := World.size_alloc _ _
           generalize wr.alloc (.cells #[.int .i64 nb, .int .i64 2, .int .i64 x, .string t, .slice ia li.length ic] 35) = V at *
           obtain ⟨x0, x1, x2, x3, x4, _⟩ := cells5_of' hbx
           have HBV : Hid (Below w0.heap.size w0 V) := (unhide HB).trans (hV.mono (unhide HB).size)
           have xt := (hV.cell (p := ⟨w1.heap.size, 8, none⟩) htb).trans ht1
           clear d0 d1 d2 d3 d4
           refine (tag_any V nb 2).mono ?_
           rintro e w' ⟨rfl, he⟩
           obtain rfl : V = w' := he.symm
           rw [if_neg hA, if_neg (by decide)]
           go_wp2_with fail
           have HS : Hid (∀ w', Below V.heap.size V w' → (w'.cell? ⟨wr.heap.size, 0, none⟩ = some (.int .i64 nb) ∧ w'.cell? ⟨wr.heap.size, 1, none⟩ = some (.int .i64 2) ∧ w'.cell? ⟨wr.heap.size, 2, none⟩ = some (.int .i64 x) ∧ w'.cell? ⟨wr.heap.size, 3, none⟩ = some (.string t) ∧ w'.cell? ⟨wr.heap.size, 4, none⟩ = some (.slice ia li.length ic) ∧ w'.cell? ⟨w1.heap.size, 8, none⟩ = some (.func (.func 80) #[] #[])) ∧ Below V.heap.size V w') := fun w' h => ⟨⟨(h.cell (p := ⟨wr.heap.size, 0, none⟩) (by simp; omega)).trans x0, (h.cell (p := ⟨wr.heap.size, 1, none⟩) (by simp; omega)).trans x1, (h.cell (p := ⟨wr.heap.size, 2, none⟩) (by simp; omega)).trans x2, (h.cell (p := ⟨wr.heap.size, 3, none⟩) (by simp; omega)).trans x3, (h.cell (p := ⟨wr.heap.size, 4, none⟩) (by simp; omega)).trans x4, (h.cell (p := ⟨w1.heap.size, 8, none⟩) (by simp; omega)).trans xt⟩, h⟩
           go_region_held3 (fun w' => (w'.cell? ⟨wr.heap.size, 0, none⟩ = some (.int .i64 nb) ∧ w'.cell? ⟨wr.heap.size, 1, none⟩ = some (.int .i64 2) ∧ w'.cell? ⟨wr.heap.size, 2, none⟩ = some (.int .i64 x) ∧ w'.cell? ⟨wr.heap.size, 3, none⟩ = some (.string t) ∧ w'.cell? ⟨wr.heap.size, 4, none⟩ = some (.slice ia li.length ic) ∧ w'.cell? ⟨w1.heap.size, 8, none⟩ = some (.func (.func 80) #[] #[])) ∧ Below V.heap.size V w')
             ((refine unhide HS _ ?_; first | exact (Below.refl _ _).drew | exact hB2 | exact Below.refl _ _))
             (first
               | (go_at_call 80; refine (unhide HRr _).mono ?_; rintro o W2 ⟨rfl, hb2⟩; have hB2 : Below V.heap.size V W2 := ((Below.refl _ V).drew).trans hb2))
           go_wp2
           go_ret
           exact ⟨by rw [hfin]; rfl, (unhide HBV).trans (hB2.mono (unhide HBV).size)⟩
         | true =>
           have Hyes2 : Hid (fkL li ≠ 0 → D = fkL li) := unhide Hyes
           have Hno2 : Hid (fkL li = 0 → fkL (ts.take (i + 1)) = 0) := unhide Hno
           go_wp2_with fail
           have hV : Below wr.heap.size wr (wr.alloc (.cells #[.int .i64 nb, .int .i64 2, .int .i64 x, .string t, .slice ia li.length ic] 35)) := (Below.refl _ _).alloc (Nat.le_refl _) _
           have hbx := heap_alloc_new wr (.cells #[.int .i64 nb, .int .i64 2, .int .i64 x, .string t, .slice ia li.length ic] 35)
           have hVs : (wr.alloc (.cells #[.int .i64 nb, .int .i64 2, .int .i64 x, .string t, .slice ia li.length ic] 35)).heap.size = wr.heap.size + 1 := World.size_alloc _ _
           generalize wr.alloc (.cells #[.int .i64 nb, .int .i64 2, .int .i64 x, .string t, .slice ia li.length ic] 35) = V at *
           obtain ⟨x0, x1, x2, x3, x4, _⟩ := cells5_of' hbx
           have HBV : Hid (Below w0.heap.size w0 V) := (unhide HB).trans (hV.mono (unhide HB).size)
           have xt := (hV.cell (p := ⟨w1.heap.size, 8, none⟩) htb).trans ht1
           clear d0 d1 d2 d3 d4
           refine (tag_any V nb 2).mono ?_
           rintro e w' ⟨rfl, he⟩
           obtain rfl : V = w' := he.symm
           rw [if_neg hA, if_neg (by decide)]
           go_wp2_with fail
           have HS : Hid (∀ w', Below V.heap.size V w' → (w'.cell? ⟨wr.heap.size, 0, none⟩ = some (.int .i64 nb) ∧ w'.cell? ⟨wr.heap.size, 1, none⟩ = some (.int .i64 2) ∧ w'.cell? ⟨wr.heap.size, 2, none⟩ = some (.int .i64 x) ∧ w'.cell? ⟨wr.heap.size, 3, none⟩ = some (.string t) ∧ w'.cell? ⟨wr.heap.size, 4, none⟩ = some (.slice ia li.length ic) ∧ w'.cell? ⟨w1.heap.size, 8, none⟩ = some (.func (.func 80) #[] #[])) ∧ Below V.heap.size V w') := fun w' h => ⟨⟨(h.cell (p := ⟨wr.heap.size, 0, none⟩) (by simp; omega)).trans x0, (h.cell (p := ⟨wr.heap.size, 1, none⟩) (by simp; omega)).trans x1, (h.cell (p := ⟨wr.heap.size, 2, none⟩) (by simp; omega)).trans x2, (h.cell (p := ⟨wr.heap.size, 3, none⟩) (by simp; omega)).trans x3, (h.cell (p := ⟨wr.heap.size, 4, none⟩) (by simp; omega)).trans x4, (h.cell (p := ⟨w1.heap.size, 8, none⟩) (by simp; omega)).trans xt⟩, h⟩
           go_region_held3 (fun w' => (w'.cell? ⟨wr.heap.size, 0, none⟩ = some (.int .i64 nb) ∧ w'.cell? ⟨wr.heap.size, 1, none⟩ = some (.int .i64 2) ∧ w'.cell? ⟨wr.heap.size, 2, none⟩ = some (.int .i64 x) ∧ w'.cell? ⟨wr.heap.size, 3, none⟩ = some (.string t) ∧ w'.cell? ⟨wr.heap.size, 4, none⟩ = some (.slice ia li.length ic) ∧ w'.cell? ⟨w1.heap.size, 8, none⟩ = some (.func (.func 80) #[] #[])) ∧ Below V.heap.size V w')
             ((refine unhide HS _ ?_; first | exact (Below.refl _ _).drew | exact hB2 | exact Below.refl _ _))
             (first
               | (go_at_call 80; refine (unhide HRr _).mono ?_; rintro o W2 ⟨rfl, hb2⟩; have hB2 : Below V.heap.size V W2 := ((Below.refl _ V).drew).trans hb2))
           have y4 := (hB2.cell (p := ⟨wr.heap.size, 4, none⟩) (by simp; omega)).trans x4
           have HBW2 : Hid (Below W.heap.size W W2) := (unhide Hw0).trans (((unhide HBV).trans (hB2.mono (unhide HBV).size)).mono (unhide Hw0).size)
           go_wp2_with fail
           refine (unhide Hcall W2 (unhide HBW2)).mono ?_
           rintro e W3 ⟨rfl, hb3⟩
           have hB3 := hB2.trans (hb3.mono hB2.size)
           obtain ⟨lf, hlf⟩ : ∃ lf, fkL li = lf := ⟨_, rfl⟩
           rw [hlf] at Hyes2 Hno2 ⊢
           clear hlf x0 x1 x2 x3 x4 xt
           by_cases hz : lf = 0
           · subst hz
             have HF2 : Hid (fkL (ts.take (i + 1)) = 0) := unhide Hno2 rfl
             go_wp2
             go_roundg (n - (i + 1))
             case measure => have := unhide Hgk; omega
             case rel => exact ⟨i + 1, by go_num, rfl, by omega, HF2, hasT_up (unhide HT) hV hB3, (unhide HBV).trans (hB3.mono (unhide HBV).size)⟩
           · have q2 : ((lf : Int) != 0) = true := by simpa using hz
             have hfin : D = lf := unhide Hyes2 hz
             go_wp2
             go_ret
             exact ⟨by rw [hfin]; rfl, (unhide HBV).trans (hB3.mono (unhide HBV).size)⟩
       · have ht1 := (hT.cell 12).trans (show actCells[12]? = some (.func (.func 84) #[] #[]) from rfl)
         have hfk : fkR (.mk nb 3 x t li) = if rightK 3 x t li.length = true then fkL li else 1 := by rw [fkR, if_neg hA, if_neg hK, if_neg (by decide)]; rfl
         rw [hfk] at Hyes Hno
         clear hfk
         obtain ⟨R, hR⟩ : ∃ R, rightK 3 x t li.length = R := ⟨_, rfl⟩
         have HRr : Hid (∀ Y : World, Calls Tryd.prog 84 #[.agg #[.int .i64 nb, .int .i64 3, .int .i64 x, .string t, .slice ia li.length ic]] Y fun e W' => e = .returned (.bool R) ∧ Below Y.heap.size Y W') := fun Y => by rw [← hR]; exact rk3
         rw [hR] at Hyes Hno
         clear hR
         cases R with
         | false =>
           have hfin : D = 1 := unhide Hyes (by show (1 : Nat) ≠ 0; decide)
           go_wp2_with fail
           have hV : Below wr.heap.size wr (wr.alloc (.cells #[.int .i64 nb, .int .i64 3, .int .i64 x, .string t, .slice ia li.length ic] 35)) := (Below.refl _ _).alloc (Nat.le_refl _) _
           have hbx := heap_alloc_new wr (.cells #[.int .i64 nb, .int .i64 3, .int .i64 x, .string t, .slice ia li.length ic] 35)
           have hVs : (wr.alloc (.cells #[.int .i64 nb, .int .i64 3, .int .i64 x, .string t, .slice ia li.length ic] 35)).heap.size = wr.heap.size + 1 := World.size_alloc _ _
           generalize wr.alloc (.cells #[.int .i64 nb, .int .i64 3, .int .i64 x, .string t, .slice ia li.length ic] 35) = V at *
           obtain ⟨x0, x1, x2, x3, x4, _⟩ := cells5_of' hbx
           have HBV : Hid (Below w0.heap.size w0 V) := (unhide HB).trans (hV.mono (unhide HB).size)
           have xt := (hV.cell (p := ⟨w1.heap.size, 12, none⟩) htb).trans ht1
           clear d0 d1 d2 d3 d4
           refine (tag_any V nb 3).mono ?_
           rintro e w' ⟨rfl, he⟩
           obtain rfl : V = w' := he.symm
           rw [if_neg hA, if_neg (by decide)]
           go_wp2_with fail
           have HS : Hid (∀ w', Below V.heap.size V w' → (w'.cell? ⟨wr.heap.size, 0, none⟩ = some (.int .i64 nb) ∧ w'.cell? ⟨wr.heap.size, 1, none⟩ = some (.int .i64 3) ∧ w'.cell? ⟨wr.heap.size, 2, none⟩ = some (.int .i64 x) ∧ w'.cell? ⟨wr.heap.size, 3, none⟩ = some (.string t) ∧ w'.cell? ⟨wr.heap.size, 4, none⟩ = some (.slice ia li.length ic) ∧ w'.cell? ⟨w1.heap.size, 12, none⟩ = some (.func (.func 84) #[] #[])) ∧ Below V.heap.size V w') := fun w' h => ⟨⟨(h.cell (p := ⟨wr.heap.size, 0, none⟩) (by simp; omega)).trans x0, (h.cell (p := ⟨wr.heap.size, 1, none⟩) (by simp; omega)).trans x1, (h.cell (p := ⟨wr.heap.size, 2, none⟩) (by simp; omega)).trans x2, (h.cell (p := ⟨wr.heap.size, 3, none⟩) (by simp; omega)).trans x3, (h.cell (p := ⟨wr.heap.size, 4, none⟩) (by simp; omega)).trans x4, (h.cell (p := ⟨w1.heap.size, 12, none⟩) (by simp; omega)).trans xt⟩, h⟩
           go_region_held3 (fun w' => (w'.cell? ⟨wr.heap.size, 0, none⟩ = some (.int .i64 nb) ∧ w'.cell? ⟨wr.heap.size, 1, none⟩ = some (.int .i64 3) ∧ w'.cell? ⟨wr.heap.size, 2, none⟩ = some (.int .i64 x) ∧ w'.cell? ⟨wr.heap.size, 3, none⟩ = some (.string t) ∧ w'.cell? ⟨wr.heap.size, 4, none⟩ = some (.slice ia li.length ic) ∧ w'.cell? ⟨w1.heap.size, 12, none⟩ = some (.func (.func 84) #[] #[])) ∧ Below V.heap.size V w')
             ((refine unhide HS _ ?_; first | exact (Below.refl _ _).drew | exact hB2 | exact Below.refl _ _))
             (first
               | (go_at_call 84; refine (unhide HRr _).mono ?_; rintro o W2 ⟨rfl, hb2⟩; have hB2 : Below V.heap.size V W2 := ((Below.refl _ V).drew).trans hb2))
           go_wp2
           go_ret
           exact ⟨by rw [hfin]; rfl, (unhide HBV).trans (hB2.mono (unhide HBV).size)⟩
         | true =>
           have Hyes2 : Hid (fkL li ≠ 0 → D = fkL li) := unhide Hyes
           have Hno2 : Hid (fkL li = 0 → fkL (ts.take (i + 1)) = 0) := unhide Hno
           go_wp2_with fail
           have hV : Below wr.heap.size wr (wr.alloc (.cells #[.int .i64 nb, .int .i64 3, .int .i64 x, .string t, .slice ia li.length ic] 35)) := (Below.refl _ _).alloc (Nat.le_refl _) _
           have hbx := heap_alloc_new wr (.cells #[.int .i64 nb, .int .i64 3, .int .i64 x, .string t, .slice ia li.length ic] 35)
           have hVs : (wr.alloc (.cells #[.int .i64 nb, .int .i64 3, .int .i64 x, .string t, .slice ia li.length ic] 35)).heap.size = wr.heap.size + 1 := World.size_alloc _ _
           generalize wr.alloc (.cells #[.int .i64 nb, .int .i64 3, .int .i64 x, .string t, .slice ia li.length ic] 35) = V at *
           obtain ⟨x0, x1, x2, x3, x4, _⟩ := cells5_of' hbx
           have HBV : Hid (Below w0.heap.size w0 V) := (unhide HB).trans (hV.mono (unhide HB).size)
           have xt := (hV.cell (p := ⟨w1.heap.size, 12, none⟩) htb).trans ht1
           clear d0 d1 d2 d3 d4
           refine (tag_any V nb 3).mono ?_
           rintro e w' ⟨rfl, he⟩
           obtain rfl : V = w' := he.symm
           rw [if_neg hA, if_neg (by decide)]
           go_wp2_with fail
           have HS : Hid (∀ w', Below V.heap.size V w' → (w'.cell? ⟨wr.heap.size, 0, none⟩ = some (.int .i64 nb) ∧ w'.cell? ⟨wr.heap.size, 1, none⟩ = some (.int .i64 3) ∧ w'.cell? ⟨wr.heap.size, 2, none⟩ = some (.int .i64 x) ∧ w'.cell? ⟨wr.heap.size, 3, none⟩ = some (.string t) ∧ w'.cell? ⟨wr.heap.size, 4, none⟩ = some (.slice ia li.length ic) ∧ w'.cell? ⟨w1.heap.size, 12, none⟩ = some (.func (.func 84) #[] #[])) ∧ Below V.heap.size V w') := fun w' h => ⟨⟨(h.cell (p := ⟨wr.heap.size, 0, none⟩) (by simp; omega)).trans x0, (h.cell (p := ⟨wr.heap.size, 1, none⟩) (by simp; omega)).trans x1, (h.cell (p := ⟨wr.heap.size, 2, none⟩) (by simp; omega)).trans x2, (h.cell (p := ⟨wr.heap.size, 3, none⟩) (by simp; omega)).trans x3, (h.cell (p := ⟨wr.heap.size, 4, none⟩) (by simp; omega)).trans x4, (h.cell (p := ⟨w1.heap.size, 12, none⟩) (by simp; omega)).trans xt⟩, h⟩
           go_region_held3 (fun w' => (w'.cell? ⟨wr.heap.size, 0, none⟩ = some (.int .i64 nb) ∧ w'.cell? ⟨wr.heap.size, 1, none⟩ = some (.int .i64 3) ∧ w'.cell? ⟨wr.heap.size, 2, none⟩ = some (.int .i64 x) ∧ w'.cell? ⟨wr.heap.size, 3, none⟩ = some (.string t) ∧ w'.cell? ⟨wr.heap.size, 4, none⟩ = some (.slice ia li.length ic) ∧ w'.cell? ⟨w1.heap.size, 12, none⟩ = some (.func (.func 84) #[] #[])) ∧ Below V.heap.size V w')
             ((refine unhide HS _ ?_; first | exact (Below.refl _ _).drew | exact hB2 | exact Below.refl _ _))
             (first
               | (go_at_call 84; refine (unhide HRr _).mono ?_; rintro o W2 ⟨rfl, hb2⟩; have hB2 : Below V.heap.size V W2 := ((Below.refl _ V).drew).trans hb2))
           have y4 := (hB2.cell (p := ⟨wr.heap.size, 4, none⟩) (by simp; omega)).trans x4
           have HBW2 : Hid (Below W.heap.size W W2) := (unhide Hw0).trans (((unhide HBV).trans (hB2.mono (unhide HBV).size)).mono (unhide Hw0).size)
           go_wp2_with fail
           refine (unhide Hcall W2 (unhide HBW2)).mono ?_
           rintro e W3 ⟨rfl, hb3⟩
           have hB3 := hB2.trans (hb3.mono hB2.size)
           obtain ⟨lf, hlf⟩ : ∃ lf, fkL li = lf := ⟨_, rfl⟩
           rw [hlf] at Hyes2 Hno2 ⊢
           clear hlf x0 x1 x2 x3 x4 xt
           by_cases hz : lf = 0
           · subst hz
             have HF2 : Hid (fkL (ts.take (i + 1)) = 0) := unhide Hno2 rfl
             go_wp2
             go_roundg (n - (i + 1))
             case measure => have := unhide Hgk; omega
             case rel => exact ⟨i + 1, by go_num, rfl, by omega, HF2, hasT_up (unhide HT) hV hB3, (unhide HBV).trans (hB3.mono (unhide HBV).size)⟩
           · have q2 : ((lf : Int) != 0) = true := by simpa using hz
             have hfin : D = lf := unhide Hyes2 hz
             go_wp2
             go_ret
             exact ⟨by rw [hfin]; rfl, (unhide HBV).trans (hB3.mono (unhide HBV).size)⟩
       · have hfin : D = 23 := (unhide Hyes) (by rw [fkR, if_neg hA, if_neg hK, if_pos rfl]; decide) |>.trans (by rw [fkR, if_neg hA, if_neg hK, if_pos rfl])
         go_wp2_with fail
         have hV : Below wr.heap.size wr (wr.alloc (.cells #[.int .i64 nb, .int .i64 4, .int .i64 x, .string t, .slice ia li.length ic] 35)) := (Below.refl _ _).alloc (Nat.le_refl _) _
         have hbx := heap_alloc_new wr (.cells #[.int .i64 nb, .int .i64 4, .int .i64 x, .string t, .slice ia li.length ic] 35)
         have hVs : (wr.alloc (.cells #[.int .i64 nb, .int .i64 4, .int .i64 x, .string t, .slice ia li.length ic] 35)).heap.size = wr.heap.size + 1 := World.size_alloc _ _
         generalize wr.alloc (.cells #[.int .i64 nb, .int .i64 4, .int .i64 x, .string t, .slice ia li.length ic] 35) = V at *
         obtain ⟨x0, x1, x2, x3, x4, _⟩ := cells5_of' hbx
         have HBV : Hid (Below w0.heap.size w0 V) := (unhide HB).trans (hV.mono (unhide HB).size)
         refine (tag_any V nb 4).mono ?_
         rintro e w' ⟨rfl, he⟩
         obtain rfl : V = w' := he.symm
         rw [if_neg hA, if_neg (by decide)]
         clear hbx d0 d1 d2 d3 d4
         go_wp2
         go_ret
         exact ⟨by rw [hfin]; rfl, unhide HBV⟩
       · have ht1 := (hT.cell 20).trans (show actCells[20]? = some (.func (.func 89) #[] #[]) from rfl)
         have hfk : fkR (.mk nb 5 x t li) = if rightK 5 x t li.length = true then fkL li else 1 := by rw [fkR, if_neg hA, if_neg hK, if_neg (by decide)]; rfl
         rw [hfk] at Hyes Hno
         clear hfk
         obtain ⟨R, hR⟩ : ∃ R, rightK 5 x t li.length = R := ⟨_, rfl⟩
         have HRr : Hid (∀ Y : World, Calls Tryd.prog 89 #[.agg #[.int .i64 nb, .int .i64 5, .int .i64 x, .string t, .slice ia li.length ic]] Y fun e W' => e = .returned (.bool R) ∧ Below Y.heap.size Y W') := fun Y => by rw [← hR]; exact rk5
         rw [hR] at Hyes Hno
         clear hR
         cases R with
         | false =>
           have hfin : D = 1 := unhide Hyes (by show (1 : Nat) ≠ 0; decide)
           go_wp2_with fail
           have hV : Below wr.heap.size wr (wr.alloc (.cells #[.int .i64 nb, .int .i64 5, .int .i64 x, .string t, .slice ia li.length ic] 35)) := (Below.refl _ _).alloc (Nat.le_refl _) _
           have hbx := heap_alloc_new wr (.cells #[.int .i64 nb, .int .i64 5, .int .i64 x, .string t, .slice ia li.length ic] 35)
           have hVs : (wr.alloc (.cells #[.int .i64 nb, .int .i64 5, .int .i64 x, .string t, .slice ia li.length ic] 35)).heap.size = wr.heap.size + 1 := World.size_alloc _ _
           generalize wr.alloc (.cells #[.int .i64 nb, .int .i64 5, .int .i64 x, .string t, .slice ia li.length ic] 35) = V at *
           obtain ⟨x0, x1, x2, x3, x4, _⟩ := cells5_of' hbx
           have HBV : Hid (Below w0.heap.size w0 V) := (unhide HB).trans (hV.mono (unhide HB).size)
           have xt := (hV.cell (p := ⟨w1.heap.size, 20, none⟩) htb).trans ht1
           clear d0 d1 d2 d3 d4
           refine (tag_any V nb 5).mono ?_
           rintro e w' ⟨rfl, he⟩
           obtain rfl : V = w' := he.symm
           rw [if_neg hA, if_neg (by decide)]
           go_wp2_with fail
           have HS : Hid (∀ w', Below V.heap.size V w' → (w'.cell? ⟨wr.heap.size, 0, none⟩ = some (.int .i64 nb) ∧ w'.cell? ⟨wr.heap.size, 1, none⟩ = some (.int .i64 5) ∧ w'.cell? ⟨wr.heap.size, 2, none⟩ = some (.int .i64 x) ∧ w'.cell? ⟨wr.heap.size, 3, none⟩ = some (.string t) ∧ w'.cell? ⟨wr.heap.size, 4, none⟩ = some (.slice ia li.length ic) ∧ w'.cell? ⟨w1.heap.size, 20, none⟩ = some (.func (.func 89) #[] #[])) ∧ Below V.heap.size V w') := fun w' h => ⟨⟨(h.cell (p := ⟨wr.heap.size, 0, none⟩) (by simp; omega)).trans x0, (h.cell (p := ⟨wr.heap.size, 1, none⟩) (by simp; omega)).trans x1, (h.cell (p := ⟨wr.heap.size, 2, none⟩) (by simp; omega)).trans x2, (h.cell (p := ⟨wr.heap.size, 3, none⟩) (by simp; omega)).trans x3, (h.cell (p := ⟨wr.heap.size, 4, none⟩) (by simp; omega)).trans x4, (h.cell (p := ⟨w1.heap.size, 20, none⟩) (by simp; omega)).trans xt⟩, h⟩
           go_region_held3 (fun w' => (w'.cell? ⟨wr.heap.size, 0, none⟩ = some (.int .i64 nb) ∧ w'.cell? ⟨wr.heap.size, 1, none⟩ = some (.int .i64 5) ∧ w'.cell? ⟨wr.heap.size, 2, none⟩ = some (.int .i64 x) ∧ w'.cell? ⟨wr.heap.size, 3, none⟩ = some (.string t) ∧ w'.cell? ⟨wr.heap.size, 4, none⟩ = some (.slice ia li.length ic) ∧ w'.cell? ⟨w1.heap.size, 20, none⟩ = some (.func (.func 89) #[] #[])) ∧ Below V.heap.size V w')
             ((refine unhide HS _ ?_; first | exact (Below.refl _ _).drew | exact hB2 | exact Below.refl _ _))
             (first
               | (go_at_call 89; refine (unhide HRr _).mono ?_; rintro o W2 ⟨rfl, hb2⟩; have hB2 : Below V.heap.size V W2 := ((Below.refl _ V).drew).trans hb2))
           go_wp2
           go_ret
           exact ⟨by rw [hfin]; rfl, (unhide HBV).trans (hB2.mono (unhide HBV).size)⟩
         | true =>
           have Hyes2 : Hid (fkL li ≠ 0 → D = fkL li) := unhide Hyes
           have Hno2 : Hid (fkL li = 0 → fkL (ts.take (i + 1)) = 0) := unhide Hno
           go_wp2_with fail
           have hV : Below wr.heap.size wr (wr.alloc (.cells #[.int .i64 nb, .int .i64 5, .int .i64 x, .string t, .slice ia li.length ic] 35)) := (Below.refl _ _).alloc (Nat.le_refl _) _
           have hbx := heap_alloc_new wr (.cells #[.int .i64 nb, .int .i64 5, .int .i64 x, .string t, .slice ia li.length ic] 35)
           have hVs : (wr.alloc (.cells #[.int .i64 nb, .int .i64 5, .int .i64 x, .string t, .slice ia li.length ic] 35)).heap.size = wr.heap.size + 1 := World.size_alloc _ _
           generalize wr.alloc (.cells #[.int .i64 nb, .int .i64 5, .int .i64 x, .string t, .slice ia li.length ic] 35) = V at *
           obtain ⟨x0, x1, x2, x3, x4, _⟩ := cells5_of' hbx
           have HBV : Hid (Below w0.heap.size w0 V) := (unhide HB).trans (hV.mono (unhide HB).size)
           have xt := (hV.cell (p := ⟨w1.heap.size, 20, none⟩) htb).trans ht1
           clear d0 d1 d2 d3 d4
           refine (tag_any V nb 5).mono ?_
           rintro e w' ⟨rfl, he⟩
           obtain rfl : V = w' := he.symm
           rw [if_neg hA, if_neg (by decide)]
           go_wp2_with fail
           have HS : Hid (∀ w', Below V.heap.size V w' → (w'.cell? ⟨wr.heap.size, 0, none⟩ = some (.int .i64 nb) ∧ w'.cell? ⟨wr.heap.size, 1, none⟩ = some (.int .i64 5) ∧ w'.cell? ⟨wr.heap.size, 2, none⟩ = some (.int .i64 x) ∧ w'.cell? ⟨wr.heap.size, 3, none⟩ = some (.string t) ∧ w'.cell? ⟨wr.heap.size, 4, none⟩ = some (.slice ia li.length ic) ∧ w'.cell? ⟨w1.heap.size, 20, none⟩ = some (.func (.func 89) #[] #[])) ∧ Below V.heap.size V w') := fun w' h => ⟨⟨(h.cell (p := ⟨wr.heap.size, 0, none⟩) (by simp; omega)).trans x0, (h.cell (p := ⟨wr.heap.size, 1, none⟩) (by simp; omega)).trans x1, (h.cell (p := ⟨wr.heap.size, 2, none⟩) (by simp; omega)).trans x2, (h.cell (p := ⟨wr.heap.size, 3, none⟩) (by simp; omega)).trans x3, (h.cell (p := ⟨wr.heap.size, 4, none⟩) (by simp; omega)).trans x4, (h.cell (p := ⟨w1.heap.size, 20, none⟩) (by simp; omega)).trans xt⟩, h⟩
           go_region_held3 (fun w' => (w'.cell? ⟨wr.heap.size, 0, none⟩ = some (.int .i64 nb) ∧ w'.cell? ⟨wr.heap.size, 1, none⟩ = some (.int .i64 5) ∧ w'.cell? ⟨wr.heap.size, 2, none⟩ = some (.int .i64 x) ∧ w'.cell? ⟨wr.heap.size, 3, none⟩ = some (.string t) ∧ w'.cell? ⟨wr.heap.size, 4, none⟩ = some (.slice ia li.length ic) ∧ w'.cell? ⟨w1.heap.size, 20, none⟩ = some (.func (.func 89) #[] #[])) ∧ Below V.heap.size V w')
             ((refine unhide HS _ ?_; first | exact (Below.refl _ _).drew | exact hB2 | exact Below.refl _ _))
             (first
               | (go_at_call 89; refine (unhide HRr _).mono ?_; rintro o W2 ⟨rfl, hb2⟩; have hB2 : Below V.heap.size V W2 := ((Below.refl _ V).drew).trans hb2))
           have y4 := (hB2.cell (p := ⟨wr.heap.size, 4, none⟩) (by simp; omega)).trans x4
           have HBW2 : Hid (Below W.heap.size W W2) := (unhide Hw0).trans (((unhide HBV).trans (hB2.mono (unhide HBV).size)).mono (unhide Hw0).size)
           go_wp2_with fail
           refine (unhide Hcall W2 (unhide HBW2)).mono ?_
           rintro e W3 ⟨rfl, hb3⟩
           have hB3 := hB2.trans (hb3.mono hB2.size)
           obtain ⟨lf, hlf⟩ : ∃ lf, fkL li = lf := ⟨_, rfl⟩
           rw [hlf] at Hyes2 Hno2 ⊢
           clear hlf x0 x1 x2 x3 x4 xt
           by_cases hz : lf = 0
           · subst hz
             have HF2 : Hid (fkL (ts.take (i + 1)) = 0) := unhide Hno2 rfl
             go_wp2
             go_roundg (n - (i + 1))
             case measure => have := unhide Hgk; omega
             case rel => exact ⟨i + 1, by go_num, rfl, by omega, HF2, hasT_up (unhide HT) hV hB3, (unhide HBV).trans (hB3.mono (unhide HBV).size)⟩
           · have q2 : ((lf : Int) != 0) = true := by simpa using hz
             have hfin : D = lf := unhide Hyes2 hz
             go_wp2
             go_ret
             exact ⟨by rw [hfin]; rfl, (unhide HBV).trans (hB3.mono (unhide HBV).size)⟩
     · obtain rfl : i = n := by omega
       have hF := unhide HF
       rw [List.take_of_length_le (by rw [unhide Hn]; exact Nat.le_refl _), unhide HD] at hF
       subst hF
       go_wp2
       go_ret
       exact ⟨rfl, unhide HB⟩
#print axioms firstFault_rk
end Go.Proofs.YtobomdokdajbaaaDoor
