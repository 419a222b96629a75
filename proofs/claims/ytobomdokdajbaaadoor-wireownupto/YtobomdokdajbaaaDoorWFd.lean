import Derived.Test.YtobomdokdajbaaaDoorJ29
import Derived.Deep.RegionHeld3

namespace Go.Proofs.YtobomdokdajbaaaDoor
open Go.RowKit
attribute [local go_sem ↓] Go.wp_at_zero Go.wp_at_succ

/-- A right record, what lies in it aside. -/
structure RgT (nb kd : Nat) (x : Int) (t : ByteArray) (li : List Rt) : Prop where
  num : 1 ≤ nb ∧ nb ≤ 536870911
  kind : kd ≤ 5 ∧ kd ≠ 4
  text : kd ≠ 2 → t = ⟨#[]⟩
  inner : kd ≠ 3 → li = []
  zero : kd = 2 ∨ kd = 3 → x = 0
  word : kd = 5 → 0 ≤ x ∧ x ≤ 4294967295
set_option maxRecDepth 100000 in
set_option maxHeartbeats 2000000 in
theorem right0 {W : World} {nb : Nat} {x : Int} {ia : Option Addr} {ic : Nat} :
    Calls Tryd.prog 71 #[.agg #[.int .i64 (nb : Int), .int .i64 0, .int .i64 x, .string ⟨#[]⟩, .slice ia 0 ic]] W fun e W' => e = .returned (.bool true) ∧ Below W.heap.size W W' := by
  have HB : Hid (Below W.heap.size W (W.alloc (.cells #[.int .i64 (nb : Int), .int .i64 0, .int .i64 x, .string ⟨#[]⟩, .slice ia 0 ic] 35))) := (Below.refl _ _).alloc (Nat.le_refl _) _
  go_enter Tryd.func71, Tryd.ntmps71
  go_wp2
  go_ret
  exact ⟨by first | rfl | simp, unhide HB⟩
set_option maxRecDepth 100000 in
set_option maxHeartbeats 2000000 in
theorem right1 {W : World} {nb : Nat} {x : Int} {ia : Option Addr} {ic : Nat} :
    Calls Tryd.prog 76 #[.agg #[.int .i64 (nb : Int), .int .i64 1, .int .i64 x, .string ⟨#[]⟩, .slice ia 0 ic]] W fun e W' => e = .returned (.bool true) ∧ Below W.heap.size W W' := by
  have HB : Hid (Below W.heap.size W (W.alloc (.cells #[.int .i64 (nb : Int), .int .i64 1, .int .i64 x, .string ⟨#[]⟩, .slice ia 0 ic] 35))) := (Below.refl _ _).alloc (Nat.le_refl _) _
  go_enter Tryd.func76, Tryd.ntmps76
  go_wp2
  go_ret
  exact ⟨by first | rfl | simp, unhide HB⟩
set_option maxRecDepth 100000 in
set_option maxHeartbeats 2000000 in
theorem right2 {W : World} {nb : Nat} {t : ByteArray} {ia : Option Addr} {ic : Nat} :
    Calls Tryd.prog 80 #[.agg #[.int .i64 (nb : Int), .int .i64 2, .int .i64 0, .string t, .slice ia 0 ic]] W fun e W' => e = .returned (.bool true) ∧ Below W.heap.size W W' := by
  have HB : Hid (Below W.heap.size W (W.alloc (.cells #[.int .i64 (nb : Int), .int .i64 2, .int .i64 0, .string t, .slice ia 0 ic] 35))) := (Below.refl _ _).alloc (Nat.le_refl _) _
  go_enter Tryd.func80, Tryd.ntmps80
  go_wp2
  go_ret
  exact ⟨by first | rfl | simp, unhide HB⟩
set_option maxRecDepth 100000 in
set_option maxHeartbeats 2000000 in
theorem right3 {W : World} {nb : Nat} {ia : Option Addr} {il ic : Nat} :
    Calls Tryd.prog 84 #[.agg #[.int .i64 (nb : Int), .int .i64 3, .int .i64 0, .string ⟨#[]⟩, .slice ia il ic]] W fun e W' => e = .returned (.bool true) ∧ Below W.heap.size W W' := by
  have HB : Hid (Below W.heap.size W (W.alloc (.cells #[.int .i64 (nb : Int), .int .i64 3, .int .i64 0, .string ⟨#[]⟩, .slice ia il ic] 35))) := (Below.refl _ _).alloc (Nat.le_refl _) _
  go_enter Tryd.func84, Tryd.ntmps84
  go_wp2
  go_ret
  exact ⟨by first | rfl | simp, unhide HB⟩
set_option maxRecDepth 100000 in
set_option maxHeartbeats 2000000 in
theorem right5 {W : World} {nb : Nat} {x : Int} {ia : Option Addr} {ic : Nat} (hx : 0 ≤ x ∧ x ≤ 4294967295) :
    Calls Tryd.prog 89 #[.agg #[.int .i64 (nb : Int), .int .i64 5, .int .i64 x, .string ⟨#[]⟩, .slice ia 0 ic]] W fun e W' => e = .returned (.bool true) ∧ Below W.heap.size W W' := by
  have HB : Hid (Below W.heap.size W (W.alloc (.cells #[.int .i64 (nb : Int), .int .i64 5, .int .i64 x, .string ⟨#[]⟩, .slice ia 0 ic] 35))) := (Below.refl _ _).alloc (Nat.le_refl _) _
  have hw := word_any (W.alloc (.cells #[.int .i64 (nb : Int), .int .i64 5, .int .i64 x, .string ⟨#[]⟩, .slice ia 0 ic] 35)) x
  rw [decide_eq_true hx] at hw
  have Hw := hide hw
  clear hw hx
  go_enter Tryd.func89, Tryd.ntmps89
  go_wp2_with fail
  refine (unhide Hw).mono ?_
  rintro e w1 ⟨rfl, hw1⟩
  subst hw1
  go_wp2
  go_ret
  exact ⟨by first | rfl | simp, unhide HB⟩
inductive RgL : List Rt → Prop
  | mk (ts : List Rt) (h : ∀ (i nb kd : Nat) (x : Int) (t : ByteArray) (li : List Rt), ts[i]? = some (.mk nb kd x t li) → RgT nb kd x t li) (hi : ∀ (i : Nat) (t : Rt), ts[i]? = some t → RgL t.inner) : RgL ts
theorem RgL.at' {ts : List Rt} (h : RgL ts) {i nb kd : Nat} {x : Int} {t : ByteArray} {li : List Rt} (ht : ts[i]? = some (.mk nb kd x t li)) : RgT nb kd x t li ∧ RgL li := by
  cases h with
  | mk _ h hi => exact ⟨h i nb kd x t li ht, hi i _ ht⟩
set_option maxRecDepth 100000 in
set_option maxHeartbeats 8000000 in
theorem firstFault_rt {W : World} {P : Nat → Prop} {v : Value} {ts : List Rt} (h : HasRt W P v ts) : RgL ts → ∀ w0, Below W.heap.size W w0 → Calls Tryd.prog 38 #[v] w0 fun e W' => e = .returned (.int .i64 0) ∧ Below w0.heap.size w0 W' := by
  induction h with
  | nil a c => exact fun _ w0 _ => firstFault_nil w0 a c
  | row g n c ts us hp hn hm hg hc hi ih =>
    intro hrg w0 hw0
    unfold maxLen at hm
    have Hc := hide hc
    have Hih := hide ih
    have Hi := hide hi
    have Hn := hide hn
    have Hw0 := hide hw0
    have Hrg := hide hrg
    clear hc ih hi hn hp hw0 hrg
    go_enter Tryd.func38, Tryd.ntmps38
    go_wp2_with fail
    refine (acts_any w0).mono ?_
    rintro e w1 ⟨rfl, hb1⟩
    obtain ⟨A, hA, hTab⟩ : ∃ A, actCells.toArray = A ∧ Tab A := ⟨_, rfl, tab_any⟩
    rw [hA]
    clear hA
    have hth := there_new w1 hTab
    have hif := hTab.info
    have hone := hTab.one
    go_wp2_with (refine wpList_store_mid rfl 113 (.tmp 3) (.tmp 8) rfl w1.heap.size 0 A rfl rfl hth hif hone ?_)
    have hT := hasT_new w1 hTab
    have hB0 := below_setCells hb1.size A.toList 0 _ (hb1.alloc hb1.size (.cells #[.nilFunc, .nilFunc, .nilFunc, .nilFunc, .nilFunc, .nilFunc, .nilFunc, .nilFunc, .nilFunc, .nilFunc, .nilFunc, .nilFunc, .nilFunc, .nilFunc, .nilFunc, .nilFunc, .nilFunc, .nilFunc, .nilFunc, .nilFunc, .nilFunc, .nilFunc, .nilFunc, .nilFunc] 113))
    generalize (w1.alloc (.cells #[.nilFunc, .nilFunc, .nilFunc, .nilFunc, .nilFunc, .nilFunc, .nilFunc, .nilFunc, .nilFunc, .nilFunc, .nilFunc, .nilFunc, .nilFunc, .nilFunc, .nilFunc, .nilFunc, .nilFunc, .nilFunc, .nilFunc, .nilFunc, .nilFunc, .nilFunc, .nilFunc, .nilFunc] 113)).setCells w1.heap.size 0 A.toList = X at *
    have hX := hb1.size
    go_loopg [11] n (fun gk v11 wr => ∃ (i : Nat), v11 = .int .i64 (i : Int) ∧ gk = n - i ∧ i ≤ n ∧ HasT wr w1.heap.size ∧ Hid (Below w0.heap.size w0 wr))
    case atStart => exact ⟨0, rfl, rfl, Nat.zero_le _, hT, hB0⟩
    case round =>
     clear hB0 hT
     obtain ⟨i, rfl, hgk, hin, hT, HB⟩ := hrel
     have Hgk := hide hgk
     clear hgk
     by_cases hlt : i < n
     · obtain ⟨r, hr⟩ : ∃ r, ts[i]? = some r := ⟨_, List.getElem?_eq_getElem (by rw [unhide Hn]; exact hlt)⟩
       have hBW : Below W.heap.size W wr := (unhide Hw0).trans ((unhide HB).mono (unhide Hw0).size)
       have hcs := unhide Hc i r hr
       obtain ⟨ia, ic, eu⟩ := (unhide Hi i r hr).form
       have hcall0 := unhide Hih i r hr
       rw [eu] at hcs hcall0
       obtain ⟨nb, kd, x, t, li⟩ := r
       obtain ⟨hR, hRL⟩ := (unhide Hrg).at' hr
       have hcall : ∀ w0, Below W.heap.size W w0 → Calls Tryd.prog 38 #[.slice ia li.length ic] w0 fun e W' => e = .returned (.int .i64 0) ∧ Below w0.heap.size w0 W' := hcall0 hRL
       have d0 := (hBW.cell (p := ⟨g, i * 5, none⟩) hg).trans (hcs 0 _ rfl)
       have d1 := (hBW.cell (p := ⟨g, i * 5 + 1, none⟩) hg).trans (hcs 1 _ rfl)
       have d2 := (hBW.cell (p := ⟨g, i * 5 + 2, none⟩) hg).trans (hcs 2 _ rfl)
       have d3 := (hBW.cell (p := ⟨g, i * 5 + 3, none⟩) hg).trans (hcs 3 _ rfl)
       have d4 : wr.cell? ⟨g, i * 5 + 4, none⟩ = some (.slice ia li.length ic) := (hBW.cell (p := ⟨g, i * 5 + 4, none⟩) hg).trans (hcs 4 _ rfl)
       have hi0 : (0 : Int) ≤ (i : Int) := Int.natCast_nonneg _
       have hi1 : (i : Int) < (n : Int) := by omega
       have htb := (Array.getElem?_eq_some_iff.1 hT).1
       have HT := hide hT
       clear hcs eu hcall0 hBW hr hRL
       have hkk : kd = 0 ∨ kd = 1 ∨ kd = 2 ∨ kd = 3 ∨ kd = 5 := by have := hR.kind; omega
       rcases hkk with rfl | rfl | rfl | rfl | rfl
       · obtain rfl := hR.text (by decide)
         obtain rfl := hR.inner (by decide)
         have ht1 := (hT.cell 0).trans (show actCells[0]? = some (.func (.func 71) #[] #[]) from rfl)
         have HRr : Hid (∀ Y : World, Calls Tryd.prog 71 #[.agg #[.int .i64 (nb : Int), .int .i64 0, .int .i64 x, .string ⟨#[]⟩, .slice ia 0 ic]] Y fun e W' => e = .returned (.bool true) ∧ Below Y.heap.size Y W') := fun Y => right0
         have d1' : wr.cell? ⟨g, i * 5 + 1, none⟩ = some (.int .i64 0) := d1
         have d4' : wr.cell? ⟨g, i * 5 + 4, none⟩ = some (.slice ia 0 ic) := d4
         have hcall' : ∀ w0, Below W.heap.size W w0 → Calls Tryd.prog 38 #[.slice ia 0 ic] w0 fun e W' => e = .returned (.int .i64 0) ∧ Below w0.heap.size w0 W' := hcall
         have Hcall := hide hcall'
         have hnum := hR.num
         clear hT d1 d4 hcall hcall' hR
         go_wp2_with fail
         have hV : Below wr.heap.size wr (wr.alloc (.cells #[.int .i64 (nb : Int), .int .i64 0, .int .i64 x, .string ⟨#[]⟩, .slice ia 0 ic] 35)) := (Below.refl _ _).alloc (Nat.le_refl _) _
         have hbx := heap_alloc_new wr (.cells #[.int .i64 (nb : Int), .int .i64 0, .int .i64 x, .string ⟨#[]⟩, .slice ia 0 ic] 35)
         have hVs : (wr.alloc (.cells #[.int .i64 (nb : Int), .int .i64 0, .int .i64 x, .string ⟨#[]⟩, .slice ia 0 ic] 35)).heap.size = wr.heap.size + 1 := World.size_alloc _ _
         generalize wr.alloc (.cells #[.int .i64 (nb : Int), .int .i64 0, .int .i64 x, .string ⟨#[]⟩, .slice ia 0 ic] 35) = V at *
         obtain ⟨x0, x1, x2, x3, x4, _⟩ := cells5_of' hbx
         have xt := (hV.cell (p := ⟨w1.heap.size, 0, none⟩) htb).trans ht1
         clear d0 d1' d2 d3 d4'
         refine (tag_any V (nb : Int) 0).mono ?_
         rintro e w' ⟨rfl, he⟩
         obtain rfl : V = w' := he.symm
         rw [if_neg (by omega), if_neg (by omega)]
         go_wp2_with fail
         have HS : Hid (∀ w', Below V.heap.size V w' → (w'.cell? ⟨wr.heap.size, 0, none⟩ = some (.int .i64 (nb : Int)) ∧ w'.cell? ⟨wr.heap.size, 1, none⟩ = some (.int .i64 0) ∧ w'.cell? ⟨wr.heap.size, 2, none⟩ = some (.int .i64 x) ∧ w'.cell? ⟨wr.heap.size, 3, none⟩ = some (.string ⟨#[]⟩) ∧ w'.cell? ⟨wr.heap.size, 4, none⟩ = some (.slice ia 0 ic) ∧ w'.cell? ⟨w1.heap.size, 0, none⟩ = some (.func (.func 71) #[] #[])) ∧ Below V.heap.size V w') := fun w' h => ⟨⟨(h.cell (p := ⟨wr.heap.size, 0, none⟩) (by simp; omega)).trans x0, (h.cell (p := ⟨wr.heap.size, 1, none⟩) (by simp; omega)).trans x1, (h.cell (p := ⟨wr.heap.size, 2, none⟩) (by simp; omega)).trans x2, (h.cell (p := ⟨wr.heap.size, 3, none⟩) (by simp; omega)).trans x3, (h.cell (p := ⟨wr.heap.size, 4, none⟩) (by simp; omega)).trans x4, (h.cell (p := ⟨w1.heap.size, 0, none⟩) (by simp; omega)).trans xt⟩, h⟩
         go_region_held3 (fun w' => (w'.cell? ⟨wr.heap.size, 0, none⟩ = some (.int .i64 (nb : Int)) ∧ w'.cell? ⟨wr.heap.size, 1, none⟩ = some (.int .i64 0) ∧ w'.cell? ⟨wr.heap.size, 2, none⟩ = some (.int .i64 x) ∧ w'.cell? ⟨wr.heap.size, 3, none⟩ = some (.string ⟨#[]⟩) ∧ w'.cell? ⟨wr.heap.size, 4, none⟩ = some (.slice ia 0 ic) ∧ w'.cell? ⟨w1.heap.size, 0, none⟩ = some (.func (.func 71) #[] #[])) ∧ Below V.heap.size V w')
           ((refine unhide HS _ ?_; first | exact (Below.refl _ _).drew | exact hB2 | exact Below.refl _ _))
           (first
             | (go_at_call 71; refine (unhide HRr _).mono ?_; rintro o W2 ⟨rfl, hb2⟩; have hB2 : Below V.heap.size V W2 := ((Below.refl _ V).drew).trans hb2))
         have y4 := (hB2.cell (p := ⟨wr.heap.size, 4, none⟩) (by simp; omega)).trans x4
         have HBV : Hid (Below w0.heap.size w0 V) := (unhide HB).trans (hV.mono (unhide HB).size)
         have HBW2 : Hid (Below W.heap.size W W2) := (unhide Hw0).trans (((unhide HBV).trans (hB2.mono (unhide HBV).size)).mono (unhide Hw0).size)
         go_wp2_with fail
         refine (unhide Hcall W2 (unhide HBW2)).mono ?_
         rintro e W3 ⟨rfl, hb3⟩
         have hB3 := hB2.trans (hb3.mono hB2.size)
         go_wp2
         go_roundg (n - (i + 1))
         case measure => have := unhide Hgk; omega
         case rel => exact ⟨i + 1, by go_num, rfl, by omega, hasT_up (unhide HT) hV hB3, (unhide HBV).trans (hB3.mono (unhide HBV).size)⟩
       · obtain rfl := hR.text (by decide)
         obtain rfl := hR.inner (by decide)
         have ht1 := (hT.cell 4).trans (show actCells[4]? = some (.func (.func 76) #[] #[]) from rfl)
         have HRr : Hid (∀ Y : World, Calls Tryd.prog 76 #[.agg #[.int .i64 (nb : Int), .int .i64 1, .int .i64 x, .string ⟨#[]⟩, .slice ia 0 ic]] Y fun e W' => e = .returned (.bool true) ∧ Below Y.heap.size Y W') := fun Y => right1
         have d1' : wr.cell? ⟨g, i * 5 + 1, none⟩ = some (.int .i64 1) := d1
         have d4' : wr.cell? ⟨g, i * 5 + 4, none⟩ = some (.slice ia 0 ic) := d4
         have hcall' : ∀ w0, Below W.heap.size W w0 → Calls Tryd.prog 38 #[.slice ia 0 ic] w0 fun e W' => e = .returned (.int .i64 0) ∧ Below w0.heap.size w0 W' := hcall
         have Hcall := hide hcall'
         have hnum := hR.num
         clear hT d1 d4 hcall hcall' hR
         go_wp2_with fail
         have hV : Below wr.heap.size wr (wr.alloc (.cells #[.int .i64 (nb : Int), .int .i64 1, .int .i64 x, .string ⟨#[]⟩, .slice ia 0 ic] 35)) := (Below.refl _ _).alloc (Nat.le_refl _) _
         have hbx := heap_alloc_new wr (.cells #[.int .i64 (nb : Int), .int .i64 1, .int .i64 x, .string ⟨#[]⟩, .slice ia 0 ic] 35)
         have hVs : (wr.alloc (.cells #[.int .i64 (nb : Int), .int .i64 1, .int .i64 x, .string ⟨#[]⟩, .slice ia 0 ic] 35)).heap.size = wr.heap.size + 1 := World.size_alloc _ _
         generalize wr.alloc (.cells #[.int .i64 (nb : Int), .int .i64 1, .int .i64 x, .string ⟨#[]⟩, .slice ia 0 ic] 35) = V at *
         obtain ⟨x0, x1, x2, x3, x4, _⟩ := cells5_of' hbx
         have xt := (hV.cell (p := ⟨w1.heap.size, 4, none⟩) htb).trans ht1
         clear d0 d1' d2 d3 d4'
         refine (tag_any V (nb : Int) 1).mono ?_
         rintro e w' ⟨rfl, he⟩
         obtain rfl : V = w' := he.symm
         rw [if_neg (by omega), if_neg (by omega)]
         go_wp2_with fail
         have HS : Hid (∀ w', Below V.heap.size V w' → (w'.cell? ⟨wr.heap.size, 0, none⟩ = some (.int .i64 (nb : Int)) ∧ w'.cell? ⟨wr.heap.size, 1, none⟩ = some (.int .i64 1) ∧ w'.cell? ⟨wr.heap.size, 2, none⟩ = some (.int .i64 x) ∧ w'.cell? ⟨wr.heap.size, 3, none⟩ = some (.string ⟨#[]⟩) ∧ w'.cell? ⟨wr.heap.size, 4, none⟩ = some (.slice ia 0 ic) ∧ w'.cell? ⟨w1.heap.size, 4, none⟩ = some (.func (.func 76) #[] #[])) ∧ Below V.heap.size V w') := fun w' h => ⟨⟨(h.cell (p := ⟨wr.heap.size, 0, none⟩) (by simp; omega)).trans x0, (h.cell (p := ⟨wr.heap.size, 1, none⟩) (by simp; omega)).trans x1, (h.cell (p := ⟨wr.heap.size, 2, none⟩) (by simp; omega)).trans x2, (h.cell (p := ⟨wr.heap.size, 3, none⟩) (by simp; omega)).trans x3, (h.cell (p := ⟨wr.heap.size, 4, none⟩) (by simp; omega)).trans x4, (h.cell (p := ⟨w1.heap.size, 4, none⟩) (by simp; omega)).trans xt⟩, h⟩
         go_region_held3 (fun w' => (w'.cell? ⟨wr.heap.size, 0, none⟩ = some (.int .i64 (nb : Int)) ∧ w'.cell? ⟨wr.heap.size, 1, none⟩ = some (.int .i64 1) ∧ w'.cell? ⟨wr.heap.size, 2, none⟩ = some (.int .i64 x) ∧ w'.cell? ⟨wr.heap.size, 3, none⟩ = some (.string ⟨#[]⟩) ∧ w'.cell? ⟨wr.heap.size, 4, none⟩ = some (.slice ia 0 ic) ∧ w'.cell? ⟨w1.heap.size, 4, none⟩ = some (.func (.func 76) #[] #[])) ∧ Below V.heap.size V w')
           ((refine unhide HS _ ?_; first | exact (Below.refl _ _).drew | exact hB2 | exact Below.refl _ _))
           (first
             | (go_at_call 76; refine (unhide HRr _).mono ?_; rintro o W2 ⟨rfl, hb2⟩; have hB2 : Below V.heap.size V W2 := ((Below.refl _ V).drew).trans hb2))
         have y4 := (hB2.cell (p := ⟨wr.heap.size, 4, none⟩) (by simp; omega)).trans x4
         have HBV : Hid (Below w0.heap.size w0 V) := (unhide HB).trans (hV.mono (unhide HB).size)
         have HBW2 : Hid (Below W.heap.size W W2) := (unhide Hw0).trans (((unhide HBV).trans (hB2.mono (unhide HBV).size)).mono (unhide Hw0).size)
         go_wp2_with fail
         refine (unhide Hcall W2 (unhide HBW2)).mono ?_
         rintro e W3 ⟨rfl, hb3⟩
         have hB3 := hB2.trans (hb3.mono hB2.size)
         go_wp2
         go_roundg (n - (i + 1))
         case measure => have := unhide Hgk; omega
         case rel => exact ⟨i + 1, by go_num, rfl, by omega, hasT_up (unhide HT) hV hB3, (unhide HBV).trans (hB3.mono (unhide HBV).size)⟩
       · obtain rfl := hR.zero (.inl rfl)
         obtain rfl := hR.inner (by decide)
         have ht1 := (hT.cell 8).trans (show actCells[8]? = some (.func (.func 80) #[] #[]) from rfl)
         have HRr : Hid (∀ Y : World, Calls Tryd.prog 80 #[.agg #[.int .i64 (nb : Int), .int .i64 2, .int .i64 0, .string t, .slice ia 0 ic]] Y fun e W' => e = .returned (.bool true) ∧ Below Y.heap.size Y W') := fun Y => right2
         have d1' : wr.cell? ⟨g, i * 5 + 1, none⟩ = some (.int .i64 2) := d1
         have d4' : wr.cell? ⟨g, i * 5 + 4, none⟩ = some (.slice ia 0 ic) := d4
         have hcall' : ∀ w0, Below W.heap.size W w0 → Calls Tryd.prog 38 #[.slice ia 0 ic] w0 fun e W' => e = .returned (.int .i64 0) ∧ Below w0.heap.size w0 W' := hcall
         have Hcall := hide hcall'
         have hnum := hR.num
         clear hT d1 d4 hcall hcall' hR
         go_wp2_with fail
         have hV : Below wr.heap.size wr (wr.alloc (.cells #[.int .i64 (nb : Int), .int .i64 2, .int .i64 0, .string t, .slice ia 0 ic] 35)) := (Below.refl _ _).alloc (Nat.le_refl _) _
         have hbx := heap_alloc_new wr (.cells #[.int .i64 (nb : Int), .int .i64 2, .int .i64 0, .string t, .slice ia 0 ic] 35)
         have hVs : (wr.alloc (.cells #[.int .i64 (nb : Int), .int .i64 2, .int .i64 0, .string t, .slice ia 0 ic] 35)).heap.size = wr.heap.size + 1 := World.size_alloc _ _
         generalize wr.alloc (.cells #[.int .i64 (nb : Int), .int .i64 2, .int .i64 0, .string t, .slice ia 0 ic] 35) = V at *
         obtain ⟨x0, x1, x2, x3, x4, _⟩ := cells5_of' hbx
         have xt := (hV.cell (p := ⟨w1.heap.size, 8, none⟩) htb).trans ht1
         clear d0 d1' d2 d3 d4'
         refine (tag_any V (nb : Int) 2).mono ?_
         rintro e w' ⟨rfl, he⟩
         obtain rfl : V = w' := he.symm
         rw [if_neg (by omega), if_neg (by omega)]
         go_wp2_with fail
         have HS : Hid (∀ w', Below V.heap.size V w' → (w'.cell? ⟨wr.heap.size, 0, none⟩ = some (.int .i64 (nb : Int)) ∧ w'.cell? ⟨wr.heap.size, 1, none⟩ = some (.int .i64 2) ∧ w'.cell? ⟨wr.heap.size, 2, none⟩ = some (.int .i64 0) ∧ w'.cell? ⟨wr.heap.size, 3, none⟩ = some (.string t) ∧ w'.cell? ⟨wr.heap.size, 4, none⟩ = some (.slice ia 0 ic) ∧ w'.cell? ⟨w1.heap.size, 8, none⟩ = some (.func (.func 80) #[] #[])) ∧ Below V.heap.size V w') := fun w' h => ⟨⟨(h.cell (p := ⟨wr.heap.size, 0, none⟩) (by simp; omega)).trans x0, (h.cell (p := ⟨wr.heap.size, 1, none⟩) (by simp; omega)).trans x1, (h.cell (p := ⟨wr.heap.size, 2, none⟩) (by simp; omega)).trans x2, (h.cell (p := ⟨wr.heap.size, 3, none⟩) (by simp; omega)).trans x3, (h.cell (p := ⟨wr.heap.size, 4, none⟩) (by simp; omega)).trans x4, (h.cell (p := ⟨w1.heap.size, 8, none⟩) (by simp; omega)).trans xt⟩, h⟩
         go_region_held3 (fun w' => (w'.cell? ⟨wr.heap.size, 0, none⟩ = some (.int .i64 (nb : Int)) ∧ w'.cell? ⟨wr.heap.size, 1, none⟩ = some (.int .i64 2) ∧ w'.cell? ⟨wr.heap.size, 2, none⟩ = some (.int .i64 0) ∧ w'.cell? ⟨wr.heap.size, 3, none⟩ = some (.string t) ∧ w'.cell? ⟨wr.heap.size, 4, none⟩ = some (.slice ia 0 ic) ∧ w'.cell? ⟨w1.heap.size, 8, none⟩ = some (.func (.func 80) #[] #[])) ∧ Below V.heap.size V w')
           ((refine unhide HS _ ?_; first | exact (Below.refl _ _).drew | exact hB2 | exact Below.refl _ _))
           (first
             | (go_at_call 80; refine (unhide HRr _).mono ?_; rintro o W2 ⟨rfl, hb2⟩; have hB2 : Below V.heap.size V W2 := ((Below.refl _ V).drew).trans hb2))
         have y4 := (hB2.cell (p := ⟨wr.heap.size, 4, none⟩) (by simp; omega)).trans x4
         have HBV : Hid (Below w0.heap.size w0 V) := (unhide HB).trans (hV.mono (unhide HB).size)
         have HBW2 : Hid (Below W.heap.size W W2) := (unhide Hw0).trans (((unhide HBV).trans (hB2.mono (unhide HBV).size)).mono (unhide Hw0).size)
         go_wp2_with fail
         refine (unhide Hcall W2 (unhide HBW2)).mono ?_
         rintro e W3 ⟨rfl, hb3⟩
         have hB3 := hB2.trans (hb3.mono hB2.size)
         go_wp2
         go_roundg (n - (i + 1))
         case measure => have := unhide Hgk; omega
         case rel => exact ⟨i + 1, by go_num, rfl, by omega, hasT_up (unhide HT) hV hB3, (unhide HBV).trans (hB3.mono (unhide HBV).size)⟩
       · obtain rfl := hR.zero (.inr rfl)
         obtain rfl := hR.text (by decide)
         have ht1 := (hT.cell 12).trans (show actCells[12]? = some (.func (.func 84) #[] #[]) from rfl)
         have HRr : Hid (∀ Y : World, Calls Tryd.prog 84 #[.agg #[.int .i64 (nb : Int), .int .i64 3, .int .i64 0, .string ⟨#[]⟩, .slice ia li.length ic]] Y fun e W' => e = .returned (.bool true) ∧ Below Y.heap.size Y W') := fun Y => right3
         have d1' : wr.cell? ⟨g, i * 5 + 1, none⟩ = some (.int .i64 3) := d1
         have d4' : wr.cell? ⟨g, i * 5 + 4, none⟩ = some (.slice ia li.length ic) := d4
         have hcall' : ∀ w0, Below W.heap.size W w0 → Calls Tryd.prog 38 #[.slice ia li.length ic] w0 fun e W' => e = .returned (.int .i64 0) ∧ Below w0.heap.size w0 W' := hcall
         have Hcall := hide hcall'
         have hnum := hR.num
         clear hT d1 d4 hcall hcall' hR
         go_wp2_with fail
         have hV : Below wr.heap.size wr (wr.alloc (.cells #[.int .i64 (nb : Int), .int .i64 3, .int .i64 0, .string ⟨#[]⟩, .slice ia li.length ic] 35)) := (Below.refl _ _).alloc (Nat.le_refl _) _
         have hbx := heap_alloc_new wr (.cells #[.int .i64 (nb : Int), .int .i64 3, .int .i64 0, .string ⟨#[]⟩, .slice ia li.length ic] 35)
         have hVs : (wr.alloc (.cells #[.int .i64 (nb : Int), .int .i64 3, .int .i64 0, .string ⟨#[]⟩, .slice ia li.length ic] 35)).heap.size = wr.heap.size + 1 := World.size_alloc _ _
         generalize wr.alloc (.cells #[.int .i64 (nb : Int), .int .i64 3, .int .i64 0, .string ⟨#[]⟩, .slice ia li.length ic] 35) = V at *
         obtain ⟨x0, x1, x2, x3, x4, _⟩ := cells5_of' hbx
         have xt := (hV.cell (p := ⟨w1.heap.size, 12, none⟩) htb).trans ht1
         clear d0 d1' d2 d3 d4'
         refine (tag_any V (nb : Int) 3).mono ?_
         rintro e w' ⟨rfl, he⟩
         obtain rfl : V = w' := he.symm
         rw [if_neg (by omega), if_neg (by omega)]
         go_wp2_with fail
         have HS : Hid (∀ w', Below V.heap.size V w' → (w'.cell? ⟨wr.heap.size, 0, none⟩ = some (.int .i64 (nb : Int)) ∧ w'.cell? ⟨wr.heap.size, 1, none⟩ = some (.int .i64 3) ∧ w'.cell? ⟨wr.heap.size, 2, none⟩ = some (.int .i64 0) ∧ w'.cell? ⟨wr.heap.size, 3, none⟩ = some (.string ⟨#[]⟩) ∧ w'.cell? ⟨wr.heap.size, 4, none⟩ = some (.slice ia li.length ic) ∧ w'.cell? ⟨w1.heap.size, 12, none⟩ = some (.func (.func 84) #[] #[])) ∧ Below V.heap.size V w') := fun w' h => ⟨⟨(h.cell (p := ⟨wr.heap.size, 0, none⟩) (by simp; omega)).trans x0, (h.cell (p := ⟨wr.heap.size, 1, none⟩) (by simp; omega)).trans x1, (h.cell (p := ⟨wr.heap.size, 2, none⟩) (by simp; omega)).trans x2, (h.cell (p := ⟨wr.heap.size, 3, none⟩) (by simp; omega)).trans x3, (h.cell (p := ⟨wr.heap.size, 4, none⟩) (by simp; omega)).trans x4, (h.cell (p := ⟨w1.heap.size, 12, none⟩) (by simp; omega)).trans xt⟩, h⟩
         go_region_held3 (fun w' => (w'.cell? ⟨wr.heap.size, 0, none⟩ = some (.int .i64 (nb : Int)) ∧ w'.cell? ⟨wr.heap.size, 1, none⟩ = some (.int .i64 3) ∧ w'.cell? ⟨wr.heap.size, 2, none⟩ = some (.int .i64 0) ∧ w'.cell? ⟨wr.heap.size, 3, none⟩ = some (.string ⟨#[]⟩) ∧ w'.cell? ⟨wr.heap.size, 4, none⟩ = some (.slice ia li.length ic) ∧ w'.cell? ⟨w1.heap.size, 12, none⟩ = some (.func (.func 84) #[] #[])) ∧ Below V.heap.size V w')
           ((refine unhide HS _ ?_; first | exact (Below.refl _ _).drew | exact hB2 | exact Below.refl _ _))
           (first
             | (go_at_call 84; refine (unhide HRr _).mono ?_; rintro o W2 ⟨rfl, hb2⟩; have hB2 : Below V.heap.size V W2 := ((Below.refl _ V).drew).trans hb2))
         have y4 := (hB2.cell (p := ⟨wr.heap.size, 4, none⟩) (by simp; omega)).trans x4
         have HBV : Hid (Below w0.heap.size w0 V) := (unhide HB).trans (hV.mono (unhide HB).size)
         have HBW2 : Hid (Below W.heap.size W W2) := (unhide Hw0).trans (((unhide HBV).trans (hB2.mono (unhide HBV).size)).mono (unhide Hw0).size)
         go_wp2_with fail
         refine (unhide Hcall W2 (unhide HBW2)).mono ?_
         rintro e W3 ⟨rfl, hb3⟩
         have hB3 := hB2.trans (hb3.mono hB2.size)
         go_wp2
         go_roundg (n - (i + 1))
         case measure => have := unhide Hgk; omega
         case rel => exact ⟨i + 1, by go_num, rfl, by omega, hasT_up (unhide HT) hV hB3, (unhide HBV).trans (hB3.mono (unhide HBV).size)⟩
       · obtain rfl := hR.text (by decide)
         obtain rfl := hR.inner (by decide)
         have hwd := hR.word rfl
         have ht1 := (hT.cell 20).trans (show actCells[20]? = some (.func (.func 89) #[] #[]) from rfl)
         have HRr : Hid (∀ Y : World, Calls Tryd.prog 89 #[.agg #[.int .i64 (nb : Int), .int .i64 5, .int .i64 x, .string ⟨#[]⟩, .slice ia 0 ic]] Y fun e W' => e = .returned (.bool true) ∧ Below Y.heap.size Y W') := fun Y => right5 hwd
         have d1' : wr.cell? ⟨g, i * 5 + 1, none⟩ = some (.int .i64 5) := d1
         have d4' : wr.cell? ⟨g, i * 5 + 4, none⟩ = some (.slice ia 0 ic) := d4
         have hcall' : ∀ w0, Below W.heap.size W w0 → Calls Tryd.prog 38 #[.slice ia 0 ic] w0 fun e W' => e = .returned (.int .i64 0) ∧ Below w0.heap.size w0 W' := hcall
         have Hcall := hide hcall'
         have hnum := hR.num
         clear hT d1 d4 hcall hcall' hR
         go_wp2_with fail
         have hV : Below wr.heap.size wr (wr.alloc (.cells #[.int .i64 (nb : Int), .int .i64 5, .int .i64 x, .string ⟨#[]⟩, .slice ia 0 ic] 35)) := (Below.refl _ _).alloc (Nat.le_refl _) _
         have hbx := heap_alloc_new wr (.cells #[.int .i64 (nb : Int), .int .i64 5, .int .i64 x, .string ⟨#[]⟩, .slice ia 0 ic] 35)
         have hVs : (wr.alloc (.cells #[.int .i64 (nb : Int), .int .i64 5, .int .i64 x, .string ⟨#[]⟩, .slice ia 0 ic] 35)).heap.size = wr.heap.size + 1 := World.size_alloc _ _
         generalize wr.alloc (.cells #[.int .i64 (nb : Int), .int .i64 5, .int .i64 x, .string ⟨#[]⟩, .slice ia 0 ic] 35) = V at *
         obtain ⟨x0, x1, x2, x3, x4, _⟩ := cells5_of' hbx
         have xt := (hV.cell (p := ⟨w1.heap.size, 20, none⟩) htb).trans ht1
         clear d0 d1' d2 d3 d4'
         refine (tag_any V (nb : Int) 5).mono ?_
         rintro e w' ⟨rfl, he⟩
         obtain rfl : V = w' := he.symm
         rw [if_neg (by omega), if_neg (by omega)]
         go_wp2_with fail
         have HS : Hid (∀ w', Below V.heap.size V w' → (w'.cell? ⟨wr.heap.size, 0, none⟩ = some (.int .i64 (nb : Int)) ∧ w'.cell? ⟨wr.heap.size, 1, none⟩ = some (.int .i64 5) ∧ w'.cell? ⟨wr.heap.size, 2, none⟩ = some (.int .i64 x) ∧ w'.cell? ⟨wr.heap.size, 3, none⟩ = some (.string ⟨#[]⟩) ∧ w'.cell? ⟨wr.heap.size, 4, none⟩ = some (.slice ia 0 ic) ∧ w'.cell? ⟨w1.heap.size, 20, none⟩ = some (.func (.func 89) #[] #[])) ∧ Below V.heap.size V w') := fun w' h => ⟨⟨(h.cell (p := ⟨wr.heap.size, 0, none⟩) (by simp; omega)).trans x0, (h.cell (p := ⟨wr.heap.size, 1, none⟩) (by simp; omega)).trans x1, (h.cell (p := ⟨wr.heap.size, 2, none⟩) (by simp; omega)).trans x2, (h.cell (p := ⟨wr.heap.size, 3, none⟩) (by simp; omega)).trans x3, (h.cell (p := ⟨wr.heap.size, 4, none⟩) (by simp; omega)).trans x4, (h.cell (p := ⟨w1.heap.size, 20, none⟩) (by simp; omega)).trans xt⟩, h⟩
         go_region_held3 (fun w' => (w'.cell? ⟨wr.heap.size, 0, none⟩ = some (.int .i64 (nb : Int)) ∧ w'.cell? ⟨wr.heap.size, 1, none⟩ = some (.int .i64 5) ∧ w'.cell? ⟨wr.heap.size, 2, none⟩ = some (.int .i64 x) ∧ w'.cell? ⟨wr.heap.size, 3, none⟩ = some (.string ⟨#[]⟩) ∧ w'.cell? ⟨wr.heap.size, 4, none⟩ = some (.slice ia 0 ic) ∧ w'.cell? ⟨w1.heap.size, 20, none⟩ = some (.func (.func 89) #[] #[])) ∧ Below V.heap.size V w')
           ((refine unhide HS _ ?_; first | exact (Below.refl _ _).drew | exact hB2 | exact Below.refl _ _))
           (first
             | (go_at_call 89; refine (unhide HRr _).mono ?_; rintro o W2 ⟨rfl, hb2⟩; have hB2 : Below V.heap.size V W2 := ((Below.refl _ V).drew).trans hb2))
         have y4 := (hB2.cell (p := ⟨wr.heap.size, 4, none⟩) (by simp; omega)).trans x4
         have HBV : Hid (Below w0.heap.size w0 V) := (unhide HB).trans (hV.mono (unhide HB).size)
         have HBW2 : Hid (Below W.heap.size W W2) := (unhide Hw0).trans (((unhide HBV).trans (hB2.mono (unhide HBV).size)).mono (unhide Hw0).size)
         go_wp2_with fail
         refine (unhide Hcall W2 (unhide HBW2)).mono ?_
         rintro e W3 ⟨rfl, hb3⟩
         have hB3 := hB2.trans (hb3.mono hB2.size)
         go_wp2
         go_roundg (n - (i + 1))
         case measure => have := unhide Hgk; omega
         case rel => exact ⟨i + 1, by go_num, rfl, by omega, hasT_up (unhide HT) hV hB3, (unhide HBV).trans (hB3.mono (unhide HBV).size)⟩
     · obtain rfl : i = n := by omega
       go_wp2
       go_ret
       exact ⟨rfl, unhide HB⟩
#print axioms firstFault_rt
end Go.Proofs.YtobomdokdajbaaaDoor
