import Derived.Test.YtobomdokdajbaaaDoorWS

namespace Go.Proofs.YtobomdokdajbaaaDoor
open Go.RowKit
attribute [local go_sem ↓] Go.wp_at_zero Go.wp_at_succ

set_option maxRecDepth 100000 in
set_option maxHeartbeats 4000000 in
theorem firstFault_nil (W : World) (a : Option Addr) (c : Nat) :
    Calls Tryd.prog 38 #[.slice a 0 c] W fun e W' => e = .returned (.int .i64 0) ∧ Below W.heap.size W W' := by
  go_enter Tryd.func38, Tryd.ntmps38
  go_wp2_with fail
  refine (acts_any W).mono ?_
  rintro e w1 ⟨rfl, hb1⟩
  obtain ⟨A, hA, hTab⟩ : ∃ A, actCells.toArray = A ∧ Tab A := ⟨_, rfl, tab_any⟩
  rw [hA]
  clear hA
  have hth := there_new w1 hTab
  have hif := hTab.info
  have hone := hTab.one
  go_wp2_with (refine wpList_store_mid rfl 113 (.tmp 3) (.tmp 8) rfl w1.heap.size 0 A rfl rfl hth hif hone ?_)
  have hT := hasT_new w1 hTab
  have hB0 := below_setCells hb1.size A.toList 0 _ (hb1.alloc hb1.size (.cells #[.nilFunc, .nilFunc, .nilFunc, .nilFunc, .nilFunc, .nilFunc, .nilFunc, .nilFunc, .nilFunc, .nilFunc, .nilFunc, .nilFunc, .nilFunc, .nilFunc, .nilFunc, .nilFunc, .nilFunc, .nilFunc, .nilFunc, .nilFunc, .nilFunc, .nilFunc, .nilFunc, .nilFunc] 113))
  generalize (w1.alloc (.cells #[.nilFunc, .nilFunc, .nilFunc, .nilFunc, .nilFunc, .nilFunc, .nilFunc, .nilFunc, .nilFunc, .nilFunc, .nilFunc, .nilFunc, .nilFunc, .nilFunc, .nilFunc, .nilFunc, .nilFunc, .nilFunc, .nilFunc, .nilFunc, .nilFunc, .nilFunc, .nilFunc, .nilFunc] 113)).setCells w1.heap.size 0 A.toList = X at *
  have hX := hb1.size
  go_loopg [11] 0 (fun gk v11 wr => gk = 0 ∧ v11 = .int .i64 0 ∧ Below W.heap.size W wr)
  case atStart => exact ⟨rfl, rfl, hB0⟩
  case round =>
    obtain ⟨_, rfl, hB⟩ := hrel
    go_wp2
    go_ret
    exact ⟨rfl, hB⟩

set_option maxRecDepth 100000 in
set_option maxHeartbeats 8000000 in
theorem firstFault_flat {W : World} {v : Value} {rs : List Rec} (h : HasR W v rs) (ts sz : Rec → Nat) (body : Rec → List Int) (hk : ∀ r ∈ rs, RecOk r (ts r) (sz r) (body r)) :
    Calls Tryd.prog 38 #[v] W fun e W' => e = .returned (.int .i64 0) ∧ Below W.heap.size W W' := by
  obtain ⟨a, c, rfl, hm, h3⟩ := h
  have H3 := hide h3
  have Hk := hide hk
  clear h3 hk
  go_enter Tryd.func38, Tryd.ntmps38
  go_wp2_with fail
  refine (acts_any W).mono ?_
  rintro e w1 ⟨rfl, hb1⟩
  obtain ⟨A, hA, hTab⟩ : ∃ A, actCells.toArray = A ∧ Tab A := ⟨_, rfl, tab_any⟩
  rw [hA]
  clear hA
  have hth := there_new w1 hTab
  have hif := hTab.info
  have hone := hTab.one
  go_wp2_with (refine wpList_store_mid rfl 113 (.tmp 3) (.tmp 8) rfl w1.heap.size 0 A rfl rfl hth hif hone ?_)
  have hT := hasT_new w1 hTab
  have hB0 := below_setCells hb1.size A.toList 0 _ (hb1.alloc hb1.size (.cells #[.nilFunc, .nilFunc, .nilFunc, .nilFunc, .nilFunc, .nilFunc, .nilFunc, .nilFunc, .nilFunc, .nilFunc, .nilFunc, .nilFunc, .nilFunc, .nilFunc, .nilFunc, .nilFunc, .nilFunc, .nilFunc, .nilFunc, .nilFunc, .nilFunc, .nilFunc, .nilFunc, .nilFunc] 113))
  generalize (w1.alloc (.cells #[.nilFunc, .nilFunc, .nilFunc, .nilFunc, .nilFunc, .nilFunc, .nilFunc, .nilFunc, .nilFunc, .nilFunc, .nilFunc, .nilFunc, .nilFunc, .nilFunc, .nilFunc, .nilFunc, .nilFunc, .nilFunc, .nilFunc, .nilFunc, .nilFunc, .nilFunc, .nilFunc, .nilFunc] 113)).setCells w1.heap.size 0 A.toList = X at *
  have hX := hb1.size
  go_loopg [11] rs.length (fun gk v11 wr => ∃ (i : Nat), v11 = .int .i64 (i : Int) ∧ gk = rs.length - i ∧ i ≤ rs.length ∧ HasT wr w1.heap.size ∧ Below W.heap.size W wr)
  case atStart => exact ⟨0, rfl, rfl, Nat.zero_le _, hT, hB0⟩
  case round =>
    clear hB0 hT
    obtain ⟨i, rfl, hgk, hin, hT, hB⟩ := hrel
    have Hgk := hide hgk
    clear hgk
    by_cases hlt : i < rs.length
    · obtain ⟨g, off, rfl, hg, hc⟩ := unhide H3 (by omega)
      obtain ⟨r, hr⟩ : ∃ r, rs[i]? = some r := ⟨_, List.getElem?_eq_getElem hlt⟩
      obtain ⟨q0, q1, q2, q3, q4⟩ := hc i r hr
      have hR := unhide Hk r (List.mem_of_getElem? hr)
      have d0 := (hB.cell (p := ⟨g, off + i * 5, none⟩) hg).trans q0
      have d1 := (hB.cell (p := ⟨g, off + i * 5 + 1, none⟩) hg).trans q1
      have d2 := (hB.cell (p := ⟨g, off + i * 5 + 2, none⟩) hg).trans q2
      have d3 := (hB.cell (p := ⟨g, off + i * 5 + 3, none⟩) hg).trans q3
      have d4 := (hB.cell (p := ⟨g, off + i * 5 + 4, none⟩) hg).trans q4
      have hi0 : (0 : Int) ≤ (i : Int) := Int.natCast_nonneg _
      have hi1 : (i : Int) < (rs.length : Int) := by omega
      have htb := (Array.getElem?_eq_some_iff.1 hT).1
      have HT := hide hT
      have HR := hide hR
      have Hr := hide hr
      have hnum := hR.number
      clear q0 q1 q2 q3 q4 hc hR hr
      have hkk : r.kind = 0 ∨ r.kind = 1 ∨ r.kind = 2 ∨ r.kind = 5 := by have := (unhide HR).kind; omega
      obtain ⟨number, kind, num, text, ia, ic⟩ := r
      simp only at d0 d1 d2 d3 d4 hkk hnum
      rcases hkk with rfl | rfl | rfl | rfl
      · have ht1 := (hT.cell 0).trans (show actCells[0]? = some (.func (.func 71) #[] #[]) from rfl)
        clear hT
        have d1' : wr.cell? ⟨g, off + i * 5 + 1, none⟩ = some (.int .i64 0) := d1
        clear d1
        go_wp2_with fail
        have hV : Below wr.heap.size wr (wr.alloc (.cells #[.int .i64 (number : Int), .int .i64 0, .int .i64 num, .string text, .slice ia 0 ic] 35)) := (Below.refl _ _).alloc (Nat.le_refl _) _
        have hbx := heap_alloc_new wr (.cells #[.int .i64 (number : Int), .int .i64 0, .int .i64 num, .string text, .slice ia 0 ic] 35)
        have hVs : (wr.alloc (.cells #[.int .i64 (number : Int), .int .i64 0, .int .i64 num, .string text, .slice ia 0 ic] 35)).heap.size = wr.heap.size + 1 := World.size_alloc _ _
        generalize wr.alloc (.cells #[.int .i64 (number : Int), .int .i64 0, .int .i64 num, .string text, .slice ia 0 ic] 35) = V at *
        have x0 := cell_of_row V wr.heap.size 0 _ _ _ hbx
        have x1 := cell_of_row V wr.heap.size 1 _ _ _ hbx
        have x2 := cell_of_row V wr.heap.size 2 _ _ _ hbx
        have x3 := cell_of_row V wr.heap.size 3 _ _ _ hbx
        have x4 := cell_of_row V wr.heap.size 4 _ _ _ hbx
        simp at x0 x1 x2 x3 x4
        have xt := (hV.cell (p := ⟨w1.heap.size, 0, none⟩) htb).trans ht1
        clear d0 d1' d2 d3 d4
        refine (tag_any V (number : Int) 0).mono ?_
        rintro e w' ⟨rfl, he⟩
        obtain rfl : V = w' := he.symm
        rw [if_neg (by omega), if_neg (by omega)]
        go_wp2_with fail
        have HS : Hid (∀ w', Below V.heap.size V w' → (w'.cell? ⟨wr.heap.size, 0, none⟩ = some (.int .i64 (number : Int)) ∧ w'.cell? ⟨wr.heap.size, 1, none⟩ = some (.int .i64 0) ∧ w'.cell? ⟨wr.heap.size, 2, none⟩ = some (.int .i64 num) ∧ w'.cell? ⟨wr.heap.size, 3, none⟩ = some (.string text) ∧ w'.cell? ⟨wr.heap.size, 4, none⟩ = some (.slice ia 0 ic) ∧ w'.cell? ⟨w1.heap.size, 0, none⟩ = some (.func (.func 71) #[] #[])) ∧ Below V.heap.size V w') := fun w' h => ⟨⟨(h.cell (p := ⟨wr.heap.size, 0, none⟩) (by simp; omega)).trans x0, (h.cell (p := ⟨wr.heap.size, 1, none⟩) (by simp; omega)).trans x1, (h.cell (p := ⟨wr.heap.size, 2, none⟩) (by simp; omega)).trans x2, (h.cell (p := ⟨wr.heap.size, 3, none⟩) (by simp; omega)).trans x3, (h.cell (p := ⟨wr.heap.size, 4, none⟩) (by simp; omega)).trans x4, (h.cell (p := ⟨w1.heap.size, 0, none⟩) (by simp; omega)).trans xt⟩, h⟩
        go_region_held3 (fun w' => (w'.cell? ⟨wr.heap.size, 0, none⟩ = some (.int .i64 (number : Int)) ∧ w'.cell? ⟨wr.heap.size, 1, none⟩ = some (.int .i64 0) ∧ w'.cell? ⟨wr.heap.size, 2, none⟩ = some (.int .i64 num) ∧ w'.cell? ⟨wr.heap.size, 3, none⟩ = some (.string text) ∧ w'.cell? ⟨wr.heap.size, 4, none⟩ = some (.slice ia 0 ic) ∧ w'.cell? ⟨w1.heap.size, 0, none⟩ = some (.func (.func 71) #[] #[])) ∧ Below V.heap.size V w')
          ((refine unhide HS _ ?_; first | exact (Below.refl _ _).drew | exact hB2 | exact Below.refl _ _))
          (first
            | (go_at_call 71; refine ((unhide HR).right _).mono ?_; rintro o W2 ⟨rfl, hb2⟩; have hB2 : Below V.heap.size V W2 := ((Below.refl _ V).drew).trans hb2))
        have y4 := (hB2.cell (p := ⟨wr.heap.size, 4, none⟩) (by simp; omega)).trans x4
        go_wp2_with fail
        refine (firstFault_nil W2 ia ic).mono ?_
        rintro e W3 ⟨rfl, hb3⟩
        have hB3 := hB2.trans (hb3.mono hB2.size)
        go_wp2
        go_roundg (rs.length - (i + 1))
        case measure => have := unhide Hgk; omega
        case rel => exact ⟨i + 1, by go_num, rfl, by omega, hasT_up (unhide HT) hV hB3, (hB.trans (hV.mono hB.size)).trans (hB3.mono (by have := hB.size; omega))⟩
      · have ht1 := (hT.cell 4).trans (show actCells[4]? = some (.func (.func 76) #[] #[]) from rfl)
        clear hT
        have d1' : wr.cell? ⟨g, off + i * 5 + 1, none⟩ = some (.int .i64 1) := d1
        clear d1
        go_wp2_with fail
        have hV : Below wr.heap.size wr (wr.alloc (.cells #[.int .i64 (number : Int), .int .i64 1, .int .i64 num, .string text, .slice ia 0 ic] 35)) := (Below.refl _ _).alloc (Nat.le_refl _) _
        have hbx := heap_alloc_new wr (.cells #[.int .i64 (number : Int), .int .i64 1, .int .i64 num, .string text, .slice ia 0 ic] 35)
        have hVs : (wr.alloc (.cells #[.int .i64 (number : Int), .int .i64 1, .int .i64 num, .string text, .slice ia 0 ic] 35)).heap.size = wr.heap.size + 1 := World.size_alloc _ _
        generalize wr.alloc (.cells #[.int .i64 (number : Int), .int .i64 1, .int .i64 num, .string text, .slice ia 0 ic] 35) = V at *
        have x0 := cell_of_row V wr.heap.size 0 _ _ _ hbx
        have x1 := cell_of_row V wr.heap.size 1 _ _ _ hbx
        have x2 := cell_of_row V wr.heap.size 2 _ _ _ hbx
        have x3 := cell_of_row V wr.heap.size 3 _ _ _ hbx
        have x4 := cell_of_row V wr.heap.size 4 _ _ _ hbx
        simp at x0 x1 x2 x3 x4
        have xt := (hV.cell (p := ⟨w1.heap.size, 4, none⟩) htb).trans ht1
        clear d0 d1' d2 d3 d4
        refine (tag_any V (number : Int) 1).mono ?_
        rintro e w' ⟨rfl, he⟩
        obtain rfl : V = w' := he.symm
        rw [if_neg (by omega), if_neg (by omega)]
        go_wp2_with fail
        have HS : Hid (∀ w', Below V.heap.size V w' → (w'.cell? ⟨wr.heap.size, 0, none⟩ = some (.int .i64 (number : Int)) ∧ w'.cell? ⟨wr.heap.size, 1, none⟩ = some (.int .i64 1) ∧ w'.cell? ⟨wr.heap.size, 2, none⟩ = some (.int .i64 num) ∧ w'.cell? ⟨wr.heap.size, 3, none⟩ = some (.string text) ∧ w'.cell? ⟨wr.heap.size, 4, none⟩ = some (.slice ia 0 ic) ∧ w'.cell? ⟨w1.heap.size, 4, none⟩ = some (.func (.func 76) #[] #[])) ∧ Below V.heap.size V w') := fun w' h => ⟨⟨(h.cell (p := ⟨wr.heap.size, 0, none⟩) (by simp; omega)).trans x0, (h.cell (p := ⟨wr.heap.size, 1, none⟩) (by simp; omega)).trans x1, (h.cell (p := ⟨wr.heap.size, 2, none⟩) (by simp; omega)).trans x2, (h.cell (p := ⟨wr.heap.size, 3, none⟩) (by simp; omega)).trans x3, (h.cell (p := ⟨wr.heap.size, 4, none⟩) (by simp; omega)).trans x4, (h.cell (p := ⟨w1.heap.size, 4, none⟩) (by simp; omega)).trans xt⟩, h⟩
        go_region_held3 (fun w' => (w'.cell? ⟨wr.heap.size, 0, none⟩ = some (.int .i64 (number : Int)) ∧ w'.cell? ⟨wr.heap.size, 1, none⟩ = some (.int .i64 1) ∧ w'.cell? ⟨wr.heap.size, 2, none⟩ = some (.int .i64 num) ∧ w'.cell? ⟨wr.heap.size, 3, none⟩ = some (.string text) ∧ w'.cell? ⟨wr.heap.size, 4, none⟩ = some (.slice ia 0 ic) ∧ w'.cell? ⟨w1.heap.size, 4, none⟩ = some (.func (.func 76) #[] #[])) ∧ Below V.heap.size V w')
          ((refine unhide HS _ ?_; first | exact (Below.refl _ _).drew | exact hB2 | exact Below.refl _ _))
          (first
            | (go_at_call 76; refine ((unhide HR).right _).mono ?_; rintro o W2 ⟨rfl, hb2⟩; have hB2 : Below V.heap.size V W2 := ((Below.refl _ V).drew).trans hb2))
        have y4 := (hB2.cell (p := ⟨wr.heap.size, 4, none⟩) (by simp; omega)).trans x4
        go_wp2_with fail
        refine (firstFault_nil W2 ia ic).mono ?_
        rintro e W3 ⟨rfl, hb3⟩
        have hB3 := hB2.trans (hb3.mono hB2.size)
        go_wp2
        go_roundg (rs.length - (i + 1))
        case measure => have := unhide Hgk; omega
        case rel => exact ⟨i + 1, by go_num, rfl, by omega, hasT_up (unhide HT) hV hB3, (hB.trans (hV.mono hB.size)).trans (hB3.mono (by have := hB.size; omega))⟩
      · have ht1 := (hT.cell 8).trans (show actCells[8]? = some (.func (.func 80) #[] #[]) from rfl)
        clear hT
        have d1' : wr.cell? ⟨g, off + i * 5 + 1, none⟩ = some (.int .i64 2) := d1
        clear d1
        go_wp2_with fail
        have hV : Below wr.heap.size wr (wr.alloc (.cells #[.int .i64 (number : Int), .int .i64 2, .int .i64 num, .string text, .slice ia 0 ic] 35)) := (Below.refl _ _).alloc (Nat.le_refl _) _
        have hbx := heap_alloc_new wr (.cells #[.int .i64 (number : Int), .int .i64 2, .int .i64 num, .string text, .slice ia 0 ic] 35)
        have hVs : (wr.alloc (.cells #[.int .i64 (number : Int), .int .i64 2, .int .i64 num, .string text, .slice ia 0 ic] 35)).heap.size = wr.heap.size + 1 := World.size_alloc _ _
        generalize wr.alloc (.cells #[.int .i64 (number : Int), .int .i64 2, .int .i64 num, .string text, .slice ia 0 ic] 35) = V at *
        have x0 := cell_of_row V wr.heap.size 0 _ _ _ hbx
        have x1 := cell_of_row V wr.heap.size 1 _ _ _ hbx
        have x2 := cell_of_row V wr.heap.size 2 _ _ _ hbx
        have x3 := cell_of_row V wr.heap.size 3 _ _ _ hbx
        have x4 := cell_of_row V wr.heap.size 4 _ _ _ hbx
        simp at x0 x1 x2 x3 x4
        have xt := (hV.cell (p := ⟨w1.heap.size, 8, none⟩) htb).trans ht1
        clear d0 d1' d2 d3 d4
        refine (tag_any V (number : Int) 2).mono ?_
        rintro e w' ⟨rfl, he⟩
        obtain rfl : V = w' := he.symm
        rw [if_neg (by omega), if_neg (by omega)]
        go_wp2_with fail
        have HS : Hid (∀ w', Below V.heap.size V w' → (w'.cell? ⟨wr.heap.size, 0, none⟩ = some (.int .i64 (number : Int)) ∧ w'.cell? ⟨wr.heap.size, 1, none⟩ = some (.int .i64 2) ∧ w'.cell? ⟨wr.heap.size, 2, none⟩ = some (.int .i64 num) ∧ w'.cell? ⟨wr.heap.size, 3, none⟩ = some (.string text) ∧ w'.cell? ⟨wr.heap.size, 4, none⟩ = some (.slice ia 0 ic) ∧ w'.cell? ⟨w1.heap.size, 8, none⟩ = some (.func (.func 80) #[] #[])) ∧ Below V.heap.size V w') := fun w' h => ⟨⟨(h.cell (p := ⟨wr.heap.size, 0, none⟩) (by simp; omega)).trans x0, (h.cell (p := ⟨wr.heap.size, 1, none⟩) (by simp; omega)).trans x1, (h.cell (p := ⟨wr.heap.size, 2, none⟩) (by simp; omega)).trans x2, (h.cell (p := ⟨wr.heap.size, 3, none⟩) (by simp; omega)).trans x3, (h.cell (p := ⟨wr.heap.size, 4, none⟩) (by simp; omega)).trans x4, (h.cell (p := ⟨w1.heap.size, 8, none⟩) (by simp; omega)).trans xt⟩, h⟩
        go_region_held3 (fun w' => (w'.cell? ⟨wr.heap.size, 0, none⟩ = some (.int .i64 (number : Int)) ∧ w'.cell? ⟨wr.heap.size, 1, none⟩ = some (.int .i64 2) ∧ w'.cell? ⟨wr.heap.size, 2, none⟩ = some (.int .i64 num) ∧ w'.cell? ⟨wr.heap.size, 3, none⟩ = some (.string text) ∧ w'.cell? ⟨wr.heap.size, 4, none⟩ = some (.slice ia 0 ic) ∧ w'.cell? ⟨w1.heap.size, 8, none⟩ = some (.func (.func 80) #[] #[])) ∧ Below V.heap.size V w')
          ((refine unhide HS _ ?_; first | exact (Below.refl _ _).drew | exact hB2 | exact Below.refl _ _))
          (first
            | (go_at_call 80; refine ((unhide HR).right _).mono ?_; rintro o W2 ⟨rfl, hb2⟩; have hB2 : Below V.heap.size V W2 := ((Below.refl _ V).drew).trans hb2))
        have y4 := (hB2.cell (p := ⟨wr.heap.size, 4, none⟩) (by simp; omega)).trans x4
        go_wp2_with fail
        refine (firstFault_nil W2 ia ic).mono ?_
        rintro e W3 ⟨rfl, hb3⟩
        have hB3 := hB2.trans (hb3.mono hB2.size)
        go_wp2
        go_roundg (rs.length - (i + 1))
        case measure => have := unhide Hgk; omega
        case rel => exact ⟨i + 1, by go_num, rfl, by omega, hasT_up (unhide HT) hV hB3, (hB.trans (hV.mono hB.size)).trans (hB3.mono (by have := hB.size; omega))⟩
      · have ht1 := (hT.cell 20).trans (show actCells[20]? = some (.func (.func 89) #[] #[]) from rfl)
        clear hT
        have d1' : wr.cell? ⟨g, off + i * 5 + 1, none⟩ = some (.int .i64 5) := d1
        clear d1
        go_wp2_with fail
        have hV : Below wr.heap.size wr (wr.alloc (.cells #[.int .i64 (number : Int), .int .i64 5, .int .i64 num, .string text, .slice ia 0 ic] 35)) := (Below.refl _ _).alloc (Nat.le_refl _) _
        have hbx := heap_alloc_new wr (.cells #[.int .i64 (number : Int), .int .i64 5, .int .i64 num, .string text, .slice ia 0 ic] 35)
        have hVs : (wr.alloc (.cells #[.int .i64 (number : Int), .int .i64 5, .int .i64 num, .string text, .slice ia 0 ic] 35)).heap.size = wr.heap.size + 1 := World.size_alloc _ _
        generalize wr.alloc (.cells #[.int .i64 (number : Int), .int .i64 5, .int .i64 num, .string text, .slice ia 0 ic] 35) = V at *
        have x0 := cell_of_row V wr.heap.size 0 _ _ _ hbx
        have x1 := cell_of_row V wr.heap.size 1 _ _ _ hbx
        have x2 := cell_of_row V wr.heap.size 2 _ _ _ hbx
        have x3 := cell_of_row V wr.heap.size 3 _ _ _ hbx
        have x4 := cell_of_row V wr.heap.size 4 _ _ _ hbx
        simp at x0 x1 x2 x3 x4
        have xt := (hV.cell (p := ⟨w1.heap.size, 20, none⟩) htb).trans ht1
        clear d0 d1' d2 d3 d4
        refine (tag_any V (number : Int) 5).mono ?_
        rintro e w' ⟨rfl, he⟩
        obtain rfl : V = w' := he.symm
        rw [if_neg (by omega), if_neg (by omega)]
        go_wp2_with fail
        have HS : Hid (∀ w', Below V.heap.size V w' → (w'.cell? ⟨wr.heap.size, 0, none⟩ = some (.int .i64 (number : Int)) ∧ w'.cell? ⟨wr.heap.size, 1, none⟩ = some (.int .i64 5) ∧ w'.cell? ⟨wr.heap.size, 2, none⟩ = some (.int .i64 num) ∧ w'.cell? ⟨wr.heap.size, 3, none⟩ = some (.string text) ∧ w'.cell? ⟨wr.heap.size, 4, none⟩ = some (.slice ia 0 ic) ∧ w'.cell? ⟨w1.heap.size, 20, none⟩ = some (.func (.func 89) #[] #[])) ∧ Below V.heap.size V w') := fun w' h => ⟨⟨(h.cell (p := ⟨wr.heap.size, 0, none⟩) (by simp; omega)).trans x0, (h.cell (p := ⟨wr.heap.size, 1, none⟩) (by simp; omega)).trans x1, (h.cell (p := ⟨wr.heap.size, 2, none⟩) (by simp; omega)).trans x2, (h.cell (p := ⟨wr.heap.size, 3, none⟩) (by simp; omega)).trans x3, (h.cell (p := ⟨wr.heap.size, 4, none⟩) (by simp; omega)).trans x4, (h.cell (p := ⟨w1.heap.size, 20, none⟩) (by simp; omega)).trans xt⟩, h⟩
        go_region_held3 (fun w' => (w'.cell? ⟨wr.heap.size, 0, none⟩ = some (.int .i64 (number : Int)) ∧ w'.cell? ⟨wr.heap.size, 1, none⟩ = some (.int .i64 5) ∧ w'.cell? ⟨wr.heap.size, 2, none⟩ = some (.int .i64 num) ∧ w'.cell? ⟨wr.heap.size, 3, none⟩ = some (.string text) ∧ w'.cell? ⟨wr.heap.size, 4, none⟩ = some (.slice ia 0 ic) ∧ w'.cell? ⟨w1.heap.size, 20, none⟩ = some (.func (.func 89) #[] #[])) ∧ Below V.heap.size V w')
          ((refine unhide HS _ ?_; first | exact (Below.refl _ _).drew | exact hB2 | exact Below.refl _ _))
          (first
            | (go_at_call 89; refine ((unhide HR).right _).mono ?_; rintro o W2 ⟨rfl, hb2⟩; have hB2 : Below V.heap.size V W2 := ((Below.refl _ V).drew).trans hb2))
        have y4 := (hB2.cell (p := ⟨wr.heap.size, 4, none⟩) (by simp; omega)).trans x4
        go_wp2_with fail
        refine (firstFault_nil W2 ia ic).mono ?_
        rintro e W3 ⟨rfl, hb3⟩
        have hB3 := hB2.trans (hb3.mono hB2.size)
        go_wp2
        go_roundg (rs.length - (i + 1))
        case measure => have := unhide Hgk; omega
        case rel => exact ⟨i + 1, by go_num, rfl, by omega, hasT_up (unhide HT) hV hB3, (hB.trans (hV.mono hB.size)).trans (hB3.mono (by have := hB.size; omega))⟩
    · obtain rfl : i = rs.length := by omega
      go_wp2
      go_ret
      exact ⟨rfl, hB⟩
end Go.Proofs.YtobomdokdajbaaaDoor
