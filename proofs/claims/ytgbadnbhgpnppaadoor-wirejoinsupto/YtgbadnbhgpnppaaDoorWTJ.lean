import Derived.Test.YtgbadnbhgpnppaaDoorWS
namespace Go.Proofs.YtgbadnbhgpnppaaDoor
open Go.RowKit
attribute [local go_sem ↓] Go.wp_at_zero Go.wp_at_succ

set_option maxRecDepth 100000 in
set_option maxHeartbeats 4000000 in
theorem firstFault_nil (W : World) (a : Option Addr) (c : Nat) :
    Calls Tryd.prog 29 #[.slice a 0 c] W fun e W' => e = .returned (.int .i64 0) ∧ Below W.heap.size W W' := by
  go_enter Tryd.func29, Tryd.ntmps29
  go_wp2_with fail
  refine (acts_any W).mono ?_
  rintro e w1 ⟨rfl, hb1⟩
  obtain ⟨A, hA, hTab⟩ : ∃ A, actCells.toArray = A ∧ Tab A := ⟨_, rfl, tab_any⟩
  rw [hA]
  clear hA
  have hth := there_new w1 hTab
  have hif := hTab.info
  have hone := hTab.one
  go_wp2_with (refine wpList_store_mid rfl 109 (.tmp 3) (.tmp 8) rfl w1.heap.size 0 A rfl rfl hth hif hone ?_)
  have hT := hasT_new w1 hTab
  have hB0 := below_setCells hb1.size A.toList 0 _ (hb1.alloc hb1.size (.cells #[.nilFunc, .nilFunc, .nilFunc, .nilFunc, .nilFunc, .nilFunc, .nilFunc, .nilFunc, .nilFunc, .nilFunc, .nilFunc, .nilFunc, .nilFunc, .nilFunc, .nilFunc, .nilFunc, .nilFunc, .nilFunc, .nilFunc, .nilFunc, .nilFunc, .nilFunc, .nilFunc, .nilFunc] 109))
  generalize (w1.alloc (.cells #[.nilFunc, .nilFunc, .nilFunc, .nilFunc, .nilFunc, .nilFunc, .nilFunc, .nilFunc, .nilFunc, .nilFunc, .nilFunc, .nilFunc, .nilFunc, .nilFunc, .nilFunc, .nilFunc, .nilFunc, .nilFunc, .nilFunc, .nilFunc, .nilFunc, .nilFunc, .nilFunc, .nilFunc] 109)).setCells w1.heap.size 0 A.toList = X at *
  have hX := hb1.size
  go_loopg [11] 0 (fun gk v11 wr => gk = 0 ∧ v11 = .int .i64 0 ∧ Below W.heap.size W wr)
  case atStart => exact ⟨rfl, rfl, hB0⟩
  case round =>
    obtain ⟨_, rfl, hB⟩ := hrel
    go_wp2
    go_ret
    exact ⟨rfl, hB⟩

set_option maxRecDepth 100000 in
set_option maxHeartbeats 8000000 in
theorem firstFault_flat {W : World} {v : Value} {rs : List Rec} (h : HasR W v rs) (ts sz : Rec → Nat) (body : Rec → List Int) (hk : ∀ r ∈ rs, RecOk r (ts r) (sz r) (body r)) :
    Calls Tryd.prog 29 #[v] W fun e W' => e = .returned (.int .i64 0) ∧ Below W.heap.size W W' := by
  obtain ⟨a, c, rfl, hm, h3⟩ := h
  have H3 := hide h3
  have Hk := hide hk
  clear h3 hk
  go_enter Tryd.func29, Tryd.ntmps29
  go_wp2_with fail
  refine (acts_any W).mono ?_
  rintro e w1 ⟨rfl, hb1⟩
  obtain ⟨A, hA, hTab⟩ : ∃ A, actCells.toArray = A ∧ Tab A := ⟨_, rfl, tab_any⟩
  rw [hA]
  clear hA
  have hth := there_new w1 hTab
  have hif := hTab.info
  have hone := hTab.one
  go_wp2_with (refine wpList_store_mid rfl 109 (.tmp 3) (.tmp 8) rfl w1.heap.size 0 A rfl rfl hth hif hone ?_)
  have hT := hasT_new w1 hTab
  have hB0 := below_setCells hb1.size A.toList 0 _ (hb1.alloc hb1.size (.cells #[.nilFunc, .nilFunc, .nilFunc, .nilFunc, .nilFunc, .nilFunc, .nilFunc, .nilFunc, .nilFunc, .nilFunc, .nilFunc, .nilFunc, .nilFunc, .nilFunc, .nilFunc, .nilFunc, .nilFunc, .nilFunc, .nilFunc, .nilFunc, .nilFunc, .nilFunc, .nilFunc, .nilFunc] 109))
  generalize (w1.alloc (.cells #[.nilFunc, .nilFunc, .nilFunc, .nilFunc, .nilFunc, .nilFunc, .nilFunc, .nilFunc, .nilFunc, .nilFunc, .nilFunc, .nilFunc, .nilFunc, .nilFunc, .nilFunc, .nilFunc, .nilFunc, .nilFunc, .nilFunc, .nilFunc, .nilFunc, .nilFunc, .nilFunc, .nilFunc] 109)).setCells w1.heap.size 0 A.toList = X at *
  have hX := hb1.size
  go_loopg [11] rs.length (fun gk v11 wr => ∃ (i : Nat), v11 = .int .i64 (i : Int) ∧ gk = rs.length - i ∧ i ≤ rs.length ∧ HasT wr w1.heap.size ∧ Below W.heap.size W wr)
  case atStart => exact ⟨0, rfl, rfl, Nat.zero_le _, hT, hB0⟩
  case round =>
    clear hB0 hT
    obtain ⟨i, rfl, hgk, hin, hT, hB⟩ := hrel
    have Hgk := hide hgk
    clear hgk
    by_cases hlt : i < rs.length
    · obtain ⟨g, off, rfl, hg, hc⟩ := unhide H3 (by omega)
      obtain ⟨r, hr⟩ : ∃ r, rs[i]? = some r := ⟨_, List.getElem?_eq_getElem hlt⟩
      obtain ⟨q0, q1, q2, q3, q4⟩ := hc i r hr
      have hR := unhide Hk r (List.mem_of_getElem? hr)
      have d0 := (hB.cell (p := ⟨g, off + i * 5, none⟩) hg).trans q0
      have d1 := (hB.cell (p := ⟨g, off + i * 5 + 1, none⟩) hg).trans q1
      have d2 := (hB.cell (p := ⟨g, off + i * 5 + 2, none⟩) hg).trans q2
      have d3 := (hB.cell (p := ⟨g, off + i * 5 + 3, none⟩) hg).trans q3
      have d4 := (hB.cell (p := ⟨g, off + i * 5 + 4, none⟩) hg).trans q4
      have hi0 : (0 : Int) ≤ (i : Int) := Int.natCast_nonneg _
      have hi1 : (i : Int) < (rs.length : Int) := by omega
      have htb := (Array.getElem?_eq_some_iff.1 hT).1
      have HT := hide hT
      have HR := hide hR
      have Hr := hide hr
      have hnum := hR.number
      clear q0 q1 q2 q3 q4 hc hR hr
      have hkk : r.kind = 0 ∨ r.kind = 1 ∨ r.kind = 2 ∨ r.kind = 5 := by have := (unhide HR).kind; omega
      obtain ⟨number, kind, num, text, ia, ic⟩ := r
      simp only at d0 d1 d2 d3 d4 hkk hnum
      rcases hkk with rfl | rfl | rfl | rfl
      · have ht1 := (hT.cell 0).trans (show actCells[0]? = some (.func (.func 66) #[] #[]) from rfl)
        clear hT
        have d1' : wr.cell? ⟨g, off + i * 5 + 1, none⟩ = some (.int .i64 0) := d1
        clear d1
        go_wp2_with fail
        have hV : Below wr.heap.size wr (wr.alloc (.cells #[.int .i64 (number : Int), .int .i64 0, .int .i64 num, .string text, .slice ia 0 ic] 55)) := (Below.refl _ _).alloc (Nat.le_refl _) _
        have hbx := heap_alloc_new wr (.cells #[.int .i64 (number : Int), .int .i64 0, .int .i64 num, .string text, .slice ia 0 ic] 55)
        have hVs : (wr.alloc (.cells #[.int .i64 (number : Int), .int .i64 0, .int .i64 num, .string text, .slice ia 0 ic] 55)).heap.size = wr.heap.size + 1 := World.size_alloc _ _
        generalize wr.alloc (.cells #[.int .i64 (number : Int), .int .i64 0, .int .i64 num, .string text, .slice ia 0 ic] 55) = V at *
        have x0 := cell_of_row V wr.heap.size 0 _ _ _ hbx
        have x1 := cell_of_row V wr.heap.size 1 _ _ _ hbx
        have x2 := cell_of_row V wr.heap.size 2 _ _ _ hbx
        have x3 := cell_of_row V wr.heap.size 3 _ _ _ hbx
        have x4 := cell_of_row V wr.heap.size 4 _ _ _ hbx
        simp at x0 x1 x2 x3 x4
        have xt := (hV.cell (p := ⟨w1.heap.size, 0, none⟩) htb).trans ht1
        clear d0 d1' d2 d3 d4
        refine (tag_any V (number : Int) 0).mono ?_
        rintro e w' ⟨rfl, he⟩
        obtain rfl : V = w' := he.symm
        rw [if_neg (by omega), if_neg (by omega)]
        go_wp2_with fail
        have HS : Hid (∀ w', Below V.heap.size V w' → (w'.cell? ⟨wr.heap.size, 0, none⟩ = some (.int .i64 (number : Int)) ∧ w'.cell? ⟨wr.heap.size, 1, none⟩ = some (.int .i64 0) ∧ w'.cell? ⟨wr.heap.size, 2, none⟩ = some (.int .i64 num) ∧ w'.cell? ⟨wr.heap.size, 3, none⟩ = some (.string text) ∧ w'.cell? ⟨wr.heap.size, 4, none⟩ = some (.slice ia 0 ic) ∧ w'.cell? ⟨w1.heap.size, 0, none⟩ = some (.func (.func 66) #[] #[])) ∧ Below V.heap.size V w') := fun w' h => ⟨⟨(h.cell (p := ⟨wr.heap.size, 0, none⟩) (by simp; omega)).trans x0, (h.cell (p := ⟨wr.heap.size, 1, none⟩) (by simp; omega)).trans x1, (h.cell (p := ⟨wr.heap.size, 2, none⟩) (by simp; omega)).trans x2, (h.cell (p := ⟨wr.heap.size, 3, none⟩) (by simp; omega)).trans x3, (h.cell (p := ⟨wr.heap.size, 4, none⟩) (by simp; omega)).trans x4, (h.cell (p := ⟨w1.heap.size, 0, none⟩) (by simp; omega)).trans xt⟩, h⟩
        go_region_held3 (fun w' => (w'.cell? ⟨wr.heap.size, 0, none⟩ = some (.int .i64 (number : Int)) ∧ w'.cell? ⟨wr.heap.size, 1, none⟩ = some (.int .i64 0) ∧ w'.cell? ⟨wr.heap.size, 2, none⟩ = some (.int .i64 num) ∧ w'.cell? ⟨wr.heap.size, 3, none⟩ = some (.string text) ∧ w'.cell? ⟨wr.heap.size, 4, none⟩ = some (.slice ia 0 ic) ∧ w'.cell? ⟨w1.heap.size, 0, none⟩ = some (.func (.func 66) #[] #[])) ∧ Below V.heap.size V w')
          ((refine unhide HS _ ?_; first | exact (Below.refl _ _).drew | exact hB2 | exact Below.refl _ _))
          (first
            | (go_at_call 66; refine ((unhide HR).right _).mono ?_; rintro o W2 ⟨rfl, hb2⟩; have hB2 : Below V.heap.size V W2 := ((Below.refl _ V).drew).trans hb2))
        have y4 := (hB2.cell (p := ⟨wr.heap.size, 4, none⟩) (by simp; omega)).trans x4
        go_wp2_with fail
        refine (firstFault_nil W2 ia ic).mono ?_
        rintro e W3 ⟨rfl, hb3⟩
        have hB3 := hB2.trans (hb3.mono hB2.size)
        go_wp2
        go_roundg (rs.length - (i + 1))
        case measure => have := unhide Hgk; omega
        case rel => exact ⟨i + 1, by go_num, rfl, by omega, hasT_up (unhide HT) hV hB3, (hB.trans (hV.mono hB.size)).trans (hB3.mono (by have := hB.size; omega))⟩
      · have ht1 := (hT.cell 4).trans (show actCells[4]? = some (.func (.func 72) #[] #[]) from rfl)
        clear hT
        have d1' : wr.cell? ⟨g, off + i * 5 + 1, none⟩ = some (.int .i64 1) := d1
        clear d1
        go_wp2_with fail
        have hV : Below wr.heap.size wr (wr.alloc (.cells #[.int .i64 (number : Int), .int .i64 1, .int .i64 num, .string text, .slice ia 0 ic] 55)) := (Below.refl _ _).alloc (Nat.le_refl _) _
        have hbx := heap_alloc_new wr (.cells #[.int .i64 (number : Int), .int .i64 1, .int .i64 num, .string text, .slice ia 0 ic] 55)
        have hVs : (wr.alloc (.cells #[.int .i64 (number : Int), .int .i64 1, .int .i64 num, .string text, .slice ia 0 ic] 55)).heap.size = wr.heap.size + 1 := World.size_alloc _ _
        generalize wr.alloc (.cells #[.int .i64 (number : Int), .int .i64 1, .int .i64 num, .string text, .slice ia 0 ic] 55) = V at *
        have x0 := cell_of_row V wr.heap.size 0 _ _ _ hbx
        have x1 := cell_of_row V wr.heap.size 1 _ _ _ hbx
        have x2 := cell_of_row V wr.heap.size 2 _ _ _ hbx
        have x3 := cell_of_row V wr.heap.size 3 _ _ _ hbx
        have x4 := cell_of_row V wr.heap.size 4 _ _ _ hbx
        simp at x0 x1 x2 x3 x4
        have xt := (hV.cell (p := ⟨w1.heap.size, 4, none⟩) htb).trans ht1
        clear d0 d1' d2 d3 d4
        refine (tag_any V (number : Int) 1).mono ?_
        rintro e w' ⟨rfl, he⟩
        obtain rfl : V = w' := he.symm
        rw [if_neg (by omega), if_neg (by omega)]
        go_wp2_with fail
        have HS : Hid (∀ w', Below V.heap.size V w' → (w'.cell? ⟨wr.heap.size, 0, none⟩ = some (.int .i64 (number : Int)) ∧ w'.cell? ⟨wr.heap.size, 1, none⟩ = some (.int .i64 1) ∧ w'.cell? ⟨wr.heap.size, 2, none⟩ = some (.int .i64 num) ∧ w'.cell? ⟨wr.heap.size, 3, none⟩ = some (.string text) ∧ w'.cell? ⟨wr.heap.size, 4, none⟩ = some (.slice ia 0 ic) ∧ w'.cell? ⟨w1.heap.size, 4, none⟩ = some (.func (.func 72) #[] #[])) ∧ Below V.heap.size V w') := fun w' h => ⟨⟨(h.cell (p := ⟨wr.heap.size, 0, none⟩) (by simp; omega)).trans x0, (h.cell (p := ⟨wr.heap.size, 1, none⟩) (by simp; omega)).trans x1, (h.cell (p := ⟨wr.heap.size, 2, none⟩) (by simp; omega)).trans x2, (h.cell (p := ⟨wr.heap.size, 3, none⟩) (by simp; omega)).trans x3, (h.cell (p := ⟨wr.heap.size, 4, none⟩) (by simp; omega)).trans x4, (h.cell (p := ⟨w1.heap.size, 4, none⟩) (by simp; omega)).trans xt⟩, h⟩
        go_region_held3 (fun w' => (w'.cell? ⟨wr.heap.size, 0, none⟩ = some (.int .i64 (number : Int)) ∧ w'.cell? ⟨wr.heap.size, 1, none⟩ = some (.int .i64 1) ∧ w'.cell? ⟨wr.heap.size, 2, none⟩ = some (.int .i64 num) ∧ w'.cell? ⟨wr.heap.size, 3, none⟩ = some (.string text) ∧ w'.cell? ⟨wr.heap.size, 4, none⟩ = some (.slice ia 0 ic) ∧ w'.cell? ⟨w1.heap.size, 4, none⟩ = some (.func (.func 72) #[] #[])) ∧ Below V.heap.size V w')
          ((refine unhide HS _ ?_; first | exact (Below.refl _ _).drew | exact hB2 | exact Below.refl _ _))
          (first
            | (go_at_call 72; refine ((unhide HR).right _).mono ?_; rintro o W2 ⟨rfl, hb2⟩; have hB2 : Below V.heap.size V W2 := ((Below.refl _ V).drew).trans hb2))
        have y4 := (hB2.cell (p := ⟨wr.heap.size, 4, none⟩) (by simp; omega)).trans x4
        go_wp2_with fail
        refine (firstFault_nil W2 ia ic).mono ?_
        rintro e W3 ⟨rfl, hb3⟩
        have hB3 := hB2.trans (hb3.mono hB2.size)
        go_wp2
        go_roundg (rs.length - (i + 1))
        case measure => have := unhide Hgk; omega
        case rel => exact ⟨i + 1, by go_num, rfl, by omega, hasT_up (unhide HT) hV hB3, (hB.trans (hV.mono hB.size)).trans (hB3.mono (by have := hB.size; omega))⟩
      · have ht1 := (hT.cell 8).trans (show actCells[8]? = some (.func (.func 76) #[] #[]) from rfl)
        clear hT
        have d1' : wr.cell? ⟨g, off + i * 5 + 1, none⟩ = some (.int .i64 2) := d1
        clear d1
        go_wp2_with fail
        have hV : Below wr.heap.size wr (wr.alloc (.cells #[.int .i64 (number : Int), .int .i64 2, .int .i64 num, .string text, .slice ia 0 ic] 55)) := (Below.refl _ _).alloc (Nat.le_refl _) _
        have hbx := heap_alloc_new wr (.cells #[.int .i64 (number : Int), .int .i64 2, .int .i64 num, .string text, .slice ia 0 ic] 55)
        have hVs : (wr.alloc (.cells #[.int .i64 (number : Int), .int .i64 2, .int .i64 num, .string text, .slice ia 0 ic] 55)).heap.size = wr.heap.size + 1 := World.size_alloc _ _
        generalize wr.alloc (.cells #[.int .i64 (number : Int), .int .i64 2, .int .i64 num, .string text, .slice ia 0 ic] 55) = V at *
        have x0 := cell_of_row V wr.heap.size 0 _ _ _ hbx
        have x1 := cell_of_row V wr.heap.size 1 _ _ _ hbx
        have x2 := cell_of_row V wr.heap.size 2 _ _ _ hbx
        have x3 := cell_of_row V wr.heap.size 3 _ _ _ hbx
        have x4 := cell_of_row V wr.heap.size 4 _ _ _ hbx
        simp at x0 x1 x2 x3 x4
        have xt := (hV.cell (p := ⟨w1.heap.size, 8, none⟩) htb).trans ht1
        clear d0 d1' d2 d3 d4
        refine (tag_any V (number : Int) 2).mono ?_
        rintro e w' ⟨rfl, he⟩
        obtain rfl : V = w' := he.symm
        rw [if_neg (by omega), if_neg (by omega)]
        go_wp2_with fail
        have HS : Hid (∀ w', Below V.heap.size V w' → (w'.cell? ⟨wr.heap.size, 0, none⟩ = some (.int .i64 (number : Int)) ∧ w'.cell? ⟨wr.heap.size, 1, none⟩ = some (.int .i64 2) ∧ w'.cell? ⟨wr.heap.size, 2, none⟩ = some (.int .i64 num) ∧ w'.cell? ⟨wr.heap.size, 3, none⟩ = some (.string text) ∧ w'.cell? ⟨wr.heap.size, 4, none⟩ = some (.slice ia 0 ic) ∧ w'.cell? ⟨w1.heap.size, 8, none⟩ = some (.func (.func 76) #[] #[])) ∧ Below V.heap.size V w') := fun w' h => ⟨⟨(h.cell (p := ⟨wr.heap.size, 0, none⟩) (by simp; omega)).trans x0, (h.cell (p := ⟨wr.heap.size, 1, none⟩) (by simp; omega)).trans x1, (h.cell (p := ⟨wr.heap.size, 2, none⟩) (by simp; omega)).trans x2, (h.cell (p := ⟨wr.heap.size, 3, none⟩) (by simp; omega)).trans x3, (h.cell (p := ⟨wr.heap.size, 4, none⟩) (by simp; omega)).trans x4, (h.cell (p := ⟨w1.heap.size, 8, none⟩) (by simp; omega)).trans xt⟩, h⟩
        go_region_held3 (fun w' => (w'.cell? ⟨wr.heap.size, 0, none⟩ = some (.int .i64 (number : Int)) ∧ w'.cell? ⟨wr.heap.size, 1, none⟩ = some (.int .i64 2) ∧ w'.cell? ⟨wr.heap.size, 2, none⟩ = some (.int .i64 num) ∧ w'.cell? ⟨wr.heap.size, 3, none⟩ = some (.string text) ∧ w'.cell? ⟨wr.heap.size, 4, none⟩ = some (.slice ia 0 ic) ∧ w'.cell? ⟨w1.heap.size, 8, none⟩ = some (.func (.func 76) #[] #[])) ∧ Below V.heap.size V w')
          ((refine unhide HS _ ?_; first | exact (Below.refl _ _).drew | exact hB2 | exact Below.refl _ _))
          (first
            | (go_at_call 76; refine ((unhide HR).right _).mono ?_; rintro o W2 ⟨rfl, hb2⟩; have hB2 : Below V.heap.size V W2 := ((Below.refl _ V).drew).trans hb2))
        have y4 := (hB2.cell (p := ⟨wr.heap.size, 4, none⟩) (by simp; omega)).trans x4
        go_wp2_with fail
        refine (firstFault_nil W2 ia ic).mono ?_
        rintro e W3 ⟨rfl, hb3⟩
        have hB3 := hB2.trans (hb3.mono hB2.size)
        go_wp2
        go_roundg (rs.length - (i + 1))
        case measure => have := unhide Hgk; omega
        case rel => exact ⟨i + 1, by go_num, rfl, by omega, hasT_up (unhide HT) hV hB3, (hB.trans (hV.mono hB.size)).trans (hB3.mono (by have := hB.size; omega))⟩
      · have ht1 := (hT.cell 20).trans (show actCells[20]? = some (.func (.func 87) #[] #[]) from rfl)
        clear hT
        have d1' : wr.cell? ⟨g, off + i * 5 + 1, none⟩ = some (.int .i64 5) := d1
        clear d1
        go_wp2_with fail
        have hV : Below wr.heap.size wr (wr.alloc (.cells #[.int .i64 (number : Int), .int .i64 5, .int .i64 num, .string text, .slice ia 0 ic] 55)) := (Below.refl _ _).alloc (Nat.le_refl _) _
        have hbx := heap_alloc_new wr (.cells #[.int .i64 (number : Int), .int .i64 5, .int .i64 num, .string text, .slice ia 0 ic] 55)
        have hVs : (wr.alloc (.cells #[.int .i64 (number : Int), .int .i64 5, .int .i64 num, .string text, .slice ia 0 ic] 55)).heap.size = wr.heap.size + 1 := World.size_alloc _ _
        generalize wr.alloc (.cells #[.int .i64 (number : Int), .int .i64 5, .int .i64 num, .string text, .slice ia 0 ic] 55) = V at *
        have x0 := cell_of_row V wr.heap.size 0 _ _ _ hbx
        have x1 := cell_of_row V wr.heap.size 1 _ _ _ hbx
        have x2 := cell_of_row V wr.heap.size 2 _ _ _ hbx
        have x3 := cell_of_row V wr.heap.size 3 _ _ _ hbx
        have x4 := cell_of_row V wr.heap.size 4 _ _ _ hbx
        simp at x0 x1 x2 x3 x4
        have xt := (hV.cell (p := ⟨w1.heap.size, 20, none⟩) htb).trans ht1
        clear d0 d1' d2 d3 d4
        refine (tag_any V (number : Int) 5).mono ?_
        rintro e w' ⟨rfl, he⟩
        obtain rfl : V = w' := he.symm
        rw [if_neg (by omega), if_neg (by omega)]
        go_wp2_with fail
        have HS : Hid (∀ w', Below V.heap.size V w' → (w'.cell? ⟨wr.heap.size, 0, none⟩ = some (.int .i64 (number : Int)) ∧ w'.cell? ⟨wr.heap.size, 1, none⟩ = some (.int .i64 5) ∧ w'.cell? ⟨wr.heap.size, 2, none⟩ = some (.int .i64 num) ∧ w'.cell? ⟨wr.heap.size, 3, none⟩ = some (.string text) ∧ w'.cell? ⟨wr.heap.size, 4, none⟩ = some (.slice ia 0 ic) ∧ w'.cell? ⟨w1.heap.size, 20, none⟩ = some (.func (.func 87) #[] #[])) ∧ Below V.heap.size V w') := fun w' h => ⟨⟨(h.cell (p := ⟨wr.heap.size, 0, none⟩) (by simp; omega)).trans x0, (h.cell (p := ⟨wr.heap.size, 1, none⟩) (by simp; omega)).trans x1, (h.cell (p := ⟨wr.heap.size, 2, none⟩) (by simp; omega)).trans x2, (h.cell (p := ⟨wr.heap.size, 3, none⟩) (by simp; omega)).trans x3, (h.cell (p := ⟨wr.heap.size, 4, none⟩) (by simp; omega)).trans x4, (h.cell (p := ⟨w1.heap.size, 20, none⟩) (by simp; omega)).trans xt⟩, h⟩
        go_region_held3 (fun w' => (w'.cell? ⟨wr.heap.size, 0, none⟩ = some (.int .i64 (number : Int)) ∧ w'.cell? ⟨wr.heap.size, 1, none⟩ = some (.int .i64 5) ∧ w'.cell? ⟨wr.heap.size, 2, none⟩ = some (.int .i64 num) ∧ w'.cell? ⟨wr.heap.size, 3, none⟩ = some (.string text) ∧ w'.cell? ⟨wr.heap.size, 4, none⟩ = some (.slice ia 0 ic) ∧ w'.cell? ⟨w1.heap.size, 20, none⟩ = some (.func (.func 87) #[] #[])) ∧ Below V.heap.size V w')
          ((refine unhide HS _ ?_; first | exact (Below.refl _ _).drew | exact hB2 | exact Below.refl _ _))
          (first
            | (go_at_call 87; refine ((unhide HR).right _).mono ?_; rintro o W2 ⟨rfl, hb2⟩; have hB2 : Below V.heap.size V W2 := ((Below.refl _ V).drew).trans hb2))
        have y4 := (hB2.cell (p := ⟨wr.heap.size, 4, none⟩) (by simp; omega)).trans x4
        go_wp2_with fail
        refine (firstFault_nil W2 ia ic).mono ?_
        rintro e W3 ⟨rfl, hb3⟩
        have hB3 := hB2.trans (hb3.mono hB2.size)
        go_wp2
        go_roundg (rs.length - (i + 1))
        case measure => have := unhide Hgk; omega
        case rel => exact ⟨i + 1, by go_num, rfl, by omega, hasT_up (unhide HT) hV hB3, (hB.trans (hV.mono hB.size)).trans (hB3.mono (by have := hB.size; omega))⟩
    · obtain rfl : i = rs.length := by omega
      go_wp2
      go_ret
      exact ⟨rfl, hB⟩
end Go.Proofs.YtgbadnbhgpnppaaDoor
namespace Go.Proofs.YtgbadnbhgpnppaaDoor
open Go.RowKit
attribute [local go_sem ↓] Go.wp_at_zero Go.wp_at_succ

/-- The bytes of records. -/
def joined (body : Rec → List Int) (rs : List Rec) : List Int := rs.flatMap fun r => vint (8 * r.number + r.kind) ++ body r
theorem joined_take {body : Rec → List Int} {rs : List Rec} {i : Nat} {r : Rec} (h : rs[i]? = some r) : joined body (rs.take (i + 1)) = joined body (rs.take i) ++ vint (8 * r.number + r.kind) ++ body r := by
  unfold joined
  rw [List.take_add_one, h]
  simp
theorem joined_len {body : Rec → List Int} {rs : List Rec} {i : Nat} : (joined body (rs.take i)).length ≤ (joined body rs).length := by
  have e : rs = rs.take i ++ rs.drop i := (List.take_append_drop _ _).symm
  conv => rhs; rw [e]
  unfold joined
  rw [List.flatMap_append, List.length_append]
  omega
def Far (V : World) (v : Value) (w : World) : Prop := ∀ b, b < V.heap.size → some b ≠ v.ownBlock → w.heap[b]? = V.heap[b]?
theorem Far.cell {V w : World} {v : Value} (h : Far V v w) {p : Addr} (hp : p.block < V.heap.size) (hn : some p.block ≠ v.ownBlock) : w.cell? p = V.cell? p := World.cell?_of_block (h p.block hp hn)
theorem Bytes.lt {base : Nat} {W : World} {v : Value} {bs : List Int} (h : Bytes base W v bs) (b : Nat) (e : v.ownBlock = some b) : base ≤ b ∧ b < W.heap.size := World.ownsRow.lt h b e
theorem Bytes.alloc {base : Nat} {W : World} {v : Value} {bs : List Int} (h : Bytes base W v bs) (o : Obj) : Bytes base (W.alloc o) v bs := World.ownsRow.alloc h o
theorem Bytes.same {base : Nat} {W W' : World} {v : Value} {bs : List Int} (h : Bytes base W v bs) (hs : ∀ b, v.ownBlock = some b → W'.heap[b]? = W.heap[b]?) : Bytes base W' v bs := by
  obtain ⟨h1, h2 | ⟨g, c, cur, rfl, h2, h3, h4⟩⟩ := h
  · exact ⟨h1, .inl h2⟩
  · exact ⟨h1, .inr ⟨g, c, cur, rfl, h2, (hs g rfl).trans h3, h4⟩⟩

set_option maxRecDepth 100000 in
set_option maxHeartbeats 8000000 in
theorem putAll_flat {W : World} {v u : Value} {rs : List Rec} {base : Nat} {bs : List Int} (h : HasR W v rs) (hu : Bytes base W u bs) (hbase : base ≤ W.heap.size) (hfar : 0 < rs.length → ∀ g off c, v = .slice (some ⟨g, off, none⟩) rs.length c → some g ≠ u.ownBlock) (ts sz : Rec → Nat) (body : Rec → List Int) (hk : ∀ r ∈ rs, RecOk r (ts r) (sz r) (body r)) (hlen : bs.length + (joined body rs).length ≤ 1099511627000) :
    Calls Tryd.prog 31 #[u, v] W fun e W' => ∃ u', e = .returned u' ∧ Bytes base W' u' (bs ++ joined body rs) ∧ Ext W u W' u' := by
  obtain ⟨a, c, rfl, hm, h3⟩ := h
  have H3 := hide h3
  have Hk := hide hk
  have Hfar := hide hfar
  clear h3 hk hfar
  go_enter Tryd.func31, Tryd.ntmps31
  go_wp2_with fail
  refine (acts_any W).mono ?_
  rintro e w1 ⟨rfl, hb1⟩
  obtain ⟨A, hA, hTab⟩ : ∃ A, actCells.toArray = A ∧ Tab A := ⟨_, rfl, tab_any⟩
  rw [hA]
  clear hA
  have hth := there_new w1 hTab
  have hif := hTab.info
  have hone := hTab.one
  go_wp2_with (refine wpList_store_mid rfl 109 (.tmp 5) (.tmp 8) rfl w1.heap.size 0 A rfl rfl hth hif hone ?_)
  have hT := hasT_new w1 hTab
  have hB0 := below_setCells hb1.size A.toList 0 _ (hb1.alloc hb1.size (.cells #[.nilFunc, .nilFunc, .nilFunc, .nilFunc, .nilFunc, .nilFunc, .nilFunc, .nilFunc, .nilFunc, .nilFunc, .nilFunc, .nilFunc, .nilFunc, .nilFunc, .nilFunc, .nilFunc, .nilFunc, .nilFunc, .nilFunc, .nilFunc, .nilFunc, .nilFunc, .nilFunc, .nilFunc] 109))
  generalize (w1.alloc (.cells #[.nilFunc, .nilFunc, .nilFunc, .nilFunc, .nilFunc, .nilFunc, .nilFunc, .nilFunc, .nilFunc, .nilFunc, .nilFunc, .nilFunc, .nilFunc, .nilFunc, .nilFunc, .nilFunc, .nilFunc, .nilFunc, .nilFunc, .nilFunc, .nilFunc, .nilFunc, .nilFunc, .nilFunc] 109)).setCells w1.heap.size 0 A.toList = X at *
  have hX := hb1.size
  have hEX : Ext W u X u := Ext.of_below hB0 u
  have huX : Bytes base X u bs := hu.same fun b hb => hB0.block b (hu.lt b hb).2
  have hut : ∀ b, u.ownBlock = some b → b < w1.heap.size := fun b hb => Nat.lt_of_lt_of_le (hu.lt b hb).2 hX
  have htX := (Array.getElem?_eq_some_iff.1 hT).1
  go_loopg [0, 11] rs.length (fun gk v0 v11 wr => ∃ (i : Nat), v11 = .int .i64 (i : Int) ∧ gk = rs.length - i ∧ i ≤ rs.length ∧ Bytes base wr v0 (bs ++ joined body (rs.take i)) ∧ Ext X u wr v0)
  case atStart => exact ⟨0, rfl, rfl, Nat.zero_le _, by simpa [joined] using huX, Ext.refl _ _⟩
  case round =>
    obtain ⟨i, rfl, hgk, hin, hBy, hE⟩ := hrel
    have Hgk := hide hgk
    clear hgk
    by_cases hlt : i < rs.length
    · obtain ⟨g, off, rfl, hg, hc⟩ := unhide H3 (by omega)
      obtain ⟨r, hr⟩ : ∃ r, rs[i]? = some r := ⟨_, List.getElem?_eq_getElem hlt⟩
      have hgX : g < X.heap.size := by have := hB0.size; omega
      have hgu : some g ≠ u.ownBlock := unhide Hfar (by omega) g off c rfl
      have hFX : Far X u wr := hE.far
      have hjt := joined_take (body := body) hr
      have hjl := joined_len (body := body) (rs := rs) (i := i)
      have hjl2 := joined_len (body := body) (rs := rs) (i := i + 1)
      rw [hjt, List.length_append, List.length_append] at hjl2
      have Hjt := hide hjt
      clear hjt
      obtain ⟨q0, q1, q2, q3, q4⟩ := hc i r hr
      have hR := unhide Hk r (List.mem_of_getElem? hr)
      have d0 := ((hFX.cell (p := ⟨g, off + i * 5, none⟩) hgX hgu).trans (hB0.cell (p := ⟨g, off + i * 5, none⟩) hg)).trans q0
      have d1 := ((hFX.cell (p := ⟨g, off + i * 5 + 1, none⟩) hgX hgu).trans (hB0.cell (p := ⟨g, off + i * 5 + 1, none⟩) hg)).trans q1
      have d2 := ((hFX.cell (p := ⟨g, off + i * 5 + 2, none⟩) hgX hgu).trans (hB0.cell (p := ⟨g, off + i * 5 + 2, none⟩) hg)).trans q2
      have d3 := ((hFX.cell (p := ⟨g, off + i * 5 + 3, none⟩) hgX hgu).trans (hB0.cell (p := ⟨g, off + i * 5 + 3, none⟩) hg)).trans q3
      have d4 := ((hFX.cell (p := ⟨g, off + i * 5 + 4, none⟩) hgX hgu).trans (hB0.cell (p := ⟨g, off + i * 5 + 4, none⟩) hg)).trans q4
      have hi0 : (0 : Int) ≤ (i : Int) := Int.natCast_nonneg _
      have hi1 : (i : Int) < (rs.length : Int) := by omega
      have hTr : HasT wr w1.heap.size := (hFX w1.heap.size htX (fun e => by have := hut _ e.symm; omega)).trans hT
      have htb := (Array.getElem?_eq_some_iff.1 hTr).1
      have htn : some w1.heap.size ≠ u0.ownBlock := fun e => by
        rcases hE.own with o | ⟨g', o, hg'⟩
        · have := hut _ (o.symm.trans e.symm); omega
        · rw [o] at e
          have : w1.heap.size = g' := by simpa using e
          omega
      have HR := hide hR
      have hnum := hR.number
      have hsm := hE.size
      have hXs := hB0.size
      clear q0 q1 q2 q3 q4 hc hR hr
      have hkk : r.kind = 0 ∨ r.kind = 1 ∨ r.kind = 2 ∨ r.kind = 5 := by have := (unhide HR).kind; omega
      obtain ⟨number, kind, num, text, ia, ic⟩ := r
      simp only at d0 d1 d2 d3 d4 hkk hnum
      rcases hkk with rfl | rfl | rfl | rfl
      · have ht1 := (hTr.cell 2).trans (show actCells[2]? = some (.func (.func 69) #[] #[]) from rfl)
        clear hTr
        have d1' : wr.cell? ⟨g, off + i * 5 + 1, none⟩ = some (.int .i64 0) := d1
        clear d1
        go_wp2_with fail
        have hV : Below wr.heap.size wr (wr.alloc (.cells #[.int .i64 (number : Int), .int .i64 0, .int .i64 num, .string text, .slice ia 0 ic] 55)) := (Below.refl _ _).alloc (Nat.le_refl _) _
        have hbx := heap_alloc_new wr (.cells #[.int .i64 (number : Int), .int .i64 0, .int .i64 num, .string text, .slice ia 0 ic] 55)
        have hVs : (wr.alloc (.cells #[.int .i64 (number : Int), .int .i64 0, .int .i64 num, .string text, .slice ia 0 ic] 55)).heap.size = wr.heap.size + 1 := World.size_alloc _ _
        generalize wr.alloc (.cells #[.int .i64 (number : Int), .int .i64 0, .int .i64 num, .string text, .slice ia 0 ic] 55) = V at *
        have x0 := cell_of_row V wr.heap.size 0 _ _ _ hbx
        have x1 := cell_of_row V wr.heap.size 1 _ _ _ hbx
        have x2 := cell_of_row V wr.heap.size 2 _ _ _ hbx
        have x3 := cell_of_row V wr.heap.size 3 _ _ _ hbx
        have x4 := cell_of_row V wr.heap.size 4 _ _ _ hbx
        simp at x0 x1 x2 x3 x4
        have xt := (hV.cell (p := ⟨w1.heap.size, 2, none⟩) htb).trans ht1
        clear d0 d1' d2 d3 d4
        have hbn : some wr.heap.size ≠ u0.ownBlock := fun e => by have := (hBy.lt _ e.symm).2; omega
        have hByV : Bytes base V u0 (bs ++ joined body (rs.take i)) := hBy.same fun b hb => hV.block b (hBy.lt b hb).2
        have HS : Hid (∀ w', Far V u0 w' → (w'.cell? ⟨wr.heap.size, 0, none⟩ = some (.int .i64 (number : Int)) ∧ w'.cell? ⟨wr.heap.size, 1, none⟩ = some (.int .i64 0) ∧ w'.cell? ⟨wr.heap.size, 2, none⟩ = some (.int .i64 num) ∧ w'.cell? ⟨wr.heap.size, 3, none⟩ = some (.string text) ∧ w'.cell? ⟨wr.heap.size, 4, none⟩ = some (.slice ia 0 ic) ∧ w'.cell? ⟨w1.heap.size, 2, none⟩ = some (.func (.func 69) #[] #[]))) := fun w' h => ⟨(h.cell (p := ⟨wr.heap.size, 0, none⟩) (by simp; omega) hbn).trans x0, (h.cell (p := ⟨wr.heap.size, 1, none⟩) (by simp; omega) hbn).trans x1, (h.cell (p := ⟨wr.heap.size, 2, none⟩) (by simp; omega) hbn).trans x2, (h.cell (p := ⟨wr.heap.size, 3, none⟩) (by simp; omega) hbn).trans x3, (h.cell (p := ⟨wr.heap.size, 4, none⟩) (by simp; omega) hbn).trans x4, (h.cell (p := ⟨w1.heap.size, 2, none⟩) (by simp; omega) htn).trans xt⟩
        clear x0 x1 x2 x3 x4 xt
        go_region_held3 (fun w' => (w'.cell? ⟨wr.heap.size, 0, none⟩ = some (.int .i64 (number : Int)) ∧ w'.cell? ⟨wr.heap.size, 1, none⟩ = some (.int .i64 0) ∧ w'.cell? ⟨wr.heap.size, 2, none⟩ = some (.int .i64 num) ∧ w'.cell? ⟨wr.heap.size, 3, none⟩ = some (.string text) ∧ w'.cell? ⟨wr.heap.size, 4, none⟩ = some (.slice ia 0 ic) ∧ w'.cell? ⟨w1.heap.size, 2, none⟩ = some (.func (.func 69) #[] #[])))
          ((refine unhide HS _ ?_; first | exact fun _ _ _ => rfl | exact hF2 | exact hF1))
          (first
            | (go_at_call 52; refine (putTag_any (W := V.drew) hByV (by show base ≤ V.heap.size; omega) (by rw [List.length_append]; omega) number 0 hnum.2 (by decide)).mono ?_; rintro o W1 ⟨v1, rfl, hb1', he1⟩; have hF1 : Far V u0 W1 := he1.far; have HE1 := hide he1; have HB1 := hide hb1')
            | (go_at_call 69; refine ((unhide HR).put base W1 v1 _ (unhide HB1) (by have := (unhide HE1).size; simp at this; omega) (by simp only [List.length_append] at hjl2 ⊢; omega)).mono ?_; rintro o W2 ⟨v2, rfl, hb2', he2⟩; have hE2 := (unhide HE1).trans he2; have hF2 : Far V u0 W2 := hE2.far; have HB2 := hide hb2'))
        go_wp2
        go_roundg (rs.length - (i + 1))
        case measure => have := unhide Hgk; omega
        case rel => exact ⟨i + 1, by go_num, rfl, by omega, by rw [unhide Hjt]; simpa [List.append_assoc] using unhide HB2, hE.trans ((Ext.of_below hV u0).trans (⟨hE2.os, hE2.tape, hE2.output, hE2.size, hE2.far, hE2.own⟩ : Ext V u0 W2 v2))⟩
      · have ht1 := (hTr.cell 6).trans (show actCells[6]? = some (.func (.func 74) #[] #[]) from rfl)
        clear hTr
        have d1' : wr.cell? ⟨g, off + i * 5 + 1, none⟩ = some (.int .i64 1) := d1
        clear d1
        go_wp2_with fail
        have hV : Below wr.heap.size wr (wr.alloc (.cells #[.int .i64 (number : Int), .int .i64 1, .int .i64 num, .string text, .slice ia 0 ic] 55)) := (Below.refl _ _).alloc (Nat.le_refl _) _
        have hbx := heap_alloc_new wr (.cells #[.int .i64 (number : Int), .int .i64 1, .int .i64 num, .string text, .slice ia 0 ic] 55)
        have hVs : (wr.alloc (.cells #[.int .i64 (number : Int), .int .i64 1, .int .i64 num, .string text, .slice ia 0 ic] 55)).heap.size = wr.heap.size + 1 := World.size_alloc _ _
        generalize wr.alloc (.cells #[.int .i64 (number : Int), .int .i64 1, .int .i64 num, .string text, .slice ia 0 ic] 55) = V at *
        have x0 := cell_of_row V wr.heap.size 0 _ _ _ hbx
        have x1 := cell_of_row V wr.heap.size 1 _ _ _ hbx
        have x2 := cell_of_row V wr.heap.size 2 _ _ _ hbx
        have x3 := cell_of_row V wr.heap.size 3 _ _ _ hbx
        have x4 := cell_of_row V wr.heap.size 4 _ _ _ hbx
        simp at x0 x1 x2 x3 x4
        have xt := (hV.cell (p := ⟨w1.heap.size, 6, none⟩) htb).trans ht1
        clear d0 d1' d2 d3 d4
        have hbn : some wr.heap.size ≠ u0.ownBlock := fun e => by have := (hBy.lt _ e.symm).2; omega
        have hByV : Bytes base V u0 (bs ++ joined body (rs.take i)) := hBy.same fun b hb => hV.block b (hBy.lt b hb).2
        have HS : Hid (∀ w', Far V u0 w' → (w'.cell? ⟨wr.heap.size, 0, none⟩ = some (.int .i64 (number : Int)) ∧ w'.cell? ⟨wr.heap.size, 1, none⟩ = some (.int .i64 1) ∧ w'.cell? ⟨wr.heap.size, 2, none⟩ = some (.int .i64 num) ∧ w'.cell? ⟨wr.heap.size, 3, none⟩ = some (.string text) ∧ w'.cell? ⟨wr.heap.size, 4, none⟩ = some (.slice ia 0 ic) ∧ w'.cell? ⟨w1.heap.size, 6, none⟩ = some (.func (.func 74) #[] #[]))) := fun w' h => ⟨(h.cell (p := ⟨wr.heap.size, 0, none⟩) (by simp; omega) hbn).trans x0, (h.cell (p := ⟨wr.heap.size, 1, none⟩) (by simp; omega) hbn).trans x1, (h.cell (p := ⟨wr.heap.size, 2, none⟩) (by simp; omega) hbn).trans x2, (h.cell (p := ⟨wr.heap.size, 3, none⟩) (by simp; omega) hbn).trans x3, (h.cell (p := ⟨wr.heap.size, 4, none⟩) (by simp; omega) hbn).trans x4, (h.cell (p := ⟨w1.heap.size, 6, none⟩) (by simp; omega) htn).trans xt⟩
        clear x0 x1 x2 x3 x4 xt
        go_region_held3 (fun w' => (w'.cell? ⟨wr.heap.size, 0, none⟩ = some (.int .i64 (number : Int)) ∧ w'.cell? ⟨wr.heap.size, 1, none⟩ = some (.int .i64 1) ∧ w'.cell? ⟨wr.heap.size, 2, none⟩ = some (.int .i64 num) ∧ w'.cell? ⟨wr.heap.size, 3, none⟩ = some (.string text) ∧ w'.cell? ⟨wr.heap.size, 4, none⟩ = some (.slice ia 0 ic) ∧ w'.cell? ⟨w1.heap.size, 6, none⟩ = some (.func (.func 74) #[] #[])))
          ((refine unhide HS _ ?_; first | exact fun _ _ _ => rfl | exact hF2 | exact hF1))
          (first
            | (go_at_call 52; refine (putTag_any (W := V.drew) hByV (by show base ≤ V.heap.size; omega) (by rw [List.length_append]; omega) number 1 hnum.2 (by decide)).mono ?_; rintro o W1 ⟨v1, rfl, hb1', he1⟩; have hF1 : Far V u0 W1 := he1.far; have HE1 := hide he1; have HB1 := hide hb1')
            | (go_at_call 74; refine ((unhide HR).put base W1 v1 _ (unhide HB1) (by have := (unhide HE1).size; simp at this; omega) (by simp only [List.length_append] at hjl2 ⊢; omega)).mono ?_; rintro o W2 ⟨v2, rfl, hb2', he2⟩; have hE2 := (unhide HE1).trans he2; have hF2 : Far V u0 W2 := hE2.far; have HB2 := hide hb2'))
        go_wp2
        go_roundg (rs.length - (i + 1))
        case measure => have := unhide Hgk; omega
        case rel => exact ⟨i + 1, by go_num, rfl, by omega, by rw [unhide Hjt]; simpa [List.append_assoc] using unhide HB2, hE.trans ((Ext.of_below hV u0).trans (⟨hE2.os, hE2.tape, hE2.output, hE2.size, hE2.far, hE2.own⟩ : Ext V u0 W2 v2))⟩
      · have ht1 := (hTr.cell 10).trans (show actCells[10]? = some (.func (.func 79) #[] #[]) from rfl)
        clear hTr
        have d1' : wr.cell? ⟨g, off + i * 5 + 1, none⟩ = some (.int .i64 2) := d1
        clear d1
        go_wp2_with fail
        have hV : Below wr.heap.size wr (wr.alloc (.cells #[.int .i64 (number : Int), .int .i64 2, .int .i64 num, .string text, .slice ia 0 ic] 55)) := (Below.refl _ _).alloc (Nat.le_refl _) _
        have hbx := heap_alloc_new wr (.cells #[.int .i64 (number : Int), .int .i64 2, .int .i64 num, .string text, .slice ia 0 ic] 55)
        have hVs : (wr.alloc (.cells #[.int .i64 (number : Int), .int .i64 2, .int .i64 num, .string text, .slice ia 0 ic] 55)).heap.size = wr.heap.size + 1 := World.size_alloc _ _
        generalize wr.alloc (.cells #[.int .i64 (number : Int), .int .i64 2, .int .i64 num, .string text, .slice ia 0 ic] 55) = V at *
        have x0 := cell_of_row V wr.heap.size 0 _ _ _ hbx
        have x1 := cell_of_row V wr.heap.size 1 _ _ _ hbx
        have x2 := cell_of_row V wr.heap.size 2 _ _ _ hbx
        have x3 := cell_of_row V wr.heap.size 3 _ _ _ hbx
        have x4 := cell_of_row V wr.heap.size 4 _ _ _ hbx
        simp at x0 x1 x2 x3 x4
        have xt := (hV.cell (p := ⟨w1.heap.size, 10, none⟩) htb).trans ht1
        clear d0 d1' d2 d3 d4
        have hbn : some wr.heap.size ≠ u0.ownBlock := fun e => by have := (hBy.lt _ e.symm).2; omega
        have hByV : Bytes base V u0 (bs ++ joined body (rs.take i)) := hBy.same fun b hb => hV.block b (hBy.lt b hb).2
        have HS : Hid (∀ w', Far V u0 w' → (w'.cell? ⟨wr.heap.size, 0, none⟩ = some (.int .i64 (number : Int)) ∧ w'.cell? ⟨wr.heap.size, 1, none⟩ = some (.int .i64 2) ∧ w'.cell? ⟨wr.heap.size, 2, none⟩ = some (.int .i64 num) ∧ w'.cell? ⟨wr.heap.size, 3, none⟩ = some (.string text) ∧ w'.cell? ⟨wr.heap.size, 4, none⟩ = some (.slice ia 0 ic) ∧ w'.cell? ⟨w1.heap.size, 10, none⟩ = some (.func (.func 79) #[] #[]))) := fun w' h => ⟨(h.cell (p := ⟨wr.heap.size, 0, none⟩) (by simp; omega) hbn).trans x0, (h.cell (p := ⟨wr.heap.size, 1, none⟩) (by simp; omega) hbn).trans x1, (h.cell (p := ⟨wr.heap.size, 2, none⟩) (by simp; omega) hbn).trans x2, (h.cell (p := ⟨wr.heap.size, 3, none⟩) (by simp; omega) hbn).trans x3, (h.cell (p := ⟨wr.heap.size, 4, none⟩) (by simp; omega) hbn).trans x4, (h.cell (p := ⟨w1.heap.size, 10, none⟩) (by simp; omega) htn).trans xt⟩
        clear x0 x1 x2 x3 x4 xt
        go_region_held3 (fun w' => (w'.cell? ⟨wr.heap.size, 0, none⟩ = some (.int .i64 (number : Int)) ∧ w'.cell? ⟨wr.heap.size, 1, none⟩ = some (.int .i64 2) ∧ w'.cell? ⟨wr.heap.size, 2, none⟩ = some (.int .i64 num) ∧ w'.cell? ⟨wr.heap.size, 3, none⟩ = some (.string text) ∧ w'.cell? ⟨wr.heap.size, 4, none⟩ = some (.slice ia 0 ic) ∧ w'.cell? ⟨w1.heap.size, 10, none⟩ = some (.func (.func 79) #[] #[])))
          ((refine unhide HS _ ?_; first | exact fun _ _ _ => rfl | exact hF2 | exact hF1))
          (first
            | (go_at_call 52; refine (putTag_any (W := V.drew) hByV (by show base ≤ V.heap.size; omega) (by rw [List.length_append]; omega) number 2 hnum.2 (by decide)).mono ?_; rintro o W1 ⟨v1, rfl, hb1', he1⟩; have hF1 : Far V u0 W1 := he1.far; have HE1 := hide he1; have HB1 := hide hb1')
            | (go_at_call 79; refine ((unhide HR).put base W1 v1 _ (unhide HB1) (by have := (unhide HE1).size; simp at this; omega) (by simp only [List.length_append] at hjl2 ⊢; omega)).mono ?_; rintro o W2 ⟨v2, rfl, hb2', he2⟩; have hE2 := (unhide HE1).trans he2; have hF2 : Far V u0 W2 := hE2.far; have HB2 := hide hb2'))
        go_wp2
        go_roundg (rs.length - (i + 1))
        case measure => have := unhide Hgk; omega
        case rel => exact ⟨i + 1, by go_num, rfl, by omega, by rw [unhide Hjt]; simpa [List.append_assoc] using unhide HB2, hE.trans ((Ext.of_below hV u0).trans (⟨hE2.os, hE2.tape, hE2.output, hE2.size, hE2.far, hE2.own⟩ : Ext V u0 W2 v2))⟩
      · have ht1 := (hTr.cell 22).trans (show actCells[22]? = some (.func (.func 89) #[] #[]) from rfl)
        clear hTr
        have d1' : wr.cell? ⟨g, off + i * 5 + 1, none⟩ = some (.int .i64 5) := d1
        clear d1
        go_wp2_with fail
        have hV : Below wr.heap.size wr (wr.alloc (.cells #[.int .i64 (number : Int), .int .i64 5, .int .i64 num, .string text, .slice ia 0 ic] 55)) := (Below.refl _ _).alloc (Nat.le_refl _) _
        have hbx := heap_alloc_new wr (.cells #[.int .i64 (number : Int), .int .i64 5, .int .i64 num, .string text, .slice ia 0 ic] 55)
        have hVs : (wr.alloc (.cells #[.int .i64 (number : Int), .int .i64 5, .int .i64 num, .string text, .slice ia 0 ic] 55)).heap.size = wr.heap.size + 1 := World.size_alloc _ _
        generalize wr.alloc (.cells #[.int .i64 (number : Int), .int .i64 5, .int .i64 num, .string text, .slice ia 0 ic] 55) = V at *
        have x0 := cell_of_row V wr.heap.size 0 _ _ _ hbx
        have x1 := cell_of_row V wr.heap.size 1 _ _ _ hbx
        have x2 := cell_of_row V wr.heap.size 2 _ _ _ hbx
        have x3 := cell_of_row V wr.heap.size 3 _ _ _ hbx
        have x4 := cell_of_row V wr.heap.size 4 _ _ _ hbx
        simp at x0 x1 x2 x3 x4
        have xt := (hV.cell (p := ⟨w1.heap.size, 22, none⟩) htb).trans ht1
        clear d0 d1' d2 d3 d4
        have hbn : some wr.heap.size ≠ u0.ownBlock := fun e => by have := (hBy.lt _ e.symm).2; omega
        have hByV : Bytes base V u0 (bs ++ joined body (rs.take i)) := hBy.same fun b hb => hV.block b (hBy.lt b hb).2
        have HS : Hid (∀ w', Far V u0 w' → (w'.cell? ⟨wr.heap.size, 0, none⟩ = some (.int .i64 (number : Int)) ∧ w'.cell? ⟨wr.heap.size, 1, none⟩ = some (.int .i64 5) ∧ w'.cell? ⟨wr.heap.size, 2, none⟩ = some (.int .i64 num) ∧ w'.cell? ⟨wr.heap.size, 3, none⟩ = some (.string text) ∧ w'.cell? ⟨wr.heap.size, 4, none⟩ = some (.slice ia 0 ic) ∧ w'.cell? ⟨w1.heap.size, 22, none⟩ = some (.func (.func 89) #[] #[]))) := fun w' h => ⟨(h.cell (p := ⟨wr.heap.size, 0, none⟩) (by simp; omega) hbn).trans x0, (h.cell (p := ⟨wr.heap.size, 1, none⟩) (by simp; omega) hbn).trans x1, (h.cell (p := ⟨wr.heap.size, 2, none⟩) (by simp; omega) hbn).trans x2, (h.cell (p := ⟨wr.heap.size, 3, none⟩) (by simp; omega) hbn).trans x3, (h.cell (p := ⟨wr.heap.size, 4, none⟩) (by simp; omega) hbn).trans x4, (h.cell (p := ⟨w1.heap.size, 22, none⟩) (by simp; omega) htn).trans xt⟩
        clear x0 x1 x2 x3 x4 xt
        go_region_held3 (fun w' => (w'.cell? ⟨wr.heap.size, 0, none⟩ = some (.int .i64 (number : Int)) ∧ w'.cell? ⟨wr.heap.size, 1, none⟩ = some (.int .i64 5) ∧ w'.cell? ⟨wr.heap.size, 2, none⟩ = some (.int .i64 num) ∧ w'.cell? ⟨wr.heap.size, 3, none⟩ = some (.string text) ∧ w'.cell? ⟨wr.heap.size, 4, none⟩ = some (.slice ia 0 ic) ∧ w'.cell? ⟨w1.heap.size, 22, none⟩ = some (.func (.func 89) #[] #[])))
          ((refine unhide HS _ ?_; first | exact fun _ _ _ => rfl | exact hF2 | exact hF1))
          (first
            | (go_at_call 52; refine (putTag_any (W := V.drew) hByV (by show base ≤ V.heap.size; omega) (by rw [List.length_append]; omega) number 5 hnum.2 (by decide)).mono ?_; rintro o W1 ⟨v1, rfl, hb1', he1⟩; have hF1 : Far V u0 W1 := he1.far; have HE1 := hide he1; have HB1 := hide hb1')
            | (go_at_call 89; refine ((unhide HR).put base W1 v1 _ (unhide HB1) (by have := (unhide HE1).size; simp at this; omega) (by simp only [List.length_append] at hjl2 ⊢; omega)).mono ?_; rintro o W2 ⟨v2, rfl, hb2', he2⟩; have hE2 := (unhide HE1).trans he2; have hF2 : Far V u0 W2 := hE2.far; have HB2 := hide hb2'))
        go_wp2
        go_roundg (rs.length - (i + 1))
        case measure => have := unhide Hgk; omega
        case rel => exact ⟨i + 1, by go_num, rfl, by omega, by rw [unhide Hjt]; simpa [List.append_assoc] using unhide HB2, hE.trans ((Ext.of_below hV u0).trans (⟨hE2.os, hE2.tape, hE2.output, hE2.size, hE2.far, hE2.own⟩ : Ext V u0 W2 v2))⟩
    · obtain rfl : i = rs.length := by omega
      go_wp2
      go_ret
      exact ⟨_, rfl, by simpa using hBy, hEX.trans hE⟩
end Go.Proofs.YtgbadnbhgpnppaaDoor
