import Derived.Test.YtobomdokdajbaaaDoorJ00

namespace Go.Proofs.YtobomdokdajbaaaDoor
open Go.RowKit
attribute [local go_sem ↓] Go.wp_at_zero Go.wp_at_succ

def rightF : Nat → Nat
  | 0 => 71 | 1 => 76 | 2 => 80 | 3 => 84 | _ => 89
def sizeF : Nat → Nat
  | 0 => 72 | 1 => 77 | 2 => 81 | 3 => 85 | _ => 90
def putF : Nat → Nat
  | 0 => 73 | 1 => 78 | 2 => 82 | 3 => 86 | _ => 91
theorem act_cells : ∀ k, k < 6 → k ≠ 4 → actCells[k * 4]? = some (.func (.func (rightF k)) #[] #[]) ∧ actCells[k * 4 + 1]? = some (.func (.func (sizeF k)) #[] #[]) ∧ actCells[k * 4 + 2]? = some (.func (.func (putF k)) #[] #[])
  | 0, _, _ => ⟨rfl, rfl, rfl⟩
  | 1, _, _ => ⟨rfl, rfl, rfl⟩
  | 2, _, _ => ⟨rfl, rfl, rfl⟩
  | 3, _, _ => ⟨rfl, rfl, rfl⟩
  | 4, _, h => absurd rfl h
  | 5, _, _ => ⟨rfl, rfl, rfl⟩
  | _ + 6, h, _ => by omega

/-- What a record's kind does with it. -/
structure RecOk (r : Rec) (ts sz : Nat) (body : List Int) : Prop where
  number : 1 ≤ r.number ∧ r.number ≤ 536870911
  kind : r.kind < 6 ∧ r.kind ≠ 3 ∧ r.kind ≠ 4
  small : ts ≤ 1048576 ∧ sz ≤ 1152921504606846976
  tag : ∀ W : World, Calls Tryd.prog 64 #[.int .i64 (r.number : Int)] W fun e W' => e = .returned (.int .i64 (ts : Int)) ∧ W' = W
  right : ∀ W : World, Calls Tryd.prog (rightF r.kind) #[r.val] W fun e W' => e = .returned (.bool true) ∧ Below W.heap.size W W'
  size : ∀ W : World, Calls Tryd.prog (sizeF r.kind) #[r.val] W fun e W' => e = .returned (.int .i64 (sz : Int)) ∧ Below W.heap.size W W'
  put : ∀ (base : Nat) (W : World) (v : Value) (bs : List Int), Bytes base W v bs → base ≤ W.heap.size → bs.length ≤ 1099511627776 → Calls Tryd.prog (putF r.kind) #[v, r.val] W fun e W' => ∃ v', e = .returned v' ∧ Bytes base W' v' (bs ++ body) ∧ Ext W v W' v'

/-- The table lies there. -/
def HasT (W : World) (tb : Nat) : Prop := W.heap[tb]? = some (.cells actCells.toArray 113 (0, 0))
theorem HasT.cell {W : World} {tb : Nat} (h : HasT W tb) (j : Nat) : W.cell? ⟨tb, j, none⟩ = actCells[j]? := by
  rw [cell_of_row _ _ _ _ _ _ h]
  simp
/-- The table, as a letter. -/
structure Tab (A : Array Value) : Prop where
  eq : A = actCells.toArray
  info : (Tryd.prog.info? 113).map (·.size) = some A.size
  one : A.all (·.oneCell') = true
theorem tab_any : Tab actCells.toArray := ⟨rfl, Tryd.infoActs, actOne⟩
set_option maxRecDepth 100000 in
theorem written_all : written #[.nilFunc, .nilFunc, .nilFunc, .nilFunc, .nilFunc, .nilFunc, .nilFunc, .nilFunc, .nilFunc, .nilFunc, .nilFunc, .nilFunc, .nilFunc, .nilFunc, .nilFunc, .nilFunc, .nilFunc, .nilFunc, .nilFunc, .nilFunc, .nilFunc, .nilFunc, .nilFunc, .nilFunc] 0 actCells = actCells.toArray := by rfl
theorem hasT_new (W : World) {A : Array Value} (h : Tab A) : HasT ((W.alloc (.cells #[.nilFunc, .nilFunc, .nilFunc, .nilFunc, .nilFunc, .nilFunc, .nilFunc, .nilFunc, .nilFunc, .nilFunc, .nilFunc, .nilFunc, .nilFunc, .nilFunc, .nilFunc, .nilFunc, .nilFunc, .nilFunc, .nilFunc, .nilFunc, .nilFunc, .nilFunc, .nilFunc, .nilFunc] 113)).setCells W.heap.size 0 A.toList) W.heap.size := by
  obtain rfl := h.eq
  have := (heap_setCells (t := 113) (g := W.heap.size) actCells 0 _ _ (heap_alloc_new W (.cells #[.nilFunc, .nilFunc, .nilFunc, .nilFunc, .nilFunc, .nilFunc, .nilFunc, .nilFunc, .nilFunc, .nilFunc, .nilFunc, .nilFunc, .nilFunc, .nilFunc, .nilFunc, .nilFunc, .nilFunc, .nilFunc, .nilFunc, .nilFunc, .nilFunc, .nilFunc, .nilFunc, .nilFunc] 113))).1
  rw [written_all] at this
  exact this
theorem there_new (W : World) {A : Array Value} (h : Tab A) : (W.alloc (.cells #[.nilFunc, .nilFunc, .nilFunc, .nilFunc, .nilFunc, .nilFunc, .nilFunc, .nilFunc, .nilFunc, .nilFunc, .nilFunc, .nilFunc, .nilFunc, .nilFunc, .nilFunc, .nilFunc, .nilFunc, .nilFunc, .nilFunc, .nilFunc, .nilFunc, .nilFunc, .nilFunc, .nilFunc] 113)).there W.heap.size 0 A.size := by
  obtain rfl := h.eq
  intro j hj
  have hb := heap_alloc_new W (.cells #[.nilFunc, .nilFunc, .nilFunc, .nilFunc, .nilFunc, .nilFunc, .nilFunc, .nilFunc, .nilFunc, .nilFunc, .nilFunc, .nilFunc, .nilFunc, .nilFunc, .nilFunc, .nilFunc, .nilFunc, .nilFunc, .nilFunc, .nilFunc, .nilFunc, .nilFunc, .nilFunc, .nilFunc] 113)
  refine ⟨?_, frozen_of_row _ _ _ _ _ hb⟩
  rw [Nat.zero_add, cell_of_row _ _ _ _ _ _ hb]
  have hj' : j < 24 := hj
  simp
  omega

theorem sum_step {f : Rec → Nat} {rs : List Rec} {i a b : Nat} (e1 : ((rs.take (i + 1)).map f).sum = ((rs.take i).map f).sum + (a + b)) (e2 : ((rs.take (i + 1)).map f).sum ≤ 1152921504606846976) :
    Value.int .i64 (IntKind.i64.wrap (((List.take i (List.map f rs)).sum : Nat) + IntKind.i64.wrap ((a : Int) + (b : Int)))) = .int .i64 ((((rs.take (i + 1)).map f).sum : Nat) : Int) := by
  rw [← List.map_take]
  refine congrArg (Value.int .i64) ?_
  rw [IntKind.wrap_i64, IntKind.wrap_i64]
  omega
theorem hasT_up {A B C : World} {tb : Nat} (h : HasT A tb) (h1 : Below A.heap.size A B) (h2 : Below B.heap.size B C) : HasT C tb := by
  have htb := (Array.getElem?_eq_some_iff.1 h).1
  exact (h2.block tb (Nat.lt_of_lt_of_le htb h1.size)).trans ((h1.block tb htb).trans h)

set_option maxRecDepth 100000 in
set_option maxHeartbeats 4000000 in
theorem sizeAll_flat {W : World} {v : Value} {rs : List Rec} (h : HasR W v rs) (ts sz : Rec → Nat) (body : Rec → List Int) (hk : ∀ r ∈ rs, RecOk r (ts r) (sz r) (body r)) (hsum : (rs.map fun r => ts r + sz r).sum ≤ 1152921504606846976) :
    Calls Tryd.prog 39 #[v] W fun e W' => e = .returned (.int .i64 (((rs.map fun r => ts r + sz r).sum : Nat) : Int)) ∧ Below W.heap.size W W' := by
  obtain ⟨a, c, rfl, hm, h3⟩ := h
  have H3 := hide h3
  have Hk := hide hk
  clear h3 hk
  go_enter Tryd.func39, Tryd.ntmps39
  go_wp2_with fail
  refine (acts_any W).mono ?_
  rintro e w1 ⟨rfl, hb1⟩
  obtain ⟨A, hA, hTab⟩ : ∃ A, actCells.toArray = A ∧ Tab A := ⟨_, rfl, tab_any⟩
  rw [hA]
  clear hA
  have hth := there_new w1 hTab
  have hif := hTab.info
  have hone := hTab.one
  go_wp2_with (refine wpList_store_mid rfl 113 (.tmp 3) (.tmp 7) rfl w1.heap.size 0 A rfl rfl hth hif hone ?_)
  have hT := hasT_new w1 hTab
  have hB0 := below_setCells hb1.size A.toList 0 _ (hb1.alloc hb1.size (.cells #[.nilFunc, .nilFunc, .nilFunc, .nilFunc, .nilFunc, .nilFunc, .nilFunc, .nilFunc, .nilFunc, .nilFunc, .nilFunc, .nilFunc, .nilFunc, .nilFunc, .nilFunc, .nilFunc, .nilFunc, .nilFunc, .nilFunc, .nilFunc, .nilFunc, .nilFunc, .nilFunc, .nilFunc] 113))
  generalize (w1.alloc (.cells #[.nilFunc, .nilFunc, .nilFunc, .nilFunc, .nilFunc, .nilFunc, .nilFunc, .nilFunc, .nilFunc, .nilFunc, .nilFunc, .nilFunc, .nilFunc, .nilFunc, .nilFunc, .nilFunc, .nilFunc, .nilFunc, .nilFunc, .nilFunc, .nilFunc, .nilFunc, .nilFunc, .nilFunc] 113)).setCells w1.heap.size 0 A.toList = X at *
  have hX := hb1.size
  go_loopg [4, 10] rs.length (fun gk v4 v10 wr => ∃ (i : Nat), v4 = .int .i64 ((((rs.take i).map fun r => ts r + sz r).sum : Nat) : Int) ∧ v10 = .int .i64 (i : Int) ∧ gk = rs.length - i ∧ i ≤ rs.length ∧ HasT wr w1.heap.size ∧ Below W.heap.size W wr)
  case atStart => exact ⟨0, rfl, rfl, rfl, Nat.zero_le _, hT, hB0⟩
  case round =>
    clear hB0 hT
    obtain ⟨i, rfl, rfl, hgk, hin, hT, hB⟩ := hrel
    have Hgk := hide hgk
    clear hgk
    by_cases hlt : i < rs.length
    · obtain ⟨g, off, rfl, hg, hc⟩ := unhide H3 (by omega)
      obtain ⟨r, hr⟩ : ∃ r, rs[i]? = some r := ⟨_, List.getElem?_eq_getElem hlt⟩
      obtain ⟨q0, q1, q2, q3, q4⟩ := hc i r hr
      have hR := unhide Hk r (List.mem_of_getElem? hr)
      have d0 := (hB.cell (p := ⟨g, off + i * 5, none⟩) hg).trans q0
      have d1 := (hB.cell (p := ⟨g, off + i * 5 + 1, none⟩) hg).trans q1
      have d2 := (hB.cell (p := ⟨g, off + i * 5 + 2, none⟩) hg).trans q2
      have d3 := (hB.cell (p := ⟨g, off + i * 5 + 3, none⟩) hg).trans q3
      have d4 := (hB.cell (p := ⟨g, off + i * 5 + 4, none⟩) hg).trans q4
      have hi0 : (0 : Int) ≤ (i : Int) := Int.natCast_nonneg _
      have hi1 : (i : Int) < (rs.length : Int) := by omega
      have k0 : (0 : Int) ≤ (r.kind : Int) := Int.natCast_nonneg _
      have k1 : (r.kind : Int) < 6 := by have := hR.kind; omega
      have hsum' : ((rs.take (i + 1)).map fun r => ts r + sz r).sum = ((rs.take i).map fun r => ts r + sz r).sum + (ts r + sz r) := by
        rw [List.take_add_one, hr]; simp
      have hle : ((rs.take (i + 1)).map fun r => ts r + sz r).sum ≤ 1152921504606846976 := by
        have e : rs = rs.take (i + 1) ++ rs.drop (i + 1) := (List.take_append_drop _ _).symm
        rw [e, List.map_append, List.sum_append] at hsum
        omega
      have htb := (Array.getElem?_eq_some_iff.1 hT).1
      have HT := hide hT
      have HR := hide hR
      have Hsum := hide hsum'
      have Hle := hide hle
      have Hr := hide hr
      clear q0 q1 q2 q3 q4 hc hR hsum' hle hr
      have hkk : r.kind = 0 ∨ r.kind = 1 ∨ r.kind = 2 ∨ r.kind = 5 := by have := (unhide HR).kind; omega
      obtain ⟨number, kind, num, text, ia, ic⟩ := r
      simp only at d0 d1 d2 d3 d4 k0 k1 hkk
      rcases hkk with rfl | rfl | rfl | rfl
      · have ht1 := (hT.cell 1).trans (show actCells[1]? = some (.func (.func 72) #[] #[]) from rfl)
        clear hT
        have d1' : wr.cell? ⟨g, off + i * 5 + 1, none⟩ = some (.int .i64 0) := d1
        clear d1
        go_wp2_with fail
        have hV : Below wr.heap.size wr (wr.alloc (.cells #[.int .i64 (number : Int), .int .i64 0, .int .i64 num, .string text, .slice ia 0 ic] 35)) := (Below.refl _ _).alloc (Nat.le_refl _) _
        have hbx := heap_alloc_new wr (.cells #[.int .i64 (number : Int), .int .i64 0, .int .i64 num, .string text, .slice ia 0 ic] 35)
        have hVs : (wr.alloc (.cells #[.int .i64 (number : Int), .int .i64 0, .int .i64 num, .string text, .slice ia 0 ic] 35)).heap.size = wr.heap.size + 1 := World.size_alloc _ _
        generalize wr.alloc (.cells #[.int .i64 (number : Int), .int .i64 0, .int .i64 num, .string text, .slice ia 0 ic] 35) = V at *
        have x0 := cell_of_row V wr.heap.size 0 _ _ _ hbx
        have x1 := cell_of_row V wr.heap.size 1 _ _ _ hbx
        have x2 := cell_of_row V wr.heap.size 2 _ _ _ hbx
        have x3 := cell_of_row V wr.heap.size 3 _ _ _ hbx
        have x4 := cell_of_row V wr.heap.size 4 _ _ _ hbx
        simp at x0 x1 x2 x3 x4
        have xt := (hV.cell (p := ⟨w1.heap.size, 1, none⟩) htb).trans ht1
        have HS : Hid (∀ w', Below V.heap.size V w' → (w'.cell? ⟨wr.heap.size, 0, none⟩ = some (.int .i64 (number : Int)) ∧ w'.cell? ⟨wr.heap.size, 1, none⟩ = some (.int .i64 0) ∧ w'.cell? ⟨wr.heap.size, 2, none⟩ = some (.int .i64 num) ∧ w'.cell? ⟨wr.heap.size, 3, none⟩ = some (.string text) ∧ w'.cell? ⟨wr.heap.size, 4, none⟩ = some (.slice ia 0 ic) ∧ w'.cell? ⟨w1.heap.size, 1, none⟩ = some (.func (.func 72) #[] #[])) ∧ Below V.heap.size V w') := fun w' h => ⟨⟨(h.cell (p := ⟨wr.heap.size, 0, none⟩) (by simp; omega)).trans x0, (h.cell (p := ⟨wr.heap.size, 1, none⟩) (by simp; omega)).trans x1, (h.cell (p := ⟨wr.heap.size, 2, none⟩) (by simp; omega)).trans x2, (h.cell (p := ⟨wr.heap.size, 3, none⟩) (by simp; omega)).trans x3, (h.cell (p := ⟨wr.heap.size, 4, none⟩) (by simp; omega)).trans x4, (h.cell (p := ⟨w1.heap.size, 1, none⟩) (by simp; omega)).trans xt⟩, h⟩
        clear d0 d1' d2 d3 d4
        go_region_held3 (fun w' => (w'.cell? ⟨wr.heap.size, 0, none⟩ = some (.int .i64 (number : Int)) ∧ w'.cell? ⟨wr.heap.size, 1, none⟩ = some (.int .i64 0) ∧ w'.cell? ⟨wr.heap.size, 2, none⟩ = some (.int .i64 num) ∧ w'.cell? ⟨wr.heap.size, 3, none⟩ = some (.string text) ∧ w'.cell? ⟨wr.heap.size, 4, none⟩ = some (.slice ia 0 ic) ∧ w'.cell? ⟨w1.heap.size, 1, none⟩ = some (.func (.func 72) #[] #[])) ∧ Below V.heap.size V w')
          ((refine unhide HS _ ?_; first | exact (Below.refl _ _).drew | exact hB2 | exact hB1 | exact Below.refl _ _))
          (first
            | (go_at_call 64; refine ((unhide HR).tag _).mono ?_; rintro o W1 ⟨rfl, rfl⟩)
            | (go_at_call 72; refine ((unhide HR).size _).mono ?_; rintro o W2 ⟨rfl, hb2⟩; have hB2 : Below V.heap.size V W2 := ((Below.refl _ V).drew).trans hb2))
        go_wp2
        go_roundg (rs.length - (i + 1))
        case measure => have := unhide Hgk; omega
        case rel =>
          exact ⟨i + 1, sum_step (unhide Hsum) (unhide Hle), by go_num, rfl, by omega, hasT_up (unhide HT) hV hB2, (hB.trans (hV.mono hB.size)).trans (hB2.mono (by have := hB.size; omega))⟩
      · have ht1 := (hT.cell 5).trans (show actCells[5]? = some (.func (.func 77) #[] #[]) from rfl)
        clear hT
        have d1' : wr.cell? ⟨g, off + i * 5 + 1, none⟩ = some (.int .i64 1) := d1
        clear d1
        go_wp2_with fail
        have hV : Below wr.heap.size wr (wr.alloc (.cells #[.int .i64 (number : Int), .int .i64 1, .int .i64 num, .string text, .slice ia 0 ic] 35)) := (Below.refl _ _).alloc (Nat.le_refl _) _
        have hbx := heap_alloc_new wr (.cells #[.int .i64 (number : Int), .int .i64 1, .int .i64 num, .string text, .slice ia 0 ic] 35)
        have hVs : (wr.alloc (.cells #[.int .i64 (number : Int), .int .i64 1, .int .i64 num, .string text, .slice ia 0 ic] 35)).heap.size = wr.heap.size + 1 := World.size_alloc _ _
        generalize wr.alloc (.cells #[.int .i64 (number : Int), .int .i64 1, .int .i64 num, .string text, .slice ia 0 ic] 35) = V at *
        have x0 := cell_of_row V wr.heap.size 0 _ _ _ hbx
        have x1 := cell_of_row V wr.heap.size 1 _ _ _ hbx
        have x2 := cell_of_row V wr.heap.size 2 _ _ _ hbx
        have x3 := cell_of_row V wr.heap.size 3 _ _ _ hbx
        have x4 := cell_of_row V wr.heap.size 4 _ _ _ hbx
        simp at x0 x1 x2 x3 x4
        have xt := (hV.cell (p := ⟨w1.heap.size, 5, none⟩) htb).trans ht1
        have HS : Hid (∀ w', Below V.heap.size V w' → (w'.cell? ⟨wr.heap.size, 0, none⟩ = some (.int .i64 (number : Int)) ∧ w'.cell? ⟨wr.heap.size, 1, none⟩ = some (.int .i64 1) ∧ w'.cell? ⟨wr.heap.size, 2, none⟩ = some (.int .i64 num) ∧ w'.cell? ⟨wr.heap.size, 3, none⟩ = some (.string text) ∧ w'.cell? ⟨wr.heap.size, 4, none⟩ = some (.slice ia 0 ic) ∧ w'.cell? ⟨w1.heap.size, 5, none⟩ = some (.func (.func 77) #[] #[])) ∧ Below V.heap.size V w') := fun w' h => ⟨⟨(h.cell (p := ⟨wr.heap.size, 0, none⟩) (by simp; omega)).trans x0, (h.cell (p := ⟨wr.heap.size, 1, none⟩) (by simp; omega)).trans x1, (h.cell (p := ⟨wr.heap.size, 2, none⟩) (by simp; omega)).trans x2, (h.cell (p := ⟨wr.heap.size, 3, none⟩) (by simp; omega)).trans x3, (h.cell (p := ⟨wr.heap.size, 4, none⟩) (by simp; omega)).trans x4, (h.cell (p := ⟨w1.heap.size, 5, none⟩) (by simp; omega)).trans xt⟩, h⟩
        clear d0 d1' d2 d3 d4
        go_region_held3 (fun w' => (w'.cell? ⟨wr.heap.size, 0, none⟩ = some (.int .i64 (number : Int)) ∧ w'.cell? ⟨wr.heap.size, 1, none⟩ = some (.int .i64 1) ∧ w'.cell? ⟨wr.heap.size, 2, none⟩ = some (.int .i64 num) ∧ w'.cell? ⟨wr.heap.size, 3, none⟩ = some (.string text) ∧ w'.cell? ⟨wr.heap.size, 4, none⟩ = some (.slice ia 0 ic) ∧ w'.cell? ⟨w1.heap.size, 5, none⟩ = some (.func (.func 77) #[] #[])) ∧ Below V.heap.size V w')
          ((refine unhide HS _ ?_; first | exact (Below.refl _ _).drew | exact hB2 | exact hB1 | exact Below.refl _ _))
          (first
            | (go_at_call 64; refine ((unhide HR).tag _).mono ?_; rintro o W1 ⟨rfl, rfl⟩)
            | (go_at_call 77; refine ((unhide HR).size _).mono ?_; rintro o W2 ⟨rfl, hb2⟩; have hB2 : Below V.heap.size V W2 := ((Below.refl _ V).drew).trans hb2))
        go_wp2
        go_roundg (rs.length - (i + 1))
        case measure => have := unhide Hgk; omega
        case rel =>
          exact ⟨i + 1, sum_step (unhide Hsum) (unhide Hle), by go_num, rfl, by omega, hasT_up (unhide HT) hV hB2, (hB.trans (hV.mono hB.size)).trans (hB2.mono (by have := hB.size; omega))⟩
      · have ht1 := (hT.cell 9).trans (show actCells[9]? = some (.func (.func 81) #[] #[]) from rfl)
        clear hT
        have d1' : wr.cell? ⟨g, off + i * 5 + 1, none⟩ = some (.int .i64 2) := d1
        clear d1
        go_wp2_with fail
        have hV : Below wr.heap.size wr (wr.alloc (.cells #[.int .i64 (number : Int), .int .i64 2, .int .i64 num, .string text, .slice ia 0 ic] 35)) := (Below.refl _ _).alloc (Nat.le_refl _) _
        have hbx := heap_alloc_new wr (.cells #[.int .i64 (number : Int), .int .i64 2, .int .i64 num, .string text, .slice ia 0 ic] 35)
        have hVs : (wr.alloc (.cells #[.int .i64 (number : Int), .int .i64 2, .int .i64 num, .string text, .slice ia 0 ic] 35)).heap.size = wr.heap.size + 1 := World.size_alloc _ _
        generalize wr.alloc (.cells #[.int .i64 (number : Int), .int .i64 2, .int .i64 num, .string text, .slice ia 0 ic] 35) = V at *
        have x0 := cell_of_row V wr.heap.size 0 _ _ _ hbx
        have x1 := cell_of_row V wr.heap.size 1 _ _ _ hbx
        have x2 := cell_of_row V wr.heap.size 2 _ _ _ hbx
        have x3 := cell_of_row V wr.heap.size 3 _ _ _ hbx
        have x4 := cell_of_row V wr.heap.size 4 _ _ _ hbx
        simp at x0 x1 x2 x3 x4
        have xt := (hV.cell (p := ⟨w1.heap.size, 9, none⟩) htb).trans ht1
        have HS : Hid (∀ w', Below V.heap.size V w' → (w'.cell? ⟨wr.heap.size, 0, none⟩ = some (.int .i64 (number : Int)) ∧ w'.cell? ⟨wr.heap.size, 1, none⟩ = some (.int .i64 2) ∧ w'.cell? ⟨wr.heap.size, 2, none⟩ = some (.int .i64 num) ∧ w'.cell? ⟨wr.heap.size, 3, none⟩ = some (.string text) ∧ w'.cell? ⟨wr.heap.size, 4, none⟩ = some (.slice ia 0 ic) ∧ w'.cell? ⟨w1.heap.size, 9, none⟩ = some (.func (.func 81) #[] #[])) ∧ Below V.heap.size V w') := fun w' h => ⟨⟨(h.cell (p := ⟨wr.heap.size, 0, none⟩) (by simp; omega)).trans x0, (h.cell (p := ⟨wr.heap.size, 1, none⟩) (by simp; omega)).trans x1, (h.cell (p := ⟨wr.heap.size, 2, none⟩) (by simp; omega)).trans x2, (h.cell (p := ⟨wr.heap.size, 3, none⟩) (by simp; omega)).trans x3, (h.cell (p := ⟨wr.heap.size, 4, none⟩) (by simp; omega)).trans x4, (h.cell (p := ⟨w1.heap.size, 9, none⟩) (by simp; omega)).trans xt⟩, h⟩
        clear d0 d1' d2 d3 d4
        go_region_held3 (fun w' => (w'.cell? ⟨wr.heap.size, 0, none⟩ = some (.int .i64 (number : Int)) ∧ w'.cell? ⟨wr.heap.size, 1, none⟩ = some (.int .i64 2) ∧ w'.cell? ⟨wr.heap.size, 2, none⟩ = some (.int .i64 num) ∧ w'.cell? ⟨wr.heap.size, 3, none⟩ = some (.string text) ∧ w'.cell? ⟨wr.heap.size, 4, none⟩ = some (.slice ia 0 ic) ∧ w'.cell? ⟨w1.heap.size, 9, none⟩ = some (.func (.func 81) #[] #[])) ∧ Below V.heap.size V w')
          ((refine unhide HS _ ?_; first | exact (Below.refl _ _).drew | exact hB2 | exact hB1 | exact Below.refl _ _))
          (first
            | (go_at_call 64; refine ((unhide HR).tag _).mono ?_; rintro o W1 ⟨rfl, rfl⟩)
            | (go_at_call 81; refine ((unhide HR).size _).mono ?_; rintro o W2 ⟨rfl, hb2⟩; have hB2 : Below V.heap.size V W2 := ((Below.refl _ V).drew).trans hb2))
        go_wp2
        go_roundg (rs.length - (i + 1))
        case measure => have := unhide Hgk; omega
        case rel =>
          exact ⟨i + 1, sum_step (unhide Hsum) (unhide Hle), by go_num, rfl, by omega, hasT_up (unhide HT) hV hB2, (hB.trans (hV.mono hB.size)).trans (hB2.mono (by have := hB.size; omega))⟩
      · have ht1 := (hT.cell 21).trans (show actCells[21]? = some (.func (.func 90) #[] #[]) from rfl)
        clear hT
        have d1' : wr.cell? ⟨g, off + i * 5 + 1, none⟩ = some (.int .i64 5) := d1
        clear d1
        go_wp2_with fail
        have hV : Below wr.heap.size wr (wr.alloc (.cells #[.int .i64 (number : Int), .int .i64 5, .int .i64 num, .string text, .slice ia 0 ic] 35)) := (Below.refl _ _).alloc (Nat.le_refl _) _
        have hbx := heap_alloc_new wr (.cells #[.int .i64 (number : Int), .int .i64 5, .int .i64 num, .string text, .slice ia 0 ic] 35)
        have hVs : (wr.alloc (.cells #[.int .i64 (number : Int), .int .i64 5, .int .i64 num, .string text, .slice ia 0 ic] 35)).heap.size = wr.heap.size + 1 := World.size_alloc _ _
        generalize wr.alloc (.cells #[.int .i64 (number : Int), .int .i64 5, .int .i64 num, .string text, .slice ia 0 ic] 35) = V at *
        have x0 := cell_of_row V wr.heap.size 0 _ _ _ hbx
        have x1 := cell_of_row V wr.heap.size 1 _ _ _ hbx
        have x2 := cell_of_row V wr.heap.size 2 _ _ _ hbx
        have x3 := cell_of_row V wr.heap.size 3 _ _ _ hbx
        have x4 := cell_of_row V wr.heap.size 4 _ _ _ hbx
        simp at x0 x1 x2 x3 x4
        have xt := (hV.cell (p := ⟨w1.heap.size, 21, none⟩) htb).trans ht1
        have HS : Hid (∀ w', Below V.heap.size V w' → (w'.cell? ⟨wr.heap.size, 0, none⟩ = some (.int .i64 (number : Int)) ∧ w'.cell? ⟨wr.heap.size, 1, none⟩ = some (.int .i64 5) ∧ w'.cell? ⟨wr.heap.size, 2, none⟩ = some (.int .i64 num) ∧ w'.cell? ⟨wr.heap.size, 3, none⟩ = some (.string text) ∧ w'.cell? ⟨wr.heap.size, 4, none⟩ = some (.slice ia 0 ic) ∧ w'.cell? ⟨w1.heap.size, 21, none⟩ = some (.func (.func 90) #[] #[])) ∧ Below V.heap.size V w') := fun w' h => ⟨⟨(h.cell (p := ⟨wr.heap.size, 0, none⟩) (by simp; omega)).trans x0, (h.cell (p := ⟨wr.heap.size, 1, none⟩) (by simp; omega)).trans x1, (h.cell (p := ⟨wr.heap.size, 2, none⟩) (by simp; omega)).trans x2, (h.cell (p := ⟨wr.heap.size, 3, none⟩) (by simp; omega)).trans x3, (h.cell (p := ⟨wr.heap.size, 4, none⟩) (by simp; omega)).trans x4, (h.cell (p := ⟨w1.heap.size, 21, none⟩) (by simp; omega)).trans xt⟩, h⟩
        clear d0 d1' d2 d3 d4
        go_region_held3 (fun w' => (w'.cell? ⟨wr.heap.size, 0, none⟩ = some (.int .i64 (number : Int)) ∧ w'.cell? ⟨wr.heap.size, 1, none⟩ = some (.int .i64 5) ∧ w'.cell? ⟨wr.heap.size, 2, none⟩ = some (.int .i64 num) ∧ w'.cell? ⟨wr.heap.size, 3, none⟩ = some (.string text) ∧ w'.cell? ⟨wr.heap.size, 4, none⟩ = some (.slice ia 0 ic) ∧ w'.cell? ⟨w1.heap.size, 21, none⟩ = some (.func (.func 90) #[] #[])) ∧ Below V.heap.size V w')
          ((refine unhide HS _ ?_; first | exact (Below.refl _ _).drew | exact hB2 | exact hB1 | exact Below.refl _ _))
          (first
            | (go_at_call 64; refine ((unhide HR).tag _).mono ?_; rintro o W1 ⟨rfl, rfl⟩)
            | (go_at_call 90; refine ((unhide HR).size _).mono ?_; rintro o W2 ⟨rfl, hb2⟩; have hB2 : Below V.heap.size V W2 := ((Below.refl _ V).drew).trans hb2))
        go_wp2
        go_roundg (rs.length - (i + 1))
        case measure => have := unhide Hgk; omega
        case rel =>
          exact ⟨i + 1, sum_step (unhide Hsum) (unhide Hle), by go_num, rfl, by omega, hasT_up (unhide HT) hV hB2, (hB.trans (hV.mono hB.size)).trans (hB2.mono (by have := hB.size; omega))⟩
    · obtain rfl : i = rs.length := by omega
      go_wp2
      go_ret
      exact ⟨by simp, hB⟩
end Go.Proofs.YtobomdokdajbaaaDoor
