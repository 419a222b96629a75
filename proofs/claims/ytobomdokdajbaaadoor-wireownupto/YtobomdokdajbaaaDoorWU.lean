import Derived.Test.YtobomdokdajbaaaDoorWT

namespace Go.Proofs.YtobomdokdajbaaaDoor
open Go.RowKit
attribute [local go_sem ↓] Go.wp_at_zero Go.wp_at_succ

/-- The bytes of records. -/
def joined (body : Rec → List Int) (rs : List Rec) : List Int := rs.flatMap fun r => vint (8 * r.number + r.kind) ++ body r
theorem joined_take {body : Rec → List Int} {rs : List Rec} {i : Nat} {r : Rec} (h : rs[i]? = some r) : joined body (rs.take (i + 1)) = joined body (rs.take i) ++ vint (8 * r.number + r.kind) ++ body r := by
  unfold joined
  rw [List.take_add_one, h]
  simp
theorem joined_len {body : Rec → List Int} {rs : List Rec} {i : Nat} : (joined body (rs.take i)).length ≤ (joined body rs).length := by
  have e : rs = rs.take i ++ rs.drop i := (List.take_append_drop _ _).symm
  conv => rhs; rw [e]
  unfold joined
  rw [List.flatMap_append, List.length_append]
  omega
def Far (V : World) (v : Value) (w : World) : Prop := ∀ b, b < V.heap.size → some b ≠ v.ownBlock → w.heap[b]? = V.heap[b]?
theorem Far.cell {V w : World} {v : Value} (h : Far V v w) {p : Addr} (hp : p.block < V.heap.size) (hn : some p.block ≠ v.ownBlock) : w.cell? p = V.cell? p := World.cell?_of_block (h p.block hp hn)
theorem Bytes.lt {base : Nat} {W : World} {v : Value} {bs : List Int} (h : Bytes base W v bs) (b : Nat) (e : v.ownBlock = some b) : base ≤ b ∧ b < W.heap.size := World.ownsRow.lt h b e
theorem Bytes.alloc {base : Nat} {W : World} {v : Value} {bs : List Int} (h : Bytes base W v bs) (o : Obj) : Bytes base (W.alloc o) v bs := World.ownsRow.alloc h o
theorem Bytes.same {base : Nat} {W W' : World} {v : Value} {bs : List Int} (h : Bytes base W v bs) (hs : ∀ b, v.ownBlock = some b → W'.heap[b]? = W.heap[b]?) : Bytes base W' v bs := by
  obtain ⟨h1, h2 | ⟨g, c, cur, rfl, h2, h3, h4⟩⟩ := h
  · exact ⟨h1, .inl h2⟩
  · exact ⟨h1, .inr ⟨g, c, cur, rfl, h2, (hs g rfl).trans h3, h4⟩⟩

set_option maxRecDepth 100000 in
set_option maxHeartbeats 8000000 in
theorem putAll_flat {W : World} {v u : Value} {rs : List Rec} {base : Nat} {bs : List Int} (h : HasR W v rs) (hu : Bytes base W u bs) (hbase : base ≤ W.heap.size) (hfar : 0 < rs.length → ∀ g off c, v = .slice (some ⟨g, off, none⟩) rs.length c → some g ≠ u.ownBlock) (ts sz : Rec → Nat) (body : Rec → List Int) (hk : ∀ r ∈ rs, RecOk r (ts r) (sz r) (body r)) (hlen : bs.length + (joined body rs).length ≤ 1099511627000) :
    Calls Tryd.prog 40 #[u, v] W fun e W' => ∃ u', e = .returned u' ∧ Bytes base W' u' (bs ++ joined body rs) ∧ Ext W u W' u' := by
  obtain ⟨a, c, rfl, hm, h3⟩ := h
  have H3 := hide h3
  have Hk := hide hk
  have Hfar := hide hfar
  clear h3 hk hfar
  go_enter Tryd.func40, Tryd.ntmps40
  go_wp2_with fail
  refine (acts_any W).mono ?_
  rintro e w1 ⟨rfl, hb1⟩
  obtain ⟨A, hA, hTab⟩ : ∃ A, actCells.toArray = A ∧ Tab A := ⟨_, rfl, tab_any⟩
  rw [hA]
  clear hA
  have hth := there_new w1 hTab
  have hif := hTab.info
  have hone := hTab.one
  go_wp2_with (refine wpList_store_mid rfl 113 (.tmp 5) (.tmp 8) rfl w1.heap.size 0 A rfl rfl hth hif hone ?_)
  have hT := hasT_new w1 hTab
  have hB0 := below_setCells hb1.size A.toList 0 _ (hb1.alloc hb1.size (.cells #[.nilFunc, .nilFunc, .nilFunc, .nilFunc, .nilFunc, .nilFunc, .nilFunc, .nilFunc, .nilFunc, .nilFunc, .nilFunc, .nilFunc, .nilFunc, .nilFunc, .nilFunc, .nilFunc, .nilFunc, .nilFunc, .nilFunc, .nilFunc, .nilFunc, .nilFunc, .nilFunc, .nilFunc] 113))
  generalize (w1.alloc (.cells #[.nilFunc, .nilFunc, .nilFunc, .nilFunc, .nilFunc, .nilFunc, .nilFunc, .nilFunc, .nilFunc, .nilFunc, .nilFunc, .nilFunc, .nilFunc, .nilFunc, .nilFunc, .nilFunc, .nilFunc, .nilFunc, .nilFunc, .nilFunc, .nilFunc, .nilFunc, .nilFunc, .nilFunc] 113)).setCells w1.heap.size 0 A.toList = X at *
  have hX := hb1.size
  have hEX : Ext W u X u := Ext.of_below hB0 u
  have huX : Bytes base X u bs := hu.same fun b hb => hB0.block b (hu.lt b hb).2
  have hut : ∀ b, u.ownBlock = some b → b < w1.heap.size := fun b hb => Nat.lt_of_lt_of_le (hu.lt b hb).2 hX
  have htX := (Array.getElem?_eq_some_iff.1 hT).1
  go_loopg [0, 11] rs.length (fun gk v0 v11 wr => ∃ (i : Nat), v11 = .int .i64 (i : Int) ∧ gk = rs.length - i ∧ i ≤ rs.length ∧ Bytes base wr v0 (bs ++ joined body (rs.take i)) ∧ Ext X u wr v0)
  case atStart => exact ⟨0, rfl, rfl, Nat.zero_le _, by simpa [joined] using huX, Ext.refl _ _⟩
  case round =>
    obtain ⟨i, rfl, hgk, hin, hBy, hE⟩ := hrel
    have Hgk := hide hgk
    clear hgk
    by_cases hlt : i < rs.length
    · obtain ⟨g, off, rfl, hg, hc⟩ := unhide H3 (by omega)
      obtain ⟨r, hr⟩ : ∃ r, rs[i]? = some r := ⟨_, List.getElem?_eq_getElem hlt⟩
      have hgX : g < X.heap.size := by have := hB0.size; omega
      have hgu : some g ≠ u.ownBlock := unhide Hfar (by omega) g off c rfl
      have hFX : Far X u wr := hE.far
      have hjt := joined_take (body := body) hr
      have hjl := joined_len (body := body) (rs := rs) (i := i)
      have hjl2 := joined_len (body := body) (rs := rs) (i := i + 1)
      rw [hjt, List.length_append, List.length_append] at hjl2
      have Hjt := hide hjt
      clear hjt
      obtain ⟨q0, q1, q2, q3, q4⟩ := hc i r hr
      have hR := unhide Hk r (List.mem_of_getElem? hr)
      have d0 := ((hFX.cell (p := ⟨g, off + i * 5, none⟩) hgX hgu).trans (hB0.cell (p := ⟨g, off + i * 5, none⟩) hg)).trans q0
      have d1 := ((hFX.cell (p := ⟨g, off + i * 5 + 1, none⟩) hgX hgu).trans (hB0.cell (p := ⟨g, off + i * 5 + 1, none⟩) hg)).trans q1
      have d2 := ((hFX.cell (p := ⟨g, off + i * 5 + 2, none⟩) hgX hgu).trans (hB0.cell (p := ⟨g, off + i * 5 + 2, none⟩) hg)).trans q2
      have d3 := ((hFX.cell (p := ⟨g, off + i * 5 + 3, none⟩) hgX hgu).trans (hB0.cell (p := ⟨g, off + i * 5 + 3, none⟩) hg)).trans q3
      have d4 := ((hFX.cell (p := ⟨g, off + i * 5 + 4, none⟩) hgX hgu).trans (hB0.cell (p := ⟨g, off + i * 5 + 4, none⟩) hg)).trans q4
      have hi0 : (0 : Int) ≤ (i : Int) := Int.natCast_nonneg _
      have hi1 : (i : Int) < (rs.length : Int) := by omega
      have hTr : HasT wr w1.heap.size := (hFX w1.heap.size htX (fun e => by have := hut _ e.symm; omega)).trans hT
      have htb := (Array.getElem?_eq_some_iff.1 hTr).1
      have htn : some w1.heap.size ≠ u0.ownBlock := fun e => by
        rcases hE.own with o | ⟨g', o, hg'⟩
        · have := hut _ (o.symm.trans e.symm); omega
        · rw [o] at e
          have : w1.heap.size = g' := by simpa using e
          omega
      have HR := hide hR
      have hnum := hR.number
      have hsm := hE.size
      have hXs := hB0.size
      clear q0 q1 q2 q3 q4 hc hR hr
      have hkk : r.kind = 0 ∨ r.kind = 1 ∨ r.kind = 2 ∨ r.kind = 5 := by have := (unhide HR).kind; omega
      obtain ⟨number, kind, num, text, ia, ic⟩ := r
      simp only at d0 d1 d2 d3 d4 hkk hnum
      rcases hkk with rfl | rfl | rfl | rfl
      · have ht1 := (hTr.cell 2).trans (show actCells[2]? = some (.func (.func 73) #[] #[]) from rfl)
        clear hTr
        have d1' : wr.cell? ⟨g, off + i * 5 + 1, none⟩ = some (.int .i64 0) := d1
        clear d1
        go_wp2_with fail
        have hV : Below wr.heap.size wr (wr.alloc (.cells #[.int .i64 (number : Int), .int .i64 0, .int .i64 num, .string text, .slice ia 0 ic] 35)) := (Below.refl _ _).alloc (Nat.le_refl _) _
        have hbx := heap_alloc_new wr (.cells #[.int .i64 (number : Int), .int .i64 0, .int .i64 num, .string text, .slice ia 0 ic] 35)
        have hVs : (wr.alloc (.cells #[.int .i64 (number : Int), .int .i64 0, .int .i64 num, .string text, .slice ia 0 ic] 35)).heap.size = wr.heap.size + 1 := World.size_alloc _ _
        generalize wr.alloc (.cells #[.int .i64 (number : Int), .int .i64 0, .int .i64 num, .string text, .slice ia 0 ic] 35) = V at *
        have x0 := cell_of_row V wr.heap.size 0 _ _ _ hbx
        have x1 := cell_of_row V wr.heap.size 1 _ _ _ hbx
        have x2 := cell_of_row V wr.heap.size 2 _ _ _ hbx
        have x3 := cell_of_row V wr.heap.size 3 _ _ _ hbx
        have x4 := cell_of_row V wr.heap.size 4 _ _ _ hbx
        simp at x0 x1 x2 x3 x4
        have xt := (hV.cell (p := ⟨w1.heap.size, 2, none⟩) htb).trans ht1
        clear d0 d1' d2 d3 d4
        have hbn : some wr.heap.size ≠ u0.ownBlock := fun e => by have := (hBy.lt _ e.symm).2; omega
        have hByV : Bytes base V u0 (bs ++ joined body (rs.take i)) := hBy.same fun b hb => hV.block b (hBy.lt b hb).2
        have HS : Hid (∀ w', Far V u0 w' → (w'.cell? ⟨wr.heap.size, 0, none⟩ = some (.int .i64 (number : Int)) ∧ w'.cell? ⟨wr.heap.size, 1, none⟩ = some (.int .i64 0) ∧ w'.cell? ⟨wr.heap.size, 2, none⟩ = some (.int .i64 num) ∧ w'.cell? ⟨wr.heap.size, 3, none⟩ = some (.string text) ∧ w'.cell? ⟨wr.heap.size, 4, none⟩ = some (.slice ia 0 ic) ∧ w'.cell? ⟨w1.heap.size, 2, none⟩ = some (.func (.func 73) #[] #[]))) := fun w' h => ⟨(h.cell (p := ⟨wr.heap.size, 0, none⟩) (by simp; omega) hbn).trans x0, (h.cell (p := ⟨wr.heap.size, 1, none⟩) (by simp; omega) hbn).trans x1, (h.cell (p := ⟨wr.heap.size, 2, none⟩) (by simp; omega) hbn).trans x2, (h.cell (p := ⟨wr.heap.size, 3, none⟩) (by simp; omega) hbn).trans x3, (h.cell (p := ⟨wr.heap.size, 4, none⟩) (by simp; omega) hbn).trans x4, (h.cell (p := ⟨w1.heap.size, 2, none⟩) (by simp; omega) htn).trans xt⟩
        clear x0 x1 x2 x3 x4 xt
        go_region_held3 (fun w' => (w'.cell? ⟨wr.heap.size, 0, none⟩ = some (.int .i64 (number : Int)) ∧ w'.cell? ⟨wr.heap.size, 1, none⟩ = some (.int .i64 0) ∧ w'.cell? ⟨wr.heap.size, 2, none⟩ = some (.int .i64 num) ∧ w'.cell? ⟨wr.heap.size, 3, none⟩ = some (.string text) ∧ w'.cell? ⟨wr.heap.size, 4, none⟩ = some (.slice ia 0 ic) ∧ w'.cell? ⟨w1.heap.size, 2, none⟩ = some (.func (.func 73) #[] #[])))
          ((refine unhide HS _ ?_; first | exact fun _ _ _ => rfl | exact hF2 | exact hF1))
          (first
            | (go_at_call 35; refine (putTag_any (W := V.drew) hByV (by show base ≤ V.heap.size; omega) (by rw [List.length_append]; omega) number 0 hnum.2 (by decide)).mono ?_; rintro o W1 ⟨v1, rfl, hb1', he1⟩; have hF1 : Far V u0 W1 := he1.far; have HE1 := hide he1; have HB1 := hide hb1')
            | (go_at_call 73; refine ((unhide HR).put base W1 v1 _ (unhide HB1) (by have := (unhide HE1).size; simp at this; omega) (by simp only [List.length_append] at hjl2 ⊢; omega)).mono ?_; rintro o W2 ⟨v2, rfl, hb2', he2⟩; have hE2 := (unhide HE1).trans he2; have hF2 : Far V u0 W2 := hE2.far; have HB2 := hide hb2'))
        go_wp2
        go_roundg (rs.length - (i + 1))
        case measure => have := unhide Hgk; omega
        case rel => exact ⟨i + 1, by go_num, rfl, by omega, by rw [unhide Hjt]; simpa [List.append_assoc] using unhide HB2, hE.trans ((Ext.of_below hV u0).trans (⟨hE2.os, hE2.tape, hE2.output, hE2.size, hE2.far, hE2.own⟩ : Ext V u0 W2 v2))⟩
      · have ht1 := (hTr.cell 6).trans (show actCells[6]? = some (.func (.func 78) #[] #[]) from rfl)
        clear hTr
        have d1' : wr.cell? ⟨g, off + i * 5 + 1, none⟩ = some (.int .i64 1) := d1
        clear d1
        go_wp2_with fail
        have hV : Below wr.heap.size wr (wr.alloc (.cells #[.int .i64 (number : Int), .int .i64 1, .int .i64 num, .string text, .slice ia 0 ic] 35)) := (Below.refl _ _).alloc (Nat.le_refl _) _
        have hbx := heap_alloc_new wr (.cells #[.int .i64 (number : Int), .int .i64 1, .int .i64 num, .string text, .slice ia 0 ic] 35)
        have hVs : (wr.alloc (.cells #[.int .i64 (number : Int), .int .i64 1, .int .i64 num, .string text, .slice ia 0 ic] 35)).heap.size = wr.heap.size + 1 := World.size_alloc _ _
        generalize wr.alloc (.cells #[.int .i64 (number : Int), .int .i64 1, .int .i64 num, .string text, .slice ia 0 ic] 35) = V at *
        have x0 := cell_of_row V wr.heap.size 0 _ _ _ hbx
        have x1 := cell_of_row V wr.heap.size 1 _ _ _ hbx
        have x2 := cell_of_row V wr.heap.size 2 _ _ _ hbx
        have x3 := cell_of_row V wr.heap.size 3 _ _ _ hbx
        have x4 := cell_of_row V wr.heap.size 4 _ _ _ hbx
        simp at x0 x1 x2 x3 x4
        have xt := (hV.cell (p := ⟨w1.heap.size, 6, none⟩) htb).trans ht1
        clear d0 d1' d2 d3 d4
        have hbn : some wr.heap.size ≠ u0.ownBlock := fun e => by have := (hBy.lt _ e.symm).2; omega
        have hByV : Bytes base V u0 (bs ++ joined body (rs.take i)) := hBy.same fun b hb => hV.block b (hBy.lt b hb).2
        have HS : Hid (∀ w', Far V u0 w' → (w'.cell? ⟨wr.heap.size, 0, none⟩ = some (.int .i64 (number : Int)) ∧ w'.cell? ⟨wr.heap.size, 1, none⟩ = some (.int .i64 1) ∧ w'.cell? ⟨wr.heap.size, 2, none⟩ = some (.int .i64 num) ∧ w'.cell? ⟨wr.heap.size, 3, none⟩ = some (.string text) ∧ w'.cell? ⟨wr.heap.size, 4, none⟩ = some (.slice ia 0 ic) ∧ w'.cell? ⟨w1.heap.size, 6, none⟩ = some (.func (.func 78) #[] #[]))) := fun w' h => ⟨(h.cell (p := ⟨wr.heap.size, 0, none⟩) (by simp; omega) hbn).trans x0, (h.cell (p := ⟨wr.heap.size, 1, none⟩) (by simp; omega) hbn).trans x1, (h.cell (p := ⟨wr.heap.size, 2, none⟩) (by simp; omega) hbn).trans x2, (h.cell (p := ⟨wr.heap.size, 3, none⟩) (by simp; omega) hbn).trans x3, (h.cell (p := ⟨wr.heap.size, 4, none⟩) (by simp; omega) hbn).trans x4, (h.cell (p := ⟨w1.heap.size, 6, none⟩) (by simp; omega) htn).trans xt⟩
        clear x0 x1 x2 x3 x4 xt
        go_region_held3 (fun w' => (w'.cell? ⟨wr.heap.size, 0, none⟩ = some (.int .i64 (number : Int)) ∧ w'.cell? ⟨wr.heap.size, 1, none⟩ = some (.int .i64 1) ∧ w'.cell? ⟨wr.heap.size, 2, none⟩ = some (.int .i64 num) ∧ w'.cell? ⟨wr.heap.size, 3, none⟩ = some (.string text) ∧ w'.cell? ⟨wr.heap.size, 4, none⟩ = some (.slice ia 0 ic) ∧ w'.cell? ⟨w1.heap.size, 6, none⟩ = some (.func (.func 78) #[] #[])))
          ((refine unhide HS _ ?_; first | exact fun _ _ _ => rfl | exact hF2 | exact hF1))
          (first
            | (go_at_call 35; refine (putTag_any (W := V.drew) hByV (by show base ≤ V.heap.size; omega) (by rw [List.length_append]; omega) number 1 hnum.2 (by decide)).mono ?_; rintro o W1 ⟨v1, rfl, hb1', he1⟩; have hF1 : Far V u0 W1 := he1.far; have HE1 := hide he1; have HB1 := hide hb1')
            | (go_at_call 78; refine ((unhide HR).put base W1 v1 _ (unhide HB1) (by have := (unhide HE1).size; simp at this; omega) (by simp only [List.length_append] at hjl2 ⊢; omega)).mono ?_; rintro o W2 ⟨v2, rfl, hb2', he2⟩; have hE2 := (unhide HE1).trans he2; have hF2 : Far V u0 W2 := hE2.far; have HB2 := hide hb2'))
        go_wp2
        go_roundg (rs.length - (i + 1))
        case measure => have := unhide Hgk; omega
        case rel => exact ⟨i + 1, by go_num, rfl, by omega, by rw [unhide Hjt]; simpa [List.append_assoc] using unhide HB2, hE.trans ((Ext.of_below hV u0).trans (⟨hE2.os, hE2.tape, hE2.output, hE2.size, hE2.far, hE2.own⟩ : Ext V u0 W2 v2))⟩
      · have ht1 := (hTr.cell 10).trans (show actCells[10]? = some (.func (.func 82) #[] #[]) from rfl)
        clear hTr
        have d1' : wr.cell? ⟨g, off + i * 5 + 1, none⟩ = some (.int .i64 2) := d1
        clear d1
        go_wp2_with fail
        have hV : Below wr.heap.size wr (wr.alloc (.cells #[.int .i64 (number : Int), .int .i64 2, .int .i64 num, .string text, .slice ia 0 ic] 35)) := (Below.refl _ _).alloc (Nat.le_refl _) _
        have hbx := heap_alloc_new wr (.cells #[.int .i64 (number : Int), .int .i64 2, .int .i64 num, .string text, .slice ia 0 ic] 35)
        have hVs : (wr.alloc (.cells #[.int .i64 (number : Int), .int .i64 2, .int .i64 num, .string text, .slice ia 0 ic] 35)).heap.size = wr.heap.size + 1 := World.size_alloc _ _
        generalize wr.alloc (.cells #[.int .i64 (number : Int), .int .i64 2, .int .i64 num, .string text, .slice ia 0 ic] 35) = V at *
        have x0 := cell_of_row V wr.heap.size 0 _ _ _ hbx
        have x1 := cell_of_row V wr.heap.size 1 _ _ _ hbx
        have x2 := cell_of_row V wr.heap.size 2 _ _ _ hbx
        have x3 := cell_of_row V wr.heap.size 3 _ _ _ hbx
        have x4 := cell_of_row V wr.heap.size 4 _ _ _ hbx
        simp at x0 x1 x2 x3 x4
        have xt := (hV.cell (p := ⟨w1.heap.size, 10, none⟩) htb).trans ht1
        clear d0 d1' d2 d3 d4
        have hbn : some wr.heap.size ≠ u0.ownBlock := fun e => by have := (hBy.lt _ e.symm).2; omega
        have hByV : Bytes base V u0 (bs ++ joined body (rs.take i)) := hBy.same fun b hb => hV.block b (hBy.lt b hb).2
        have HS : Hid (∀ w', Far V u0 w' → (w'.cell? ⟨wr.heap.size, 0, none⟩ = some (.int .i64 (number : Int)) ∧ w'.cell? ⟨wr.heap.size, 1, none⟩ = some (.int .i64 2) ∧ w'.cell? ⟨wr.heap.size, 2, none⟩ = some (.int .i64 num) ∧ w'.cell? ⟨wr.heap.size, 3, none⟩ = some (.string text) ∧ w'.cell? ⟨wr.heap.size, 4, none⟩ = some (.slice ia 0 ic) ∧ w'.cell? ⟨w1.heap.size, 10, none⟩ = some (.func (.func 82) #[] #[]))) := fun w' h => ⟨(h.cell (p := ⟨wr.heap.size, 0, none⟩) (by simp; omega) hbn).trans x0, (h.cell (p := ⟨wr.heap.size, 1, none⟩) (by simp; omega) hbn).trans x1, (h.cell (p := ⟨wr.heap.size, 2, none⟩) (by simp; omega) hbn).trans x2, (h.cell (p := ⟨wr.heap.size, 3, none⟩) (by simp; omega) hbn).trans x3, (h.cell (p := ⟨wr.heap.size, 4, none⟩) (by simp; omega) hbn).trans x4, (h.cell (p := ⟨w1.heap.size, 10, none⟩) (by simp; omega) htn).trans xt⟩
        clear x0 x1 x2 x3 x4 xt
        go_region_held3 (fun w' => (w'.cell? ⟨wr.heap.size, 0, none⟩ = some (.int .i64 (number : Int)) ∧ w'.cell? ⟨wr.heap.size, 1, none⟩ = some (.int .i64 2) ∧ w'.cell? ⟨wr.heap.size, 2, none⟩ = some (.int .i64 num) ∧ w'.cell? ⟨wr.heap.size, 3, none⟩ = some (.string text) ∧ w'.cell? ⟨wr.heap.size, 4, none⟩ = some (.slice ia 0 ic) ∧ w'.cell? ⟨w1.heap.size, 10, none⟩ = some (.func (.func 82) #[] #[])))
          ((refine unhide HS _ ?_; first | exact fun _ _ _ => rfl | exact hF2 | exact hF1))
          (first
            | (go_at_call 35; refine (putTag_any (W := V.drew) hByV (by show base ≤ V.heap.size; omega) (by rw [List.length_append]; omega) number 2 hnum.2 (by decide)).mono ?_; rintro o W1 ⟨v1, rfl, hb1', he1⟩; have hF1 : Far V u0 W1 := he1.far; have HE1 := hide he1; have HB1 := hide hb1')
            | (go_at_call 82; refine ((unhide HR).put base W1 v1 _ (unhide HB1) (by have := (unhide HE1).size; simp at this; omega) (by simp only [List.length_append] at hjl2 ⊢; omega)).mono ?_; rintro o W2 ⟨v2, rfl, hb2', he2⟩; have hE2 := (unhide HE1).trans he2; have hF2 : Far V u0 W2 := hE2.far; have HB2 := hide hb2'))
        go_wp2
        go_roundg (rs.length - (i + 1))
        case measure => have := unhide Hgk; omega
        case rel => exact ⟨i + 1, by go_num, rfl, by omega, by rw [unhide Hjt]; simpa [List.append_assoc] using unhide HB2, hE.trans ((Ext.of_below hV u0).trans (⟨hE2.os, hE2.tape, hE2.output, hE2.size, hE2.far, hE2.own⟩ : Ext V u0 W2 v2))⟩
      · have ht1 := (hTr.cell 22).trans (show actCells[22]? = some (.func (.func 91) #[] #[]) from rfl)
        clear hTr
        have d1' : wr.cell? ⟨g, off + i * 5 + 1, none⟩ = some (.int .i64 5) := d1
        clear d1
        go_wp2_with fail
        have hV : Below wr.heap.size wr (wr.alloc (.cells #[.int .i64 (number : Int), .int .i64 5, .int .i64 num, .string text, .slice ia 0 ic] 35)) := (Below.refl _ _).alloc (Nat.le_refl _) _
        have hbx := heap_alloc_new wr (.cells #[.int .i64 (number : Int), .int .i64 5, .int .i64 num, .string text, .slice ia 0 ic] 35)
        have hVs : (wr.alloc (.cells #[.int .i64 (number : Int), .int .i64 5, .int .i64 num, .string text, .slice ia 0 ic] 35)).heap.size = wr.heap.size + 1 := World.size_alloc _ _
        generalize wr.alloc (.cells #[.int .i64 (number : Int), .int .i64 5, .int .i64 num, .string text, .slice ia 0 ic] 35) = V at *
        have x0 := cell_of_row V wr.heap.size 0 _ _ _ hbx
        have x1 := cell_of_row V wr.heap.size 1 _ _ _ hbx
        have x2 := cell_of_row V wr.heap.size 2 _ _ _ hbx
        have x3 := cell_of_row V wr.heap.size 3 _ _ _ hbx
        have x4 := cell_of_row V wr.heap.size 4 _ _ _ hbx
        simp at x0 x1 x2 x3 x4
        have xt := (hV.cell (p := ⟨w1.heap.size, 22, none⟩) htb).trans ht1
        clear d0 d1' d2 d3 d4
        have hbn : some wr.heap.size ≠ u0.ownBlock := fun e => by have := (hBy.lt _ e.symm).2; omega
        have hByV : Bytes base V u0 (bs ++ joined body (rs.take i)) := hBy.same fun b hb => hV.block b (hBy.lt b hb).2
        have HS : Hid (∀ w', Far V u0 w' → (w'.cell? ⟨wr.heap.size, 0, none⟩ = some (.int .i64 (number : Int)) ∧ w'.cell? ⟨wr.heap.size, 1, none⟩ = some (.int .i64 5) ∧ w'.cell? ⟨wr.heap.size, 2, none⟩ = some (.int .i64 num) ∧ w'.cell? ⟨wr.heap.size, 3, none⟩ = some (.string text) ∧ w'.cell? ⟨wr.heap.size, 4, none⟩ = some (.slice ia 0 ic) ∧ w'.cell? ⟨w1.heap.size, 22, none⟩ = some (.func (.func 91) #[] #[]))) := fun w' h => ⟨(h.cell (p := ⟨wr.heap.size, 0, none⟩) (by simp; omega) hbn).trans x0, (h.cell (p := ⟨wr.heap.size, 1, none⟩) (by simp; omega) hbn).trans x1, (h.cell (p := ⟨wr.heap.size, 2, none⟩) (by simp; omega) hbn).trans x2, (h.cell (p := ⟨wr.heap.size, 3, none⟩) (by simp; omega) hbn).trans x3, (h.cell (p := ⟨wr.heap.size, 4, none⟩) (by simp; omega) hbn).trans x4, (h.cell (p := ⟨w1.heap.size, 22, none⟩) (by simp; omega) htn).trans xt⟩
        clear x0 x1 x2 x3 x4 xt
        go_region_held3 (fun w' => (w'.cell? ⟨wr.heap.size, 0, none⟩ = some (.int .i64 (number : Int)) ∧ w'.cell? ⟨wr.heap.size, 1, none⟩ = some (.int .i64 5) ∧ w'.cell? ⟨wr.heap.size, 2, none⟩ = some (.int .i64 num) ∧ w'.cell? ⟨wr.heap.size, 3, none⟩ = some (.string text) ∧ w'.cell? ⟨wr.heap.size, 4, none⟩ = some (.slice ia 0 ic) ∧ w'.cell? ⟨w1.heap.size, 22, none⟩ = some (.func (.func 91) #[] #[])))
          ((refine unhide HS _ ?_; first | exact fun _ _ _ => rfl | exact hF2 | exact hF1))
          (first
            | (go_at_call 35; refine (putTag_any (W := V.drew) hByV (by show base ≤ V.heap.size; omega) (by rw [List.length_append]; omega) number 5 hnum.2 (by decide)).mono ?_; rintro o W1 ⟨v1, rfl, hb1', he1⟩; have hF1 : Far V u0 W1 := he1.far; have HE1 := hide he1; have HB1 := hide hb1')
            | (go_at_call 91; refine ((unhide HR).put base W1 v1 _ (unhide HB1) (by have := (unhide HE1).size; simp at this; omega) (by simp only [List.length_append] at hjl2 ⊢; omega)).mono ?_; rintro o W2 ⟨v2, rfl, hb2', he2⟩; have hE2 := (unhide HE1).trans he2; have hF2 : Far V u0 W2 := hE2.far; have HB2 := hide hb2'))
        go_wp2
        go_roundg (rs.length - (i + 1))
        case measure => have := unhide Hgk; omega
        case rel => exact ⟨i + 1, by go_num, rfl, by omega, by rw [unhide Hjt]; simpa [List.append_assoc] using unhide HB2, hE.trans ((Ext.of_below hV u0).trans (⟨hE2.os, hE2.tape, hE2.output, hE2.size, hE2.far, hE2.own⟩ : Ext V u0 W2 v2))⟩
    · obtain rfl : i = rs.length := by omega
      go_wp2
      go_ret
      exact ⟨_, rfl, by simpa using hBy, hEX.trans hE⟩
end Go.Proofs.YtobomdokdajbaaaDoor
