import Derived.Test.YtoojchjfmnbdpabDoorDSd
namespace Go.Proofs.YtoojchjfmnbdpabDoor
open Go.RowKit
attribute [local go_sem ↓] Go.wp_at_zero Go.wp_at_succ

theorem nb_cell {W : World} {g i : Nat} {l : List Nat} {t : TypeId} {fr : Nat × Nat} (h : W.heap[g]? = some (.cells (nb l).toArray t fr)) {b : Nat} (hb : l[i]? = some b) : W.cell? ⟨g, i, none⟩ = some (.int .u8 (b : Int)) := by
  rw [cell_of_row _ _ _ _ _ _ h, List.getElem?_toArray, nb_at, hb]
  rfl
theorem z16_eq : (nw (List.replicate 16 0)).toArray = #[.int .u32 0, .int .u32 0, .int .u32 0, .int .u32 0, .int .u32 0, .int .u32 0, .int .u32 0, .int .u32 0, .int .u32 0, .int .u32 0, .int .u32 0, .int .u32 0, .int .u32 0, .int .u32 0, .int .u32 0, .int .u32 0] := by rfl
theorem word_snoc (l : List Nat) (x : Nat) : word (l ++ [x]) = 256 * word l + x := by
  cases l with
  | nil => simp [word]
  | cons a l => simp [word]
theorem fold_lt : ∀ (l : List Nat) (a k : Nat), Byt l → a < 256 ^ k → l.foldl (fun x y => 256 * x + y) a < 256 ^ (k + l.length)
  | [], _, _, _, h => h
  | y :: l, a, k, hb, h => by
    have hy := hb y (List.mem_cons_self)
    have := fold_lt l (256 * a + y) (k + 1) (fun z hz => hb z (List.mem_cons_of_mem _ hz)) (by rw [Nat.pow_succ]; omega)
    rw [List.foldl_cons, List.length_cons, show k + (l.length + 1) = k + 1 + l.length by omega]
    exact this
theorem word_lt (l : List Nat) (h : Byt l) : word l < 256 ^ l.length := by
  have := fold_lt l 0 0 h (by decide)
  rw [Nat.zero_add] at this
  cases l with
  | nil => exact this
  | cons a l => exact this
theorem wordsL_snoc : ∀ (n : Nat) (l : List Nat) (x : Nat), l.length < 4 * n → wordsL n (l ++ [x]) = (wordsL n l).set (l.length / 4) (256 * (wordsL n l).getD (l.length / 4) 0 + x)
  | 0, l, x, h => by omega
  | n + 1, l, x, h => by
    simp only [wordsL]
    by_cases h4 : l.length < 4
    · have d1 : (l ++ [x]).drop 4 = [] := List.drop_eq_nil_of_le (by rw [List.length_append, List.length_singleton]; omega)
      have d2 : l.drop 4 = [] := List.drop_eq_nil_of_le (by omega)
      have d3 : (l ++ [x]).take 4 = l ++ [x] := List.take_of_length_le (by rw [List.length_append, List.length_singleton]; omega)
      have d4 : l.take 4 = l := List.take_of_length_le (by omega)
      rw [show l.length / 4 = 0 by omega, d1, d2, d3, d4, word_snoc]
      rfl
    · have hd : (l ++ [x]).drop 4 = l.drop 4 ++ [x] := List.drop_append_of_le_length (by omega)
      have ht : (l ++ [x]).take 4 = l.take 4 := List.take_append_of_le_length (by omega)
      have hq : l.length / 4 = (l.drop 4).length / 4 + 1 := by rw [List.length_drop]; omega
      rw [hd, ht, hq, wordsL_snoc n (l.drop 4) x (by rw [List.length_drop]; omega)]
      rfl
theorem wordsL_w32 : ∀ (n : Nat) (l : List Nat), Byt l → W32 (wordsL n l)
  | 0, _, _ => fun x hx => by simp [wordsL] at hx
  | n + 1, l, h => fun x hx => by
    simp only [wordsL] at hx
    rcases List.mem_cons.1 hx with rfl | q
    · have h1 := word_lt (l.take 4) (fun y hy => h y (List.mem_of_mem_take hy))
      have h2 : (l.take 4).length ≤ 4 := by rw [List.length_take]; omega
      exact Nat.lt_of_lt_of_le h1 (Nat.le_trans (Nat.pow_le_pow_right (by decide) h2) (by decide))
    · exact wordsL_w32 n _ (fun y hy => h y (List.mem_of_mem_drop hy)) x q
theorem wordsL_at : ∀ (n : Nat) (l : List Nat) (j : Nat), j < n → (wordsL n l)[j]? = some (word ((l.drop (4 * j)).take 4))
  | 0, _, _, h => by omega
  | n + 1, l, 0, _ => by simp [wordsL]
  | n + 1, l, j + 1, h => by
    simp only [wordsL, List.getElem?_cons_succ]
    rw [wordsL_at n _ j (by omega), List.drop_drop, show 4 + 4 * j = 4 * (j + 1) by omega]

set_option maxRecDepth 100000 in
set_option maxHeartbeats 1000000 in
theorem wordsOf_any (W : World) (b : List Nat) (hb : b.length = 64) (hB : Byt b) :
    Calls Tryd.prog 37 #[.agg (nb b).toArray] W fun e W' => e = .returned (.agg (nw (wordsL 16 b)).toArray) ∧ Below W.heap.size W W' := by
  have hif : (Tryd.prog.info? 67).map (·.size) = some 16 := by kernel_rfl
  obtain ⟨A, hA⟩ : ∃ A, (nb b).toArray = A := ⟨_, rfl⟩
  rw [hA]
  go_enter Tryd.func37, Tryd.ntmps37
  go_wp2
  obtain ⟨W3, hW3⟩ : ∃ w, w = ((W.alloc (.cells A 63)).alloc (.cells #[.int .u32 0, .int .u32 0, .int .u32 0, .int .u32 0, .int .u32 0, .int .u32 0, .int .u32 0, .int .u32 0, .int .u32 0, .int .u32 0, .int .u32 0, .int .u32 0, .int .u32 0, .int .u32 0, .int .u32 0, .int .u32 0] 67)).alloc (.cells #[.int .u32 0, .int .u32 0, .int .u32 0, .int .u32 0, .int .u32 0, .int .u32 0, .int .u32 0, .int .u32 0, .int .u32 0, .int .u32 0, .int .u32 0, .int .u32 0, .int .u32 0, .int .u32 0, .int .u32 0, .int .u32 0] 67) := ⟨_, rfl⟩
  rw [← hW3]
  have hsz3 : W3.heap.size = W.heap.size + 3 := by rw [hW3]; simp
  have hb3 : Below W.heap.size W W3 := by rw [hW3]; exact (((Below.refl _ _).alloc (Nat.le_refl _) _).alloc (by simp) _).alloc (by simp; omega) _
  have t0 : W3.heap[W.heap.size]? = some (.cells (nb b).toArray 63 (0, 0)) := by
    rw [hW3, hA, Below.heap_alloc _ _ _ (by simp; omega), Below.heap_alloc _ _ _ (by simp)]
    exact heap_new _ _
  have t1 : ArrT W3 (W.heap.size + 1) 67 (List.replicate 16 0) := by
    unfold ArrT
    rw [hW3, z16_eq, Below.heap_alloc _ _ _ (by simp)]
    exact heap_alloc2_new _ _ _
  have t2 : ArrT W3 (W.heap.size + 1 + 1) 67 (List.replicate 16 0) := by
    unfold ArrT
    rw [hW3, z16_eq]
    have := heap_alloc2_new (W.alloc (.cells A 63)) (.cells #[.int .u32 0, .int .u32 0, .int .u32 0, .int .u32 0, .int .u32 0, .int .u32 0, .int .u32 0, .int .u32 0, .int .u32 0, .int .u32 0, .int .u32 0, .int .u32 0, .int .u32 0, .int .u32 0, .int .u32 0, .int .u32 0] 67) (.cells #[.int .u32 0, .int .u32 0, .int .u32 0, .int .u32 0, .int .u32 0, .int .u32 0, .int .u32 0, .int .u32 0, .int .u32 0, .int .u32 0, .int .u32 0, .int .u32 0, .int .u32 0, .int .u32 0, .int .u32 0, .int .u32 0] 67)
    simpa using this
  clear hW3
  go_loopg [5] 64 (fun gk v5 wr => ∃ (i : Nat), v5 = .int .i64 (i : Int) ∧ gk = 64 - i ∧ i ≤ 64 ∧ ArrT wr (W.heap.size + 1 + 1) 67 (wordsL 16 (b.take i)) ∧ wr.heap[W.heap.size]? = some (.cells (nb b).toArray 63 (0, 0)) ∧ ArrT wr (W.heap.size + 1) 67 (List.replicate 16 0) ∧ Below W.heap.size W wr)
  case atStart => exact ⟨0, rfl, rfl, by omega, t2, t0, t1, hb3⟩
  case round =>
    clear t0 t1 t2 hb3 hsz3
    obtain ⟨i, rfl, hgk, hk, hR, h0, h1, hBe⟩ := hrel
    have Hgk := hide hgk
    clear hgk
    by_cases hlt : i < 64
    · obtain ⟨x, hx⟩ : ∃ x, b[i]? = some x := ⟨_, List.getElem?_eq_getElem (by omega)⟩
      have hxb := hB.at hx
      have hbt : (b.take i).length = i := by rw [List.length_take]; omega
      obtain ⟨d, hd⟩ : ∃ d : Nat, d = i / 4 := ⟨_, rfl⟩
      have hat := wordsL_at 16 (b.take i) d (by omega)
      obtain ⟨o, ho⟩ : ∃ o, o = word (((b.take i).drop (4 * d)).take 4) := ⟨_, rfl⟩
      rw [← ho] at hat
      have hol : o < 16777216 := by
        rw [ho]
        have h2 := word_lt (((b.take i).drop (4 * d)).take 4) (fun y hy => hB y (List.mem_of_mem_take (List.mem_of_mem_drop (List.mem_of_mem_take hy))))
        refine Nat.lt_of_lt_of_le h2 (Nat.le_trans (Nat.pow_le_pow_right (by decide) (show _ ≤ 3 by rw [List.length_take, List.length_drop, hbt]; omega)) (by decide))
      have hnx : wordsL 16 (b.take (i + 1)) = (wordsL 16 (b.take i)).set d (256 * o + x) := by
        rw [List.take_add_one, hx]
        have := wordsL_snoc 16 (b.take i) x (by omega)
        rw [hbt, ← hd, List.getD_eq_getElem?_getD, hat] at this
        exact this
      have cw := hR.arr.cell hat
      have fw := hR.arr.frozen (i := d) (by rw [wordsL_len]; omega)
      have cb := nb_cell h0 hx
      have k1 : (i : Int).tdiv 4 = (d : Int) := by rw [Int.tdiv_eq_ediv_of_nonneg (by omega)]; omega
      have hor : bits .or .u32 ((o : Int) * 256) (x : Int) = ((256 * o + x : Nat) : Int) := by
        rw [show (o : Int) * 256 = ((o * 256 : Nat) : Int) by omega, u32_or_nat _ _ (by omega) (by omega), nat_join 8 (o * 256) x (by omega) (by omega)]
        congr 1
        omega
      have hd16 : d < 16 := by omega
      have hi' : (i : Int) < 64 := by omega
      have Hnx := hide hnx
      have HR := hide hR
      have H0 := hide h0
      have H1 := hide h1
      clear hnx hR h0 h1 hat ho hx hbt hd
      go_wp2_with fail
      go_region
      all_goals go_wp2
      all_goals go_roundg (64 - (i + 1))
      all_goals first
        | (have := unhide Hgk; omega)
        | (refine ⟨i + 1, by go_num, rfl, by omega, ?_, ?_, ?_, below_drewN (below_set hBe (by omega) _ _) _⟩
           · rw [unhide Hnx]
             exact (unhide HR).set d (256 * o + x)
           · exact (heap_setCell_other _ ⟨W.heap.size + 1 + 1, d, none⟩ W.heap.size _ (by simp; omega)).trans (unhide H0)
           · exact (unhide H1).same (heap_setCell_other _ ⟨W.heap.size + 1 + 1, d, none⟩ (W.heap.size + 1) _ (by simp)))
    · obtain rfl : i = 64 := by omega
      rw [List.take_of_length_le (by omega)] at hR
      obtain ⟨C, hC⟩ : ∃ C, (nw (wordsL 16 b)).toArray = C := ⟨_, rfl⟩
      have hCs : C.size = 16 := by rw [← hC]; simp [wordsL_len]
      have hC1 : C.all (·.oneCell') = true := by rw [← hC]; exact nw_one _
      have hifC : (Tryd.prog.info? 67).map (·.size) = some C.size := by rw [hCs]; exact hif
      have hold : (nw (List.replicate 16 0)).toArray.size = C.size := by rw [hCs]; rfl
      unfold ArrT at hR h1
      rw [hC] at hR
      have HC := hide hC
      clear hC h0
      go_wp2_with (first
        | (refine wpList_load_row rfl 67 (.tmp 3) rfl (W.heap.size + 1 + 1) rfl 67 C (0, 0) _ hR Tryd.underlying67 rfl hifC ?_)
        | (refine wpList_store_row rfl 67 (.tmp 2) (.tmp 22) rfl (W.heap.size + 1) C rfl rfl 67 _ h1 hifC hold hC1 ?_))
      refine bodyPost_ret (results_cell_row rfl _ _ (W.heap.size + 1) 67 C (0, 0) _ rfl (setRow_heap wr _ _ _ _ _ h1) Tryd.underlying67 rfl hifC) rfl ?_
      rw [unhide HC]
      exact ⟨rfl, below_setRow hBe (by omega) _⟩
end Go.Proofs.YtoojchjfmnbdpabDoor
