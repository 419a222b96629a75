import Derived.Test.YtlblllghgdfpoaaDoorDSd

namespace Go.Proofs.YtlblllghgdfpoaaDoor
open Go.RowKit
attribute [local go_sem ↓] Go.wp_at_zero Go.wp_at_succ

theorem nb_cell {W : World} {g i : Nat} {l : List Nat} {t : TypeId} {fr : Nat × Nat} (h : W.heap[g]? = some (.cells (nb l).toArray t fr)) {b : Nat} (hb : l[i]? = some b) : W.cell? ⟨g, i, none⟩ = some (.int .u8 (b : Int)) := by
  rw [cell_of_row _ _ _ _ _ _ h, List.getElem?_toArray, nb_at, hb]
  rfl
theorem z16_eq : (nw (List.replicate 16 0)).toArray = #[.int .u32 0, .int .u32 0, .int .u32 0, .int .u32 0, .int .u32 0, .int .u32 0, .int .u32 0, .int .u32 0, .int .u32 0, .int .u32 0, .int .u32 0, .int .u32 0, .int .u32 0, .int .u32 0, .int .u32 0, .int .u32 0] := by rfl
theorem word_snoc (l : List Nat) (x : Nat) : word (l ++ [x]) = 256 * word l + x := by
  cases l with
  | nil => simp [word]
  | cons a l => simp [word]
theorem fold_lt : ∀ (l : List Nat) (a k : Nat), Byt l → a < 256 ^ k → l.foldl (fun x y => 256 * x + y) a < 256 ^ (k + l.length)
  | [], _, _, _, h => h
  | y :: l, a, k, hb, h => by
    have hy := hb y (List.mem_cons_self)
    have := fold_lt l (256 * a + y) (k + 1) (fun z hz => hb z (List.mem_cons_of_mem _ hz)) (by rw [Nat.pow_succ]; omega)
    rw [List.foldl_cons, List.length_cons, show k + (l.length + 1) = k + 1 + l.length by omega]
    exact this
theorem word_lt (l : List Nat) (h : Byt l) : word l < 256 ^ l.length := by
  have := fold_lt l 0 0 h (by decide)
  rw [Nat.zero_add] at this
  cases l with
  | nil => exact this
  | cons a l => exact this
theorem wordsL_snoc : ∀ (n : Nat) (l : List Nat) (x : Nat), l.length < 4 * n → wordsL n (l ++ [x]) = (wordsL n l).set (l.length / 4) (256 * (wordsL n l).getD (l.length / 4) 0 + x)
  | 0, l, x, h => by omega
  | n + 1, l, x, h => by
    simp only [wordsL]
    by_cases h4 : l.length < 4
    · have d1 : (l ++ [x]).drop 4 = [] := List.drop_eq_nil_of_le (by rw [List.length_append, List.length_singleton]; omega)
      have d2 : l.drop 4 = [] := List.drop_eq_nil_of_le (by omega)
      have d3 : (l ++ [x]).take 4 = l ++ [x] := List.take_of_length_le (by rw [List.length_append, List.length_singleton]; omega)
      have d4 : l.take 4 = l := List.take_of_length_le (by omega)
      rw [show l.length / 4 = 0 by omega, d1, d2, d3, d4, word_snoc]
      rfl
    · have hd : (l ++ [x]).drop 4 = l.drop 4 ++ [x] := List.drop_append_of_le_length (by omega)
      have ht : (l ++ [x]).take 4 = l.take 4 := List.take_append_of_le_length (by omega)
      have hq : l.length / 4 = (l.drop 4).length / 4 + 1 := by rw [List.length_drop]; omega
      rw [hd, ht, hq, wordsL_snoc n (l.drop 4) x (by rw [List.length_drop]; omega)]
      rfl
theorem wordsL_w32 : ∀ (n : Nat) (l : List Nat), Byt l → W32 (wordsL n l)
  | 0, _, _ => fun x hx => by simp [wordsL] at hx
  | n + 1, l, h => fun x hx => by
    simp only [wordsL] at hx
    rcases List.mem_cons.1 hx with rfl | q
    · have h1 := word_lt (l.take 4) (fun y hy => h y (List.mem_of_mem_take hy))
      have h2 : (l.take 4).length ≤ 4 := by rw [List.length_take]; omega
      exact Nat.lt_of_lt_of_le h1 (Nat.le_trans (Nat.pow_le_pow_right (by decide) h2) (by decide))
    · exact wordsL_w32 n _ (fun y hy => h y (List.mem_of_mem_drop hy)) x q
theorem wordsL_at : ∀ (n : Nat) (l : List Nat) (j : Nat), j < n → (wordsL n l)[j]? = some (word ((l.drop (4 * j)).take 4))
  | 0, _, _, h => by omega
  | n + 1, l, 0, _ => by simp [wordsL]
  | n + 1, l, j + 1, h => by
    simp only [wordsL, List.getElem?_cons_succ]
    rw [wordsL_at n _ j (by omega), List.drop_drop, show 4 + 4 * j = 4 * (j + 1) by omega]

set_option maxRecDepth 100000 in
set_option maxHeartbeats 1000000 in
theorem wordsOf_any (W : World) (b : List Nat) (hb : b.length = 64) (hB : Byt b) :
    Calls Tryd.prog 60 #[.agg (nb b).toArray] W fun e W' => e = .returned (.agg (nw (wordsL 16 b)).toArray) ∧ Below W.heap.size W W' := by
  have hif : (Tryd.prog.info? 88).map (·.size) = some 16 := by kernel_rfl
  obtain ⟨A, hA⟩ : ∃ A, (nb b).toArray = A := ⟨_, rfl⟩
  rw [hA]
  go_enter Tryd.func60, Tryd.ntmps60
  go_wp2
  obtain ⟨W3, hW3⟩ : ∃ w, w = ((W.alloc (.cells A 84)).alloc (.cells #[.int .u32 0, .int .u32 0, .int .u32 0, .int .u32 0, .int .u32 0, .int .u32 0, .int .u32 0, .int .u32 0, .int .u32 0, .int .u32 0, .int .u32 0, .int .u32 0, .int .u32 0, .int .u32 0, .int .u32 0, .int .u32 0] 88)).alloc (.cells #[.int .u32 0, .int .u32 0, .int .u32 0, .int .u32 0, .int .u32 0, .int .u32 0, .int .u32 0, .int .u32 0, .int .u32 0, .int .u32 0, .int .u32 0, .int .u32 0, .int .u32 0, .int .u32 0, .int .u32 0, .int .u32 0] 88) := ⟨_, rfl⟩
  rw [← hW3]
  have hsz3 : W3.heap.size = W.heap.size + 3 := by rw [hW3]; simp
  have hb3 : Below W.heap.size W W3 := by rw [hW3]; exact (((Below.refl _ _).alloc (Nat.le_refl _) _).alloc (by simp) _).alloc (by simp; omega) _
  have t0 : W3.heap[W.heap.size]? = some (.cells (nb b).toArray 84 (0, 0)) := by
    rw [hW3, hA, Below.heap_alloc _ _ _ (by simp; omega), Below.heap_alloc _ _ _ (by simp)]
    exact heap_new _ _
  have t1 : ArrT W3 (W.heap.size + 1) 88 (List.replicate 16 0) := by
    unfold ArrT
    rw [hW3, z16_eq, Below.heap_alloc _ _ _ (by simp)]
    exact heap_alloc2_new _ _ _
  have t2 : ArrT W3 (W.heap.size + 1 + 1) 88 (List.replicate 16 0) := by
    unfold ArrT
    rw [hW3, z16_eq]
    have := heap_alloc2_new (W.alloc (.cells A 84)) (.cells #[.int .u32 0, .int .u32 0, .int .u32 0, .int .u32 0, .int .u32 0, .int .u32 0, .int .u32 0, .int .u32 0, .int .u32 0, .int .u32 0, .int .u32 0, .int .u32 0, .int .u32 0, .int .u32 0, .int .u32 0, .int .u32 0] 88) (.cells #[.int .u32 0, .int .u32 0, .int .u32 0, .int .u32 0, .int .u32 0, .int .u32 0, .int .u32 0, .int .u32 0, .int .u32 0, .int .u32 0, .int .u32 0, .int .u32 0, .int .u32 0, .int .u32 0, .int .u32 0, .int .u32 0] 88)
    simpa using this
  clear hW3
  go_loopg [5] 64 (fun gk v5 wr => ∃ (i : Nat), v5 = .int .i64 (i : Int) ∧ gk = 64 - i ∧ i ≤ 64 ∧ ArrT wr (W.heap.size + 1 + 1) 88 (wordsL 16 (b.take i)) ∧ wr.heap[W.heap.size]? = some (.cells (nb b).toArray 84 (0, 0)) ∧ ArrT wr (W.heap.size + 1) 88 (List.replicate 16 0) ∧ Below W.heap.size W wr)
  case atStart => exact ⟨0, rfl, rfl, by omega, t2, t0, t1, hb3⟩
  case round =>
    clear t0 t1 t2 hb3 hsz3
    obtain ⟨i, rfl, hgk, hk, hR, h0, h1, hBe⟩ := hrel
    have Hgk := hide hgk
    clear hgk
    by_cases hlt : i < 64
    · obtain ⟨x, hx⟩ : ∃ x, b[i]? = some x := ⟨_, List.getElem?_eq_getElem (by omega)⟩
      have hxb := hB.at hx
      have hbt : (b.take i).length = i := by rw [List.length_take]; omega
      obtain ⟨d, hd⟩ : ∃ d : Nat, d = i / 4 := ⟨_, rfl⟩
      have hat := wordsL_at 16 (b.take i) d (by omega)
      obtain ⟨o, ho⟩ : ∃ o, o = word (((b.take i).drop (4 * d)).take 4) := ⟨_, rfl⟩
      rw [← ho] at hat
      have hol : o < 16777216 := by
        rw [ho]
        have h2 := word_lt (((b.take i).drop (4 * d)).take 4) (fun y hy => hB y (List.mem_of_mem_take (List.mem_of_mem_drop (List.mem_of_mem_take hy))))
        refine Nat.lt_of_lt_of_le h2 (Nat.le_trans (Nat.pow_le_pow_right (by decide) (show _ ≤ 3 by rw [List.length_take, List.length_drop, hbt]; omega)) (by decide))
      have hnx : wordsL 16 (b.take (i + 1)) = (wordsL 16 (b.take i)).set d (256 * o + x) := by
        rw [List.take_add_one, hx]
        have := wordsL_snoc 16 (b.take i) x (by omega)
        rw [hbt, ← hd, List.getD_eq_getElem?_getD, hat] at this
        exact this
      have cw := hR.arr.cell hat
      have fw := hR.arr.frozen (i := d) (by rw [wordsL_len]; omega)
      have cb := nb_cell h0 hx
      have k1 : (i : Int).tdiv 4 = (d : Int) := by rw [Int.tdiv_eq_ediv_of_nonneg (by omega)]; omega
      have hor : bits .or .u32 ((o : Int) * 256) (x : Int) = ((256 * o + x : Nat) : Int) := by
        rw [show (o : Int) * 256 = ((o * 256 : Nat) : Int) by omega, u32_or_nat _ _ (by omega) (by omega), nat_join 8 (o * 256) x (by omega) (by omega)]
        congr 1
        omega
      have hd16 : d < 16 := by omega
      have hi' : (i : Int) < 64 := by omega
      have Hnx := hide hnx
      have HR := hide hR
      have H0 := hide h0
      have H1 := hide h1
      clear hnx hR h0 h1 hat ho hx hbt hd
      go_wp2_with fail
      go_region
      all_goals go_wp2
      all_goals go_roundg (64 - (i + 1))
      all_goals first
        | (have := unhide Hgk; omega)
        | (refine ⟨i + 1, by go_num, rfl, by omega, ?_, ?_, ?_, below_drewN (below_set hBe (by omega) _ _) _⟩
           · rw [unhide Hnx]
             exact (unhide HR).set d (256 * o + x)
           · exact (heap_setCell_other _ ⟨W.heap.size + 1 + 1, d, none⟩ W.heap.size _ (by simp; omega)).trans (unhide H0)
           · exact (unhide H1).same (heap_setCell_other _ ⟨W.heap.size + 1 + 1, d, none⟩ (W.heap.size + 1) _ (by simp)))
    · obtain rfl : i = 64 := by omega
      rw [List.take_of_length_le (by omega)] at hR
      obtain ⟨C, hC⟩ : ∃ C, (nw (wordsL 16 b)).toArray = C := ⟨_, rfl⟩
      have hCs : C.size = 16 := by rw [← hC]; simp [wordsL_len]
      have hC1 : C.all (·.oneCell') = true := by rw [← hC]; exact nw_one _
      have hifC : (Tryd.prog.info? 88).map (·.size) = some C.size := by rw [hCs]; exact hif
      have hold : (nw (List.replicate 16 0)).toArray.size = C.size := by rw [hCs]; rfl
      unfold ArrT at hR h1
      rw [hC] at hR
      have HC := hide hC
      clear hC h0
      go_wp2_with (first
        | (refine wpList_load_row rfl 88 (.tmp 3) rfl (W.heap.size + 1 + 1) rfl 88 C (0, 0) _ hR Tryd.underlying88 rfl hifC ?_)
        | (refine wpList_store_row rfl 88 (.tmp 2) (.tmp 22) rfl (W.heap.size + 1) C rfl rfl 88 _ h1 hifC hold hC1 ?_))
      refine bodyPost_ret (results_cell_row rfl _ _ (W.heap.size + 1) 88 C (0, 0) _ rfl (setRow_heap wr _ _ _ _ _ h1) Tryd.underlying88 rfl hifC) rfl ?_
      rw [unhide HC]
      exact ⟨rfl, below_setRow hBe (by omega) _⟩
end Go.Proofs.YtlblllghgdfpoaaDoor

namespace Go.Proofs.YtlblllghgdfpoaaDoor
open Go.RowKit
attribute [local go_sem ↓] Go.wp_at_zero Go.wp_at_succ

theorem idx_state (w : World) (l : List Nat) (hl : l.length = 8) (i x : Nat) (hx : l[i]? = some x) : (Instr.index 83 (.agg (nw l).toArray) (.int .i64 (i : Int))).run Tryd.prog w = .ok (.int .u32 (x : Int)) w := by
  have hi : i < 8 := by rw [← hl]; exact (List.getElem?_eq_some_iff.1 hx).1
  have hat : (nw l).toArray[i]? = some (.int .u32 (x : Int)) := by rw [List.getElem?_toArray, nw_at, hx]; rfl
  simp [Instr.index, asIntOf, run_underlying Tryd.underlying83, hi]
  simp [part, isAgg, run_underlying Tryd.underlying81]
  rw [nw_at, hx]
  rfl
theorem St.bytes_eq (v : St) : v.bytes = v.list.flatMap be4 := by
  unfold St.bytes St.list
  simp
theorem be4_byt (x : Nat) : Byt (be4 x) := by
  intro y hy
  simp [be4] at hy
  omega
theorem bytes_byt (v : St) : Byt v.bytes := by
  rw [St.bytes_eq]
  intro y hy
  obtain ⟨x, _, h⟩ := List.mem_flatMap.1 hy
  exact be4_byt x y h
theorem flat4_len : ∀ (l : List Nat), (l.flatMap be4).length = 4 * l.length
  | [] => rfl
  | x :: l => by rw [List.flatMap_cons, List.length_append, flat4_len l]; simp [be4]; omega
theorem bytes_len (v : St) : v.bytes.length = 32 := by rw [St.bytes_eq, flat4_len]; rfl

set_option maxRecDepth 100000 in
set_option maxHeartbeats 1000000 in
theorem bytesOf_any (W : World) (v : St) (hv : v.Ok) :
    Calls Tryd.prog 63 #[.agg (nw v.list).toArray] W fun e W' => ∃ v', e = .returned v' ∧ Bytes W.heap.size W' v' v.bytes ∧ Below W.heap.size W W' := by
  obtain ⟨i0, hi, hz0, hz1, hz2⟩ := info_parts Tryd.infoByte
  have hif8 : (Tryd.prog.info? 83).map (·.size) = some 8 := by kernel_rfl
  have hvl : ∀ x ∈ v.list, x < 4294967296 := by
    intro x hx
    obtain ⟨a, b, c, d, e, f, g, h⟩ := hv
    simp [St.list] at hx
    omega
  obtain ⟨L, hL⟩ : ∃ L, v.list = L := ⟨_, rfl⟩
  have hLl : L.length = 8 := by rw [← hL]; rfl
  have hbe : v.bytes = L.flatMap be4 := by rw [St.bytes_eq, hL]
  rw [hL] at hvl ⊢
  rw [hbe]
  obtain ⟨S, hS⟩ : ∃ A, (nw L).toArray = A := ⟨_, rfl⟩
  have hSs : S.size = 8 := by rw [← hS]; simp [hLl]
  have hifS : (Tryd.prog.info? 83).map (·.size) = some S.size := by rw [hSs]; exact hif8
  have hix : ∀ w (i x : Nat), L[i]? = some x → (Instr.index 83 (.agg S) (.int .i64 (i : Int))).run Tryd.prog w = .ok (.int .u32 (x : Int)) w := by rw [← hS]; exact fun w i x hx => idx_state w L hLl i x hx
  have Hix := hide hix
  rw [hS]
  clear hix hL hbe hS hif8 hSs hv
  obtain ⟨X, hX⟩ : ∃ X : World, X = W.alloc (.cells S 83) := ⟨_, rfl⟩
  have hXs : X.heap.size = W.heap.size + 1 := by rw [hX]; simp
  have hXn : X.heap[W.heap.size]? = some (.cells S 83 (0, 0)) := by rw [hX]; exact heap_new _ _
  have hXb : Below W.heap.size W X := by rw [hX]; exact (Below.refl _ _).alloc (Nat.le_refl _) _
  have HX := hide hX
  clear hX
  go_enter Tryd.func63, Tryd.ntmps63
  go_wp2_with (first
    | (at_make; rw [← unhide HX]; refine wpList_make_own _ rfl _ _ 29 rfl W.heap.size 5 i0 (.int .u8 0) 1 Tryd.underlying29 hi hz0 hz1 .i64 .i64 _ 32 rfl rfl rfl (by rw [hz2]; decide) (by decide) (by omega) ?_; intro w5 hown5 hgrow5; have Hr := hide hown5; have hXn5 : w5.heap[W.heap.size]? = some (.cells S 83 (0, 0)) := (hgrow5.block W.heap.size (by omega) (by simp)).trans hXn; have Hb : Hid (Below W.heap.size W w5) := hXb.trans ⟨hgrow5.os, hgrow5.tape, hgrow5.output, by have := hgrow5.size; omega, fun b hb => hgrow5.block b (by omega) (by simp)⟩; clear hown5 hgrow5)
    | (refine wpList_load_row rfl 83 (.tmp 1) rfl W.heap.size rfl 83 S (0, 0) _ hXn5 Tryd.underlying83 rfl hifS ?_))
  go_loopg [3, 8] 8 (fun gk v3 v8 wr => ∃ (i : Nat), v8 = .int .i64 (i : Int) ∧ v3 = .slice (some ⟨W.heap.size + 1, 0, none⟩) (4 * i) 32 ∧ gk = 8 - i ∧ i ≤ 8 ∧ wr.ownsRow W.heap.size 5 1 (.slice (some ⟨W.heap.size + 1, 0, none⟩) (4 * i) 32) (4 * i) (nb ((L.take i).flatMap be4)) ∧ Below W.heap.size W wr)
  case atStart => exact ⟨0, rfl, rfl, rfl, by omega, by have := unhide Hr; rw [hXs] at this; exact this, unhide Hb⟩
  case round =>
    clear Hr Hb hXn5
    obtain ⟨i, rfl, rfl, hgk, hk, hY, hB⟩ := hrel
    have Hgk := hide hgk
    clear hgk
    by_cases hlt : i < 8
    · obtain ⟨x, hx⟩ : ∃ x, L[i]? = some x := ⟨_, List.getElem?_eq_getElem (by omega)⟩
      have hxl := hvl x (List.mem_of_getElem? hx)
      have ix : ∀ w, (Instr.index 83 (.agg S) (.int .i64 (i : Int))).run Tryd.prog w = .ok (.int .u32 (x : Int)) w := fun w => unhide Hix w i x hx
      have hnx : (L.take (i + 1)).flatMap be4 = (L.take i).flatMap be4 ++ be4 x := by rw [List.take_add_one, hx, List.flatMap_append]; simp
      have Hnx := hide hnx
      have HY := hide hY
      have hi' : (i : Int) < 8 := by omega
      obtain ⟨B1, hB1⟩ : ∃ B1, B1 = x / 16777216 % 256 := ⟨_, rfl⟩
      obtain ⟨B2, hB2⟩ : ∃ B1, B1 = x / 65536 % 256 := ⟨_, rfl⟩
      obtain ⟨B3, hB3⟩ : ∃ B1, B1 = x / 256 % 256 := ⟨_, rfl⟩
      obtain ⟨B4, hB4⟩ : ∃ B1, B1 = x % 256 := ⟨_, rfl⟩
      have hbx : be4 x = [B1, B2, B3, B4] := by rw [hB1, hB2, hB3, hB4]; rfl
      have m1 : (x : Int) / 16777216 = (B1 : Int) := by omega
      have m2 : (x : Int) / 65536 % 256 = (B2 : Int) := by omega
      have m3 : (x : Int) / 256 % 256 = (B3 : Int) := by omega
      have m4 : (x : Int) % 256 = (B4 : Int) := by omega
      have l1 : B1 < 256 := by omega
      rw [hbx] at Hnx
      clear hB1 hB2 hB3 hB4 hbx
      clear hnx hY hx
      go_wp2_with (at_builtin; refine wpList_append_fits _ rfl _ _ 29 rfl W.heap.size 5 i0 1 Tryd.underlying29 hi hz1 (W.heap.size + 1) (4 * i) 32 (nb ((L.take i).flatMap be4)) rfl ((unhide HY).alloc _) ⟨wr.heap.size, 0, none⟩ 4 4 [.int .u8 (B1 : Int), .int .u8 (B2 : Int), .int .u8 (B3 : Int), .int .u8 (B4 : Int)] rfl rfl (World.news_of_block (cs := #[.int .u8 (B1 : Int), .int .u8 (B2 : Int), .int .u8 (B3 : Int), .int .u8 (B4 : Int)]) (heap_new _ _)) (by simp [Value.oneCell']) (by omega) ?_; intro w4 hown4 hgrow4; have Hown := hide hown4; have Hgrow := hide hgrow4; clear hown4 hgrow4)
      go_roundg (8 - (i + 1))
      case measure => have := unhide Hgk; omega
      case rel =>
        refine ⟨i + 1, by go_num, rfl, rfl, by omega, ?_, below_grow0 (u := .slice (some ⟨W.heap.size + 1, 0, none⟩) 0 0) hB hB.size (unhide Hgrow) (fun b hb => by have e : W.heap.size + 1 = b := Option.some.inj hb; omega)⟩
        rw [unhide Hnx, nb_append]
        exact unhide Hown
    · obtain rfl : i = 8 := by omega
      rw [List.take_of_length_le (by omega)] at hY
      have hb : Bytes W.heap.size wr (.slice (some ⟨W.heap.size + 1, 0, none⟩) (4 * 8) 32) (L.flatMap be4) := by unfold Bytes; rw [flat4_len, hLl]; exact hY
      have Hh := hide hb
      clear hb hY
      go_wp2
      go_ret
      exact ⟨_, rfl, unhide Hh, hB⟩

theorem be8_len (n : Nat) : (be8 n).length = 8 := rfl
theorem be8_byt (n : Nat) : Byt (be8 n) := by
  intro y hy
  simp [be8] at hy
  omega
theorem be8_at (n j : Nat) (h : j < 8) : (be8 n)[j]? = some (n / 2 ^ (56 - 8 * j) % 256) := by
  match j, h with
  | 0, _ => rfl
  | 1, _ => rfl
  | 2, _ => rfl
  | 3, _ => rfl
  | 4, _ => rfl
  | 5, _ => rfl
  | 6, _ => rfl
  | 7, _ => simp [be8]
theorem shr_cast (n sf : Nat) : 8 * (n : Int) / (2 : Int) ^ sf % 256 = ((8 * n / 2 ^ sf % 256 : Nat) : Int) := by
  have e1 : ((8 * n : Nat) : Int) = 8 * (n : Int) := by omega
  rw [Int.natCast_emod, Int.natCast_ediv, e1, Int.natCast_pow]
  rfl
theorem padding_byt (n : Nat) : Byt (padding n) := by
  intro y hy
  unfold padding at hy
  rcases List.mem_cons.1 hy with rfl | hy
  · decide
  · rcases List.mem_append.1 hy with hy | hy
    · rw [List.mem_replicate] at hy; omega
    · exact be8_byt _ y hy
theorem padding_len (n : Nat) : (padding n).length = 9 + zeros n := by unfold padding; simp [be8_len]; omega
theorem padded_mod (n : Nat) : (n + (padding n).length) % 64 = 0 := by rw [padding_len]; unfold zeros; omega
theorem zeros_lt (n : Nat) : zeros n < 64 := by unfold zeros; omega

set_option maxRecDepth 100000 in
set_option maxHeartbeats 1000000 in
theorem padding_any (W : World) (n : Nat) (hn : n ≤ 1125899906842624) :
    Calls Tryd.prog 62 #[.int .i64 (n : Int)] W fun e W' => ∃ v', e = .returned v' ∧ Bytes W.heap.size W' v' (padding n) ∧ Below W.heap.size W W' := by
  obtain ⟨i0, hi, hz0, hz1, hz2⟩ := info_parts Tryd.infoByte
  have hzl := zeros_lt n
  have hown0 : (W.alloc (.cells #[.int .u8 128] 5)).ownsRow W.heap.size 5 1 (.slice (some ⟨W.heap.size, 0, none⟩) 1 1) 1 (nb [128]) := ⟨rfl, .inr ⟨W.heap.size, 1, #[.int .u8 128], rfl, Nat.le_refl _, heap_new _ _, Nat.le_refl _, by decide, rfl, rfl⟩⟩
  have hb0 : Below W.heap.size W (W.alloc (.cells #[.int .u8 128] 5)) := (Below.refl _ _).alloc (Nat.le_refl _) _
  have H0 := hide hown0
  have HB0 := hide hb0
  clear hown0 hb0
  go_enter Tryd.func62, Tryd.ntmps62
  go_wp2
  go_loopg [3] (zeros n) (fun gk v3 wr => ∃ (k c : Nat) (a : Option Addr), v3 = .slice a (k + 1) c ∧ gk = zeros n - k ∧ k ≤ zeros n ∧ wr.ownsRow W.heap.size 5 1 v3 (k + 1) (nb (128 :: List.replicate k 0)) ∧ Below W.heap.size W wr)
  case atStart => exact ⟨0, 1, _, rfl, rfl, by omega, unhide H0, unhide HB0⟩
  case round =>
    clear H0 HB0
    obtain ⟨k, c, a, rfl, hgk, hk, hY, hB⟩ := hrel
    have Hgk := hide hgk
    have HY := hide hY
    have hsz := hB.size
    clear hgk hY
    obtain ⟨r, hr⟩ : ∃ r : Nat, r = (n + (k + 1)) % 64 := ⟨_, rfl⟩
    have htm : ((n : Int) + ((k : Int) + 1)).tmod 64 = (r : Int) := by rw [Int.tmod_eq_emod_of_nonneg (by omega)]; omega
    by_cases hlt : k < zeros n
    · have hne : ((r : Int) != 56) = true := by
        have : r ≠ 56 := by unfold zeros at hlt hk; omega
        simp; omega
      have o1 : k + 1 + 1 ≤ maxLen := by unfold maxLen; omega
      have o2 : (k + 1 + 1) * 1 ≤ 140737488355328 := by omega
      clear hr
      go_wp2_with (at_builtin; refine wpList_append_own_at _ rfl _ _ 29 rfl W.heap.size 5 i0 (.int .u8 0) 1 1 Tryd.underlying29 hi hz0 hz1 hz2 rfl (by decide) _ _ _ rfl ((unhide HY).alloc _) ⟨wr.heap.size, 0, none⟩ 1 1 [.int .u8 0] rfl rfl (cell_one_new _ _ _) (by simp [Value.oneCell']) o1 o2 (by rw [World.size_alloc]; exact Nat.le_succ_of_le hsz) ?_; intro v4 w4 hown4 hgrow4 _ hat4; have Hown := hide hown4; have Hgrow := hide hgrow4; clear hown4 hgrow4 hat4)
      go_roundg (zeros n - (k + 1))
      case measure => have := unhide Hgk; omega
      case rel =>
        obtain ⟨a4, c4, hv4, _⟩ := (show HasB w4 v4 (128 :: List.replicate (k + 1) 0) from Bytes.has (base := W.heap.size) (by
          unfold Bytes
          rw [List.length_cons, List.length_replicate, List.replicate_succ', ← List.cons_append, nb_append]
          exact unhide Hown))
        refine ⟨k + 1, c4, a4, by rw [hv4]; simp, rfl, by omega, ?_, below_grow0 hB hsz (unhide Hgrow) (fun b hb => ((unhide HY).lt b hb).1)⟩
        rw [List.replicate_succ', ← List.cons_append, nb_append]
        exact unhide Hown
    · obtain rfl : k = zeros n := by omega
      have h56 : r = 56 := by unfold zeros at hr; omega
      subst h56
      clear hr
      obtain ⟨z, hz⟩ : ∃ z, z = zeros n := ⟨_, rfl⟩
      have Hz := hide hz
      rw [← hz] at hzl htm HY ⊢
      clear hz Hgk hk hlt
      go_wp2
      go_loopg [3, 5] 8 (fun gk v3 v5 wr => ∃ (j : Nat), v5 = .int .i64 (56 - 8 * (j : Int)) ∧ gk = 8 - j ∧ j ≤ 8 ∧ wr.ownsRow W.heap.size 5 1 v3 (z + 1 + j) (nb (128 :: List.replicate z 0 ++ (be8 (8 * n)).take j)) ∧ Below W.heap.size W wr)
      case atStart => exact ⟨0, rfl, rfl, by omega, by simpa using unhide HY, hB⟩
      case round =>
        clear HY hB hsz
        obtain ⟨j, rfl, hgk, hj, hY, hB⟩ := hrel
        have Hgk := hide hgk
        have HY := hide hY
        have hsz := hB.size
        clear hgk hY
        by_cases hlt : j < 8
        · obtain ⟨sf, hsf⟩ : ∃ sf : Nat, sf = 56 - 8 * j := ⟨_, rfl⟩
          have hsfi : 56 - 8 * (j : Int) = (sf : Int) := by omega
          have hat := be8_at (8 * n) j hlt
          rw [← hsf] at hat
          obtain ⟨y, hy⟩ : ∃ y : Nat, y = 8 * n / 2 ^ sf % 256 := ⟨_, rfl⟩
          rw [← hy] at hat
          have hval : 8 * (n : Int) / (2 : Int) ^ sf % 256 = (y : Int) := by rw [hy]; exact shr_cast n sf
          have hnx : (be8 (8 * n)).take (j + 1) = (be8 (8 * n)).take j ++ [y] := by rw [List.take_add_one, hat]; rfl
          have Hnx := hide hnx
          have o1 : z + 1 + j + 1 ≤ maxLen := by unfold maxLen; omega
          have o2 : (z + 1 + j + 1) * 1 ≤ 140737488355328 := by omega
          have hs56 : sf ≤ 56 := by omega
          have hnext : (sf : Int) - 8 = 56 - 8 * ((j + 1 : Nat) : Int) := by omega
          have Hnext := hide hnext
          clear hat hy hnx hsf hnext
          have Hval := hide hval
          clear hval
          go_wp2_with (at_builtin; refine wpList_append_own_at _ rfl _ _ 29 rfl W.heap.size 5 i0 (.int .u8 0) 1 1 Tryd.underlying29 hi hz0 hz1 hz2 rfl (by decide) _ _ _ rfl ((unhide HY).alloc _) ⟨wr.heap.size, 0, none⟩ 1 1 [.int .u8 (8 * (n : Int) / 2 ^ sf % 256)] rfl rfl (cell_one_new _ _ _) (by simp [Value.oneCell']) o1 o2 (by rw [World.size_alloc]; exact Nat.le_succ_of_le hsz) ?_; intro v4 w4 hown4 hgrow4 _ hat4; have Hown := hide hown4; have Hgrow := hide hgrow4; clear hown4 hgrow4 hat4)
          go_roundg (8 - (j + 1))
          case measure => have := unhide Hgk; omega
          case rel =>
            refine ⟨j + 1, by have := unhide Hnext; rw [← this, ← hsfi], rfl, by omega, ?_, below_grow0 hB hsz (unhide Hgrow) (fun b hb => ((unhide HY).lt b hb).1)⟩
            have e := unhide Hown
            rw [unhide Hval] at e
            rw [unhide Hnx, ← List.append_assoc, nb_append]
            exact e
        · obtain rfl : j = 8 := by omega
          have hY := unhide HY
          rw [List.take_of_length_le (by rw [be8_len]; omega)] at hY
          have hb : Bytes W.heap.size wr u3 (padding n) := by
            unfold Bytes
            rw [padding_len, ← unhide Hz, show 9 + z = z + 1 + 8 by omega]
            unfold padding
            rw [← unhide Hz]
            exact hY
          have Hh := hide hb
          clear hb hY HY
          go_wp2
          go_ret
          exact ⟨_, rfl, unhide Hh, hB⟩
end Go.Proofs.YtlblllghgdfpoaaDoor
