import Derived.Test.YtlblllghgdfpoaaDoorDRd
import Derived.Test.YtlblllghgdfpoaaDoorJ17

namespace Go.Proofs.YtlblllghgdfpoaaDoor
open Go.RowKit
attribute [local go_sem ↓] Go.wp_at_zero Go.wp_at_succ

theorem Only.ofBelow {A B : World} (h : Below A.heap.size A B) (b : Nat) : Only A b B := ⟨h.os, h.tape, h.output, h.size, fun k hk _ => h.block k hk⟩
theorem Bytes.only {base b : Nat} {W w : World} {v : Value} {l : List Nat} (h : Bytes base W v l) (hb : b < base) (ho : Only W b w) : HasB w v l := by
  obtain ⟨a, c, rfl, hm, h3⟩ := h.has
  refine ⟨a, c, rfl, hm, fun hp => ?_⟩
  obtain ⟨g, off, rfl, hg, hc⟩ := h3 hp
  have hgb := (World.ownsRow.lt h g rfl).1
  exact ⟨g, off, rfl, Nat.lt_of_lt_of_le hg ho.size, fun i x hx => (cell_heap (p := ⟨g, off + i, none⟩) (ho.far g hg (by omega))).trans (hc i x hx)⟩
theorem si_eq : (ni st0.list).toArray = #[.int .i64 1779033703, .int .i64 3144134277, .int .i64 1013904242, .int .i64 2773480762, .int .i64 1359893119, .int .i64 2600822924, .int .i64 528734635, .int .i64 1541459225] := by rfl
theorem be4_at (n j : Nat) (h : j < 4) : (be4 n)[j]? = some (n / 2 ^ (24 - 8 * j) % 256) := by
  match j, h with
  | 0, _ => rfl
  | 1, _ => rfl
  | 2, _ => rfl
  | 3, _ => simp [be4]
theorem shr_cast1 (n sf : Nat) : (n : Int) / (2 : Int) ^ sf % 256 = ((n / 2 ^ sf % 256 : Nat) : Int) := by
  rw [Int.natCast_emod, Int.natCast_ediv, Int.natCast_pow]
  rfl
theorem run_take (p : List Nat) (j : Nat) (h : 64 * (j + 1) ≤ p.length) : run (j + 1) st0 (p.take (64 * (j + 1))) = block (run j st0 (p.take (64 * j))) (wordsL 16 ((p.drop (64 * j)).take 64)) := by
  have e : p.take (64 * (j + 1)) = p.take (64 * j) ++ (p.drop (64 * j)).take 64 := by rw [show 64 * (j + 1) = 64 * j + 64 by omega, List.take_add]
  rw [e, run_append j st0 _ _ (by rw [List.length_take]; omega), List.take_take]
  rfl
set_option maxRecDepth 100000 in
set_option maxHeartbeats 4000000 in
theorem xsum_any {W : World} (hK : HasX W) {v : Value} {l : List Nat} (h : HasB W v l) (hl : Byt l) (hn : l.length ≤ 140737488351300) :
    Calls Tryd.prog 43 #[v] W fun e W' => ∃ v', e = .returned v' ∧ Bytes W.heap.size W' v' (sha l) ∧ Below W.heap.size W W' := by
  obtain ⟨i0, hi, hz0, hz1, hz2⟩ := info_parts Tryd.infoByte
  have hif8 : (Tryd.prog.info? 76).map (·.size) = some 8 := by kernel_rfl
  have hif64 : (Tryd.prog.info? 77).map (·.size) = some 64 := by kernel_rfl
  obtain ⟨W1, hW1⟩ : ∃ w, w = W.alloc (.cells #[.int .i64 1779033703, .int .i64 3144134277, .int .i64 1013904242, .int .i64 2773480762, .int .i64 1359893119, .int .i64 2600822924, .int .i64 528734635, .int .i64 1541459225] 76) := ⟨_, rfl⟩
  have hW1s : W1.heap.size = W.heap.size + 1 := by rw [hW1]; simp
  have hW1b : Below W.heap.size W W1 := by rw [hW1]; exact (Below.refl _ _).alloc (Nat.le_refl _) _
  have hW1n : ArrI W1 W.heap.size 76 st0.list := by unfold ArrI; rw [hW1, si_eq]; exact heap_new _ _
  have h1 := h.up hW1b
  have hk0 : 1 < W.heap.size := hK.1
  have HW1 := hide hW1
  clear hW1 h
  go_enter Tryd.func43, Tryd.ntmps43
  go_wp2_with fail
  rw [← unhide HW1]
  refine (xpadded_any h1 hl hn).mono ?_
  rintro e w2 ⟨vp, rfl, hP, hb2⟩
  obtain ⟨p, hp⟩ : ∃ p, l ++ padding l.length = p := ⟨_, rfl⟩
  have hpl : p.length % 64 = 0 := by rw [← hp, List.length_append]; exact padded_mod _
  have hpm : p.length ≤ 140737488355328 := by
    rw [← hp, List.length_append, padding_len]
    have := zeros_lt l.length
    omega
  have hpB : Byt p := by
    rw [← hp]
    intro y hy
    rcases List.mem_append.1 hy with q | q
    · exact hl y q
    · exact padding_byt _ y q
  have hsha : sha l = (stOf p).bytes := by unfold sha; rw [hp]
  have Hsha := hide hsha
  rw [hp] at hP
  clear hp hsha h1 hl hn HW1
  obtain ⟨ap, cp, rfl⟩ := hP.shp
  have hb02 : Below W.heap.size W w2 := hW1b.trans (hb2.mono (by omega))
  have hn2 : ArrI w2 W.heap.size 76 st0.list := hW1n.up hb2 (by omega)
  have hs2 : W.heap.size + 1 ≤ w2.heap.size := by have := hb2.size; omega
  have HP := hide hP
  have HK2 := hide (hK.up hb02)
  have HB2 := hide hb02
  have H20 : Hid (ArrI w2 W.heap.size 76 (run 0 st0 (p.take (64 * 0))).list) := hn2
  clear hb2 hW1n hW1b hK hn2 hb02 hP
  go_wp2
  go_loopg [5] (p.length / 64) (fun gk v5 wr => ∃ (q j : Nat), v5 = .int .i64 (q : Int) ∧ q = 64 * j ∧ gk = p.length / 64 - j ∧ q ≤ p.length ∧ Hid (ArrI wr W.heap.size 76 (run j st0 (p.take (64 * j))).list) ∧ Hid (Only w2 W.heap.size wr))
  case atStart => exact ⟨0, 0, rfl, rfl, rfl, by omega, H20, Only.refl _ _⟩
  case round =>
    clear H20
    obtain ⟨q, j, rfl, hq, hgk, hqp, HA, HO⟩ := hrel
    have Hgk := hide hgk
    clear hgk
    have hsz := (unhide HO).size
    by_cases hlt : q < p.length
    · have hq64 : q + 64 ≤ p.length := by omega
      have hPr := Bytes.only (unhide HP) (by omega) (unhide HO)
      have hok : (run j st0 (p.take (64 * j))).Ok := run_ok _ _ _ st0_ok
      have hnext := run_take p j (by omega)
      obtain ⟨s, hs⟩ : ∃ s, run j st0 (p.take (64 * j)) = s := ⟨_, rfl⟩
      obtain ⟨w16, hw16⟩ : ∃ s, wordsL 16 ((p.drop (64 * j)).take 64) = s := ⟨_, rfl⟩
      have hsegB : Byt ((p.drop (64 * j)).take 64) := fun y hy => hpB y (List.mem_of_mem_drop (List.mem_of_mem_take hy))
      have hw16l : w16.length = 16 := by rw [← hw16, wordsL_len]
      have hw16w : W32 w16 := by rw [← hw16]; exact wordsL_w32 16 _ hsegB
      have hcall := xwords_any hPr hpB q hq64 hpm
      rw [show (p.drop q).take 64 = (p.drop (64 * j)).take 64 by rw [hq], hw16] at hcall
      rw [hs, hw16] at hnext
      rw [hs] at hok HA
      have Hnext := hide hnext
      obtain ⟨ws, hws⟩ : ∃ ws, ext 48 w16 = ws := ⟨_, rfl⟩
      have hwl : ws.length = 64 := by rw [← hws, ext_len, hw16l]
      have hww : W32 ws := by rw [← hws]; exact ext_w32 _ _ hw16w
      have hblk : block s w16 = s.add (rnds kw ws s) := by unfold block; rw [hws]
      have Hblk := hide hblk
      rw [hws] at hcall
      have Hcall := hide hcall
      have Hq := hide hq
      clear hs hw16 hsegB hcall hnext hws hblk hPr hq
      go_wp2_with fail
      refine (unhide Hcall).mono ?_
      rintro o w3 ⟨rfl, hb3⟩
      have hb3s := hb3.size
      obtain ⟨S, hS⟩ : ∃ A, (ni s.list).toArray = A := ⟨_, rfl⟩
      obtain ⟨C, hC⟩ : ∃ A, (ni ws).toArray = A := ⟨_, rfl⟩
      have hCs : C.size = 64 := by rw [← hC]; simp [hwl]
      have hC1 : C.all (·.oneCell') = true := by rw [← hC]; exact ni_one _
      have hSs : S.size = 8 := by rw [← hS]; rfl
      have hifC : (Tryd.prog.info? 77).map (·.size) = some C.size := by rw [hCs]; exact hif64
      have hifS : (Tryd.prog.info? 76).map (·.size) = some S.size := by rw [hSs]; exact hif8
      obtain ⟨X, hX⟩ : ∃ X : World, X = w3.alloc (.cells #[.int .i64 0, .int .i64 0, .int .i64 0, .int .i64 0, .int .i64 0, .int .i64 0, .int .i64 0, .int .i64 0, .int .i64 0, .int .i64 0, .int .i64 0, .int .i64 0, .int .i64 0, .int .i64 0, .int .i64 0, .int .i64 0, .int .i64 0, .int .i64 0, .int .i64 0, .int .i64 0, .int .i64 0, .int .i64 0, .int .i64 0, .int .i64 0, .int .i64 0, .int .i64 0, .int .i64 0, .int .i64 0, .int .i64 0, .int .i64 0, .int .i64 0, .int .i64 0, .int .i64 0, .int .i64 0, .int .i64 0, .int .i64 0, .int .i64 0, .int .i64 0, .int .i64 0, .int .i64 0, .int .i64 0, .int .i64 0, .int .i64 0, .int .i64 0, .int .i64 0, .int .i64 0, .int .i64 0, .int .i64 0, .int .i64 0, .int .i64 0, .int .i64 0, .int .i64 0, .int .i64 0, .int .i64 0, .int .i64 0, .int .i64 0, .int .i64 0, .int .i64 0, .int .i64 0, .int .i64 0, .int .i64 0, .int .i64 0, .int .i64 0, .int .i64 0] 77) := ⟨_, rfl⟩
      have hXn : X.heap[w3.heap.size]? = some (.cells (ni (List.replicate 64 0)).toArray 77 (0, 0)) := by rw [hX, zi64_eq]; exact heap_new _ _
      have hold : (ni (List.replicate 64 0)).toArray.size = C.size := by rw [hCs]; simp
      have hXb : Below w3.heap.size w3 X := by rw [hX]; exact (Below.refl _ _).alloc (Nat.le_refl _) _
      obtain ⟨Y, hY⟩ : ∃ Y : World, Y = X.setRow w3.heap.size C := ⟨_, rfl⟩
      have hYb : Below w3.heap.size w3 Y := by rw [hY]; exact below_setRow hXb (Nat.le_refl _) _
      have hOY : Only w2 W.heap.size Y := ((unhide HO).trans (Only.ofBelow hb3 _)).trans (Only.ofBelow hYb _)
      have hY0 : Y.heap[W.heap.size]? = some (.cells S 76 (0, 0)) := by
        have := ((unhide HA).up hb3 (by omega)).up hYb (by omega)
        unfold ArrI at this
        rw [hS] at this
        exact this
      have hY1 : Y.heap[w3.heap.size]? = some (.cells C 77 (0, 0)) := by rw [hY]; exact setRow_heap X _ _ _ _ _ hXn
      have hKY : HasX Y := ⟨by have := hOY.size; omega, fun i x hx => (cell_heap (p := ⟨1, i, none⟩) (hOY.far 1 (by omega) (by omega))).trans ((unhide HK2).2 i x hx)⟩
      have hcall2 := xblock_any hKY s hok ws hwl hww
      rw [hS, hC, ← unhide Hblk, ← unhide Hnext] at hcall2
      have Hcall2 := hide hcall2
      have hYs := hYb.size
      have HX := hide hX
      have HY := hide hY
      have HOY := hide hOY
      rw [hC]
      clear Hcall HA HO hb3 hX hY hYb hXb hKY hcall2 hS hC hOY Hblk Hnext hok hww hwl hw16l hw16w
      go_wp2_with (first
        | (rw [← unhide HX]; refine wpList_store_row rfl 77 (.tmp 6) (.tmp 21) rfl w3.heap.size C rfl rfl 77 _ hXn hifC hold hC1 ?_; rw [← unhide HY])
        | (refine wpList_load_row rfl 76 (.tmp 3) rfl W.heap.size rfl 76 S (0, 0) _ hY0 Tryd.underlying76 rfl hifS ?_)
        | (refine wpList_load_row rfl 77 (.tmp 6) rfl w3.heap.size rfl 77 C (0, 0) _ hY1 Tryd.underlying77 rfl hifC ?_))
      refine (unhide Hcall2).mono ?_
      rintro o w4 ⟨rfl, hb4⟩
      have h40 : w4.heap[W.heap.size]? = some (.cells S 76 (0, 0)) := (hb4.block _ (by omega)).trans hY0
      obtain ⟨R, hR⟩ : ∃ A, (ni (run (j + 1) st0 (p.take (64 * (j + 1)))).list).toArray = A := ⟨_, rfl⟩
      have hRs : R.size = 8 := by rw [← hR]; rfl
      have hR1 : R.all (·.oneCell') = true := by rw [← hR]; exact ni_one _
      have hifR : (Tryd.prog.info? 76).map (·.size) = some R.size := by rw [hRs]; exact hif8
      have hold2 : S.size = R.size := by rw [hRs, hSs]
      have HO4 : Hid (Only w2 W.heap.size w4) := (unhide HOY).trans (Only.ofBelow hb4 _)
      have HR := hide hR
      rw [hR]
      clear Hcall2 hb4 hR hY0 hY1 HOY HX HY hXn hold
      go_wp2_with (refine wpList_store_row rfl 76 (.tmp 3) (.tmp 24) rfl W.heap.size R rfl rfl 76 _ h40 hifR hold2 hR1 ?_)
      go_roundg (p.length / 64 - (j + 1))
      case measure => have := unhide Hgk; have := unhide Hq; omega
      case rel =>
        refine ⟨q + 64, j + 1, by go_num, by have := unhide Hq; omega, rfl, by omega, ?_, only_setRow (unhide HO4) _⟩
        show ArrI _ _ _ _
        unfold ArrI
        rw [unhide HR]
        exact setRow_heap _ _ _ _ _ _ h40
    · obtain rfl : q = p.length := by omega
      have hj : p.length / 64 = j := by omega
      have hA := unhide HA
      rw [List.take_of_length_le (by omega)] at hA
      have hst : stOf p = run j st0 p := by unfold stOf; rw [hj]
      rw [← hst] at hA
      obtain ⟨L, hL⟩ : ∃ L, (stOf p).list = L := ⟨_, rfl⟩
      have hLl : L.length = 8 := by rw [← hL]; rfl
      have hLw : ∀ x ∈ L, x < 4294967296 := by
        rw [← hL]
        intro x hx
        obtain ⟨a, b, c, d, e, f, g, h⟩ := stOf_ok p
        simp [St.list] at hx
        omega
      have Hbytes : Hid (sha l = L.flatMap be4) := by show _ = _; rw [unhide Hsha, St.bytes_eq, hL]
      rw [hL] at hA
      have HL := hide hA
      have HBV : Hid (Below W.heap.size W wr) := (unhide HB2).trans ((unhide HO).below (by omega) (Nat.le_refl _))
      have hVs : W.heap.size + 1 ≤ wr.heap.size := by omega
      have n0 : Hid (Bytes (W.heap.size + 1) wr (.slice none 0 0) ((L.take 0).flatMap be4)) := bytes_nil _ _
      have b0 : Hid (Below (W.heap.size + 1) wr wr) := Below.refl _ _
      obtain ⟨V, hV⟩ : ∃ V, V = wr := ⟨_, rfl⟩
      rw [← hV] at HL HBV hVs b0
      rw [← hV] at n0 ⊢
      clear hA hst hL hj HO HP HK2 HB2 Hsha HA Hgk hlt hqp hq hpB hsz hs2 hV
      go_wp2
      go_loopg [7, 8] 8 (fun gk v7 v8 wr => ∃ (i : Nat), v8 = .int .i64 (i : Int) ∧ gk = 8 - i ∧ i ≤ 8 ∧ Hid (Bytes (W.heap.size + 1) wr v7 ((L.take i).flatMap be4)) ∧ Hid (Below (W.heap.size + 1) V wr))
      case atStart => exact ⟨0, rfl, rfl, by omega, n0, b0⟩
      case round =>
        clear n0 b0
        obtain ⟨i, rfl, hgk, hi8, HY, HB⟩ := hrel
        have Hgk := hide hgk
        clear hgk
        by_cases hlt : i < 8
        · obtain ⟨x, hx⟩ : ∃ x, L[i]? = some x := ⟨_, List.getElem?_eq_getElem (by omega)⟩
          have hxl := hLw x (List.mem_of_getElem? hx)
          have Hnx : Hid ((L.take (i + 1)).flatMap be4 = (L.take i).flatMap be4 ++ be4 x) := by show _ = _; rw [List.take_add_one, hx, List.flatMap_append]; simp
          have hfl : ((L.take i).flatMap be4).length ≤ 32 := by rw [flat4_len, List.length_take]; omega
          have n1 : Hid (Bytes (W.heap.size + 1) wr u7 ((L.take i).flatMap be4 ++ (be4 x).take (4 - 4))) := by show Bytes _ _ _ _; rw [show 4 - 4 = 0 from rfl, List.take_zero, List.append_nil]; exact unhide HY
          generalize (L.take i).flatMap be4 = pre at *
          have hi' : (i : Int) < 8 := by omega
          have hcx : ∀ w, Below (W.heap.size + 1) V w → w.cell? ⟨W.heap.size, i, none⟩ = some (.int .i64 (x : Int)) := fun w hw => ((unhide HL).up hw (by omega)).cell hx
          have Hcx := hide hcx
          clear hcx hx HY
          go_wp2
          go_loopg [7, 9] 4 (fun gk v7 v9 wr => ∃ (q : Nat), v9 = .int .i64 ((q : Int) - 1) ∧ gk = q ∧ q ≤ 4 ∧ Hid (Bytes (W.heap.size + 1) wr v7 (pre ++ (be4 x).take (4 - q))) ∧ Hid (Below (W.heap.size + 1) V wr))
          case atStart => exact ⟨4, rfl, rfl, by omega, n1, HB⟩
          case round =>
            clear n1 HB
            obtain ⟨q, rfl, hgk, hq, HY, HB⟩ := hrel
            obtain rfl : q = gk := hgk.symm
            clear hgk
            by_cases hlt4 : 0 < q
            · obtain ⟨m, rfl⟩ : ∃ m, q = m + 1 := ⟨q - 1, by omega⟩
              have e1 : ((m + 1 : Nat) : Int) - 1 = (m : Int) := by omega
              rw [e1]
              obtain ⟨sf, hsf⟩ : ∃ sf : Nat, sf = 8 * m := ⟨_, rfl⟩
              have hsfi : 8 * (m : Int) = (sf : Int) := by omega
              have hat := be4_at x (4 - (m + 1)) (by omega)
              rw [show 24 - 8 * (4 - (m + 1)) = sf by omega] at hat
              obtain ⟨y, hy⟩ : ∃ y : Nat, y = x / 2 ^ sf % 256 := ⟨_, rfl⟩
              rw [← hy] at hat
              have hval : (x : Int) / (2 : Int) ^ sf % 256 = (y : Int) := by rw [hy]; exact shr_cast1 x sf
              have Hny : Hid ((be4 x).take (4 - m) = (be4 x).take (4 - (m + 1)) ++ [y]) := by show _ = _; rw [show 4 - m = (4 - (m + 1)) + 1 by omega, List.take_add_one, hat]; rfl
              have hs24 : sf ≤ 24 := by omega
              have hl1 : (pre ++ (be4 x).take (4 - (m + 1))).length ≤ 40 := by rw [List.length_append, List.length_take]; omega
              have O1 : Hid ((pre ++ (be4 x).take (4 - (m + 1))).length + 1 ≤ maxLen) := by show _ ≤ _; unfold maxLen; omega
              have O2 : Hid (((pre ++ (be4 x).take (4 - (m + 1))).length + 1) * 1 ≤ 140737488355328) := by show _ ≤ _; omega
              have m0 : (0 : Int) ≤ (m : Int) := Int.natCast_nonneg _
              have hszB : W.heap.size + 1 ≤ wr.heap.size := by have := (unhide HB).size; omega
              have cx := unhide Hcx wr (unhide HB)
              have Hval := hide hval
              clear hat hy hl1 hsf e1 hval
              go_wp2_with (at_builtin; refine wpList_append_own_at _ rfl _ _ 29 rfl (W.heap.size + 1) 5 i0 (.int .u8 0) 1 1 Tryd.underlying29 hi hz0 hz1 hz2 rfl (by decide) _ _ _ rfl ((unhide HY).alloc _) ⟨wr.heap.size, 0, none⟩ 1 1 [.int .u8 ((x : Int) / 2 ^ sf % 256)] rfl rfl (cell_one_new _ _ _) (by simp [Value.oneCell']) (unhide O1) (unhide O2) (by rw [World.size_alloc]; omega) ?_; intro v4 w4 hown4 hgrow4 hdrop4 hat4; clear hdrop4; have Hown := hide hown4; have Hb4 : Hid (Below (W.heap.size + 1) V w4) := below_grow0 (unhide HB) hszB hgrow4 (fun b hb => ((unhide HY).lt b hb).1); clear hown4 hgrow4 hat4)
              go_roundg m
              case measure => omega
              case rel =>
                refine ⟨m, by go_num, rfl, by omega, ?_, Hb4⟩
                show Bytes _ _ _ _
                rw [unhide Hny, ← List.append_assoc]
                exact own_bytes (unhide Hval) rfl (unhide Hown)
            · obtain rfl : q = 0 := by omega
              have hY := unhide HY
              rw [List.take_of_length_le (by show 4 ≤ _; omega), ← unhide Hnx] at hY
              have HY1 := hide hY
              have e0 : ((0 : Nat) : Int) - 1 = -1 := rfl
              rw [e0]
              clear hY HY
              go_wp2
              go_roundg (8 - (i + 1))
              case measure => have := unhide Hgk; omega
              case rel => exact ⟨i + 1, by go_num, rfl, by omega, HY1, HB⟩
        · obtain rfl : i = 8 := by omega
          have hY := unhide HY
          rw [List.take_of_length_le (by omega), ← unhide Hbytes] at hY
          have HY1 := hide hY
          clear hY HY
          go_wp2
          go_ret
          exact ⟨_, rfl, (unhide HY1).base (by omega), (unhide HBV).trans ((unhide HB).mono (by omega))⟩
end Go.Proofs.YtlblllghgdfpoaaDoor
