import Derived.Test.YtoojchjfmnbdpaaDPv
namespace Go.Proofs.Ytoojchjfmnbdpaa
open Go.RowKit
attribute [local go_sem ↓] Go.wp_at_zero Go.wp_at_succ

/-- The world with the turn in a block of its own. -/
def bx (W : World) (k z y : Int) : World := W.alloc (.cells #[.int .i64 k, .int .i64 z, .int .i64 y] 35)
theorem bx_cells (W : World) (k z y : Int) : (bx W k z y).cell? ⟨W.heap.size, 0, none⟩ = some (.int .i64 k) ∧ (bx W k z y).cell? ⟨W.heap.size, 1, none⟩ = some (.int .i64 z) ∧ (bx W k z y).cell? ⟨W.heap.size, 2, none⟩ = some (.int .i64 y) := by
  have h : (bx W k z y).heap[W.heap.size]? = some (.cells #[.int .i64 k, .int .i64 z, .int .i64 y] 35) := heap_new _ _
  unfold World.cell?
  rw [h]
  exact ⟨rfl, rfl, rfl⟩
theorem bx_size (W : World) (k z y : Int) : (bx W k z y).heap.size = W.heap.size + 1 := World.size_alloc _ _
theorem bx_below (W : World) (k z y : Int) : Below W.heap.size W (bx W k z y) := (Below.refl _ _).alloc (Nat.le_refl _) _
set_option maxRecDepth 100000 in
set_option maxHeartbeats 4000000 in
theorem turned_any {W : World} {v : Value} {l : List Nat} (h : HasB W v l) (hl : Byt l) (hn : l.length ≤ 35184372088832) {k z0 y : Int} :
    Calls Try.prog 10 #[v, .agg #[.int .i64 k, .int .i64 z0, .int .i64 y]] W fun e W' => ∃ v' l', e = .returned v' ∧ HasB W' v' l' ∧ Byt l' ∧ l'.length ≤ 2 * l.length ∧ Below W.heap.size W W' := by
  obtain ⟨i0, hi, hz0, hz1, hz2⟩ := info_parts Try.infoByte
  obtain ⟨a, c, rfl, hm, h3⟩ := h
  have H3 := hide h3
  have hc1 : c ≤ 9223372036854775807 := by have := hm.2.1; unfold maxLen at this; omega
  have hc2 := hm.1
  clear hm h3
  have hbx := bx_cells W k z0 y
  have hbb := bx_below W k z0 y
  have hbs := bx_size W k z0 y
  unfold bx at hbx
  by_cases hp : 0 < l.length
  · have q0 : ((l.length : Int) == 0) = false := beq_eq_false_iff_ne.2 (by omega)
    obtain ⟨z, hzz⟩ : ∃ z, z0.tmod (l.length : Int) = z := ⟨_, rfl⟩
    have z1 : z < (l.length : Int) := by rw [← hzz]; exact Int.tmod_lt_of_pos _ (by omega)
    have z2 : -(l.length : Int) < z := by
      rw [← hzz]
      have := Int.lt_tmod_of_pos z0 (b := (l.length : Int)) (by omega)
      omega
    rcases (show (∃ A, decide (z < 0) = true ∧ z + (l.length : Int) = A ∧ 0 ≤ A ∧ A < (l.length : Int)) ∨ (∃ A, decide (z < 0) = false ∧ z = A ∧ 0 ≤ A ∧ A < (l.length : Int)) from by
      by_cases hz0 : z < 0
      · exact .inl ⟨_, by simpa using hz0, rfl, by omega, by omega⟩
      · exact .inr ⟨_, by simpa using hz0, rfl, by omega, by omega⟩) with ⟨A, q1, eA, a0, a1⟩ | ⟨A, q1, eA, a0, a1⟩
    all_goals
      obtain ⟨BX, hBX⟩ : ∃ BX, BX = bx W k z0 y := ⟨_, rfl⟩
      have hBX' : W.alloc (.cells #[.int .i64 k, .int .i64 z0, .int .i64 y] 35) = BX := by rw [hBX]; rfl
      rw [hBX'] at hbx
      rw [← hBX] at hbb hbs
      have Hbx := hide hbx
      have Hbb := hide hbb
      obtain ⟨hbx0, hbx1, hbx2⟩ := hbx
      have HY0 : Hid (Bytes (W.heap.size + 1) BX (.slice none 0 0) []) := bytes_nil _ _
      have HB0 : Hid (Below (W.heap.size + 1) BX BX) := Below.refl _ _
      have HBX := hide hBX'
      clear hbb hBX hBX'
      have hzn : (l.length : Int) ≠ 0 := by omega
      have hn' : (l.length : Int) ≤ 35184372088832 := by omega
      go_enter Try.func10, Try.ntmps10
      go_wp2
      try rw [unhide HBX]
      go_loopg [6, 7] l.length (fun gk v6 v7 wr => ∃ (i : Nat) (acc : List Nat), v7 = .int .i64 (i : Int) ∧ gk = l.length - i ∧ i ≤ l.length ∧ Hid (Bytes (W.heap.size + 1) wr v6 acc) ∧ (Byt acc ∧ acc.length ≤ 2 * i) ∧ Hid (Below (W.heap.size + 1) BX wr))
      case atStart => exact ⟨0, [], rfl, rfl, by omega, HY0, ⟨fun x hx => (by cases hx), by simp⟩, HB0⟩
      case round =>
        clear HY0 HB0 hbx0 hbx1 hbx2
        obtain ⟨i, acc, rfl, hgk, hk, HY, ⟨hab, hal⟩, HB⟩ := hrel
        have Hgk := hide hgk
        clear hgk
        have hszB : W.heap.size + 1 ≤ wr.heap.size := by have := (unhide HB).size; omega
        by_cases hlt : i < l.length
        · obtain ⟨g, off, rfl, hg, hc⟩ := unhide H3 (by omega)
          obtain ⟨x, hx⟩ : ∃ x, l[i]? = some x := ⟨_, List.getElem?_eq_getElem hlt⟩
          have hxb := hl.at hx
          have cx := (((unhide HB).cell (p := ⟨g, off + i, none⟩) (by show g < W.heap.size + 1; omega)).trans ((unhide Hbb).cell (p := ⟨g, off + i, none⟩) hg)).trans (hc i x hx)
          have ck := ((unhide HB).cell (p := ⟨W.heap.size, 0, none⟩) (by show W.heap.size < W.heap.size + 1; omega)).trans (unhide Hbx).1
          have cy := ((unhide HB).cell (p := ⟨W.heap.size, 2, none⟩) (by show W.heap.size < W.heap.size + 1; omega)).trans (unhide Hbx).2.2
          have hxB : Byt [x] := fun w hw => by rw [List.mem_singleton.1 hw]; exact hxb
          obtain ⟨y8, hy8⟩ : ∃ y8 : Nat, y8 = (y % 256).toNat := ⟨_, rfl⟩
          have ey : y % 256 = (y8 : Int) := by omega
          have ew : IntKind.u8.wrap y = (y8 : Int) := by rw [IntKind.wrap_u8]; omega
          have hy8b : y8 < 256 := by omega
          have hxor : bits .xor .u8 (x : Int) (y8 : Int) = ((x ^^^ y8 : Nat) : Int) := u8_xor_nat x y8 hxb hy8b
          have hxyB : Byt [x ^^^ y8] := fun w hw => by rw [List.mem_singleton.1 hw]; exact Nat.xor_lt_two_pow (n := 8) hxb hy8b
          have HX0 : Hid (Byt acc ∧ acc.length ≤ 2 * (i + 1)) := ⟨hab, by omega⟩
          have HX1 : Hid (Byt (acc ++ [x]) ∧ (acc ++ [x]).length ≤ 2 * (i + 1)) := ⟨hab.append hxB, by rw [List.length_append]; simp; omega⟩
          have HX2 : Hid (Byt (acc ++ [x] ++ [x]) ∧ (acc ++ [x] ++ [x]).length ≤ 2 * (i + 1)) := ⟨(hab.append hxB).append hxB, by rw [List.length_append, List.length_append]; simp; omega⟩
          have HX3 : Hid (Byt (acc ++ [x ^^^ y8]) ∧ (acc ++ [x ^^^ y8]).length ≤ 2 * (i + 1)) := ⟨hab.append hxyB, by rw [List.length_append]; simp; omega⟩
          have O1 : Hid (acc.length + 1 ≤ maxLen) := by show _ ≤ _; unfold maxLen; omega
          have O2 : Hid ((acc.length + 1) * 1 ≤ 140737488355328) := by show _ ≤ _; omega
          have O3 : Hid ((acc ++ [x]).length + 1 ≤ maxLen) := by show _ ≤ _; rw [List.length_append]; unfold maxLen; simp; omega
          have O4 : Hid (((acc ++ [x]).length + 1) * 1 ≤ 140737488355328) := by show _ ≤ _; rw [List.length_append]; simp; omega
          have i0' : (0 : Int) ≤ (i : Int) := Int.natCast_nonneg _
          have i1' : (i : Int) < (l.length : Int) := by omega
          have hcA : ∀ w, Below (W.heap.size + 1) BX w → w.cell? ⟨g, off + i, none⟩ = some (.int .u8 (x : Int)) := fun w hw => ((hw.cell (p := ⟨g, off + i, none⟩) (by show g < W.heap.size + 1; omega)).trans ((unhide Hbb).cell (p := ⟨g, off + i, none⟩) hg)).trans (hc i x hx)
          have HcA := hide hcA
          clear hc hx hy8 hab hal hxB hxyB hcA
          by_cases hA : (i : Int) = A
          · have bA : ((i : Int) == A) = true := by simpa using hA
            have bG : decide (A ≤ (i : Int)) = true := decide_eq_true (by omega)
            clear hA a0 a1 eA q1 z1 z2
            by_cases k1 : k = 1
            · have e1 : (k == 1) = true := by simpa using k1
              clear k1
              go_wp2
              go_roundg (l.length - (i + 1))
              case measure => have := unhide Hgk; omega
              case rel => exact ⟨i + 1, acc, by go_num, rfl, by omega, HY, unhide HX0, HB⟩
            by_cases k2 : k = 2
            · have e1 : (k == 1) = false := by simpa using k1
              have e2 : (k == 2) = true := by simpa using k2
              clear k1 k2
              go_wp2_with (at_builtin; first | (refine wpList_append_own_at _ rfl _ _ 24 rfl (W.heap.size + 1) 5 i0 (.int .u8 0) 1 1 Try.underlying24 hi hz0 hz1 hz2 rfl (by decide) _ _ _ rfl ((unhide HY).alloc _) ⟨wr.heap.size, 0, none⟩ 1 1 [.int .u8 (x : Int)] rfl rfl (cell_one_new _ _ _) (by simp [Value.oneCell']) (unhide O1) (unhide O2) (by rw [World.size_alloc]; omega) ?_; intro v4 w4 hown4 hgrow4 hdrop4 hat4; clear hdrop4; have HY4 : Hid (Bytes (W.heap.size + 1) w4 v4 (acc ++ [x])) := own_byteN rfl rfl hown4; have Hb4 : Hid (Below (W.heap.size + 1) BX w4) := below_grow0 (unhide HB) hszB hgrow4 (fun b hb => ((unhide HY).lt b hb).1); have cx4 := unhide HcA w4 (unhide Hb4); have hszB4 : W.heap.size + 1 ≤ w4.heap.size := Nat.le_trans (Nat.le_of_eq hbs.symm) (unhide Hb4).size; clear hown4 hgrow4 hat4) | (refine wpList_append_own_at _ rfl _ _ 24 rfl (W.heap.size + 1) 5 i0 (.int .u8 0) 1 1 Try.underlying24 hi hz0 hz1 hz2 rfl (by decide) _ _ _ rfl ((unhide HY4).alloc _) ⟨w4.heap.size, 0, none⟩ 1 1 [.int .u8 (x : Int)] rfl rfl (cell_one_new _ _ _) (by simp [Value.oneCell']) (unhide O3) (unhide O4) (by rw [World.size_alloc]; omega) ?_; intro v5 w5 hown5 hgrow5 hdrop5 hat5; clear hdrop5; have HY5 : Hid (Bytes (W.heap.size + 1) w5 v5 (acc ++ [x] ++ [x])) := own_byteN rfl rfl hown5; have Hb5 : Hid (Below (W.heap.size + 1) BX w5) := below_grow0 (unhide Hb4) hszB4 hgrow5 (fun b hb => ((unhide HY4).lt b hb).1); clear hown5 hgrow5 hat5))
              go_roundg (l.length - (i + 1))
              case measure => have := unhide Hgk; omega
              case rel => exact ⟨i + 1, acc ++ [x] ++ [x], by go_num, rfl, by omega, HY5, unhide HX2, Hb5⟩
            by_cases k3 : k = 3
            · have e1 : (k == 1) = false := by simpa using k1
              have e2 : (k == 2) = false := by simpa using k2
              have e3 : (k == 3) = true := by simpa using k3
              clear k1 k2 k3
              go_wp2
              go_roundg (l.length - (i + 1))
              case measure => have := unhide Hgk; omega
              case rel => exact ⟨i + 1, acc, by go_num, rfl, by omega, HY, unhide HX0, HB⟩
            by_cases k0 : k = 0
            · have e1 : (k == 1) = false := by simpa using k1
              have e2 : (k == 2) = false := by simpa using k2
              have e3 : (k == 3) = false := by simpa using k3
              have e4 : (k == 0) = true := by simpa using k0
              clear k0 k1 k2 k3
              go_wp2
              go_region_law (refine step_append_lies _ rfl (.tmp 85) (.tmp 94) 24 rfl (W.heap.size + 1) 5 i0 (.int .u8 0) 1 1 Try.underlying24 hi hz0 hz1 hz2 rfl (by decide) u6 acc.length (nb acc) (by first | rfl | simp [Act.eval]) ((show (World.drewN wr _).ownsRow _ _ _ _ _ _ from unhide HY).alloc _) ⟨wr.heap.size, 0, none⟩ 1 1 [.int .u8 ((x ^^^ y8 : Nat) : Int)] (by first | rfl | simp [Act.eval]) (by rfl) (World.news_of_block (cs := #[.int .u8 ((x ^^^ y8 : Nat) : Int)]) (heap_new _ _)) (by simp [Value.oneCell']) (by decide) (unhide O1) (unhide O2) (by simp; omega) (wr.heap.size + 1) (by simp) ?_; intro g3 cap w3 hown3 hgrow hat3 hlt3)
              all_goals go_wp2
              all_goals go_roundg (l.length - (i + 1))
              all_goals first
                | (have := unhide Hgk; omega)
                | exact ⟨i + 1, acc ++ [x ^^^ y8], by go_num, rfl, by omega, own_byteN rfl rfl hown3, unhide HX3, below_grow (unhide HB) hszB hgrow (fun b hb => ((unhide HY).lt b hb).1)⟩
            · have e1 : (k == 1) = false := by simpa using k1
              have e2 : (k == 2) = false := by simpa using k2
              have e3 : (k == 3) = false := by simpa using k3
              have e4 : (k == 0) = false := by simpa using k0
              clear k0 k1 k2 k3
              go_wp2_with (at_builtin; refine wpList_append_own_at _ rfl _ _ 24 rfl (W.heap.size + 1) 5 i0 (.int .u8 0) 1 1 Try.underlying24 hi hz0 hz1 hz2 rfl (by decide) _ _ _ rfl ((unhide HY).alloc _) ⟨wr.heap.size, 0, none⟩ 1 1 [.int .u8 (x : Int)] rfl rfl (cell_one_new _ _ _) (by simp [Value.oneCell']) (unhide O1) (unhide O2) (by rw [World.size_alloc]; omega) ?_; intro v4 w4 hown4 hgrow4 hdrop4 hat4; clear hdrop4; have HY4 : Hid (Bytes (W.heap.size + 1) w4 v4 (acc ++ [x])) := own_byteN rfl rfl hown4; have Hb4 : Hid (Below (W.heap.size + 1) BX w4) := below_grow0 (unhide HB) hszB hgrow4 (fun b hb => ((unhide HY).lt b hb).1); clear hown4 hgrow4 hat4)
              go_roundg (l.length - (i + 1))
              case measure => have := unhide Hgk; omega
              case rel => exact ⟨i + 1, acc ++ [x], by go_num, rfl, by omega, HY4, unhide HX1, Hb4⟩
          · have bA : ((i : Int) == A) = false := by simpa using hA
            by_cases hG : A ≤ (i : Int)
            · have bG : decide (A ≤ (i : Int)) = true := decide_eq_true hG
              clear hG hA a0 a1 eA q1 z1 z2
              by_cases k3 : k = 3
              · have e3 : (k == 3) = true := by simpa using k3
                clear k3
                go_wp2
                go_roundg (l.length - (i + 1))
                case measure => have := unhide Hgk; omega
                case rel => exact ⟨i + 1, acc, by go_num, rfl, by omega, HY, unhide HX0, HB⟩
              · have e3 : (k == 3) = false := by simpa using k3
                clear k3
                go_wp2_with (at_builtin; refine wpList_append_own_at _ rfl _ _ 24 rfl (W.heap.size + 1) 5 i0 (.int .u8 0) 1 1 Try.underlying24 hi hz0 hz1 hz2 rfl (by decide) _ _ _ rfl ((unhide HY).alloc _) ⟨wr.heap.size, 0, none⟩ 1 1 [.int .u8 (x : Int)] rfl rfl (cell_one_new _ _ _) (by simp [Value.oneCell']) (unhide O1) (unhide O2) (by rw [World.size_alloc]; omega) ?_; intro v4 w4 hown4 hgrow4 hdrop4 hat4; clear hdrop4; have HY4 : Hid (Bytes (W.heap.size + 1) w4 v4 (acc ++ [x])) := own_byteN rfl rfl hown4; have Hb4 : Hid (Below (W.heap.size + 1) BX w4) := below_grow0 (unhide HB) hszB hgrow4 (fun b hb => ((unhide HY).lt b hb).1); clear hown4 hgrow4 hat4)
                go_roundg (l.length - (i + 1))
                case measure => have := unhide Hgk; omega
                case rel => exact ⟨i + 1, acc ++ [x], by go_num, rfl, by omega, HY4, unhide HX1, Hb4⟩
            · have bG : decide (A ≤ (i : Int)) = false := decide_eq_false hG
              clear hG hA a0 a1 eA q1 z1 z2
              go_wp2_with (at_builtin; refine wpList_append_own_at _ rfl _ _ 24 rfl (W.heap.size + 1) 5 i0 (.int .u8 0) 1 1 Try.underlying24 hi hz0 hz1 hz2 rfl (by decide) _ _ _ rfl ((unhide HY).alloc _) ⟨wr.heap.size, 0, none⟩ 1 1 [.int .u8 (x : Int)] rfl rfl (cell_one_new _ _ _) (by simp [Value.oneCell']) (unhide O1) (unhide O2) (by rw [World.size_alloc]; omega) ?_; intro v4 w4 hown4 hgrow4 hdrop4 hat4; clear hdrop4; have HY4 : Hid (Bytes (W.heap.size + 1) w4 v4 (acc ++ [x])) := own_byteN rfl rfl hown4; have Hb4 : Hid (Below (W.heap.size + 1) BX w4) := below_grow0 (unhide HB) hszB hgrow4 (fun b hb => ((unhide HY).lt b hb).1); clear hown4 hgrow4 hat4)
              go_roundg (l.length - (i + 1))
              case measure => have := unhide Hgk; omega
              case rel => exact ⟨i + 1, acc ++ [x], by go_num, rfl, by omega, HY4, unhide HX1, Hb4⟩
        · obtain rfl : i = l.length := by omega
          have HF : Hid (Byt acc ∧ acc.length ≤ 2 * l.length) := ⟨hab, hal⟩
          have HB1 : Hid (Below W.heap.size W wr) := (unhide Hbb).trans ((unhide HB).mono (by omega))
          have HHY := hide (unhide HY).has
          clear HY HB
          go_wp2
          go_ret
          first
            | exact ⟨_, acc, rfl, unhide HHY, (unhide HF).1, (unhide HF).2, unhide HB1⟩
            | exact ⟨_, rfl, acc, unhide HHY, (unhide HF).1, (unhide HF).2, unhide HB1⟩
  · obtain rfl : l = [] := List.eq_nil_of_length_eq_zero (by omega)
    have HB := hide hbb
    unfold bx at HB
    clear hbx hbb hbs
    go_enter Try.func10, Try.ntmps10
    go_wp2
    go_ret
    exact ⟨_, [], rfl, hasB_nil _, fun x hx => (by cases hx), by simp, unhide HB⟩
end Go.Proofs.Ytoojchjfmnbdpaa
