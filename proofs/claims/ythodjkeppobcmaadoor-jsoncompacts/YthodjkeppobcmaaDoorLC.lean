import Derived.Test.YthodjkeppobcmaaDoorLB
import Derived.Test.YthodjkeppobcmaaDoorSA

namespace Go.Proofs.YthodjkeppobcmaaDoor
open Go.RowKit Go.Lib
attribute [local go_sem ↓] Go.wp_at_zero Go.wp_at_succ

/-- Bytes of the call's own, with some more behind. -/
def PutX (base m : Nat) (W : World) (v : Value) (xs : List Nat) (e : Ending) (W' : World) : Prop := ∃ v' ys, e = .returned v' ∧ ys.length ≤ m ∧ Byt ys ∧ Bytes base W' v' (xs ++ ys) ∧ Ext W v W' v'
theorem PutE.x {base m : Nat} {W : World} {v : Value} {xs ys : List Nat} {e : Ending} {W' : World} (h : PutE base W v xs ys e W') (hl : ys.length ≤ m) (hb : Byt ys) : PutX base m W v xs e W' := by
  obtain ⟨v', h1, h2, h3⟩ := h
  exact ⟨v', ys, h1, hl, hb, h2, h3⟩
set_option maxRecDepth 100000 in
set_option maxHeartbeats 2000000 in
theorem character_any {W : World} {base : Nat} {v : Value} {xs : List Nat} (h : Bytes base W v xs) (hb : base ≤ W.heap.size) (hl : xs.length ≤ 1073741824) (c : Nat) (hc : c ≤ 1114111) : Calls Tryd.prog 52 #[v, .int .i64 (c : Int)] W (PutX base 4 W v xs) := by
  obtain ⟨i0, hi, hz0, hz1, hz2⟩ := info_parts Tryd.infoByte
  have hv : ∃ a n c, v = .slice a n c := by
    obtain ⟨a, c, rfl, _⟩ := h.has
    exact ⟨_, _, _, rfl⟩
  obtain ⟨va, vn, vc, rfl⟩ := hv
  have HY := hide h
  clear h
  have c0 : (0 : Int) ≤ (c : Int) := Int.natCast_nonneg _
  by_cases h0 : c < 128
  · have d0 : decide ((c : Int) < 128) = true := by simp; omega
    have o1 : xs.length + 1 ≤ maxLen := by unfold maxLen; omega
    have o2 : (xs.length + 1) * 1 ≤ 140737488355328 := by omega
    have HBy : Hid (Byt [c]) := fun x hx => by simp at hx; omega
    go_enter Tryd.func52, Tryd.ntmps52
    go_wp2_with (at_builtin; refine wpList_append_own_at _ rfl _ _ 31 rfl base 5 i0 (.int .u8 0) 1 1 Tryd.underlying31 hi hz0 hz1 hz2 rfl (by decide) _ _ _ rfl ((unhide HY).alloc _) ⟨W.heap.size, 0, none⟩ 1 1 [.int .u8 ((c : Int))] rfl rfl (cells_lit _ _ _) (by simp [Value.oneCell']) o1 o2 (by rw [World.size_alloc]; omega) ?_; intro v4 w4 hown4 hgrow4 _ hat4; have HP := hide (putE_lit (ys := [c]) hown4 rfl (by simp [nb]) hgrow4 hat4); clear hown4 hgrow4 hat4)
    go_ret
    exact (unhide HP).x (by simp) (unhide HBy)
  · have d0 : decide ((c : Int) < 128) = false := by simp; omega
    by_cases h1 : c < 2048
    · have d1 : decide ((c : Int) < 2048) = true := by simp; omega
      have o1 : xs.length + 2 ≤ maxLen := by unfold maxLen; omega
      have o2 : (xs.length + 2) * 1 ≤ 140737488355328 := by omega
      have HBy : Hid (Byt [192 + c / 64, 128 + c % 64]) := fun x hx => by simp at hx; omega
      go_enter Tryd.func52, Tryd.ntmps52
      go_wp2_with (at_builtin; refine wpList_append_own_at _ rfl _ _ 31 rfl base 5 i0 (.int .u8 0) 1 1 Tryd.underlying31 hi hz0 hz1 hz2 rfl (by decide) _ _ _ rfl ((unhide HY).alloc _) ⟨W.heap.size, 0, none⟩ 2 2 [.int .u8 (192 + (c : Int) / 64), .int .u8 (128 + (c : Int) % 64)] rfl rfl (cells_lit _ _ _) (by simp [Value.oneCell']) o1 o2 (by rw [World.size_alloc]; omega) ?_; intro v4 w4 hown4 hgrow4 _ hat4; have HP := hide (putE_lit (ys := [192 + c / 64, 128 + c % 64]) hown4 rfl (by simp [nb]) hgrow4 hat4); clear hown4 hgrow4 hat4)
      go_ret
      exact (unhide HP).x (by simp) (unhide HBy)
    · have d1 : decide ((c : Int) < 2048) = false := by simp; omega
      by_cases h2 : c < 65536
      · have d2 : decide ((c : Int) < 65536) = true := by simp; omega
        have o1 : xs.length + 3 ≤ maxLen := by unfold maxLen; omega
        have o2 : (xs.length + 3) * 1 ≤ 140737488355328 := by omega
        have HBy : Hid (Byt [224 + c / 4096, 128 + c / 64 % 64, 128 + c % 64]) := fun x hx => by simp at hx; omega
        go_enter Tryd.func52, Tryd.ntmps52
        go_wp2_with (at_builtin; refine wpList_append_own_at _ rfl _ _ 31 rfl base 5 i0 (.int .u8 0) 1 1 Tryd.underlying31 hi hz0 hz1 hz2 rfl (by decide) _ _ _ rfl ((unhide HY).alloc _) ⟨W.heap.size, 0, none⟩ 3 3 [.int .u8 (224 + (c : Int) / 4096), .int .u8 (128 + (c : Int) / 64 % 64), .int .u8 (128 + (c : Int) % 64)] rfl rfl (cells_lit _ _ _) (by simp [Value.oneCell']) o1 o2 (by rw [World.size_alloc]; omega) ?_; intro v4 w4 hown4 hgrow4 _ hat4; have HP := hide (putE_lit (ys := [224 + c / 4096, 128 + c / 64 % 64, 128 + c % 64]) hown4 rfl (by simp [nb]) hgrow4 hat4); clear hown4 hgrow4 hat4)
        go_ret
        exact (unhide HP).x (by simp) (unhide HBy)
      · have d2 : decide ((c : Int) < 65536) = false := by simp; omega
        have o1 : xs.length + 4 ≤ maxLen := by unfold maxLen; omega
        have o2 : (xs.length + 4) * 1 ≤ 140737488355328 := by omega
        have HBy : Hid (Byt [240 + c / 262144, 128 + c / 4096 % 64, 128 + c / 64 % 64, 128 + c % 64]) := fun x hx => by simp at hx; omega
        go_enter Tryd.func52, Tryd.ntmps52
        go_wp2_with (at_builtin; refine wpList_append_own_at _ rfl _ _ 31 rfl base 5 i0 (.int .u8 0) 1 1 Tryd.underlying31 hi hz0 hz1 hz2 rfl (by decide) _ _ _ rfl ((unhide HY).alloc _) ⟨W.heap.size, 0, none⟩ 4 4 [.int .u8 (240 + (c : Int) / 262144), .int .u8 (128 + (c : Int) / 4096 % 64), .int .u8 (128 + (c : Int) / 64 % 64), .int .u8 (128 + (c : Int) % 64)] rfl rfl (cells_lit _ _ _) (by simp [Value.oneCell']) o1 o2 (by rw [World.size_alloc]; omega) ?_; intro v4 w4 hown4 hgrow4 _ hat4; have HP := hide (putE_lit (ys := [240 + c / 262144, 128 + c / 4096 % 64, 128 + c / 64 % 64, 128 + c % 64]) hown4 rfl (by simp [nb]) hgrow4 hat4); clear hown4 hgrow4 hat4)
        go_ret
        exact (unhide HP).x (by simp) (unhide HBy)
set_option maxRecDepth 100000 in
set_option maxHeartbeats 1000000 in
theorem plain_any (W : World) (c : Nat) : Calls Tryd.prog 50 #[.int .u8 (c : Int)] W fun e w => w = W ∧ ((isPl c = true ∧ ∃ y : Nat, y < 256 ∧ e = .returned (.int .i64 (y : Int))) ∨ (isPl c = false ∧ e = .returned (.int .i64 (-1)))) := by
  by_cases h : c = 34 ∨ c = 92 ∨ c = 47 ∨ c = 98 ∨ c = 102 ∨ c = 110 ∨ c = 114 ∨ c = 116
  · rcases h with h | h | h | h | h | h | h | h
    all_goals (
      subst h
      go_enter Tryd.func50, Tryd.ntmps50
      go_wp2
      go_ret)
    · exact ⟨rfl, .inl ⟨rfl, 34, by omega, rfl⟩⟩
    · exact ⟨rfl, .inl ⟨rfl, 92, by omega, rfl⟩⟩
    · exact ⟨rfl, .inl ⟨rfl, 47, by omega, rfl⟩⟩
    · exact ⟨rfl, .inl ⟨rfl, 8, by omega, rfl⟩⟩
    · exact ⟨rfl, .inl ⟨rfl, 12, by omega, rfl⟩⟩
    · exact ⟨rfl, .inl ⟨rfl, 10, by omega, rfl⟩⟩
    · exact ⟨rfl, .inl ⟨rfl, 13, by omega, rfl⟩⟩
    · exact ⟨rfl, .inl ⟨rfl, 9, by omega, rfl⟩⟩
  · have hp : isPl c = false := by unfold isPl; simp; omega
    have e0 : ((c : Int) == 34) = false := by simp; omega
    have e1 : ((c : Int) == 92) = false := by simp; omega
    have e2 : ((c : Int) == 47) = false := by simp; omega
    have e3 : ((c : Int) == 98) = false := by simp; omega
    have e4 : ((c : Int) == 102) = false := by simp; omega
    have e5 : ((c : Int) == 110) = false := by simp; omega
    have e6 : ((c : Int) == 114) = false := by simp; omega
    have e7 : ((c : Int) == 116) = false := by simp; omega
    have Hp := hide hp
    clear h hp
    go_enter Tryd.func50, Tryd.ntmps50
    go_wp2
    go_ret
    exact ⟨rfl, .inr ⟨unhide Hp, rfl⟩⟩
def hxd (x : Nat) : Option Nat := if 48 ≤ x ∧ x ≤ 57 then some (x - 48) else if 97 ≤ x ∧ x ≤ 102 then some (x - 87) else if 65 ≤ x ∧ x ≤ 70 then some (x - 55) else none
theorem nval_hx {x n : Nat} (r : List Nat) (hn : n ≤ 4095) : nval 16 65535 (x :: r) n = match hxd x with
  | none => none
  | some d => nval 16 65535 r (16 * n + d) := by
  rw [nval]
  unfold dgv hxd
  by_cases h1 : 48 ≤ x ∧ x ≤ 57
  · rw [if_pos h1, if_pos h1]
    simp only
    rw [if_pos (by omega), Nat.mul_comm]
  · rw [if_neg h1, if_neg h1]
    by_cases h2 : 65 ≤ x ∧ x ≤ 90
    · rw [if_pos h2]
      simp only
      by_cases h3 : x ≤ 70
      · rw [if_pos (by omega), if_neg (by omega), if_pos (by omega), Nat.mul_comm]
      · rw [if_neg (by omega), if_neg (by omega), if_neg (by omega)]
    · rw [if_neg h2]
      by_cases h4 : 97 ≤ x ∧ x ≤ 122
      · rw [if_pos h4]
        simp only
        by_cases h3 : x ≤ 102
        · rw [if_pos (by omega), if_pos (by omega), Nat.mul_comm]
        · rw [if_neg (by omega), if_neg (by omega), if_neg (by omega)]
      · rw [if_neg h4, if_neg (by omega), if_neg (by omega)]
def hxI (r : Option Nat) : Int := match r with
  | none => -1
  | some n => (n : Int)
theorem drop_take4 {L : List Nat} {a i : Nat} (h : a + 4 ≤ L.length) (hi : i < 4) : ((L.drop a).take 4).drop i = bt L (a + i) :: ((L.drop a).take 4).drop (i + 1) := by
  have hl : i < ((L.drop a).take 4).length := by rw [List.length_take, List.length_drop]; omega
  rw [List.drop_eq_getElem_cons hl]
  congr 1
  have := List.getElem?_eq_getElem hl
  rw [List.getElem?_take, if_pos hi, List.getElem?_drop] at this
  exact (bt_at this).symm
set_option maxRecDepth 100000 in
set_option maxHeartbeats 2000000 in
theorem hex_any {W : World} {t : Nat} {s : ByteArray} (c0 : W.cell? ⟨t, 0, none⟩ = some (.string s)) (a : Nat) (ha : a ≤ 134217728) : Calls Tryd.prog 51 #[.pointer (some ⟨t, 0, none⟩), .int .i64 (a : Int)] W fun e w => e = .returned (.int .i64 (hxI (hx4 (strN s) a))) ∧ w = W := by
  have hl := strN_len s
  by_cases h4 : a + 4 ≤ s.size
  · have hr : hx4 (strN s) a = nval 16 65535 (((strN s).drop a).take 4) 0 := by unfold hx4; rw [if_pos (by rw [hl]; exact h4)]
    have Hl := hide hl
    have d4 : decide ((s.size : Int) < (a : Int) + 4) = false := by simp; omega
    obtain ⟨r, hre⟩ : ∃ r, hx4 (strN s) a = r := ⟨_, rfl⟩
    rw [hre] at hr ⊢
    have Hr := hide hr
    clear hl hr hre
    go_enter Tryd.func51, Tryd.ntmps51
    go_wp2
    go_loopg [5, 6, 7] 4 (fun gk v5 v6 _ wr => ∃ (i n : Nat), v5 = .int .i64 (n : Int) ∧ v6 = .int .i64 (i : Int) ∧ gk = 4 - i ∧ i ≤ 4 ∧ wr = W ∧ Hid (n < 16 ^ i) ∧ Hid (r = nval 16 65535 ((((strN s).drop a).take 4).drop i) n))
    case atStart => exact ⟨0, 0, rfl, rfl, rfl, by omega, rfl, (by decide : 0 < 16 ^ 0), Hr⟩
    case round =>
      obtain ⟨i, n, rfl, rfl, hgk, hi, rfl, Hn, Hu⟩ := hrel
      have Hgk := hide hgk
      clear hgk Hr
      by_cases h : i < 4
      · have hn : n ≤ 4095 := by
          have h1 := unhide Hn
          have : 16 ^ i ≤ 16 ^ 3 := Nat.pow_le_pow_right (by omega) (by omega)
          omega
        have hu : r = nval 16 65535 (bt (strN s) (a + i) :: (((strN s).drop a).take 4).drop (i + 1)) n := by
          rw [← drop_take4 (by rw [unhide Hl]; exact h4) h]
          exact unhide Hu
        rw [nval_hx _ hn] at hu
        obtain ⟨gx, hx⟩ := bt_str s (a + i) (by omega)
        obtain ⟨x, hxe⟩ : ∃ x, bt (strN s) (a + i) = x := ⟨_, rfl⟩
        rw [hxe] at gx hu
        have hx2 : x < 256 := by rw [← hxe]; exact hx
        have ix : ∀ w, (Instr.index 9 (.string s) (.int .i64 ((a : Int) + (i : Int)))).run Tryd.prog w = .ok (.int .u8 (x : Int)) w := fun w => by
          rw [show (a : Int) + (i : Int) = ((a + i : Nat) : Int) by omega]
          rw [run_index_string (P := Tryd.prog) (h := Tryd.underlying9), dif_pos (by omega)]
          simp only [Int.toNat_natCast]
          rw [gx]
        have i4 : (i : Int) < 4 := by omega
        have Hn4 := hide hn
        have H4 := hide h4
        have Hi := hide h
        have hpow : 16 ^ (i + 1) = 16 * 16 ^ i := by rw [Nat.pow_succ, Nat.mul_comm]
        clear gx hx hxe Hu
        unfold hxd at hu
        by_cases q1 : 48 ≤ x ∧ x ≤ 57
        · rw [if_pos q1] at hu
          have HU : Hid (r = nval 16 65535 ((((strN s).drop a).take 4).drop (i + 1)) (16 * n + (x - 48))) := hu
          have HN2 : Hid (16 * n + (x - 48) < 16 ^ (i + 1)) := by show _ < _; have := unhide Hn; omega
          have d1 : decide (48 ≤ (x : Int)) = true := by simp; omega
          have d2 : decide ((x : Int) ≤ 57) = true := by simp; omega
          have Q1 := hide q1
          clear hu q1 hpow h4 h hn
          go_wp2
          go_roundg (4 - (i + 1))
          case measure => have := unhide Hgk; have := unhide Hi; omega
          case rel =>
            have := unhide Q1
            have := unhide Hn4
            have := unhide Hi
            exact ⟨i + 1, 16 * n + (x - 48), (by congr 1; simp only [wrap64_eq]; omega), by go_num, rfl, by omega, rfl, HN2, HU⟩
        · rw [if_neg q1] at hu
          have z1 : decide (48 ≤ (x : Int)) = false ∨ (decide (48 ≤ (x : Int)) = true ∧ decide ((x : Int) ≤ 57) = false) := by simp; omega
          by_cases q2 : 97 ≤ x ∧ x ≤ 102
          · rw [if_pos q2] at hu
            have HU : Hid (r = nval 16 65535 ((((strN s).drop a).take 4).drop (i + 1)) (16 * n + (x - 87))) := hu
            have HN2 : Hid (16 * n + (x - 87) < 16 ^ (i + 1)) := by show _ < _; have := unhide Hn; omega
            have d1 : decide (48 ≤ (x : Int)) = true := by simp; omega
            have d2 : decide ((x : Int) ≤ 57) = false := by simp; omega
            have d3 : decide (97 ≤ (x : Int)) = true := by simp; omega
            have d4 : decide ((x : Int) ≤ 102) = true := by simp; omega
            have Q1 := hide q2
            clear hu q1 q2 z1 hpow h4 h hn
            go_wp2
            go_roundg (4 - (i + 1))
            case measure => have := unhide Hgk; have := unhide Hi; omega
            case rel =>
              have := unhide Q1
              have := unhide Hn4
              have := unhide Hi
              exact ⟨i + 1, 16 * n + (x - 87), (by congr 1; simp only [wrap64_eq]; omega), by go_num, rfl, by omega, rfl, HN2, HU⟩
          · rw [if_neg q2] at hu
            by_cases q3 : 65 ≤ x ∧ x ≤ 70
            · rw [if_pos q3] at hu
              have HU : Hid (r = nval 16 65535 ((((strN s).drop a).take 4).drop (i + 1)) (16 * n + (x - 55))) := hu
              have HN2 : Hid (16 * n + (x - 55) < 16 ^ (i + 1)) := by show _ < _; have := unhide Hn; omega
              have d1 : decide (48 ≤ (x : Int)) = true := by simp; omega
              have d2 : decide ((x : Int) ≤ 57) = false := by simp; omega
              have d3 : decide (97 ≤ (x : Int)) = false := by simp; omega
              have d5 : decide (65 ≤ (x : Int)) = true := by simp; omega
              have d6 : decide ((x : Int) ≤ 70) = true := by simp; omega
              have Q1 := hide q3
              clear hu q1 q2 q3 z1 hpow h4 h hn
              go_wp2
              go_roundg (4 - (i + 1))
              case measure => have := unhide Hgk; have := unhide Hi; omega
              case rel =>
                have := unhide Q1
                have := unhide Hn4
                have := unhide Hi
                exact ⟨i + 1, 16 * n + (x - 55), (by congr 1; simp only [wrap64_eq]; omega), by go_num, rfl, by omega, rfl, HN2, HU⟩
            · rw [if_neg q3] at hu
              have HU : Hid (r = none) := hu
              have z2 : decide (97 ≤ (x : Int)) = false ∨ (decide (97 ≤ (x : Int)) = true ∧ decide ((x : Int) ≤ 102) = false) := by simp; omega
              have z3 : decide (65 ≤ (x : Int)) = false ∨ (decide (65 ≤ (x : Int)) = true ∧ decide ((x : Int) ≤ 70) = false) := by simp; omega
              clear hu q1 q2 q3 hpow h4 h hn
              rcases z1 with d1 | ⟨d1, d2⟩ <;> rcases z2 with d3 | ⟨d3, d4⟩ <;> rcases z3 with d5 | ⟨d5, d6⟩
              all_goals (
                go_wp2
                go_ret
                exact ⟨by rw [unhide HU]; rfl, rfl⟩)
      · obtain rfl : i = 4 := by omega
        have HU : Hid (r = some n) := by
          have e : r = nval 16 65535 ((((strN s).drop a).take 4).drop 4) n := unhide Hu
          rw [List.drop_of_length_le (by rw [List.length_take]; omega)] at e
          exact e
        clear h Hu
        go_wp2
        go_ret
        exact ⟨by rw [unhide HU]; rfl, rfl⟩
  · have hr : hx4 (strN s) a = none := by unfold hx4; rw [if_neg (by rw [hl]; exact h4)]
    rw [hr]
    have d4 : decide ((s.size : Int) < (a : Int) + 4) = true := by simp; omega
    clear hr hl
    go_enter Tryd.func51, Tryd.ntmps51
    go_wp2
    go_ret
    exact ⟨rfl, rfl⟩
end Go.Proofs.YthodjkeppobcmaaDoor
