import Derived.Test.YthodjkeppobcmaaDoorLC

namespace Go.Proofs.YthodjkeppobcmaaDoor
open Go.RowKit Go.Lib
attribute [local go_sem ↓] Go.wp_at_zero Go.wp_at_succ

theorem nval_le' {B M : Nat} : ∀ (l : List Nat) (n u : Nat), n ≤ M → nval B M l n = some u → u ≤ M := by
  intro l
  induction l with
  | nil => intro n u h e; cases e; exact h
  | cons c r ih =>
    intro n u h e
    unfold nval at e
    split at e
    · cases e
    · split at e
      · rename_i q
        exact ih _ _ q.2 e
      · cases e
theorem wrapU8 {n : Int} (h0 : 0 ≤ n) (h1 : n < 256) : IntKind.u8.wrap n = n := by
  first
    | exact Int.emod_eq_of_lt h0 h1
    | (unfold IntKind.wrap; simp; omega)
def EsX (base : Nat) (W : World) (v : Value) (xs : List Nat) (k : Nat) (e : Ending) (W' : World) : Prop := ∃ v' ys, e = .returned (.tuple #[v', .int .i64 (k : Int)]) ∧ ys.length ≤ 4 ∧ Byt ys ∧ Bytes base W' v' (xs ++ ys) ∧ Ext W v W' v'
theorem EsX.none {base : Nat} {W : World} {v : Value} {xs : List Nat} (h : Bytes base W v xs) : EsX base W v xs 0 (.returned (.tuple #[v, .int .i64 0])) W := ⟨v, [], rfl, by simp, (fun _ h => (by cases h)), (by rw [List.append_nil]; exact h), Ext.refl _ _⟩
theorem EsX.some {base : Nat} {W W' : World} {v v' : Value} {xs : List Nat} {k : Nat} {z : Int} (h : PutX base 4 W v xs (.returned v') W') (hz : z = (k : Int)) : EsX base W v xs k (.returned (.tuple #[v', .int .i64 z])) W' := by
  obtain ⟨v2, ys, e, h1, h2, h3, h4⟩ := h
  cases e
  subst hz
  exact ⟨_, ys, rfl, h1, h2, h3, h4⟩
theorem idx_at {s : ByteArray} {k : Nat} (hk : k < s.size) (z : Int) (hz : z = (k : Int)) (w : World) : (Instr.index 9 (.string s) (.int .i64 z)).run Tryd.prog w = .ok (.int .u8 ((bt (strN s) k : Nat) : Int)) w := by
  subst hz
  rw [run_index_string (P := Tryd.prog) (h := Tryd.underlying9), dif_pos (by omega)]
  simp only [Int.toNat_natCast]
  rw [(bt_str s k hk).1]
def escM (o : Option Nat) (k : Nat) : Nat := match o with
  | none => 0
  | some a => if 56320 ≤ a ∧ a ≤ 57343 then 0 else if a < 55296 ∨ 56319 < a then 6 else k
def escB (o : Option Nat) : Nat := match o with
  | none => 0
  | some b => if 56320 ≤ b ∧ b ≤ 57343 then 12 else 0
theorem escS_eq (L : List Nat) (i : Nat) (h : ¬ L.length < i + 2) : escS L i = if isPl (bt L (i + 1)) = true then 2 else if bt L (i + 1) = 117 then escM (hx4 L (i + 2)) (escT L i) else 0 := by
  unfold escS
  rw [if_neg h]
  cases hx4 L (i + 2) <;> rfl
theorem escT_eq (L : List Nat) (i : Nat) : escT L i = if bt L (i + 6) = 92 ∧ bt L (i + 7) = 117 then escB (hx4 L (i + 8)) else 0 := by
  unfold escT
  cases hx4 L (i + 8) <;> rfl
def escK (L : List Nat) (i : Nat) : Nat := if escS L i = 0 then 0 else i + escS L i
set_option maxRecDepth 100000 in
set_option maxHeartbeats 4000000 in
theorem tescape_any {W : World} {t base : Nat} {s : ByteArray} {v : Value} {xs : List Nat} (c0 : W.cell? ⟨t, 0, none⟩ = some (.string s)) (hs : s.size ≤ 67108864) (h : Bytes base W v xs) (hb : base ≤ W.heap.size) (hl : xs.length ≤ 1073741824) (a : Nat) (ha : a ≤ s.size) : Calls Tryd.prog 43 #[.pointer (some ⟨t, 0, none⟩), v, .int .i64 (a : Int)] W (EsX base W v xs (escK (strN s) a)) := by
  obtain ⟨i0, hi, hz0, hz1, hz2⟩ := info_parts Tryd.infoByte
  have HC : Hid (∀ c, c ≤ 1114111 → Calls Tryd.prog 52 #[v, .int .i64 ((c : Nat) : Int)] W (PutX base 4 W v xs)) := fun c hc => character_any h hb hl c hc
  have HX : Hid (∀ k : Nat, k ≤ 134217728 → Calls Tryd.prog 51 #[.pointer (some ⟨t, 0, none⟩), .int .i64 (k : Int)] W fun e w => e = .returned (.int .i64 (hxI (hx4 (strN s) k))) ∧ w = W) := fun k hk => hex_any c0 k hk
  have hle4 : ∀ k n, hx4 (strN s) k = some n → n ≤ 65535 := fun k n e => by
    unfold hx4 at e
    split at e
    · exact nval_le' _ _ _ (by omega) e
    · cases e
  have hv : ∃ a n c, v = .slice a n c := by
    obtain ⟨a, c, rfl, _⟩ := h.has
    exact ⟨_, _, _, rfl⟩
  obtain ⟨va, vn, vc, rfl⟩ := hv
  have HY := hide h
  have HL4 := hide hle4
  have hll := strN_len s
  have a0 : (0 : Int) ≤ (a : Int) := Int.natCast_nonneg _
  have hK : escK (strN s) a = if escS (strN s) a = 0 then 0 else a + escS (strN s) a := rfl
  clear h hle4
  by_cases h1 : s.size < a + 2
  · have he : escS (strN s) a = 0 := by unfold escS; rw [if_pos (by rw [hll]; exact h1)]
    rw [hK, if_pos he]
    have d1 : decide ((s.size : Int) ≤ (a : Int) + 1) = true := by simp; omega
    clear he hK hll
    go_enter Tryd.func43, Tryd.ntmps43
    go_wp2_with fail
    go_ret2
    exact EsX.none (unhide HY)
  have d1 : decide ((s.size : Int) ≤ (a : Int) + 1) = false := by simp; omega
  have ix1 := idx_at (s := s) (k := a + 1) (by omega) ((a : Int) + 1) (by omega)
  have hx1 := bt_256 s (a + 1)
  have hS := escS_eq (strN s) a (by rw [hll]; omega)
  obtain ⟨x, hxe⟩ : ∃ x, bt (strN s) (a + 1) = x := ⟨_, rfl⟩
  rw [hxe] at ix1 hS hx1
  clear hxe
  have i0' : (0 : Int) ≤ (a : Int) + 1 := by omega
  have i1' : (a : Int) + 1 < (s.size : Int) := by omega
  have HP := hide (plain_any W x)
  by_cases h2 : x = 117
  · have hpl : isPl x = false := by rw [h2]; rfl
    rw [if_neg (by rw [hpl]; decide), if_pos h2] at hS
    have e2 : ((x : Int) == 117) = true := by simp; omega
    have hc := unhide HX (a + 2) (by omega)
    rw [show ((a + 2 : Nat) : Int) = (a : Int) + 2 by omega] at hc
    have H2 := hide hc
    have hle := unhide HL4 (a + 2)
    obtain ⟨r, hr⟩ : ∃ r, hx4 (strN s) (a + 2) = r := ⟨_, rfl⟩
    rw [hr] at H2 hS hle
    clear hc hr h2 hpl
    match r, hS, H2, hle with
    | none, hS, H2, _ =>
      have he : escS (strN s) a = 0 := hS
      rw [hK, if_pos he]
      clear he hS hK hll HC HX
      go_enter Tryd.func43, Tryd.ntmps43
      go_wp2_with fail
      refine (unhide H2).mono ?_
      rintro e w ⟨rfl, rfl⟩
      unfold hxI
      go_wp2_with fail
      go_ret2
      exact EsX.none (unhide HY)
    | some p, hS, H2, hle =>
      have hp := hle p rfl
      have hS' : escS (strN s) a = if 56320 ≤ p ∧ p ≤ 57343 then 0 else if p < 55296 ∨ 56319 < p then 6 else escT (strN s) a := hS
      obtain ⟨z, hz⟩ : ∃ z : Int, (p : Int) = z := ⟨_, rfl⟩
      have H2z : Hid (Calls Tryd.prog 51 #[.pointer (some ⟨t, 0, none⟩), .int .i64 ((a : Int) + 2)] W fun e w => e = .returned (.int .i64 z) ∧ w = W) := by rw [← hz]; exact unhide H2
      have n0 : decide (z < 0) = false := by simp; omega
      clear hS hle H2
      by_cases h3 : 56320 ≤ p ∧ p ≤ 57343
      · have he : escS (strN s) a = 0 := hS'.trans (if_pos h3)
        rw [hK, if_pos he]
        have q1 : decide (56320 ≤ z) = true := by simp; omega
        have q2 : decide (z ≤ 57343) = true := by simp; omega
        clear he hS' hK hll HC HX h3 hp hz
        go_enter Tryd.func43, Tryd.ntmps43
        go_wp2_with fail
        refine (unhide H2z).mono ?_
        rintro e w ⟨rfl, rfl⟩
        go_wp2_with fail
        go_ret2
        exact EsX.none (unhide HY)
      rw [if_neg h3] at hS'
      by_cases h4 : p < 55296 ∨ 56319 < p
      · have he : escS (strN s) a = 6 := hS'.trans (if_pos h4)
        rw [hK, he, if_neg (by omega)]
        have q4 : (decide (56320 ≤ z) = false ∧ decide (z < 55296) = true) ∨ (decide (56320 ≤ z) = true ∧ decide (z ≤ 57343) = false ∧ decide (z < 55296) = false ∧ decide (57343 < z) = true) := by simp; omega
        have hc6 := unhide HC p (by omega)
        rw [hz] at hc6
        have HC2 := hide hc6
        clear hc6
        clear he hS' hK hll HC HX h3 h4 hp hz
        rcases q4 with ⟨q1, g1⟩ | ⟨q1, q2, g1, g2⟩
        all_goals (
          go_enter Tryd.func43, Tryd.ntmps43
          go_wp2_with fail
          refine (unhide H2z).mono ?_
          rintro e w ⟨rfl, rfl⟩
          go_wp2_with fail
          refine (unhide HC2).mono ?_
          rintro e w2 hp2
          have HP2 := hide hp2
          obtain ⟨v2, ys, rfl, -, -, hB2, -⟩ := hp2
          obtain ⟨a2, c2, rfl, -⟩ := hB2.has
          clear hB2
          obtain ⟨n2, hn2⟩ : ∃ n, (xs ++ ys).length = n := ⟨_, rfl⟩
          rw [hn2] at HP2 ⊢
          clear hn2
          go_wp2_with fail
          go_ret2
          exact EsX.some (unhide HP2) (by omega))
      have q1 : decide (56320 ≤ z) = false := by simp; omega
      have q4 : decide (z < 55296) = false := by simp; omega
      have q5 : decide (57343 < z) = false := by simp; omega
      rw [if_neg h4, escT_eq] at hS'
      by_cases h5 : bt (strN s) (a + 6) = 92 ∧ bt (strN s) (a + 7) = 117
      · rw [if_pos h5] at hS'
        have h7 : a + 7 < s.size := bt_in h5.2 (by omega)
        have ix6 := idx_at (s := s) (k := a + 6) (by omega) ((a : Int) + 6) (by omega)
        have ix7 := idx_at (s := s) (k := a + 7) (by omega) ((a : Int) + 7) (by omega)
        rw [h5.1] at ix6
        rw [h5.2] at ix7
        have d7 : decide ((s.size : Int) ≤ (a : Int) + 7) = false := by simp; omega
        have hc := unhide HX (a + 8) (by omega)
        rw [show ((a + 8 : Nat) : Int) = (a : Int) + 8 by omega] at hc
        have H8 := hide hc
        have hle := unhide HL4 (a + 8)
        obtain ⟨r8, hr8⟩ : ∃ r, hx4 (strN s) (a + 8) = r := ⟨_, rfl⟩
        rw [hr8] at H8 hS' hle
        clear hc hr8 h5
        match r8, hS', H8, hle with
        | none, hS', H8, _ =>
          have he : escS (strN s) a = 0 := hS'
          rw [hK, if_pos he]
          clear he hS' hK hll HC HX h3 h4 hp hz
          go_enter Tryd.func43, Tryd.ntmps43
          go_wp2_with fail
          refine (unhide H2z).mono ?_
          rintro e w ⟨rfl, rfl⟩
          go_wp2_with fail
          refine (unhide H8).mono ?_
          rintro e w2 ⟨rfl, rfl⟩
          unfold hxI
          go_wp2_with fail
          go_ret2
          exact EsX.none (unhide HY)
        | some m, hS', H8, hle =>
          have hm := hle m rfl
          have hS2 : escS (strN s) a = if 56320 ≤ m ∧ m ≤ 57343 then 12 else 0 := hS'
          obtain ⟨y, hy⟩ : ∃ y : Int, (m : Int) = y := ⟨_, rfl⟩
          have H8y : Hid (Calls Tryd.prog 51 #[.pointer (some ⟨t, 0, none⟩), .int .i64 ((a : Int) + 8)] W fun e w => e = .returned (.int .i64 y) ∧ w = W) := by rw [← hy]; exact unhide H8
          clear hS' hle H8
          by_cases h6 : 56320 ≤ m ∧ m ≤ 57343
          · have he : escS (strN s) a = 12 := hS2.trans (if_pos h6)
            rw [hK, he, if_neg (by omega)]
            have g1 : decide (y < 56320) = false := by simp; omega
            have g2 : decide (57343 < y) = false := by simp; omega
            have hc := unhide HC (65536 + 1024 * (p - 55296) + m - 56320) (by omega)
            have ec : ((65536 + 1024 * (p - 55296) + m - 56320 : Nat) : Int) = 65536 + 1024 * (z - 55296) + y - 56320 := by omega
            rw [ec] at hc
            have HC2 := hide hc
            have w1 : wrap64 (z - 55296) = z - 55296 := wrap64_small (by omega) (by omega)
            have w2 : wrap64 (1024 * (z - 55296)) = 1024 * (z - 55296) := wrap64_small (by omega) (by omega)
            have w3 : wrap64 (65536 + 1024 * (z - 55296)) = 65536 + 1024 * (z - 55296) := wrap64_small (by omega) (by omega)
            have w4 : wrap64 (65536 + 1024 * (z - 55296) + y) = 65536 + 1024 * (z - 55296) + y := wrap64_small (by omega) (by omega)
            have w5 : wrap64 (65536 + 1024 * (z - 55296) + y - 56320) = 65536 + 1024 * (z - 55296) + y - 56320 := wrap64_small (by omega) (by omega)
            clear he hS2 hK hll HC HX h3 h4 hp hc ec h6 hm hz hy
            go_enter Tryd.func43, Tryd.ntmps43
            go_wp2_with fail
            refine (unhide H2z).mono ?_
            rintro e w ⟨rfl, rfl⟩
            go_wp2_with fail
            refine (unhide H8y).mono ?_
            rintro e w2 ⟨rfl, rfl⟩
            go_wp2_with fail
            refine (unhide HC2).mono ?_
            rintro e w2 hp2
            have HP2 := hide hp2
            obtain ⟨v2, ys, rfl, -, -, hB2, -⟩ := hp2
            obtain ⟨a2, c2, rfl, -⟩ := hB2.has
            clear hB2
            obtain ⟨n2, hn2⟩ : ∃ n, (xs ++ ys).length = n := ⟨_, rfl⟩
            rw [hn2] at HP2 ⊢
            clear hn2
            go_wp2_with fail
            go_ret2
            exact EsX.some (unhide HP2) (by omega)
          · have he : escS (strN s) a = 0 := hS2.trans (if_neg h6)
            rw [hK, if_pos he]
            have g : decide (y < 56320) = true ∨ (decide (y < 56320) = false ∧ decide (57343 < y) = true) := by simp; omega
            clear he hS2 hK hll HC HX h3 h4 hp h6 hm hz hy
            rcases g with g1 | ⟨g1, g2⟩
            all_goals (
              go_enter Tryd.func43, Tryd.ntmps43
              go_wp2_with fail
              refine (unhide H2z).mono ?_
              rintro e w ⟨rfl, rfl⟩
              go_wp2_with fail
              refine (unhide H8y).mono ?_
              rintro e w2 ⟨rfl, rfl⟩
              go_wp2_with fail
              go_ret2
              exact EsX.none (unhide HY))
      · have he : escS (strN s) a = 0 := hS'.trans (if_neg h5)
        rw [hK, if_pos he]
        clear he hS' hK HC HX h3 h4 hp hz
        by_cases h7 : a + 7 < s.size
        · have ix6 := idx_at (s := s) (k := a + 6) (by omega) ((a : Int) + 6) (by omega)
          have ix7 := idx_at (s := s) (k := a + 7) (by omega) ((a : Int) + 7) (by omega)
          have d7 : decide ((s.size : Int) ≤ (a : Int) + 7) = false := by simp; omega
          obtain ⟨x6, hx6⟩ : ∃ x, bt (strN s) (a + 6) = x := ⟨_, rfl⟩
          obtain ⟨x7, hx7⟩ : ∃ x, bt (strN s) (a + 7) = x := ⟨_, rfl⟩
          rw [hx6, hx7] at h5
          rw [hx6] at ix6
          rw [hx7] at ix7
          have g : ((x6 : Int) == 92) = false ∨ (((x6 : Int) == 92) = true ∧ ((x7 : Int) == 117) = false) := by simp; omega
          clear h5 hx6 hx7 hll
          rcases g with g1 | ⟨g1, g2⟩
          all_goals (
            go_enter Tryd.func43, Tryd.ntmps43
            go_wp2_with fail
            refine (unhide H2z).mono ?_
            rintro e w ⟨rfl, rfl⟩
            go_wp2_with fail
            all_goals (
              go_ret2
              exact EsX.none (unhide HY)))
        · have d7 : decide ((s.size : Int) ≤ (a : Int) + 7) = true := by simp; omega
          clear h5 hll
          go_enter Tryd.func43, Tryd.ntmps43
          go_wp2_with fail
          refine (unhide H2z).mono ?_
          rintro e w ⟨rfl, rfl⟩
          go_wp2_with fail
          go_ret2
          exact EsX.none (unhide HY)
  · have e2 : ((x : Int) == 117) = false := by simp; omega
    rw [if_neg h2] at hS
    have o1 : xs.length + 1 ≤ maxLen := by unfold maxLen; omega
    have o2 : (xs.length + 1) * 1 ≤ 140737488355328 := by omega
    have HS := hide hS
    have HK := hide hK
    obtain ⟨K, hKe⟩ : ∃ K, escK (strN s) a = K := ⟨_, rfl⟩
    rw [hKe] at HK ⊢
    clear hS hK hll HC HX h2 hKe
    go_enter Tryd.func43, Tryd.ntmps43
    go_wp2_with fail
    refine (unhide HP).mono ?_
    rintro e w ⟨rfl, ⟨hp, y, hy, rfl⟩ | ⟨hp, rfl⟩⟩
    · have HKe : Hid (K = a + 2) := by
        show K = a + 2
        rw [unhide HK, show escS (strN s) a = 2 from (unhide HS).trans (if_pos hp)]; rfl
      have n0 : decide ((y : Int) < 0) = false := by simp
      have wy : IntKind.u8.wrap (y : Int) = (y : Int) := wrapU8 (by omega) (by omega)
      have HBy : Hid (Byt [y]) := fun z hz => by simp at hz; omega
      clear hp HP HK HS
      go_wp2_with (at_builtin; refine wpList_append_own_at _ rfl _ _ 31 rfl base 5 i0 (.int .u8 0) 1 1 Tryd.underlying31 hi hz0 hz1 hz2 rfl (by decide) _ _ _ rfl ((unhide HY).alloc _) ⟨w.heap.size, 0, none⟩ 1 1 [.int .u8 (y : Int)] rfl rfl (cells_lit _ _ _) (by simp [Value.oneCell']) o1 o2 (by rw [World.size_alloc]; omega) ?_; intro v4 w4 hown4 hgrow4 _ hat4; have HP := hide (putE_lit (ys := [y]) hown4 rfl (by simp [nb]) hgrow4 hat4); clear hown4 hgrow4 hat4)
      go_ret2
      exact EsX.some ((unhide HP).x (by simp) (unhide HBy)) (by rw [unhide HKe]; omega)
    · have HKe : Hid (K = 0) := by
        show K = 0
        rw [unhide HK, show escS (strN s) a = 0 from (unhide HS).trans (if_neg (by rw [hp]; decide))]; rfl
      clear hp HP HK HS
      go_wp2_with fail
      go_ret2
      rw [unhide HKe]
      exact EsX.none (unhide HY)
end Go.Proofs.YthodjkeppobcmaaDoor
