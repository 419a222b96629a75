import Derived.Test.YtckpainohfhopaaGreatDoorJ10
import Derived.Test.YtckpainohfhopaaGreatDoorSTa

namespace Go.Proofs.YtckpainohfhopaaGreatDoor
open Go.RowKit Go.Lib
attribute [local go_sem ↓] Go.wp_at_zero Go.wp_at_succ

def nmL : List Nat := [97, 98, 102, 110, 114, 116, 118, 92, 39, 34]
def wtL : List Nat := [7, 8, 12, 10, 13, 9, 11, 92, 39, 34]
theorem nm_at : ∀ i : Fin 10, nameV (nmL[i.val]'(by have := i.isLt; show _ < 10; omega)) = some (wtL[i.val]'(by have := i.isLt; show _ < 10; omega)) := by decide
theorem nm_get {i x : Nat} (h : nmL[i]? = some x) : ∃ v, nameV x = some v ∧ wtL[i]? = some v ∧ v < 256 := by
  obtain ⟨hi, rfl⟩ := List.getElem?_eq_some_iff.1 h
  have hi' : i < 10 := hi
  refine ⟨_, nm_at ⟨i, hi'⟩, List.getElem?_eq_getElem _, ?_⟩
  have key : ∀ i : Fin 10, wtL[i.val]'(by have := i.isLt; show _ < 10; omega) < 256 := by decide
  exact key ⟨i, hi'⟩
theorem nm_none {x : Nat} (h : ∀ j y : Nat, nmL[j]? = some y → ¬ y = x) : nameV x = none := by
  have g0 := h 0 97 rfl
  have g1 := h 1 98 rfl
  have g2 := h 2 102 rfl
  have g3 := h 3 110 rfl
  have g4 := h 4 114 rfl
  have g5 := h 5 116 rfl
  have g6 := h 6 118 rfl
  have g7 := h 7 92 rfl
  have g8 := h 8 39 rfl
  have g9 := h 9 34 rfl
  unfold nameV
  rw [if_neg (by omega), if_neg (by omega), if_neg (by omega), if_neg (by omega), if_neg (by omega), if_neg (by omega), if_neg (by omega), if_neg (by omega)]
theorem nmS : strN ⟨#[97, 98, 102, 110, 114, 116, 118, 92, 39, 34]⟩ = nmL := rfl
set_option maxRecDepth 100000 in
theorem xdigit8 (W : World) (x : Nat) (hx : x < 256) : Calls Tryz.prog 46 #[.int .u8 (x : Int), .int .u8 8] W (SaysD W (isd 8 x ≠ none)) := by
  rw [isd8]
  go_enter Tryz.func46, Tryz.ntmps46
  go_wp2
  all_goals (go_ret; refine saysD _ ?_; simp; omega)
theorem isd_hex {x : Nat} : (hexI x = -1 ∧ isd 16 x = none) ∨ ∃ d : Nat, hexI x = (d : Int) ∧ isd 16 x = some d ∧ d < 16 := by
  rcases hexI_cases x with ⟨h1, h2⟩ | ⟨d, h1, h2, h3⟩
  · left
    refine ⟨h1, ?_⟩
    unfold isd
    split
    · rfl
    · rename_i d hd
      rw [if_neg (by have := h2 d hd; omega)]
  · right
    refine ⟨d, h1, ?_, h3⟩
    unfold isd
    rw [h2]
    exact if_pos h3
theorem isd8_val {x : Nat} (h : isd 8 x ≠ none) : isd 8 x = some (x - 48) ∧ 48 ≤ x ∧ x ≤ 55 := by
  obtain ⟨h1, h2⟩ := isd8.1 h
  refine ⟨?_, h1, h2⟩
  unfold isd dgv
  rw [if_pos (by omega)]
  exact if_pos (by omega)
theorem drop_get {s : ByteArray} {p x : Nat} (h : (strN s)[p]? = some x) : (strN s).drop p = x :: (strN s).drop (p + 1) := by
  obtain ⟨hl, hx'⟩ := List.getElem?_eq_some_iff.1 h
  rw [List.drop_eq_getElem_cons hl, hx']
/-- The bound of the worth of so many digits. -/
def VB (B j v : Nat) : Prop := v < B ^ j
theorem VB.next {B j v d : Nat} (h : VB B j v) (hd : d < B) : VB B (j + 1) (v * B + d) := by
  unfold VB at *
  rw [Nat.pow_succ]
  have : (v + 1) * B ≤ B ^ j * B := Nat.mul_le_mul_right B h
  rw [Nat.add_mul, Nat.one_mul] at this
  omega
theorem vb16 {j v : Nat} (h : VB 16 j v) (hj : j ≤ 2) : v ≤ 255 := by
  unfold VB at h
  have : (16 : Nat) ^ j ≤ 16 ^ 2 := Nat.pow_le_pow_right (by decide) hj
  have e : (16 : Nat) ^ 2 = 256 := by decide
  omega
theorem vb8 {j v : Nat} (h : VB 8 j v) (hj : j ≤ 3) : v ≤ 511 := by
  unfold VB at h
  have : (8 : Nat) ^ j ≤ 8 ^ 3 := Nat.pow_le_pow_right (by decide) hj
  have e : (8 : Nat) ^ 3 = 512 := by decide
  omega
theorem lt_len {s : ByteArray} {p : Nat} (h : ¬ p < s.size) : (strN s).drop p = [] := List.drop_eq_nil_of_le (by rw [strN_len]; omega)
theorem fin_zero {p : Nat × Nat} {k : Nat} (h : p.2 = 0 ∨ 255 < p.1) : fin p k = none := by unfold fin; rw [if_pos h]
theorem fin_ok {v n k : Nat} (h : ¬ n = 0) (h2 : v ≤ 255) : fin (v, n) k = some (v, k + n) := by unfold fin; rw [if_neg (by simp; omega)]
set_option maxRecDepth 100000 in
set_option maxHeartbeats 4000000 in
theorem xescape_any (W : World) (s : ByteArray) (k : Nat) (hk : k < s.size) (hs : s.size ≤ 65536) : Calls Tryz.prog 90 #[.string s, .int .i64 (k : Int)] W (VN W (escL ((strN s).drop k))) := by
  have hb0 := Below.refl W.heap.size W
  have k0 : (0 : Int) ≤ (k : Int) := Int.natCast_nonneg _
  by_cases h2 : k + 1 < s.size
  · obtain ⟨j, hj⟩ : ∃ j, j = k + 1 := ⟨_, rfl⟩
    have hjs : j < s.size := by omega
    obtain ⟨a, ha, _, _⟩ := strN_ex s k hk
    obtain ⟨x, hx, hx2, gx⟩ := strN_ex s j hjs
    have hrest : (strN s).drop k = a :: x :: (strN s).drop (k + 2) := by
      rw [drop_get ha, ← hj, drop_get hx, hj]
    rw [hrest]
    have hw1 : (k : Int) + 1 = (j : Int) := by omega
    have j0 : (0 : Int) ≤ (j : Int) := Int.natCast_nonneg _
    have j1 : (j : Int) < (s.size : Int) := by omega
    have e1 : decide (s.size ≤ j) = false := by simp; omega
    have Hr := hide hrest
    have Hj := hide hj
    have Hx := hide hx
    have HB1 : Hid (Below W.heap.size W (W.alloc (.cells #[.int .u8 7, .int .u8 8, .int .u8 12, .int .u8 10, .int .u8 13, .int .u8 9, .int .u8 11, .int .u8 92, .int .u8 39, .int .u8 34] 5))) := hb0.alloc (Nat.le_refl _) _
    have hcl : ∀ (i v : Nat), wtL[i]? = some v → (W.alloc (.cells #[.int .u8 7, .int .u8 8, .int .u8 12, .int .u8 10, .int .u8 13, .int .u8 9, .int .u8 11, .int .u8 92, .int .u8 39, .int .u8 34] 5)).cell? ⟨W.heap.size, i, none⟩ = some (.int .u8 (v : Int)) := fun i v h => by
      have := cells_lit W (nb wtL) 5 i (.int .u8 (v : Int)) (by rw [nb_at, h]; rfl)
      rw [Go.WideShapes.add_plain] at this
      simpa [nb, wtL] using this
    have Hcl := hide hcl
    clear hrest hj h2 ha hx hcl hb0
    go_enter Tryz.func90, Tryz.ntmps90
    go_wp2
    generalize W.alloc (.cells #[.int .u8 7, .int .u8 8, .int .u8 12, .int .u8 10, .int .u8 13, .int .u8 9, .int .u8 11, .int .u8 92, .int .u8 39, .int .u8 34] 5) = W1 at *
    go_loopg [9] 10 (fun gk v9 wr => ∃ (i : Nat), v9 = .int .i64 (i : Int) ∧ gk = 10 - i ∧ i ≤ 10 ∧ wr = W1 ∧ Hid (∀ j y : Nat, j < i → nmL[j]? = some y → ¬ y = x))
    case atStart => exact ⟨0, rfl, rfl, by omega, rfl, fun j y hj => by omega⟩
    case round =>
      obtain ⟨i, rfl, hgk, hi, rfl, Hno⟩ := hrel
      have Hgk := hide hgk
      clear hgk
      by_cases hlt : i < 10
      · obtain ⟨y, hy, hy2, gy⟩ := strN_ex ⟨#[97, 98, 102, 110, 114, 116, 118, 92, 39, 34]⟩ i (by exact hlt)
        rw [nmS] at hy
        have i0 : (0 : Int) ≤ (i : Int) := Int.natCast_nonneg _
        have i1 : (i : Int) < 10 := by omega
        by_cases hyx : y = x
        · obtain ⟨v, hv, hw, hv2⟩ := nm_get hy
          have hcell := unhide Hcl i v hw
          have Hv : Hid (escL (a :: x :: (strN s).drop (k + 2)) = some (v, 2)) := escL_name (by rw [← hyx]; exact hv)
          have fq : ((y : Int) == (x : Int)) = true := by simp; omega
          clear hv hw hy hyx Hno Hcl
          go_wp2
          go_ret2
          exact vnGood (n := 2) (unhide HB1) (unhide Hv)
        · have fq : ((y : Int) == (x : Int)) = false := by simp; omega
          have Hnext : Hid (∀ j z : Nat, j < i + 1 → nmL[j]? = some z → ¬ z = x) := fun j z hj hz => by
            by_cases hji : j < i
            · exact unhide Hno j z hji hz
            · obtain rfl : j = i := by omega
              rw [hy] at hz; obtain rfl := Option.some.inj hz; exact hyx
          clear hy hyx Hno
          go_wp2
          go_roundg (10 - (i + 1))
          case measure => have := unhide Hgk; omega
          case rel => exact ⟨i + 1, by go_num, rfl, by omega, rfl, Hnext⟩
      · have hnv : nameV x = none := nm_none (fun j y hy => unhide Hno j y (by have := (List.getElem?_eq_some_iff.1 hy).1; have e : nmL.length = 10 := rfl; omega) hy)
        obtain rfl : i = 10 := by omega
        clear Hno Hcl
        by_cases h120 : x = 120
        · have f120 := eqTT (c := x) (k := 120) (by omega)
          have Hv : Hid (escL (a :: x :: (strN s).drop (k + 2)) = fin (drun 16 2 ((strN s).drop (k + 2)) 0 0) 2) := escL_hex hnv (.inl h120)
          clear hnv h120
          go_wp2
          go_loopg [10, 11] 2 (fun gk v10 v11 wr2 => ∃ (c v : Nat), v10 = .int .i64 (v : Int) ∧ v11 = .int .i64 ((2 + c : Nat) : Int) ∧ gk = 2 - c ∧ c ≤ 2 ∧ v ≤ 255 ∧ wr2 = wr ∧ Hid (VB 16 c v) ∧ Hid (drun 16 2 ((strN s).drop (k + 2)) 0 0 = drun 16 (2 - c) ((strN s).drop (k + (2 + c))) v c))
          case atStart => exact ⟨0, 0, rfl, rfl, rfl, by omega, by omega, rfl, by show 0 < 16 ^ 0; decide, rfl⟩
          case round =>
            obtain ⟨c, v, rfl, rfl, hgk2, hc, hv, rfl, Hvb, Hd⟩ := hrel
            obtain ⟨n, hn⟩ : ∃ n, n = 2 + c := ⟨_, rfl⟩
            obtain ⟨q, hq⟩ : ∃ q, q = k + n := ⟨_, rfl⟩
            rw [← hn] at Hd ⊢
            rw [← hq] at Hd
            have hw2 : (k : Int) + (n : Int) = (q : Int) := by omega
            have q0 : (0 : Int) ≤ (q : Int) := Int.natCast_nonneg _
            have hnF : 2 ≤ n := by omega
            have hn4 : n ≤ 4 := by omega
            have Hn := hide hn
            have Hq := hide hq
            have Hgk2 := hide hgk2
            clear hgk2 hn hq
            by_cases hc2 : c < 2
            · have n4 : decide ((n : Int) < 4) = true := by have := unhide Hn; simp; omega
              by_cases hqs : q < s.size
              · obtain ⟨y, hy, hy2, gy⟩ := strN_ex s q hqs
                have q1 : (q : Int) < (s.size : Int) := by omega
                have Hdr := hide (drop_get hy)
                clear hy
                rcases @isd_hex y with ⟨hI, hD⟩ | ⟨d, hI, hD, hd⟩
                · have Hc2 := hide hc2
                  have HD := hide hD
                  have hx9 : Calls Tryz.prog 89 #[.int .u8 (y : Int)] wr fun e w => e = .returned (.int .i64 (-1)) ∧ w = wr := by have := xhex_any wr y hy2; rw [hI] at this; exact this
                  clear hc2 hD hI
                  go_wp2_with fail
                  refine hx9.mono ?_
                  rintro e w' ⟨rfl, he⟩
                  obtain rfl : wr = w' := he.symm
                  clear hx9
                  have Hf : Hid (drun 16 2 ((strN s).drop (k + 2)) 0 0 = (v, c)) := (unhide Hd).trans (by rw [unhide Hdr, drun_none (unhide HD)])
                  by_cases c0 : c = 0
                  · have Hr : Hid (escL (a :: x :: (strN s).drop (k + 2)) = none) := (unhide Hv).trans (fin_zero (by rw [unhide Hf]; exact .inl c0))
                    have en : ((n : Int) == 2) = true := by have := unhide Hn; simp; omega
                    clear c0 Hf Hd hc
                    go_wp2
                    go_ret2
                    exact vnBad (unhide HB1) (unhide Hr)
                  · have Hr : Hid (escL (a :: x :: (strN s).drop (k + 2)) = some (v, n)) := (unhide Hv).trans (by rw [unhide Hf, fin_ok c0 hv, ← unhide Hn])
                    have en : ((n : Int) == 2) = false := by have := unhide Hn; simp; omega
                    clear c0 Hf Hd hc
                    go_wp2
                    go_ret2
                    have e9 : IntKind.u8.wrap (v : Int) = (v : Int) := by simp [IntKind.wrap, IntKind.bits, IntKind.signed]; omega
                    first
                      | exact vnGood (unhide HB1) (unhide Hr)
                      | (rw [e9]; exact vnGood (unhide HB1) (unhide Hr))
                · have hx9 : Calls Tryz.prog 89 #[.int .u8 (y : Int)] wr fun e w => e = .returned (.int .i64 (d : Int)) ∧ w = wr := by have := xhex_any wr y hy2; rw [hI] at this; exact this
                  have Hnext : Hid (drun 16 2 ((strN s).drop (k + 2)) 0 0 = drun 16 (2 - (c + 1)) ((strN s).drop (q + 1)) (v * 16 + d) (c + 1)) := by show _ = _; rw [unhide Hd, unhide Hdr, show 2 - c = (2 - (c + 1)) + 1 by omega, drun_some hD]
                  have Hvb2 : Hid (VB 16 (c + 1) (v * 16 + d)) := (unhide Hvb).next hd
                  have hv16 : v * 16 + d ≤ 255 := vb16 (unhide Hvb2) (by omega)
                  have Hc2 := hide hc2
                  clear hc2 hD hI Hd Hdr hc
                  go_wp2_with fail
                  refine hx9.mono ?_
                  rintro e w' ⟨rfl, he⟩
                  obtain rfl : wr = w' := he.symm
                  go_wp2_with fail
                  refine hx9.mono ?_
                  rintro e w' ⟨rfl, he⟩
                  obtain rfl : wr = w' := he.symm
                  clear hx9
                  go_wp2
                  go_roundg (2 - (c + 1))
                  case measure => have := unhide Hgk2; have := unhide Hc2; omega
                  case rel =>
                    have hn := unhide Hn; have hq := unhide Hq; have hc2 := unhide Hc2
                    refine ⟨c + 1, v * 16 + d, by go_num, by subst hn; go_num, rfl, by omega, hv16, rfl, Hvb2, ?_⟩
                    have := unhide Hnext; rw [hq, hn] at this; exact this
              · have q1 : decide (q < s.size) = false := by simp; omega
                have Hdr := hide (lt_len hqs)
                clear hqs hc2
                have Hf : Hid (drun 16 2 ((strN s).drop (k + 2)) 0 0 = (v, c)) := (unhide Hd).trans (by rw [unhide Hdr, drun_nil])
                by_cases c0 : c = 0
                · have Hr : Hid (escL (a :: x :: (strN s).drop (k + 2)) = none) := (unhide Hv).trans (fin_zero (by rw [unhide Hf]; exact .inl c0))
                  have en : ((n : Int) == 2) = true := by have := unhide Hn; simp; omega
                  clear c0 Hf Hd hc
                  go_wp2
                  go_ret2
                  exact vnBad (unhide HB1) (unhide Hr)
                · have Hr : Hid (escL (a :: x :: (strN s).drop (k + 2)) = some (v, n)) := (unhide Hv).trans (by rw [unhide Hf, fin_ok c0 hv, ← unhide Hn])
                  have en : ((n : Int) == 2) = false := by have := unhide Hn; simp; omega
                  clear c0 Hf Hd hc
                  go_wp2
                  go_ret2
                  have e9 : IntKind.u8.wrap (v : Int) = (v : Int) := by simp [IntKind.wrap, IntKind.bits, IntKind.signed]; omega
                  first
                    | exact vnGood (unhide HB1) (unhide Hr)
                    | (rw [e9]; exact vnGood (unhide HB1) (unhide Hr))
            · have n4 : decide ((n : Int) < 4) = false := by have := unhide Hn; simp; omega
              have Hm : Hid (2 - c = 0) := by show _ = _; omega
              clear hc2
              have Hf : Hid (drun 16 2 ((strN s).drop (k + 2)) 0 0 = (v, c)) := (unhide Hd).trans (by rw [unhide Hm, drun_zero])
              by_cases c0 : c = 0
              · have Hr : Hid (escL (a :: x :: (strN s).drop (k + 2)) = none) := (unhide Hv).trans (fin_zero (by rw [unhide Hf]; exact .inl c0))
                have en : ((n : Int) == 2) = true := by have := unhide Hn; simp; omega
                clear c0 Hf Hd hc
                go_wp2
                go_ret2
                exact vnBad (unhide HB1) (unhide Hr)
              · have Hr : Hid (escL (a :: x :: (strN s).drop (k + 2)) = some (v, n)) := (unhide Hv).trans (by rw [unhide Hf, fin_ok c0 hv, ← unhide Hn])
                have en : ((n : Int) == 2) = false := by have := unhide Hn; simp; omega
                clear c0 Hf Hd hc
                go_wp2
                go_ret2
                have e9 : IntKind.u8.wrap (v : Int) = (v : Int) := by simp [IntKind.wrap, IntKind.bits, IntKind.signed]; omega
                first
                  | exact vnGood (unhide HB1) (unhide Hr)
                  | (rw [e9]; exact vnGood (unhide HB1) (unhide Hr))
        · have f120 := eqF (c := x) (k := 120) (by omega)
          by_cases h88 : x = 88
          · have f88 := eqTT (c := x) (k := 88) (by omega)
            have Hv : Hid (escL (a :: x :: (strN s).drop (k + 2)) = fin (drun 16 2 ((strN s).drop (k + 2)) 0 0) 2) := escL_hex hnv (.inr h88)
            clear hnv h120 h88
            go_wp2
            go_loopg [10, 11] 2 (fun gk v10 v11 wr2 => ∃ (c v : Nat), v10 = .int .i64 (v : Int) ∧ v11 = .int .i64 ((2 + c : Nat) : Int) ∧ gk = 2 - c ∧ c ≤ 2 ∧ v ≤ 255 ∧ wr2 = wr ∧ Hid (VB 16 c v) ∧ Hid (drun 16 2 ((strN s).drop (k + 2)) 0 0 = drun 16 (2 - c) ((strN s).drop (k + (2 + c))) v c))
            case atStart => exact ⟨0, 0, rfl, rfl, rfl, by omega, by omega, rfl, by show 0 < 16 ^ 0; decide, rfl⟩
            case round =>
              obtain ⟨c, v, rfl, rfl, hgk2, hc, hv, rfl, Hvb, Hd⟩ := hrel
              obtain ⟨n, hn⟩ : ∃ n, n = 2 + c := ⟨_, rfl⟩
              obtain ⟨q, hq⟩ : ∃ q, q = k + n := ⟨_, rfl⟩
              rw [← hn] at Hd ⊢
              rw [← hq] at Hd
              have hw2 : (k : Int) + (n : Int) = (q : Int) := by omega
              have q0 : (0 : Int) ≤ (q : Int) := Int.natCast_nonneg _
              have hnF : 2 ≤ n := by omega
              have hn4 : n ≤ 4 := by omega
              have Hn := hide hn
              have Hq := hide hq
              have Hgk2 := hide hgk2
              clear hgk2 hn hq
              by_cases hc2 : c < 2
              · have n4 : decide ((n : Int) < 4) = true := by have := unhide Hn; simp; omega
                by_cases hqs : q < s.size
                · obtain ⟨y, hy, hy2, gy⟩ := strN_ex s q hqs
                  have q1 : (q : Int) < (s.size : Int) := by omega
                  have Hdr := hide (drop_get hy)
                  clear hy
                  rcases @isd_hex y with ⟨hI, hD⟩ | ⟨d, hI, hD, hd⟩
                  · have Hc2 := hide hc2
                    have HD := hide hD
                    have hx9 : Calls Tryz.prog 89 #[.int .u8 (y : Int)] wr fun e w => e = .returned (.int .i64 (-1)) ∧ w = wr := by have := xhex_any wr y hy2; rw [hI] at this; exact this
                    clear hc2 hD hI
                    go_wp2_with fail
                    refine hx9.mono ?_
                    rintro e w' ⟨rfl, he⟩
                    obtain rfl : wr = w' := he.symm
                    clear hx9
                    have Hf : Hid (drun 16 2 ((strN s).drop (k + 2)) 0 0 = (v, c)) := (unhide Hd).trans (by rw [unhide Hdr, drun_none (unhide HD)])
                    by_cases c0 : c = 0
                    · have Hr : Hid (escL (a :: x :: (strN s).drop (k + 2)) = none) := (unhide Hv).trans (fin_zero (by rw [unhide Hf]; exact .inl c0))
                      have en : ((n : Int) == 2) = true := by have := unhide Hn; simp; omega
                      clear c0 Hf Hd hc
                      go_wp2
                      go_ret2
                      exact vnBad (unhide HB1) (unhide Hr)
                    · have Hr : Hid (escL (a :: x :: (strN s).drop (k + 2)) = some (v, n)) := (unhide Hv).trans (by rw [unhide Hf, fin_ok c0 hv, ← unhide Hn])
                      have en : ((n : Int) == 2) = false := by have := unhide Hn; simp; omega
                      clear c0 Hf Hd hc
                      go_wp2
                      go_ret2
                      have e9 : IntKind.u8.wrap (v : Int) = (v : Int) := by simp [IntKind.wrap, IntKind.bits, IntKind.signed]; omega
                      first
                        | exact vnGood (unhide HB1) (unhide Hr)
                        | (rw [e9]; exact vnGood (unhide HB1) (unhide Hr))
                  · have hx9 : Calls Tryz.prog 89 #[.int .u8 (y : Int)] wr fun e w => e = .returned (.int .i64 (d : Int)) ∧ w = wr := by have := xhex_any wr y hy2; rw [hI] at this; exact this
                    have Hnext : Hid (drun 16 2 ((strN s).drop (k + 2)) 0 0 = drun 16 (2 - (c + 1)) ((strN s).drop (q + 1)) (v * 16 + d) (c + 1)) := by show _ = _; rw [unhide Hd, unhide Hdr, show 2 - c = (2 - (c + 1)) + 1 by omega, drun_some hD]
                    have Hvb2 : Hid (VB 16 (c + 1) (v * 16 + d)) := (unhide Hvb).next hd
                    have hv16 : v * 16 + d ≤ 255 := vb16 (unhide Hvb2) (by omega)
                    have Hc2 := hide hc2
                    clear hc2 hD hI Hd Hdr hc
                    go_wp2_with fail
                    refine hx9.mono ?_
                    rintro e w' ⟨rfl, he⟩
                    obtain rfl : wr = w' := he.symm
                    go_wp2_with fail
                    refine hx9.mono ?_
                    rintro e w' ⟨rfl, he⟩
                    obtain rfl : wr = w' := he.symm
                    clear hx9
                    go_wp2
                    go_roundg (2 - (c + 1))
                    case measure => have := unhide Hgk2; have := unhide Hc2; omega
                    case rel =>
                      have hn := unhide Hn; have hq := unhide Hq; have hc2 := unhide Hc2
                      refine ⟨c + 1, v * 16 + d, by go_num, by subst hn; go_num, rfl, by omega, hv16, rfl, Hvb2, ?_⟩
                      have := unhide Hnext; rw [hq, hn] at this; exact this
                · have q1 : decide (q < s.size) = false := by simp; omega
                  have Hdr := hide (lt_len hqs)
                  clear hqs hc2
                  have Hf : Hid (drun 16 2 ((strN s).drop (k + 2)) 0 0 = (v, c)) := (unhide Hd).trans (by rw [unhide Hdr, drun_nil])
                  by_cases c0 : c = 0
                  · have Hr : Hid (escL (a :: x :: (strN s).drop (k + 2)) = none) := (unhide Hv).trans (fin_zero (by rw [unhide Hf]; exact .inl c0))
                    have en : ((n : Int) == 2) = true := by have := unhide Hn; simp; omega
                    clear c0 Hf Hd hc
                    go_wp2
                    go_ret2
                    exact vnBad (unhide HB1) (unhide Hr)
                  · have Hr : Hid (escL (a :: x :: (strN s).drop (k + 2)) = some (v, n)) := (unhide Hv).trans (by rw [unhide Hf, fin_ok c0 hv, ← unhide Hn])
                    have en : ((n : Int) == 2) = false := by have := unhide Hn; simp; omega
                    clear c0 Hf Hd hc
                    go_wp2
                    go_ret2
                    have e9 : IntKind.u8.wrap (v : Int) = (v : Int) := by simp [IntKind.wrap, IntKind.bits, IntKind.signed]; omega
                    first
                      | exact vnGood (unhide HB1) (unhide Hr)
                      | (rw [e9]; exact vnGood (unhide HB1) (unhide Hr))
              · have n4 : decide ((n : Int) < 4) = false := by have := unhide Hn; simp; omega
                have Hm : Hid (2 - c = 0) := by show _ = _; omega
                clear hc2
                have Hf : Hid (drun 16 2 ((strN s).drop (k + 2)) 0 0 = (v, c)) := (unhide Hd).trans (by rw [unhide Hm, drun_zero])
                by_cases c0 : c = 0
                · have Hr : Hid (escL (a :: x :: (strN s).drop (k + 2)) = none) := (unhide Hv).trans (fin_zero (by rw [unhide Hf]; exact .inl c0))
                  have en : ((n : Int) == 2) = true := by have := unhide Hn; simp; omega
                  clear c0 Hf Hd hc
                  go_wp2
                  go_ret2
                  exact vnBad (unhide HB1) (unhide Hr)
                · have Hr : Hid (escL (a :: x :: (strN s).drop (k + 2)) = some (v, n)) := (unhide Hv).trans (by rw [unhide Hf, fin_ok c0 hv, ← unhide Hn])
                  have en : ((n : Int) == 2) = false := by have := unhide Hn; simp; omega
                  clear c0 Hf Hd hc
                  go_wp2
                  go_ret2
                  have e9 : IntKind.u8.wrap (v : Int) = (v : Int) := by simp [IntKind.wrap, IntKind.bits, IntKind.signed]; omega
                  first
                    | exact vnGood (unhide HB1) (unhide Hr)
                    | (rw [e9]; exact vnGood (unhide HB1) (unhide Hr))
          · have f88 := eqF (c := x) (k := 88) (by omega)
            have hr1 : x :: (strN s).drop (k + 2) = (strN s).drop (k + 1) := by have h9 := drop_get (unhide Hx); rw [unhide Hj] at h9; exact h9.symm
            have Hr1 := hide hr1
            clear hr1
            have Hv : Hid (escL (a :: x :: (strN s).drop (k + 2)) = fin (drun 8 3 ((strN s).drop (k + 1)) 0 0) 1) := (escL_oct hnv (by omega)).trans (by rw [unhide Hr1])
            clear hnv h120 h88
            go_wp2
            go_loopg [12, 13] 3 (fun gk v10 v11 wr2 => ∃ (c v : Nat), v10 = .int .i64 (v : Int) ∧ v11 = .int .i64 ((1 + c : Nat) : Int) ∧ gk = 3 - c ∧ c ≤ 3 ∧ v ≤ 511 ∧ wr2 = wr ∧ Hid (VB 8 c v) ∧ Hid (drun 8 3 ((strN s).drop (k + 1)) 0 0 = drun 8 (3 - c) ((strN s).drop (k + (1 + c))) v c))
            case atStart => exact ⟨0, 0, rfl, rfl, rfl, by omega, by omega, rfl, by show 0 < 8 ^ 0; decide, rfl⟩
            case round =>
              obtain ⟨c, v, rfl, rfl, hgk2, hc, hv, rfl, Hvb, Hd⟩ := hrel
              obtain ⟨n, hn⟩ : ∃ n, n = 1 + c := ⟨_, rfl⟩
              obtain ⟨q, hq⟩ : ∃ q, q = k + n := ⟨_, rfl⟩
              rw [← hn] at Hd ⊢
              rw [← hq] at Hd
              have hw2 : (k : Int) + (n : Int) = (q : Int) := by omega
              have q0 : (0 : Int) ≤ (q : Int) := Int.natCast_nonneg _
              have hnF : 1 ≤ n := by omega
              have hn4 : n ≤ 4 := by omega
              have Hn := hide hn
              have Hq := hide hq
              have Hgk2 := hide hgk2
              clear hgk2 hn hq
              by_cases hc2 : c < 3
              · have n4 : decide ((n : Int) < 4) = true := by have := unhide Hn; simp; omega
                by_cases hqs : q < s.size
                · obtain ⟨y, hy, hy2, gy⟩ := strN_ex s q hqs
                  have q1 : (q : Int) < (s.size : Int) := by omega
                  have Hdr := hide (drop_get hy)
                  clear hy
                  by_cases hD : isd 8 y ≠ none
                  · obtain ⟨hD2, y1, y2⟩ := isd8_val hD
                    have Hnext : Hid (drun 8 3 ((strN s).drop (k + 1)) 0 0 = drun 8 (3 - (c + 1)) ((strN s).drop (q + 1)) (v * 8 + (y - 48)) (c + 1)) := by show _ = _; rw [unhide Hd, unhide Hdr, show 3 - c = (3 - (c + 1)) + 1 by omega, drun_some hD2]
                    have Hvb2 : Hid (VB 8 (c + 1) (v * 8 + (y - 48))) := (unhide Hvb).next (by omega)
                    have hv8 : v * 8 + (y - 48) ≤ 511 := vb8 (unhide Hvb2) (by omega)
                    have HD := hide hD
                    have Hc2 := hide hc2
                    clear hc2 hD hD2 Hd Hdr hc
                    go_wp2_with fail
                    refine (xdigit8 wr y hy2).mono ?_
                    rintro e w' ⟨b, rfl, he, hb⟩
                    obtain rfl : wr = w' := he.symm
                    obtain rfl : b = true := hb.2 (unhide HD)
                    clear hb
                    go_wp2
                    go_roundg (3 - (c + 1))
                    case measure => have := unhide Hgk2; have := unhide Hc2; omega
                    case rel =>
                      have hn := unhide Hn; have hq := unhide Hq; have hc2 := unhide Hc2
                      refine ⟨c + 1, v * 8 + (y - 48), by go_num, by subst hn; go_num, rfl, by omega, hv8, rfl, Hvb2, ?_⟩
                      have := unhide Hnext; rw [hq, hn] at this; exact this
                  · have HD := hide (Classical.not_not.1 hD)
                    have Hc2 := hide hc2
                    have HnD := hide hD
                    clear hc2 hD
                    go_wp2_with fail
                    refine (xdigit8 wr y hy2).mono ?_
                    rintro e w' ⟨b, rfl, he, hb⟩
                    obtain rfl : wr = w' := he.symm
                    obtain rfl : b = false := by cases b with | false => rfl | true => exact absurd (hb.1 rfl) (unhide HnD)
                    clear hb
                    have Hf : Hid (drun 8 3 ((strN s).drop (k + 1)) 0 0 = (v, c)) := (unhide Hd).trans (by rw [unhide Hdr, drun_none (unhide HD)])
                    by_cases c0 : c = 0 ∨ 255 < v
                    · have Hr : Hid (escL (a :: x :: (strN s).drop (k + 2)) = none) := (unhide Hv).trans (fin_zero (by rw [unhide Hf]; exact c0))
                      rcases c0 with c0 | c0
                      · have en : ((n : Int) == 1) = true := by have := unhide Hn; simp; omega
                        clear c0 Hf Hd hc
                        go_wp2
                        go_ret2
                        exact vnBad (unhide HB1) (unhide Hr)
                      · by_cases c1 : c = 0
                        · have en : ((n : Int) == 1) = true := by have := unhide Hn; simp; omega
                          clear c0 c1 Hf Hd hc
                          go_wp2
                          go_ret2
                          exact vnBad (unhide HB1) (unhide Hr)
                        · have en : ((n : Int) == 1) = false := by have := unhide Hn; simp; omega
                          have ev : decide ((255 : Int) < (v : Int)) = true := by simp; omega
                          clear c0 c1 Hf Hd hc
                          go_wp2
                          go_ret2
                          exact vnBad (unhide HB1) (unhide Hr)
                    · obtain ⟨c0, c1⟩ := not_or.1 c0
                      have Hr : Hid (escL (a :: x :: (strN s).drop (k + 2)) = some (v, n)) := (unhide Hv).trans (by rw [unhide Hf, fin_ok c0 (by omega), ← unhide Hn])
                      have ev : decide ((255 : Int) < (v : Int)) = false := by simp; omega
                      have hv2 : v ≤ 255 := by omega
                      clear c1
                      have en : ((n : Int) == 1) = false := by have := unhide Hn; simp; omega
                      clear c0 Hf Hd hc
                      go_wp2
                      go_ret2
                      have e9 : IntKind.u8.wrap (v : Int) = (v : Int) := by simp [IntKind.wrap, IntKind.bits, IntKind.signed]; omega
                      first
                        | exact vnGood (unhide HB1) (unhide Hr)
                        | (rw [e9]; exact vnGood (unhide HB1) (unhide Hr))
                · have q1 : decide (q < s.size) = false := by simp; omega
                  have Hdr := hide (lt_len hqs)
                  clear hqs hc2
                  have Hf : Hid (drun 8 3 ((strN s).drop (k + 1)) 0 0 = (v, c)) := (unhide Hd).trans (by rw [unhide Hdr, drun_nil])
                  by_cases c0 : c = 0 ∨ 255 < v
                  · have Hr : Hid (escL (a :: x :: (strN s).drop (k + 2)) = none) := (unhide Hv).trans (fin_zero (by rw [unhide Hf]; exact c0))
                    rcases c0 with c0 | c0
                    · have en : ((n : Int) == 1) = true := by have := unhide Hn; simp; omega
                      clear c0 Hf Hd hc
                      go_wp2
                      go_ret2
                      exact vnBad (unhide HB1) (unhide Hr)
                    · by_cases c1 : c = 0
                      · have en : ((n : Int) == 1) = true := by have := unhide Hn; simp; omega
                        clear c0 c1 Hf Hd hc
                        go_wp2
                        go_ret2
                        exact vnBad (unhide HB1) (unhide Hr)
                      · have en : ((n : Int) == 1) = false := by have := unhide Hn; simp; omega
                        have ev : decide ((255 : Int) < (v : Int)) = true := by simp; omega
                        clear c0 c1 Hf Hd hc
                        go_wp2
                        go_ret2
                        exact vnBad (unhide HB1) (unhide Hr)
                  · obtain ⟨c0, c1⟩ := not_or.1 c0
                    have Hr : Hid (escL (a :: x :: (strN s).drop (k + 2)) = some (v, n)) := (unhide Hv).trans (by rw [unhide Hf, fin_ok c0 (by omega), ← unhide Hn])
                    have ev : decide ((255 : Int) < (v : Int)) = false := by simp; omega
                    have hv2 : v ≤ 255 := by omega
                    clear c1
                    have en : ((n : Int) == 1) = false := by have := unhide Hn; simp; omega
                    clear c0 Hf Hd hc
                    go_wp2
                    go_ret2
                    have e9 : IntKind.u8.wrap (v : Int) = (v : Int) := by simp [IntKind.wrap, IntKind.bits, IntKind.signed]; omega
                    first
                      | exact vnGood (unhide HB1) (unhide Hr)
                      | (rw [e9]; exact vnGood (unhide HB1) (unhide Hr))
              · have n4 : decide ((n : Int) < 4) = false := by have := unhide Hn; simp; omega
                have Hm : Hid (3 - c = 0) := by show _ = _; omega
                clear hc2
                have Hf : Hid (drun 8 3 ((strN s).drop (k + 1)) 0 0 = (v, c)) := (unhide Hd).trans (by rw [unhide Hm, drun_zero])
                by_cases c0 : c = 0 ∨ 255 < v
                · have Hr : Hid (escL (a :: x :: (strN s).drop (k + 2)) = none) := (unhide Hv).trans (fin_zero (by rw [unhide Hf]; exact c0))
                  rcases c0 with c0 | c0
                  · have en : ((n : Int) == 1) = true := by have := unhide Hn; simp; omega
                    clear c0 Hf Hd hc
                    go_wp2
                    go_ret2
                    exact vnBad (unhide HB1) (unhide Hr)
                  · by_cases c1 : c = 0
                    · have en : ((n : Int) == 1) = true := by have := unhide Hn; simp; omega
                      clear c0 c1 Hf Hd hc
                      go_wp2
                      go_ret2
                      exact vnBad (unhide HB1) (unhide Hr)
                    · have en : ((n : Int) == 1) = false := by have := unhide Hn; simp; omega
                      have ev : decide ((255 : Int) < (v : Int)) = true := by simp; omega
                      clear c0 c1 Hf Hd hc
                      go_wp2
                      go_ret2
                      exact vnBad (unhide HB1) (unhide Hr)
                · obtain ⟨c0, c1⟩ := not_or.1 c0
                  have Hr : Hid (escL (a :: x :: (strN s).drop (k + 2)) = some (v, n)) := (unhide Hv).trans (by rw [unhide Hf, fin_ok c0 (by omega), ← unhide Hn])
                  have ev : decide ((255 : Int) < (v : Int)) = false := by simp; omega
                  have hv2 : v ≤ 255 := by omega
                  clear c1
                  have en : ((n : Int) == 1) = false := by have := unhide Hn; simp; omega
                  clear c0 Hf Hd hc
                  go_wp2
                  go_ret2
                  have e9 : IntKind.u8.wrap (v : Int) = (v : Int) := by simp [IntKind.wrap, IntKind.bits, IntKind.signed]; omega
                  first
                    | exact vnGood (unhide HB1) (unhide Hr)
                    | (rw [e9]; exact vnGood (unhide HB1) (unhide Hr))
  · have hn : escL ((strN s).drop k) = none := escL_short (by rw [List.length_drop, strN_len]; omega)
    have Hn := hide hn
    have e1 : decide ((s.size : Int) ≤ (k : Int) + 1) = true := by simp; omega
    clear h2 hn
    go_enter Tryz.func90, Tryz.ntmps90
    go_wp2
    go_ret2
    exact vnBad hb0 (unhide Hn)
end Go.Proofs.YtckpainohfhopaaGreatDoor
