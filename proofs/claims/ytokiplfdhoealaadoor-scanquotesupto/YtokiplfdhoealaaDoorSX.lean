import Derived.Test.YtokiplfdhoealaaDoorSK
namespace Go.Proofs.YtokiplfdhoealaaDoor
open Go.RowKit Go.Lib
attribute [local go_sem ↓] Go.wp_at_zero Go.wp_at_succ

theorem strN_ofN' {l : List Nat} (h : Byt l) : strN (ofN l) = l := by
  unfold strN ofN
  rw [List.map_map]
  conv => rhs; rw [← List.map_id l]
  exact List.map_congr_left fun x hx => u8_back (h x hx)
def octL (x : Nat) : List Nat := [92, 48 + x / 64, 48 + x / 8 % 8, 48 + x % 8]
theorem octL_byt {x : Nat} (h : x < 256) : Byt (octL x) := by
  have key : ∀ k : Fin 256, (octL k.val).all (· < 256) = true := by decide +kernel
  intro y hy
  have := List.all_eq_true.1 (key ⟨x, h⟩) y hy
  simpa using this
set_option maxRecDepth 100000 in
theorem octal_any (W : World) (x : Nat) (hx : x < 256) : Calls Tryd.prog 22 #[.int .u8 (x : Int)] W fun e w => e = .returned (.string (ofN (octL x))) ∧ Below W.heap.size W w := by
  have q1 : (x : Int).tdiv 64 = (x : Int) / 64 := Int.tdiv_eq_ediv_of_nonneg (by omega)
  have q2 : (x : Int).tdiv 8 = (x : Int) / 8 := Int.tdiv_eq_ediv_of_nonneg (by omega)
  have q3 : ((x : Int) / 8).tmod 8 = (x : Int) / 8 % 8 := Int.tmod_eq_emod_of_nonneg (by omega)
  have q4 : (x : Int).tmod 8 = (x : Int) % 8 := Int.tmod_eq_emod_of_nonneg (by omega)
  have hH : HasB (W.alloc (.cells #[.int .u8 92, .int .u8 (48 + (x : Int) / 64), .int .u8 (48 + (x : Int) / 8 % 8), .int .u8 (48 + (x : Int) % 8)] 5)) (.slice (some ⟨W.heap.size, 0, none⟩) 4 4) (octL x) :=
    hasB_lit (l := octL x) (t := 5) (fr := (0, 0)) (by rw [heap_new]; simp [nb, octL]) 4 4 rfl (by decide)
  have hcv := conv_any hH (octL_byt hx)
  have HB : Hid (Below W.heap.size W (W.alloc (.cells #[.int .u8 92, .int .u8 (48 + (x : Int) / 64), .int .u8 (48 + (x : Int) / 8 % 8), .int .u8 (48 + (x : Int) % 8)] 5))) := (Below.refl _ _).alloc (Nat.le_refl _) _
  clear hH
  go_enter Tryd.func22, Tryd.ntmps22
  go_wp2
  go_ret
  exact ⟨rfl, unhide HB⟩
theorem pk_esc {s : ByteArray} {k : Nat} (h : byteAt s k < 128) (h2 : byteAt s k < 32 ∨ byteAt s k = 127 ∨ byteAt s k = 34 ∨ byteAt s k = 92) : plainK s k = 0 := by unfold plainK; rw [if_neg (by omega), if_pos h2]
theorem pk_self {s : ByteArray} {k : Nat} (hk : k < s.size) (h2 : ¬ (byteAt s k < 32 ∨ byteAt s k = 127 ∨ byteAt s k = 34 ∨ byteAt s k = 92)) : plainK s k = chAt s k := by
  unfold plainK
  by_cases h : 128 ≤ byteAt s k
  · rw [if_pos h]
  · rw [if_neg h, if_neg h2, chAt_low hk (by omega)]
theorem qs_esc {s : ByteArray} {k x : Nat} (hb : byteAt s k = x) (h : plainK s k = 0) : qs s k = esc x ∧ qn s k = 1 := by
  unfold qs qn
  rw [if_pos h, if_pos h, hb]
  exact ⟨rfl, rfl⟩
theorem qs_self {s : ByteArray} {k n : Nat} (h : plainK s k = n) (h0 : ¬ n = 0) : qs s k = sub s k n ∧ qn s k = n := by
  unfold qs qn
  rw [h, if_neg h0, if_neg h0]
  exact ⟨rfl, rfl⟩
theorem esc_oct {x : Nat} (h : ¬ (x = 92 ∨ x = 34)) (h1 : ¬ x = 10) (h2 : ¬ x = 13) (h3 : ¬ x = 9) : esc x = octL x := by unfold esc octL; rw [if_neg h, if_neg h1, if_neg h2, if_neg h3]
theorem wrapQ (l : List Nat) : (⟨#[34]⟩ : ByteArray) ++ ofN l ++ ⟨#[34]⟩ = ofN (34 :: l ++ [34]) := by
  have e : ∀ a b : ByteArray, strN (a ++ b) = strN a ++ strN b := fun a b => by unfold strN; simp
  unfold ofN
  apply ByteArray.ext
  simp
set_option maxRecDepth 100000 in
set_option maxHeartbeats 4000000 in
theorem xquote_any (W : World) (s : ByteArray) (hs : s.size ≤ 1048576) :
    Calls Tryd.prog 10 #[.string s] W fun e w => e = .returned (.string (ofN (34 :: qAll s 0 ++ [34]))) ∧ Below W.heap.size W w := by
  obtain ⟨i0, hi, hz0, hz1, hz2⟩ := info_parts Tryd.infoByte
  have Hy0 : Hid (Bytes W.heap.size W (.slice none 0 0) []) := bytes_nil _ _
  have HB0 : Hid (Below W.heap.size W W) := Below.refl _ _
  go_enter Tryd.func10, Tryd.ntmps10
  go_wp2
  go_loopg [3, 4, 5, 6] s.size (fun gk v3 v4 _ _ wr => ∃ (k : Nat) (pre : List Nat) (va : Option Addr) (vn vc : Nat), v3 = .slice va vn vc ∧ v4 = .int .i64 (k : Int) ∧ gk = s.size - k ∧ k ≤ s.size ∧ pre.length ≤ 4 * k ∧ Hid (Bytes W.heap.size wr (.slice va vn vc) pre) ∧ Hid (Byt pre) ∧ Hid (qAll s 0 = pre ++ qAll s k) ∧ Hid (Below W.heap.size W wr))
  case atStart => exact ⟨0, [], _, _, _, rfl, rfl, rfl, by omega, by simp, Hy0, fun x hx => by simp at hx, rfl, HB0⟩
  case round =>
    obtain ⟨k, pre, va, vn, vc, rfl, rfl, hgk, hk, hpl, HY, Hbyt, Hq, HB⟩ := hrel
    have Hgk := hide hgk
    clear hgk Hy0 HB0
    by_cases hlt : k < s.size
    · have hst := qAll_step hlt
      have hql := @qs_len s k
      have hqb := qs_byt s k
      have hpn : pre.length + (qs s k).length ≤ 4 * (k + qn s k) := by omega
      have Hnext : Hid (qAll s 0 = (pre ++ qs s k) ++ qAll s (k + qn s k)) := by
        show qAll s 0 = (pre ++ qs s k) ++ qAll s (k + qn s k)
        rw [unhide Hq, hst, List.append_assoc]
      have Hbyt2 : Hid (Byt (pre ++ qs s k)) := (unhide Hbyt).append hqb
      have Hpn := hide hpn
      have hsz2 : W.heap.size ≤ wr.heap.size := (unhide HB).size
      obtain ⟨x, hx⟩ : ∃ x : Nat, s[k].toNat = x := ⟨_, rfl⟩
      have hbx : byteAt s k = x := (byteAt_eq s k hlt).trans hx
      have hx2 : x < 256 := by rw [← hbx]; exact byteAt_lt s k
      have k0 : (0 : Int) ≤ (k : Int) := Int.natCast_nonneg _
      have k1 : (k : Int) < (s.size : Int) := by omega
      have Hbx := hide hbx
      clear hst hql hqb hpn Hq hbx
      go_wp2_with fail
      refine (follow_any wr s k hlt (by omega)).mono ?_
      rintro e w2 ⟨rfl, he⟩
      obtain rfl : wr = w2 := he.symm
      obtain ⟨n, hn⟩ : ∃ n, n = chAt s k := ⟨_, rfl⟩
      have hnle := chAt_le s k hk
      rw [← hn] at hnle ⊢
      obtain ⟨hn1, hn4⟩ := hnle
      have Hn := hide hn
      clear hn hx he
      by_cases g0 : x = 92
      · have hpk := pk_esc (s := s) (k := k) (by rw [unhide Hbx]; omega) (by rw [unhide Hbx]; omega)
        obtain ⟨hqs, hqn⟩ := qs_esc (unhide Hbx) hpk
        have he : esc x = [92, x] := by unfold esc; rw [if_pos (.inl g0)]
        rw [hqs, hqn, he] at Hnext Hpn
        rw [hqs, he] at Hbyt2
        have hn1' : n = 1 := by rw [unhide Hn]; exact chAt_low hlt (by rw [unhide Hbx]; omega)
        rw [hn1']
        have f0 := eqT (c := x) (k := 92) (by omega)
        have O1 : Hid (pre.length + 2 ≤ maxLen) := by show _ ≤ _; unfold maxLen; omega
        have O2 : Hid ((pre.length + 2) * 1 ≤ 140737488355328) := by show _ ≤ _; omega
        clear hpk hqs hqn he hn1 hn4 hn1' g0
        go_wp2_with (at_builtin; refine wpList_append_own_at _ rfl _ _ 41 rfl W.heap.size 5 i0 (.int .u8 0) 1 1 Tryd.underlying41 hi hz0 hz1 hz2 rfl (by decide) _ _ _ rfl ((unhide HY).alloc _) ⟨wr.heap.size, 0, none⟩ 2 2 [.int .u8 92, .int .u8 (x : Int)] rfl rfl (cells_lit _ _ _) (by simp [Value.oneCell']) (unhide O1) (unhide O2) (by rw [World.size_alloc]; omega) ?_; intro v4 w4 hown4 hgrow4 _ hat4; have HP : Hid (PutE W.heap.size wr (.slice va vn vc) pre [92, x] (.returned v4) w4) := putE_lit (ys := [92, x]) hown4 rfl rfl hgrow4 hat4; clear hown4 hgrow4 hat4)
        obtain ⟨v5, hv5, hby, hext⟩ := unhide HP
        obtain rfl : v4 = v5 := by simpa using hv5
        obtain ⟨va', vn', vc', rfl⟩ := hby.shape
        have HB3 : Hid (Below W.heap.size W w4) := (unhide HB).trans (hext.below hsz2 (unhide HY).base_le)
        have HY3 := hide hby
        clear hby hext hv5 HP
        go_roundg (s.size - (k + 1))
        case measure => have := unhide Hgk; omega
        case rel => exact ⟨k + 1, pre ++ [92, x], _, _, _, rfl, by go_num, rfl, by omega, by have := unhide Hpn; simp only [List.length_append]; omega, HY3, Hbyt2, Hnext, HB3⟩
      · have f0 := eqF (c := x) (k := 92) (by omega)
        by_cases g1 : x = 34
        · have hpk := pk_esc (s := s) (k := k) (by rw [unhide Hbx]; omega) (by rw [unhide Hbx]; omega)
          obtain ⟨hqs, hqn⟩ := qs_esc (unhide Hbx) hpk
          have he : esc x = [92, x] := by unfold esc; rw [if_pos (.inr g1)]
          rw [hqs, hqn, he] at Hnext Hpn
          rw [hqs, he] at Hbyt2
          have hn1' : n = 1 := by rw [unhide Hn]; exact chAt_low hlt (by rw [unhide Hbx]; omega)
          rw [hn1']
          have f0 := eqT (c := x) (k := 34) (by omega)
          have O1 : Hid (pre.length + 2 ≤ maxLen) := by show _ ≤ _; unfold maxLen; omega
          have O2 : Hid ((pre.length + 2) * 1 ≤ 140737488355328) := by show _ ≤ _; omega
          clear hpk hqs hqn he hn1 hn4 hn1' g0 g1
          go_wp2_with (at_builtin; refine wpList_append_own_at _ rfl _ _ 41 rfl W.heap.size 5 i0 (.int .u8 0) 1 1 Tryd.underlying41 hi hz0 hz1 hz2 rfl (by decide) _ _ _ rfl ((unhide HY).alloc _) ⟨wr.heap.size, 0, none⟩ 2 2 [.int .u8 92, .int .u8 (x : Int)] rfl rfl (cells_lit _ _ _) (by simp [Value.oneCell']) (unhide O1) (unhide O2) (by rw [World.size_alloc]; omega) ?_; intro v4 w4 hown4 hgrow4 _ hat4; have HP : Hid (PutE W.heap.size wr (.slice va vn vc) pre [92, x] (.returned v4) w4) := putE_lit (ys := [92, x]) hown4 rfl rfl hgrow4 hat4; clear hown4 hgrow4 hat4)
          obtain ⟨v5, hv5, hby, hext⟩ := unhide HP
          obtain rfl : v4 = v5 := by simpa using hv5
          obtain ⟨va', vn', vc', rfl⟩ := hby.shape
          have HB3 : Hid (Below W.heap.size W w4) := (unhide HB).trans (hext.below hsz2 (unhide HY).base_le)
          have HY3 := hide hby
          clear hby hext hv5 HP
          go_roundg (s.size - (k + 1))
          case measure => have := unhide Hgk; omega
          case rel => exact ⟨k + 1, pre ++ [92, x], _, _, _, rfl, by go_num, rfl, by omega, by have := unhide Hpn; simp only [List.length_append]; omega, HY3, Hbyt2, Hnext, HB3⟩
        · have f1 := eqF (c := x) (k := 34) (by omega)
          have g01 : ¬ (x = 92 ∨ x = 34) := fun q => q.elim g0 g1
          by_cases g2 : x = 10
          · have hpk := pk_esc (s := s) (k := k) (by rw [unhide Hbx]; omega) (by rw [unhide Hbx]; omega)
            obtain ⟨hqs, hqn⟩ := qs_esc (unhide Hbx) hpk
            have he : esc x = [92, 110] := by unfold esc; rw [if_neg g01]; rw [if_pos g2]
            rw [hqs, hqn, he] at Hnext Hpn
            rw [hqs, he] at Hbyt2
            have hn1' : n = 1 := by rw [unhide Hn]; exact chAt_low hlt (by rw [unhide Hbx]; omega)
            rw [hn1']
            have f0 := eqT (c := x) (k := 10) (by omega)
            have O1 : Hid (pre.length + 2 ≤ maxLen) := by show _ ≤ _; unfold maxLen; omega
            have O2 : Hid ((pre.length + 2) * 1 ≤ 140737488355328) := by show _ ≤ _; omega
            clear hpk hqs hqn he hn1 hn4 hn1' g0 g1 g01 g2
            go_wp2_with (at_builtin; refine wpList_append_own_at _ rfl _ _ 41 rfl W.heap.size 5 i0 (.int .u8 0) 1 1 Tryd.underlying41 hi hz0 hz1 hz2 rfl (by decide) _ _ _ rfl ((unhide HY).alloc _) ⟨wr.heap.size, 0, none⟩ 2 2 [.int .u8 92, .int .u8 110] rfl rfl (cells_lit _ _ _) (by simp [Value.oneCell']) (unhide O1) (unhide O2) (by rw [World.size_alloc]; omega) ?_; intro v4 w4 hown4 hgrow4 _ hat4; have HP : Hid (PutE W.heap.size wr (.slice va vn vc) pre [92, 110] (.returned v4) w4) := putE_lit (ys := [92, 110]) hown4 rfl rfl hgrow4 hat4; clear hown4 hgrow4 hat4)
            obtain ⟨v5, hv5, hby, hext⟩ := unhide HP
            obtain rfl : v4 = v5 := by simpa using hv5
            obtain ⟨va', vn', vc', rfl⟩ := hby.shape
            have HB3 : Hid (Below W.heap.size W w4) := (unhide HB).trans (hext.below hsz2 (unhide HY).base_le)
            have HY3 := hide hby
            clear hby hext hv5 HP
            go_roundg (s.size - (k + 1))
            case measure => have := unhide Hgk; omega
            case rel => exact ⟨k + 1, pre ++ [92, 110], _, _, _, rfl, by go_num, rfl, by omega, by have := unhide Hpn; simp only [List.length_append]; omega, HY3, Hbyt2, Hnext, HB3⟩
          · have f2 := eqF (c := x) (k := 10) (by omega)
            by_cases g3 : x = 13
            · have hpk := pk_esc (s := s) (k := k) (by rw [unhide Hbx]; omega) (by rw [unhide Hbx]; omega)
              obtain ⟨hqs, hqn⟩ := qs_esc (unhide Hbx) hpk
              have he : esc x = [92, 114] := by unfold esc; rw [if_neg g01]; rw [if_neg g2]; rw [if_pos g3]
              rw [hqs, hqn, he] at Hnext Hpn
              rw [hqs, he] at Hbyt2
              have hn1' : n = 1 := by rw [unhide Hn]; exact chAt_low hlt (by rw [unhide Hbx]; omega)
              rw [hn1']
              have f0 := eqT (c := x) (k := 13) (by omega)
              have O1 : Hid (pre.length + 2 ≤ maxLen) := by show _ ≤ _; unfold maxLen; omega
              have O2 : Hid ((pre.length + 2) * 1 ≤ 140737488355328) := by show _ ≤ _; omega
              clear hpk hqs hqn he hn1 hn4 hn1' g0 g1 g01 g2 g3
              go_wp2_with (at_builtin; refine wpList_append_own_at _ rfl _ _ 41 rfl W.heap.size 5 i0 (.int .u8 0) 1 1 Tryd.underlying41 hi hz0 hz1 hz2 rfl (by decide) _ _ _ rfl ((unhide HY).alloc _) ⟨wr.heap.size, 0, none⟩ 2 2 [.int .u8 92, .int .u8 114] rfl rfl (cells_lit _ _ _) (by simp [Value.oneCell']) (unhide O1) (unhide O2) (by rw [World.size_alloc]; omega) ?_; intro v4 w4 hown4 hgrow4 _ hat4; have HP : Hid (PutE W.heap.size wr (.slice va vn vc) pre [92, 114] (.returned v4) w4) := putE_lit (ys := [92, 114]) hown4 rfl rfl hgrow4 hat4; clear hown4 hgrow4 hat4)
              obtain ⟨v5, hv5, hby, hext⟩ := unhide HP
              obtain rfl : v4 = v5 := by simpa using hv5
              obtain ⟨va', vn', vc', rfl⟩ := hby.shape
              have HB3 : Hid (Below W.heap.size W w4) := (unhide HB).trans (hext.below hsz2 (unhide HY).base_le)
              have HY3 := hide hby
              clear hby hext hv5 HP
              go_roundg (s.size - (k + 1))
              case measure => have := unhide Hgk; omega
              case rel => exact ⟨k + 1, pre ++ [92, 114], _, _, _, rfl, by go_num, rfl, by omega, by have := unhide Hpn; simp only [List.length_append]; omega, HY3, Hbyt2, Hnext, HB3⟩
            · have f3 := eqF (c := x) (k := 13) (by omega)
              by_cases g4 : x = 9
              · have hpk := pk_esc (s := s) (k := k) (by rw [unhide Hbx]; omega) (by rw [unhide Hbx]; omega)
                obtain ⟨hqs, hqn⟩ := qs_esc (unhide Hbx) hpk
                have he : esc x = [92, 116] := by unfold esc; rw [if_neg g01]; rw [if_neg g2]; rw [if_neg g3]; rw [if_pos g4]
                rw [hqs, hqn, he] at Hnext Hpn
                rw [hqs, he] at Hbyt2
                have hn1' : n = 1 := by rw [unhide Hn]; exact chAt_low hlt (by rw [unhide Hbx]; omega)
                rw [hn1']
                have f0 := eqT (c := x) (k := 9) (by omega)
                have O1 : Hid (pre.length + 2 ≤ maxLen) := by show _ ≤ _; unfold maxLen; omega
                have O2 : Hid ((pre.length + 2) * 1 ≤ 140737488355328) := by show _ ≤ _; omega
                clear hpk hqs hqn he hn1 hn4 hn1' g0 g1 g01 g2 g3 g4
                go_wp2_with (at_builtin; refine wpList_append_own_at _ rfl _ _ 41 rfl W.heap.size 5 i0 (.int .u8 0) 1 1 Tryd.underlying41 hi hz0 hz1 hz2 rfl (by decide) _ _ _ rfl ((unhide HY).alloc _) ⟨wr.heap.size, 0, none⟩ 2 2 [.int .u8 92, .int .u8 116] rfl rfl (cells_lit _ _ _) (by simp [Value.oneCell']) (unhide O1) (unhide O2) (by rw [World.size_alloc]; omega) ?_; intro v4 w4 hown4 hgrow4 _ hat4; have HP : Hid (PutE W.heap.size wr (.slice va vn vc) pre [92, 116] (.returned v4) w4) := putE_lit (ys := [92, 116]) hown4 rfl rfl hgrow4 hat4; clear hown4 hgrow4 hat4)
                obtain ⟨v5, hv5, hby, hext⟩ := unhide HP
                obtain rfl : v4 = v5 := by simpa using hv5
                obtain ⟨va', vn', vc', rfl⟩ := hby.shape
                have HB3 : Hid (Below W.heap.size W w4) := (unhide HB).trans (hext.below hsz2 (unhide HY).base_le)
                have HY3 := hide hby
                clear hby hext hv5 HP
                go_roundg (s.size - (k + 1))
                case measure => have := unhide Hgk; omega
                case rel => exact ⟨k + 1, pre ++ [92, 116], _, _, _, rfl, by go_num, rfl, by omega, by have := unhide Hpn; simp only [List.length_append]; omega, HY3, Hbyt2, Hnext, HB3⟩
              · have f4 := eqF (c := x) (k := 9) (by omega)
                by_cases g5 : x < 32
                · have hpk : plainK s k = 0 := pk_esc (by rw [unhide Hbx]; omega) (by rw [unhide Hbx]; exact .inl g5)
                  obtain ⟨hqs, hqn⟩ := qs_esc (unhide Hbx) hpk
                  rw [esc_oct g01 g2 g3 g4] at hqs
                  rw [hqs, hqn] at Hnext Hpn
                  rw [hqs] at Hbyt2
                  have f5 := ltiT (c := x) (k := 32) (by omega)
                  have hoz : (ofN (octL x)).size = 4 := by rw [ofN_size]; rfl
                  have hob : strN (ofN (octL x)) = octL x := strN_ofN' (octL_byt hx2)
                  have O1 : Hid (pre.length + (ofN (octL x)).size ≤ maxLen) := by show _ ≤ _; rw [hoz]; unfold maxLen; omega
                  have O2 : Hid (pre.length + (ofN (octL x)).size ≤ 140737488355328) := by show _ ≤ _; rw [hoz]; omega
                  have Hoz := hide hoz
                  have Hob := hide hob
                  clear hpk hqs hqn hoz hob g0 g1 g01 g2 g3 g4 g5
                  go_wp2_with fail
                  refine (octal_any wr x hx2).mono ?_
                  rintro e w3 ⟨rfl, hb3⟩
                  have HB2 : Hid (Below W.heap.size W w3) := (unhide HB).trans (hb3.mono (unhide HB).size)
                  have HYn : Hid (Bytes W.heap.size w3 (.slice va vn vc) pre) := (unhide HY).up hb3
                  replace hsz2 : W.heap.size ≤ w3.heap.size := (unhide HB2).size
                  clear hb3 HY HB
                  have HY := HYn
                  clear HYn
                  go_wp2_with (at_builtin; refine wpList_append_str_at rfl _ _ 41 9 rfl W.heap.size 5 i0 Tryd.underlying41 Tryd.underlying9 hi hz0 hz1 hz2 _ _ _ rfl (unhide HY) (ofN (octL x)) rfl (unhide O1) (unhide O2) hsz2 ?_; intro v4 w4 hown4 hgrow4 hat4; have HP : Hid (PutE W.heap.size w3 (.slice va vn vc) pre (octL x) (.returned v4) w4) := putE_str (ys := octL x) hown4 (by rw [unhide Hoz]; rfl) ((strCells_nb _).trans (by rw [unhide Hob])) hgrow4 hat4; clear hown4 hgrow4 hat4)
                  obtain ⟨v5, hv5, hby, hext⟩ := unhide HP
                  obtain rfl : v4 = v5 := by simpa using hv5
                  obtain ⟨va', vn', vc', rfl⟩ := hby.shape
                  have HB3 : Hid (Below W.heap.size W w4) := (unhide HB2).trans (hext.below hsz2 (unhide HY).base_le)
                  have HY3 := hide hby
                  clear hby hext hv5 HP
                  go_roundg (s.size - (k + 1))
                  case measure => have := unhide Hgk; omega
                  case rel => exact ⟨k + 1, pre ++ octL x, _, _, _, rfl, by go_num, rfl, by omega, by have := unhide Hpn; simp only [List.length_append]; omega, HY3, Hbyt2, Hnext, HB3⟩
                · have f5 := ltiF (c := x) (k := 32) (by omega)
                  by_cases g6 : x = 127
                  · have hpk : plainK s k = 0 := pk_esc (by rw [unhide Hbx]; omega) (by rw [unhide Hbx]; exact .inr (.inl g6))
                    obtain ⟨hqs, hqn⟩ := qs_esc (unhide Hbx) hpk
                    rw [esc_oct g01 g2 g3 g4] at hqs
                    rw [hqs, hqn] at Hnext Hpn
                    rw [hqs] at Hbyt2
                    have f6 := eqT (c := x) (k := 127) (by omega)
                    have hoz : (ofN (octL x)).size = 4 := by rw [ofN_size]; rfl
                    have hob : strN (ofN (octL x)) = octL x := strN_ofN' (octL_byt hx2)
                    have O1 : Hid (pre.length + (ofN (octL x)).size ≤ maxLen) := by show _ ≤ _; rw [hoz]; unfold maxLen; omega
                    have O2 : Hid (pre.length + (ofN (octL x)).size ≤ 140737488355328) := by show _ ≤ _; rw [hoz]; omega
                    have Hoz := hide hoz
                    have Hob := hide hob
                    clear hpk hqs hqn hoz hob g0 g1 g01 g2 g3 g4 g5 g6
                    go_wp2_with fail
                    refine (octal_any wr x hx2).mono ?_
                    rintro e w3 ⟨rfl, hb3⟩
                    have HB2 : Hid (Below W.heap.size W w3) := (unhide HB).trans (hb3.mono (unhide HB).size)
                    have HYn : Hid (Bytes W.heap.size w3 (.slice va vn vc) pre) := (unhide HY).up hb3
                    replace hsz2 : W.heap.size ≤ w3.heap.size := (unhide HB2).size
                    clear hb3 HY HB
                    have HY := HYn
                    clear HYn
                    go_wp2_with (at_builtin; refine wpList_append_str_at rfl _ _ 41 9 rfl W.heap.size 5 i0 Tryd.underlying41 Tryd.underlying9 hi hz0 hz1 hz2 _ _ _ rfl (unhide HY) (ofN (octL x)) rfl (unhide O1) (unhide O2) hsz2 ?_; intro v4 w4 hown4 hgrow4 hat4; have HP : Hid (PutE W.heap.size w3 (.slice va vn vc) pre (octL x) (.returned v4) w4) := putE_str (ys := octL x) hown4 (by rw [unhide Hoz]; rfl) ((strCells_nb _).trans (by rw [unhide Hob])) hgrow4 hat4; clear hown4 hgrow4 hat4)
                    obtain ⟨v5, hv5, hby, hext⟩ := unhide HP
                    obtain rfl : v4 = v5 := by simpa using hv5
                    obtain ⟨va', vn', vc', rfl⟩ := hby.shape
                    have HB3 : Hid (Below W.heap.size W w4) := (unhide HB2).trans (hext.below hsz2 (unhide HY).base_le)
                    have HY3 := hide hby
                    clear hby hext hv5 HP
                    go_roundg (s.size - (k + 1))
                    case measure => have := unhide Hgk; omega
                    case rel => exact ⟨k + 1, pre ++ octL x, _, _, _, rfl, by go_num, rfl, by omega, by have := unhide Hpn; simp only [List.length_append]; omega, HY3, Hbyt2, Hnext, HB3⟩
                  · have f6 := eqF (c := x) (k := 127) (by omega)
                    have hself : plainK s k = n := by rw [unhide Hn]; exact pk_self hlt (by rw [unhide Hbx]; omega)
                    by_cases g7 : n = 0
                    · have hpk : plainK s k = 0 := hself.trans g7
                      obtain ⟨hqs, hqn⟩ := qs_esc (unhide Hbx) hpk
                      rw [esc_oct g01 g2 g3 g4] at hqs
                      rw [hqs, hqn] at Hnext Hpn
                      rw [hqs] at Hbyt2
                      have f7 : ((n : Int) == 0) = true := by simp; omega
                      have hoz : (ofN (octL x)).size = 4 := by rw [ofN_size]; rfl
                      have hob : strN (ofN (octL x)) = octL x := strN_ofN' (octL_byt hx2)
                      have O1 : Hid (pre.length + (ofN (octL x)).size ≤ maxLen) := by show _ ≤ _; rw [hoz]; unfold maxLen; omega
                      have O2 : Hid (pre.length + (ofN (octL x)).size ≤ 140737488355328) := by show _ ≤ _; rw [hoz]; omega
                      have Hoz := hide hoz
                      have Hob := hide hob
                      clear hpk hqs hqn hoz hob g0 g1 g01 g2 g3 g4 g5 g6 g7 hself
                      go_wp2_with fail
                      refine (octal_any wr x hx2).mono ?_
                      rintro e w3 ⟨rfl, hb3⟩
                      have HB2 : Hid (Below W.heap.size W w3) := (unhide HB).trans (hb3.mono (unhide HB).size)
                      have HYn : Hid (Bytes W.heap.size w3 (.slice va vn vc) pre) := (unhide HY).up hb3
                      replace hsz2 : W.heap.size ≤ w3.heap.size := (unhide HB2).size
                      clear hb3 HY HB
                      have HY := HYn
                      clear HYn
                      go_wp2_with (at_builtin; refine wpList_append_str_at rfl _ _ 41 9 rfl W.heap.size 5 i0 Tryd.underlying41 Tryd.underlying9 hi hz0 hz1 hz2 _ _ _ rfl (unhide HY) (ofN (octL x)) rfl (unhide O1) (unhide O2) hsz2 ?_; intro v4 w4 hown4 hgrow4 hat4; have HP : Hid (PutE W.heap.size w3 (.slice va vn vc) pre (octL x) (.returned v4) w4) := putE_str (ys := octL x) hown4 (by rw [unhide Hoz]; rfl) ((strCells_nb _).trans (by rw [unhide Hob])) hgrow4 hat4; clear hown4 hgrow4 hat4)
                      obtain ⟨v5, hv5, hby, hext⟩ := unhide HP
                      obtain rfl : v4 = v5 := by simpa using hv5
                      obtain ⟨va', vn', vc', rfl⟩ := hby.shape
                      have HB3 : Hid (Below W.heap.size W w4) := (unhide HB2).trans (hext.below hsz2 (unhide HY).base_le)
                      have HY3 := hide hby
                      clear hby hext hv5 HP
                      go_roundg (s.size - (k + 1))
                      case measure => have := unhide Hgk; omega
                      case rel => exact ⟨k + 1, pre ++ octL x, _, _, _, rfl, by go_num, rfl, by omega, by have := unhide Hpn; simp only [List.length_append]; omega, HY3, Hbyt2, Hnext, HB3⟩
                    · have f7 : ((n : Int) == 0) = false := by simp; omega
                      obtain ⟨hqs, hqn⟩ := qs_self hself g7
                      rw [hqs, hqn] at Hnext Hpn
                      rw [hqs] at Hbyt2
                      have hsub := sub_extract s k n
                      have hsl := sub_len hn1
                      have hxz := extract_size s k (k + n) hn1
                      have O1 : Hid (pre.length + (s.extract k (k + n)).size ≤ maxLen) := by show _ ≤ _; rw [hxz]; unfold maxLen; omega
                      have O2 : Hid (pre.length + (s.extract k (k + n)).size ≤ 140737488355328) := by show _ ≤ _; rw [hxz]; omega
                      have Hsub := hide hsub
                      have Hsl := hide hsl
                      have Hxz := hide hxz
                      clear hqs hqn hself hsub hsl hxz g0 g1 g01 g2 g3 g4 g5 g6
                      go_wp2_with (at_builtin; refine wpList_append_str_at rfl _ _ 41 9 rfl W.heap.size 5 i0 Tryd.underlying41 Tryd.underlying9 hi hz0 hz1 hz2 _ _ _ rfl (unhide HY) (s.extract k (k + n)) rfl (unhide O1) (unhide O2) hsz2 ?_; intro v4 w4 hown4 hgrow4 hat4; have HP : Hid (PutE W.heap.size wr (.slice va vn vc) pre (sub s k n) (.returned v4) w4) := putE_str (ys := sub s k n) hown4 (by rw [unhide Hxz, unhide Hsl]; omega) ((strCells_nb _).trans (by rw [unhide Hsub])) hgrow4 hat4; clear hown4 hgrow4 hat4)
                      obtain ⟨v5, hv5, hby, hext⟩ := unhide HP
                      obtain rfl : v4 = v5 := by simpa using hv5
                      obtain ⟨va', vn', vc', rfl⟩ := hby.shape
                      have HB3 : Hid (Below W.heap.size W w4) := (unhide HB).trans (hext.below hsz2 (unhide HY).base_le)
                      have HY3 := hide hby
                      clear hby hext hv5 HP
                      go_roundg (s.size - (k + n))
                      case measure => have := unhide Hgk; omega
                      case rel => exact ⟨k + n, pre ++ sub s k n, _, _, _, rfl, by go_num, rfl, by omega, by have := unhide Hpn; simp only [List.length_append]; omega, HY3, Hbyt2, Hnext, HB3⟩
    · have hq := unhide Hq
      rw [qAll_end hlt, List.append_nil] at hq
      have Hq2 := hide hq
      obtain rfl : k = s.size := by omega
      have hcv := conv_any (unhide HY).has (unhide Hbyt)
      have hzz : (ofN pre).size ≤ 4194304 := by rw [ofN_size]; omega
      clear hq Hq
      go_wp2
      go_ret
      refine ⟨?_, unhide HB⟩
      rw [unhide Hq2]
      show _ = Ending.returned (.string (ofN (34 :: pre ++ [34])))
      rw [← wrapQ pre]
      rfl
end Go.Proofs.YtokiplfdhoealaaDoor
