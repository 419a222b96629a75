import Derived.Test.YtlblllghgdfpoaaDoorJ10
import Derived.Test.YtlblllghgdfpoaaDoorJ14

namespace Go.Proofs.YtlblllghgdfpoaaDoor
open Go.RowKit
attribute [local go_sem ↓] Go.wp_at_zero Go.wp_at_succ

theorem i64_wrap_nat (n : Int) (h0 : 0 ≤ n) (h : n < 2 ^ 63) : IntKind.i64.wrap n = n := by rw [IntKind.wrap_i64]; omega
theorem i64_and_nat (a b : Nat) (ha : a < 9223372036854775808) (hb : b < 9223372036854775808) : bits .and .i64 (a : Int) (b : Int) = ((a &&& b : Nat) : Int) := (bits_nat .i64 63 (by decide) i64_wrap_nat a b (by omega) (by omega)).1
theorem i64_or_nat (a b : Nat) (ha : a < 9223372036854775808) (hb : b < 9223372036854775808) : bits .or .i64 (a : Int) (b : Int) = ((a ||| b : Nat) : Int) := (bits_nat .i64 63 (by decide) i64_wrap_nat a b (by omega) (by omega)).2
theorem i64_xor_nat (a b : Nat) (ha : a < 9223372036854775808) (hb : b < 9223372036854775808) : bits .xor .i64 (a : Int) (b : Int) = ((a ^^^ b : Nat) : Int) := by
  have hx : a ^^^ b < 2 ^ 63 := Nat.xor_lt_two_pow (by omega) (by omega)
  have e : ∀ n : Nat, n < 9223372036854775808 → (BitVec.ofInt 64 (n : Int)).toNat = n := fun n h => by
    rw [BitVec.ofInt_natCast, BitVec.toNat_ofNat]; exact Nat.mod_eq_of_lt (by omega)
  show IntKind.i64.wrap ((BitVec.ofInt 64 (a : Int) ^^^ BitVec.ofInt 64 (b : Int)).toNat : Int) = _
  rw [BitVec.toNat_xor, e a ha, e b hb]
  exact i64_wrap_nat _ (by omega) (by omega)
theorem mask32 (x : Nat) : x &&& 4294967295 = x % 4294967296 := Nat.and_two_pow_sub_one_eq_mod x 32
set_option maxRecDepth 100000 in
theorem xturned_2 (W : World) (x : Nat) (hx : x < 4294967296) : Calls Tryd.prog 66 #[.int .i64 (x : Int), .int .i64 2] W fun e W' => e = .returned (.int .i64 ((rotr x 2 : Nat) : Int)) ∧ ∃ m, W' = W.drewN m := by
  have h1 : bits .or .i64 ((x : Int) / 4) ((x : Int) * 1073741824) = ((x / 2 ^ 2 ||| x * 2 ^ (32 - 2) : Nat) : Int) := by
    rw [show (x : Int) / 4 = ((x / 2 ^ 2 : Nat) : Int) by omega, show (x : Int) * 1073741824 = ((x * 2 ^ (32 - 2) : Nat) : Int) by omega]
    exact i64_or_nat _ _ (by omega) (by omega)
  have h2 : bits .and .i64 ((x / 2 ^ 2 ||| x * 2 ^ (32 - 2) : Nat) : Int) 4294967295 = ((rotr x 2 : Nat) : Int) := by
    have hlt : x / 2 ^ 2 ||| x * 2 ^ (32 - 2) < 2 ^ 63 := Nat.or_lt_two_pow (by omega) (by omega)
    rw [show (4294967295 : Int) = ((4294967295 : Nat) : Int) from rfl, i64_and_nat _ _ (by omega) (by decide), mask32]
    rfl
  generalize x / 2 ^ 2 ||| x * 2 ^ (32 - 2) = y at *
  go_enter Tryd.func66, Tryd.ntmps66
  go_wp2_with fail
  go_quiet (fail)
  go_wp2
  go_ret
  exact ⟨rfl, _, rfl⟩
set_option maxRecDepth 100000 in
theorem xturned_6 (W : World) (x : Nat) (hx : x < 4294967296) : Calls Tryd.prog 66 #[.int .i64 (x : Int), .int .i64 6] W fun e W' => e = .returned (.int .i64 ((rotr x 6 : Nat) : Int)) ∧ ∃ m, W' = W.drewN m := by
  have h1 : bits .or .i64 ((x : Int) / 64) ((x : Int) * 67108864) = ((x / 2 ^ 6 ||| x * 2 ^ (32 - 6) : Nat) : Int) := by
    rw [show (x : Int) / 64 = ((x / 2 ^ 6 : Nat) : Int) by omega, show (x : Int) * 67108864 = ((x * 2 ^ (32 - 6) : Nat) : Int) by omega]
    exact i64_or_nat _ _ (by omega) (by omega)
  have h2 : bits .and .i64 ((x / 2 ^ 6 ||| x * 2 ^ (32 - 6) : Nat) : Int) 4294967295 = ((rotr x 6 : Nat) : Int) := by
    have hlt : x / 2 ^ 6 ||| x * 2 ^ (32 - 6) < 2 ^ 63 := Nat.or_lt_two_pow (by omega) (by omega)
    rw [show (4294967295 : Int) = ((4294967295 : Nat) : Int) from rfl, i64_and_nat _ _ (by omega) (by decide), mask32]
    rfl
  generalize x / 2 ^ 6 ||| x * 2 ^ (32 - 6) = y at *
  go_enter Tryd.func66, Tryd.ntmps66
  go_wp2_with fail
  go_quiet (fail)
  go_wp2
  go_ret
  exact ⟨rfl, _, rfl⟩
set_option maxRecDepth 100000 in
theorem xturned_7 (W : World) (x : Nat) (hx : x < 4294967296) : Calls Tryd.prog 66 #[.int .i64 (x : Int), .int .i64 7] W fun e W' => e = .returned (.int .i64 ((rotr x 7 : Nat) : Int)) ∧ ∃ m, W' = W.drewN m := by
  have h1 : bits .or .i64 ((x : Int) / 128) ((x : Int) * 33554432) = ((x / 2 ^ 7 ||| x * 2 ^ (32 - 7) : Nat) : Int) := by
    rw [show (x : Int) / 128 = ((x / 2 ^ 7 : Nat) : Int) by omega, show (x : Int) * 33554432 = ((x * 2 ^ (32 - 7) : Nat) : Int) by omega]
    exact i64_or_nat _ _ (by omega) (by omega)
  have h2 : bits .and .i64 ((x / 2 ^ 7 ||| x * 2 ^ (32 - 7) : Nat) : Int) 4294967295 = ((rotr x 7 : Nat) : Int) := by
    have hlt : x / 2 ^ 7 ||| x * 2 ^ (32 - 7) < 2 ^ 63 := Nat.or_lt_two_pow (by omega) (by omega)
    rw [show (4294967295 : Int) = ((4294967295 : Nat) : Int) from rfl, i64_and_nat _ _ (by omega) (by decide), mask32]
    rfl
  generalize x / 2 ^ 7 ||| x * 2 ^ (32 - 7) = y at *
  go_enter Tryd.func66, Tryd.ntmps66
  go_wp2_with fail
  go_quiet (fail)
  go_wp2
  go_ret
  exact ⟨rfl, _, rfl⟩
set_option maxRecDepth 100000 in
theorem xturned_11 (W : World) (x : Nat) (hx : x < 4294967296) : Calls Tryd.prog 66 #[.int .i64 (x : Int), .int .i64 11] W fun e W' => e = .returned (.int .i64 ((rotr x 11 : Nat) : Int)) ∧ ∃ m, W' = W.drewN m := by
  have h1 : bits .or .i64 ((x : Int) / 2048) ((x : Int) * 2097152) = ((x / 2 ^ 11 ||| x * 2 ^ (32 - 11) : Nat) : Int) := by
    rw [show (x : Int) / 2048 = ((x / 2 ^ 11 : Nat) : Int) by omega, show (x : Int) * 2097152 = ((x * 2 ^ (32 - 11) : Nat) : Int) by omega]
    exact i64_or_nat _ _ (by omega) (by omega)
  have h2 : bits .and .i64 ((x / 2 ^ 11 ||| x * 2 ^ (32 - 11) : Nat) : Int) 4294967295 = ((rotr x 11 : Nat) : Int) := by
    have hlt : x / 2 ^ 11 ||| x * 2 ^ (32 - 11) < 2 ^ 63 := Nat.or_lt_two_pow (by omega) (by omega)
    rw [show (4294967295 : Int) = ((4294967295 : Nat) : Int) from rfl, i64_and_nat _ _ (by omega) (by decide), mask32]
    rfl
  generalize x / 2 ^ 11 ||| x * 2 ^ (32 - 11) = y at *
  go_enter Tryd.func66, Tryd.ntmps66
  go_wp2_with fail
  go_quiet (fail)
  go_wp2
  go_ret
  exact ⟨rfl, _, rfl⟩
set_option maxRecDepth 100000 in
theorem xturned_13 (W : World) (x : Nat) (hx : x < 4294967296) : Calls Tryd.prog 66 #[.int .i64 (x : Int), .int .i64 13] W fun e W' => e = .returned (.int .i64 ((rotr x 13 : Nat) : Int)) ∧ ∃ m, W' = W.drewN m := by
  have h1 : bits .or .i64 ((x : Int) / 8192) ((x : Int) * 524288) = ((x / 2 ^ 13 ||| x * 2 ^ (32 - 13) : Nat) : Int) := by
    rw [show (x : Int) / 8192 = ((x / 2 ^ 13 : Nat) : Int) by omega, show (x : Int) * 524288 = ((x * 2 ^ (32 - 13) : Nat) : Int) by omega]
    exact i64_or_nat _ _ (by omega) (by omega)
  have h2 : bits .and .i64 ((x / 2 ^ 13 ||| x * 2 ^ (32 - 13) : Nat) : Int) 4294967295 = ((rotr x 13 : Nat) : Int) := by
    have hlt : x / 2 ^ 13 ||| x * 2 ^ (32 - 13) < 2 ^ 63 := Nat.or_lt_two_pow (by omega) (by omega)
    rw [show (4294967295 : Int) = ((4294967295 : Nat) : Int) from rfl, i64_and_nat _ _ (by omega) (by decide), mask32]
    rfl
  generalize x / 2 ^ 13 ||| x * 2 ^ (32 - 13) = y at *
  go_enter Tryd.func66, Tryd.ntmps66
  go_wp2_with fail
  go_quiet (fail)
  go_wp2
  go_ret
  exact ⟨rfl, _, rfl⟩
set_option maxRecDepth 100000 in
theorem xturned_17 (W : World) (x : Nat) (hx : x < 4294967296) : Calls Tryd.prog 66 #[.int .i64 (x : Int), .int .i64 17] W fun e W' => e = .returned (.int .i64 ((rotr x 17 : Nat) : Int)) ∧ ∃ m, W' = W.drewN m := by
  have h1 : bits .or .i64 ((x : Int) / 131072) ((x : Int) * 32768) = ((x / 2 ^ 17 ||| x * 2 ^ (32 - 17) : Nat) : Int) := by
    rw [show (x : Int) / 131072 = ((x / 2 ^ 17 : Nat) : Int) by omega, show (x : Int) * 32768 = ((x * 2 ^ (32 - 17) : Nat) : Int) by omega]
    exact i64_or_nat _ _ (by omega) (by omega)
  have h2 : bits .and .i64 ((x / 2 ^ 17 ||| x * 2 ^ (32 - 17) : Nat) : Int) 4294967295 = ((rotr x 17 : Nat) : Int) := by
    have hlt : x / 2 ^ 17 ||| x * 2 ^ (32 - 17) < 2 ^ 63 := Nat.or_lt_two_pow (by omega) (by omega)
    rw [show (4294967295 : Int) = ((4294967295 : Nat) : Int) from rfl, i64_and_nat _ _ (by omega) (by decide), mask32]
    rfl
  generalize x / 2 ^ 17 ||| x * 2 ^ (32 - 17) = y at *
  go_enter Tryd.func66, Tryd.ntmps66
  go_wp2_with fail
  go_quiet (fail)
  go_wp2
  go_ret
  exact ⟨rfl, _, rfl⟩
set_option maxRecDepth 100000 in
theorem xturned_18 (W : World) (x : Nat) (hx : x < 4294967296) : Calls Tryd.prog 66 #[.int .i64 (x : Int), .int .i64 18] W fun e W' => e = .returned (.int .i64 ((rotr x 18 : Nat) : Int)) ∧ ∃ m, W' = W.drewN m := by
  have h1 : bits .or .i64 ((x : Int) / 262144) ((x : Int) * 16384) = ((x / 2 ^ 18 ||| x * 2 ^ (32 - 18) : Nat) : Int) := by
    rw [show (x : Int) / 262144 = ((x / 2 ^ 18 : Nat) : Int) by omega, show (x : Int) * 16384 = ((x * 2 ^ (32 - 18) : Nat) : Int) by omega]
    exact i64_or_nat _ _ (by omega) (by omega)
  have h2 : bits .and .i64 ((x / 2 ^ 18 ||| x * 2 ^ (32 - 18) : Nat) : Int) 4294967295 = ((rotr x 18 : Nat) : Int) := by
    have hlt : x / 2 ^ 18 ||| x * 2 ^ (32 - 18) < 2 ^ 63 := Nat.or_lt_two_pow (by omega) (by omega)
    rw [show (4294967295 : Int) = ((4294967295 : Nat) : Int) from rfl, i64_and_nat _ _ (by omega) (by decide), mask32]
    rfl
  generalize x / 2 ^ 18 ||| x * 2 ^ (32 - 18) = y at *
  go_enter Tryd.func66, Tryd.ntmps66
  go_wp2_with fail
  go_quiet (fail)
  go_wp2
  go_ret
  exact ⟨rfl, _, rfl⟩
set_option maxRecDepth 100000 in
theorem xturned_19 (W : World) (x : Nat) (hx : x < 4294967296) : Calls Tryd.prog 66 #[.int .i64 (x : Int), .int .i64 19] W fun e W' => e = .returned (.int .i64 ((rotr x 19 : Nat) : Int)) ∧ ∃ m, W' = W.drewN m := by
  have h1 : bits .or .i64 ((x : Int) / 524288) ((x : Int) * 8192) = ((x / 2 ^ 19 ||| x * 2 ^ (32 - 19) : Nat) : Int) := by
    rw [show (x : Int) / 524288 = ((x / 2 ^ 19 : Nat) : Int) by omega, show (x : Int) * 8192 = ((x * 2 ^ (32 - 19) : Nat) : Int) by omega]
    exact i64_or_nat _ _ (by omega) (by omega)
  have h2 : bits .and .i64 ((x / 2 ^ 19 ||| x * 2 ^ (32 - 19) : Nat) : Int) 4294967295 = ((rotr x 19 : Nat) : Int) := by
    have hlt : x / 2 ^ 19 ||| x * 2 ^ (32 - 19) < 2 ^ 63 := Nat.or_lt_two_pow (by omega) (by omega)
    rw [show (4294967295 : Int) = ((4294967295 : Nat) : Int) from rfl, i64_and_nat _ _ (by omega) (by decide), mask32]
    rfl
  generalize x / 2 ^ 19 ||| x * 2 ^ (32 - 19) = y at *
  go_enter Tryd.func66, Tryd.ntmps66
  go_wp2_with fail
  go_quiet (fail)
  go_wp2
  go_ret
  exact ⟨rfl, _, rfl⟩
set_option maxRecDepth 100000 in
theorem xturned_22 (W : World) (x : Nat) (hx : x < 4294967296) : Calls Tryd.prog 66 #[.int .i64 (x : Int), .int .i64 22] W fun e W' => e = .returned (.int .i64 ((rotr x 22 : Nat) : Int)) ∧ ∃ m, W' = W.drewN m := by
  have h1 : bits .or .i64 ((x : Int) / 4194304) ((x : Int) * 1024) = ((x / 2 ^ 22 ||| x * 2 ^ (32 - 22) : Nat) : Int) := by
    rw [show (x : Int) / 4194304 = ((x / 2 ^ 22 : Nat) : Int) by omega, show (x : Int) * 1024 = ((x * 2 ^ (32 - 22) : Nat) : Int) by omega]
    exact i64_or_nat _ _ (by omega) (by omega)
  have h2 : bits .and .i64 ((x / 2 ^ 22 ||| x * 2 ^ (32 - 22) : Nat) : Int) 4294967295 = ((rotr x 22 : Nat) : Int) := by
    have hlt : x / 2 ^ 22 ||| x * 2 ^ (32 - 22) < 2 ^ 63 := Nat.or_lt_two_pow (by omega) (by omega)
    rw [show (4294967295 : Int) = ((4294967295 : Nat) : Int) from rfl, i64_and_nat _ _ (by omega) (by decide), mask32]
    rfl
  generalize x / 2 ^ 22 ||| x * 2 ^ (32 - 22) = y at *
  go_enter Tryd.func66, Tryd.ntmps66
  go_wp2_with fail
  go_quiet (fail)
  go_wp2
  go_ret
  exact ⟨rfl, _, rfl⟩
set_option maxRecDepth 100000 in
theorem xturned_25 (W : World) (x : Nat) (hx : x < 4294967296) : Calls Tryd.prog 66 #[.int .i64 (x : Int), .int .i64 25] W fun e W' => e = .returned (.int .i64 ((rotr x 25 : Nat) : Int)) ∧ ∃ m, W' = W.drewN m := by
  have h1 : bits .or .i64 ((x : Int) / 33554432) ((x : Int) * 128) = ((x / 2 ^ 25 ||| x * 2 ^ (32 - 25) : Nat) : Int) := by
    rw [show (x : Int) / 33554432 = ((x / 2 ^ 25 : Nat) : Int) by omega, show (x : Int) * 128 = ((x * 2 ^ (32 - 25) : Nat) : Int) by omega]
    exact i64_or_nat _ _ (by omega) (by omega)
  have h2 : bits .and .i64 ((x / 2 ^ 25 ||| x * 2 ^ (32 - 25) : Nat) : Int) 4294967295 = ((rotr x 25 : Nat) : Int) := by
    have hlt : x / 2 ^ 25 ||| x * 2 ^ (32 - 25) < 2 ^ 63 := Nat.or_lt_two_pow (by omega) (by omega)
    rw [show (4294967295 : Int) = ((4294967295 : Nat) : Int) from rfl, i64_and_nat _ _ (by omega) (by decide), mask32]
    rfl
  generalize x / 2 ^ 25 ||| x * 2 ^ (32 - 25) = y at *
  go_enter Tryd.func66, Tryd.ntmps66
  go_wp2_with fail
  go_quiet (fail)
  go_wp2
  go_ret
  exact ⟨rfl, _, rfl⟩
end Go.Proofs.YtlblllghgdfpoaaDoor

namespace Go.Proofs.YtlblllghgdfpoaaDoor
open Go.RowKit
attribute [local go_sem ↓] Go.wp_at_zero Go.wp_at_succ

theorem own_bytes {W : World} {base n : Nat} {v : Value} {l : List Nat} {x : Nat} {z : Int} (hz : z = (x : Int)) (hn : n = l.length) (h : W.ownsRow base 5 1 v (n + 1) (nb l ++ [.int .u8 z])) : Bytes base W v (l ++ [x]) := by
  subst hz hn
  unfold Bytes
  rw [nb_append, List.length_append]
  exact h
theorem Bytes.shp {base : Nat} {W : World} {v : Value} {l : List Nat} (h : Bytes base W v l) : ∃ a c, v = .slice a l.length c := by
  obtain ⟨a, c, rfl, _⟩ := h.has
  exact ⟨_, _, rfl⟩
/-- What stands behind the bytes, so far. -/
theorem pad_zero {n j : Nat} (h : j ≤ zeros n) : (n + 1 + j) % 64 = 56 ↔ j = zeros n := by
  unfold zeros at *
  omega
set_option maxRecDepth 100000 in
set_option maxHeartbeats 2000000 in
theorem xpadded_any {W : World} {v : Value} {l : List Nat} (h : HasB W v l) (hl : Byt l) (hn : l.length ≤ 140737488351300) :
    Calls Tryd.prog 54 #[v] W fun e W' => ∃ v', e = .returned v' ∧ Bytes W.heap.size W' v' (l ++ padding l.length) ∧ Below W.heap.size W W' := by
  obtain ⟨i0, hi, hz0, hz1, hz2⟩ := info_parts Tryd.infoByte
  obtain ⟨a, c, rfl, hm, h3⟩ := h
  have H3 := hide h3
  have hzl := zeros_lt l.length
  have H0 : Hid (Bytes W.heap.size W (.slice none 0 0) (l.take 0)) := bytes_nil _ _
  have HB0 : Hid (Below W.heap.size W W) := Below.refl _ _
  clear h3 hm
  go_enter Tryd.func54, Tryd.ntmps54
  go_wp2
  go_loopg [3, 4] l.length (fun gk v3 v4 wr => ∃ (i : Nat), v4 = .int .i64 (i : Int) ∧ gk = l.length - i ∧ i ≤ l.length ∧ Hid (Bytes W.heap.size wr v3 (l.take i)) ∧ Hid (Below W.heap.size W wr))
  case atStart => exact ⟨0, rfl, rfl, by omega, H0, HB0⟩
  case round =>
    obtain ⟨i, rfl, hgk, hk, HY, HB⟩ := hrel
    have Hgk := hide hgk
    clear hgk H0 HB0
    have hsz := (unhide HB).size
    by_cases hlt : i < l.length
    · obtain ⟨g, off, rfl, hg, hc⟩ := unhide H3 (by omega)
      obtain ⟨x, hx⟩ : ∃ x, l[i]? = some x := ⟨_, List.getElem?_eq_getElem hlt⟩
      have hxb := hl.at hx
      have hcell := ((unhide HB).cell (p := ⟨g, off + i, none⟩) hg).trans (hc i x hx)
      have htl : (l.take i).length = i := by rw [List.length_take]; omega
      have Hnx : Hid (l.take (i + 1) = l.take i ++ [x]) := by show _ = _; rw [List.take_add_one, hx]; rfl
      have O1 : Hid ((l.take i).length + 1 ≤ maxLen) := by show _ ≤ _; unfold maxLen; omega
      have O2 : Hid (((l.take i).length + 1) * 1 ≤ 140737488355328) := by show _ ≤ _; omega
      have Htl := hide htl
      clear hc hx htl
      go_wp2_with (at_builtin; refine wpList_append_own_at _ rfl _ _ 29 rfl W.heap.size 5 i0 (.int .u8 0) 1 1 Tryd.underlying29 hi hz0 hz1 hz2 rfl (by decide) _ _ _ rfl ((unhide HY).alloc _) ⟨wr.heap.size, 0, none⟩ 1 1 [.int .u8 (x : Int)] rfl rfl (cell_one_new _ _ _) (by simp [Value.oneCell']) (unhide O1) (unhide O2) (by rw [World.size_alloc]; omega) ?_; intro v4 w4 hown4 hgrow4 hdrop4 hat4; clear hdrop4; have Hown := hide hown4; have Hb4 : Hid (Below W.heap.size W w4) := below_grow0 (unhide HB) (unhide HB).size hgrow4 (fun b hb => ((unhide HY).lt b hb).1); clear hown4 hgrow4 hat4)
      go_roundg (l.length - (i + 1))
      case measure => have := unhide Hgk; omega
      case rel =>
        refine ⟨i + 1, by go_num, rfl, by omega, ?_, Hb4⟩
        show Bytes _ _ _ _
        rw [unhide Hnx]
        exact own_bytes rfl rfl (unhide Hown)
    · obtain rfl : i = l.length := by omega
      have hY := unhide HY
      rw [List.take_length] at hY
      have HY1 := hide hY
      have O1 : Hid (l.length + 1 ≤ maxLen) := by show _ ≤ _; unfold maxLen; omega
      have O2 : Hid ((l.length + 1) * 1 ≤ 140737488355328) := by show _ ≤ _; omega
      clear hY HY
      go_wp2_with (at_builtin; refine wpList_append_own_at _ rfl _ _ 29 rfl W.heap.size 5 i0 (.int .u8 0) 1 1 Tryd.underlying29 hi hz0 hz1 hz2 rfl (by decide) _ _ _ rfl ((unhide HY1).alloc _) ⟨wr.heap.size, 0, none⟩ 1 1 [.int .u8 128] rfl rfl (cell_one_new _ _ _) (by simp [Value.oneCell']) (unhide O1) (unhide O2) (by rw [World.size_alloc]; omega) ?_; intro v4 w4 hown4 hgrow4 hdrop4 hat4; clear hdrop4; have Hown := hide hown4; have Hb4 : Hid (Below W.heap.size W w4) := below_grow0 (unhide HB) (unhide HB).size hgrow4 (fun b hb => ((unhide HY1).lt b hb).1); clear hown4 hgrow4 hat4)
      have hY2 : Bytes W.heap.size w4 v4 ((l ++ [128]) ++ List.replicate 0 0) := by rw [List.replicate_zero, List.append_nil]; exact own_bytes (x := 128) rfl rfl (unhide Hown)
      have HY2 := hide hY2
      clear hY2 Hown O1 O2 HY1 hlt hk Hgk
      obtain ⟨n, hnl⟩ : ∃ n, n = l.length := ⟨_, rfl⟩
      have Hnl := hide hnl
      go_loopg [3] (zeros l.length) (fun gk v3 wr2 => ∃ (k : Nat), gk = zeros l.length - k ∧ k ≤ zeros l.length ∧ Hid (Bytes W.heap.size wr2 v3 ((l ++ [128]) ++ List.replicate k 0)) ∧ Hid (Below W.heap.size W wr2))
      case atStart => exact ⟨0, rfl, by omega, HY2, Hb4⟩
      case round =>
        clear HY2 Hb4 HB hsz
        obtain ⟨k, hgk, hk, HY, HB⟩ := hrel
        have Hgk := hide hgk
        have hsz := (unhide HB).size
        have hlen : ((l ++ [128]) ++ List.replicate k 0).length = l.length + 1 + k := by simp only [List.length_append, List.length_singleton, List.length_replicate]
        obtain ⟨va, vc, hv3⟩ := (unhide HY).shp
        rw [hlen] at hv3
        subst hv3
        obtain ⟨N, hN⟩ : ∃ N, N = l.length + 1 + k := ⟨_, rfl⟩
        obtain ⟨r, hr⟩ : ∃ r : Nat, r = N % 64 := ⟨_, rfl⟩
        have htm : (N : Int).tmod 64 = (r : Int) := by rw [Int.tmod_eq_emod_of_nonneg (by omega)]; omega
        have O1 : Hid (((l ++ [128]) ++ List.replicate k 0).length + 1 ≤ maxLen) := by show _ ≤ _; rw [hlen]; unfold maxLen; omega
        have O2 : Hid ((((l ++ [128]) ++ List.replicate k 0).length + 1) * 1 ≤ 140737488355328) := by show _ ≤ _; rw [hlen]; omega
        rw [← hN] at HY ⊢
        have HN := hide hN
        clear hgk
        by_cases hlt : k < zeros l.length
        · have hne : ((r : Int) != 56) = true := by
            have h56 : r ≠ 56 := fun q => by have := (pad_zero (n := l.length) (j := k) (by omega)).1 (by omega); omega
            simp; omega
          have Hlen := hide hlen
          clear hr hlen hN hnl
          go_wp2_with (at_builtin; refine wpList_append_own_at _ rfl _ _ 29 rfl W.heap.size 5 i0 (.int .u8 0) 1 1 Tryd.underlying29 hi hz0 hz1 hz2 rfl (by decide) _ _ _ rfl ((unhide HY).alloc _) ⟨wr.heap.size, 0, none⟩ 1 1 [.int .u8 0] rfl rfl (cell_one_new _ _ _) (by simp [Value.oneCell']) (unhide O1) (unhide O2) (by rw [World.size_alloc]; omega) ?_; intro v4 w4 hown4 hgrow4 hdrop4 hat4; clear hdrop4; have Hown := hide hown4; have Hb4 : Hid (Below W.heap.size W w4) := below_grow0 (unhide HB) (unhide HB).size hgrow4 (fun b hb => ((unhide HY).lt b hb).1); clear hown4 hgrow4 hat4)
          go_roundg (zeros l.length - (k + 1))
          case measure => have := unhide Hgk; omega
          case rel =>
            refine ⟨k + 1, rfl, by omega, ?_, Hb4⟩
            show Bytes _ _ _ _
            rw [List.replicate_succ', ← List.append_assoc]
            exact own_bytes (x := 0) rfl rfl (unhide Hown)
        · obtain rfl : k = zeros l.length := by omega
          have hne : ((r : Int) != 56) = false := by
            have := (pad_zero (n := l.length) (j := zeros l.length) (by omega)).2 rfl
            simp; omega
          obtain ⟨z, hz⟩ : ∃ z, z = zeros l.length := ⟨_, rfl⟩
          have Hz := hide hz
          have hY3 : Bytes W.heap.size wr (.slice va N vc) (((l ++ [128]) ++ List.replicate z 0) ++ (be8 (8 * l.length)).take 0) := by rw [List.take_zero, List.append_nil, hz]; exact unhide HY
          have HY3 := hide hY3
          have hz64 : z < 64 := by omega
          clear hr hlen hN hnl hY3 HY O1 O2 hlt hk Hgk hz hzl
          go_wp2
          go_loopg [3, 5] 8 (fun gk v3 v5 wr3 => ∃ (q : Nat), v5 = .int .i64 ((q : Int) - 1) ∧ gk = q ∧ q ≤ 8 ∧ Hid (Bytes W.heap.size wr3 v3 (((l ++ [128]) ++ List.replicate z 0) ++ (be8 (8 * l.length)).take (8 - q))) ∧ Hid (Below W.heap.size W wr3))
          case atStart => exact ⟨8, rfl, rfl, by omega, HY3, HB⟩
          case round =>
            clear HY3 HB hsz
            obtain ⟨q, rfl, hgk, hq, HY, HB⟩ := hrel
            obtain rfl : q = gk := hgk.symm
            clear hgk
            have hsz := (unhide HB).size
            by_cases hlt : 0 < q
            · obtain ⟨m, rfl⟩ : ∃ m, q = m + 1 := ⟨q - 1, by omega⟩
              have e1 : ((m + 1 : Nat) : Int) - 1 = (m : Int) := by omega
              rw [e1]
              obtain ⟨sf, hsf⟩ : ∃ sf : Nat, sf = 8 * m := ⟨_, rfl⟩
              have hsfi : 8 * (m : Int) = (sf : Int) := by omega
              have hat := be8_at (8 * l.length) (8 - (m + 1)) (by omega)
              rw [show 56 - 8 * (8 - (m + 1)) = sf by omega] at hat
              obtain ⟨y, hy⟩ : ∃ y : Nat, y = 8 * l.length / 2 ^ sf % 256 := ⟨_, rfl⟩
              rw [← hy] at hat
              have hval : 8 * (l.length : Int) / (2 : Int) ^ sf % 256 = (y : Int) := by rw [hy]; exact shr_cast l.length sf
              have Hnx : Hid ((be8 (8 * l.length)).take (8 - m) = (be8 (8 * l.length)).take (8 - (m + 1)) ++ [y]) := by show _ = _; rw [show 8 - m = (8 - (m + 1)) + 1 by omega, List.take_add_one, hat]; rfl
              have hs56 : sf ≤ 56 := by omega
              have hl1 : (((l ++ [128]) ++ List.replicate z 0) ++ (be8 (8 * l.length)).take (8 - (m + 1))).length ≤ l.length + 1 + z + 8 := by simp only [List.length_append, List.length_take, List.length_replicate, List.length_singleton]; omega
              have O1 : Hid ((((l ++ [128]) ++ List.replicate z 0) ++ (be8 (8 * l.length)).take (8 - (m + 1))).length + 1 ≤ maxLen) := by show _ ≤ _; unfold maxLen; omega
              have O2 : Hid (((((l ++ [128]) ++ List.replicate z 0) ++ (be8 (8 * l.length)).take (8 - (m + 1))).length + 1) * 1 ≤ 140737488355328) := by show _ ≤ _; omega
              have m0 : (0 : Int) ≤ (m : Int) := Int.natCast_nonneg _
              have Hval := hide hval
              clear hat hy hl1 hsf e1 hval
              go_wp2_with (at_builtin; refine wpList_append_own_at _ rfl _ _ 29 rfl W.heap.size 5 i0 (.int .u8 0) 1 1 Tryd.underlying29 hi hz0 hz1 hz2 rfl (by decide) _ _ _ rfl ((unhide HY).alloc _) ⟨wr.heap.size, 0, none⟩ 1 1 [.int .u8 (8 * (l.length : Int) / 2 ^ sf % 256)] rfl rfl (cell_one_new _ _ _) (by simp [Value.oneCell']) (unhide O1) (unhide O2) (by rw [World.size_alloc]; omega) ?_; intro v4 w4 hown4 hgrow4 hdrop4 hat4; clear hdrop4; have Hown := hide hown4; have Hb4 : Hid (Below W.heap.size W w4) := below_grow0 (unhide HB) (unhide HB).size hgrow4 (fun b hb => ((unhide HY).lt b hb).1); clear hown4 hgrow4 hat4)
              go_roundg m
              case measure => omega
              case rel =>
                refine ⟨m, by go_num, rfl, by omega, ?_, Hb4⟩
                show Bytes _ _ _ _
                rw [unhide Hnx, ← List.append_assoc]
                exact own_bytes (unhide Hval) rfl (unhide Hown)
            · obtain rfl : q = 0 := by omega
              have hY := unhide HY
              rw [List.take_of_length_le (by rw [be8_len]; omega)] at hY
              have hb : Bytes W.heap.size wr u3 (l ++ padding l.length) := by
                unfold padding
                rw [← unhide Hz]
                simpa [List.append_assoc] using hY
              have Hh := hide hb
              have e0 : ((0 : Nat) : Int) - 1 = -1 := rfl
              rw [e0]
              clear hb hY HY
              go_wp2
              go_ret
              exact ⟨_, rfl, unhide Hh, unhide HB⟩
end Go.Proofs.YtlblllghgdfpoaaDoor
