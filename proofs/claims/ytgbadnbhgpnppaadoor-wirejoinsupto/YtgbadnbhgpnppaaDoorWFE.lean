import Derived.Shelf.Strconv.Itoa0
import Derived.Test.YtgbadnbhgpnppaaDoorWKJ
import Derived.Laws.MathBits
import Derived.Test.YtgbadnbhgpnppaaDoorWFd
namespace Go.Proofs.YtgbadnbhgpnppaaDoor
open Go.RowKit Go.Lib
attribute [local go_sem ↓] Go.wp_at_zero Go.wp_at_succ

def lenRen : Go.Shelf.Ren := ⟨fun | 129 => 91 | n => n, fun | 53 => 102 | 3 => 3 | 4 => 4 | 46 => 101 | 5 => 5 | 9 => 9 | n => n, fun | n => n⟩
theorem lenLays : Go.Proofs.Lays.n129 Tryd.prog lenRen := {
  mixed := by kernel_rfl
  f129 := Tryd.func91.trans (congrArg some (by kernel_rfl))
  t3 := Tryd.underlying3
  a3 := Tryd.isAgg3
  z3 := Tryd.sizeOf3
  v3 := Tryd.zeroValue3
  t4 := Tryd.underlying4
  a4 := Tryd.isAgg4
  z4 := Tryd.sizeOf4
  v4 := Tryd.zeroValue4
  t5 := Tryd.underlying5
  a5 := Tryd.isAgg5
  z5 := Tryd.sizeOf5
  v5 := Tryd.zeroValue5
  t9 := Tryd.underlying9
  a9 := Tryd.isAgg9
  z9 := Tryd.sizeOf9
  v9 := Tryd.zeroValue9
  t46 := Tryd.underlying101
  a46 := Tryd.isAgg101
  z46 := Tryd.sizeOf101
  v46 := Tryd.zeroValue101
  t53 := Tryd.underlying102
  a53 := Tryd.isAgg102
  z53 := Tryd.sizeOf102
  v53 := Tryd.zeroValue102 }
theorem len64_any (x : Int) (w : World) (h0 : 0 ≤ x) (h1 : x ≤ 18446744073709551615) :
    Calls Tryd.prog 91 #[.int .u64 x] w fun e w' => e = .returned (.int .i64 (Lib.bitLen x.toNat)) ∧ w' = w := Any.bits_Len64 lenLays x w h0 h1

theorem bitLen_uniq {n b : Nat} (hn : n ≠ 0) (h1 : n < 2 ^ b) (h2 : 2 ^ (b - 1) ≤ n) (hb : 1 ≤ b) : bitLen n = b := by
  obtain ⟨s1, s2⟩ := bitLen_spec n
  have s3 := s2 hn
  have a1 : bitLen n - 1 < b := (Nat.pow_lt_pow_iff_right (by decide)).1 (Nat.lt_of_le_of_lt s3 h1)
  have a2 : b - 1 < bitLen n := (Nat.pow_lt_pow_iff_right (by decide)).1 (Nat.lt_of_le_of_lt h2 s1)
  omega
theorem or_one (v : Nat) : v ||| 1 = 2 * (v / 2) + 1 := by
  have e : ∀ w : Nat, w % 2 = 0 → w ||| 1 = w + 1 := fun w hw => nat_join 1 w 1 (by simpa using hw) (by decide)
  rcases Nat.mod_two_eq_zero_or_one v with h | h
  · rw [e v h]; omega
  · obtain ⟨w, rfl, hw⟩ : ∃ w, v = w + 1 ∧ w % 2 = 0 := ⟨v - 1, by omega, by omega⟩
    rw [← e w hw, Nat.or_assoc, Nat.or_self, e w hw]
    omega
theorem bitLen_or (v : Nat) (hv : v ≠ 0) : bitLen (v ||| 1) = bitLen v := by
  obtain ⟨s1, s2⟩ := bitLen_spec v
  have s3 := s2 hv
  have hb : 1 ≤ bitLen v := by
    rcases Nat.eq_zero_or_pos (bitLen v) with h | h
    · rw [h] at s1; omega
    · exact h
  have hp : 2 ^ bitLen v = 2 * 2 ^ (bitLen v - 1) := by
    conv => lhs; rw [← Nat.sub_add_cancel hb]
    rw [Nat.pow_succ]; omega
  rw [or_one]
  refine bitLen_uniq (by omega) ?_ ?_ hb
  · omega
  · omega
/-- A varint has so many bytes as its bits ask for. -/
theorem vint_bits : ∀ (u : Nat), (bitLen (u ||| 1) + 6) / 7 = (vint u).length := by
  intro u
  induction u using Nat.strongRecOn with
  | _ u ih =>
    by_cases h : u ≤ 127
    · rw [vint, if_pos h]
      have hb : bitLen (u ||| 1) ≤ 7 ∧ 1 ≤ bitLen (u ||| 1) := by
        have h1 := or_one u
        obtain ⟨s1, s2⟩ := bitLen_spec (u ||| 1)
        have s3 := s2 (by omega)
        constructor
        · have : 2 ^ (bitLen (u ||| 1) - 1) < 2 ^ 7 := by have : (2 : Nat) ^ 7 = 128 := rfl; omega
          have := (Nat.pow_lt_pow_iff_right (by decide : 1 < 2)).1 this
          omega
        · rcases Nat.eq_zero_or_pos (bitLen (u ||| 1)) with h0 | h0
          · rw [h0] at s1; omega
          · exact h0
      simp
      omega
    · rw [vint, if_neg h]
      have hq : u / 128 ≠ 0 := by omega
      have e1 : (u ||| 1) / 2 ^ 7 = u / 128 := by rw [or_one]; have : (2 : Nat) ^ 7 = 128 := rfl; rw [this]; omega
      have e2 := bitLen_shift (u ||| 1) 7 (by rw [e1]; exact hq)
      rw [e1] at e2
      have e3 := ih (u / 128) (by omega)
      rw [bitLen_or _ hq] at e3
      simp only [List.length_cons]
      omega

theorem retI {a c : Int} (h1 : a = c) : Ending.returned (.int .i64 a) = .returned (.int .i64 c) := by rw [h1]
theorem bitLen_aux : ∀ (f x : Nat), x < 2 ^ f → Lib.bitLenAux f x = Go.bitLen x
  | 0, x, h => by
    have : x = 0 := by simpa using h
    subst this
    rfl
  | f + 1, x, h => by
    rcases Nat.eq_zero_or_pos x with rfl | hx
    · simp [Lib.bitLenAux, Go.bitLen]
    · have h2 : x / 2 < 2 ^ f := by rw [Nat.pow_succ] at h; omega
      have ih := bitLen_aux f (x / 2) h2
      by_cases h1 : x / 2 = 0
      · have : x = 1 := by omega
        subst this
        simp [Lib.bitLenAux, ih, Go.bitLen]
        decide
      · have e := bitLen_shift x 1 (by simpa using h1)
        simp at e
        have hx0 : x ≠ 0 := by omega
        simp [Lib.bitLenAux, hx0, ih, e]
        try omega
theorem libLen {x : Nat} (h : x < 18446744073709551616) : Lib.bitLen x = Go.bitLen x := bitLen_aux 64 x (by simpa using h)
theorem size_val (b : Nat) (h : b ≤ 71) : wrap64 ((wrap64 ((b : Int) + 6)).tdiv 7) = (((b + 6) / 7 : Nat) : Int) := by
  have e1 : wrap64 ((b : Int) + 6) = (b : Int) + 6 := by rw [wrap64_eq]; omega
  rw [e1, Int.tdiv_eq_ediv_of_nonneg (by clear e1; omega), wrap64_eq]
  clear e1
  omega
theorem sizeVarint_any (W : World) (x : Int) (u : Nat) (hu : IntKind.u64.wrap x = (u : Int)) (hu2 : u < 18446744073709551616) :
    Calls Tryd.prog 68 #[.int .i64 x] W fun e W' => e = .returned (.int .i64 ((vint u).length : Int)) ∧ W' = W := by
  have hor : bits BinOp.or IntKind.u64 (u : Int) 1 = ((u ||| 1 : Nat) : Int) := by have := u64_or_nat u 1 hu2 (by decide); simpa using this
  have h1 : (u ||| 1) < 18446744073709551616 := by rw [or_one]; omega
  have hv := vint_bits u
  have hb := vint_ten hu2
  go_enter Tryd.func68, Tryd.ntmps68
  go_wp2_with fail
  refine (len64_any ((u ||| 1 : Nat) : Int) W (by omega) (by omega)).mono ?_
  rintro e w' ⟨rfl, he⟩
  obtain rfl : W = w' := he.symm
  rw [Int.toNat_natCast, libLen h1]
  have hb7 : Go.bitLen (u ||| 1) ≤ 71 := by omega
  have hval := size_val (Go.bitLen (u ||| 1)) hb7
  rw [hv] at hval
  clear hor h1 hu hv hb hb7
  go_wp2
  go_ret
  exact ⟨retI hval, rfl⟩
end Go.Proofs.YtgbadnbhgpnppaaDoor
namespace Go.Proofs.YtgbadnbhgpnppaaDoor
open Go.RowKit
attribute [local go_sem ↓] Go.wp_at_zero Go.wp_at_succ

set_option maxRecDepth 100000 in
set_option maxHeartbeats 2000000 in
theorem sizeTag_any (W : World) (n : Nat) (hn : n ≤ 536870911) : Calls Tryd.prog 58 #[.int .i64 (n : Int)] W fun e W' => e = .returned (.int .i64 (((vint (8 * n)).length : Nat) : Int)) ∧ W' = W := by
  obtain ⟨m, hm⟩ : ∃ m, 8 * n = m := ⟨_, rfl⟩
  have h1 : (n : Int) * 8 = (m : Int) := by omega
  have h2 : wrap64 (m : Int) = (m : Int) := wrap64_id (by omega) (by omega)
  have h3 : IntKind.i64.wrap (m : Int) = (m : Int) := by rw [IntKind.wrap_i64]; omega
  have Hs := hide (sizeVarint_any W (m : Int) m (by rw [wrapu_eq]; omega) (by omega))
  rw [hm]
  clear hm hn
  go_enter Tryd.func58, Tryd.ntmps58
  go_wp2_with fail
  refine (unhide Hs).mono ?_
  rintro e w1 ⟨rfl, hw⟩
  subst hw
  go_wp2
  go_ret
  exact ⟨rfl, rfl⟩
set_option maxRecDepth 100000 in
set_option maxHeartbeats 2000000 in
theorem size0 {W : World} {nb : Nat} {x : Int} {t : ByteArray} {ia : Option Addr} {il ic : Nat} (hx : -9223372036854775808 ≤ x ∧ x ≤ 9223372036854775807) :
    Calls Tryd.prog 67 #[.agg #[.int .i64 (nb : Int), .int .i64 0, .int .i64 x, .string t, .slice ia il ic]] W fun e W' => e = .returned (.int .i64 (((vint (un x)).length : Nat) : Int)) ∧ Below W.heap.size W W' := by
  have HB : Hid (Below W.heap.size W (W.alloc (.cells #[.int .i64 (nb : Int), .int .i64 0, .int .i64 x, .string t, .slice ia il ic] 55))) := (Below.refl _ _).alloc (Nat.le_refl _) _
  have Hs := hide (sizeVarint_any (W.alloc (.cells #[.int .i64 (nb : Int), .int .i64 0, .int .i64 x, .string t, .slice ia il ic] 55)) x (un x) (un_wrap x) (un_lt x))
  have _ := hx
  go_enter Tryd.func67, Tryd.ntmps67
  go_wp2_with fail
  refine (unhide Hs).mono ?_
  rintro e w1 ⟨rfl, hw⟩
  subst hw
  go_wp2
  go_ret
  exact ⟨rfl, unhide HB⟩
set_option maxRecDepth 100000 in
theorem size1 {W : World} {x0 x1 x2 : Int} {t : ByteArray} {ia : Option Addr} {il ic : Nat} : Calls Tryd.prog 73 #[.agg #[.int .i64 x0, .int .i64 x1, .int .i64 x2, .string t, .slice ia il ic]] W fun e W' => e = .returned (.int .i64 8) ∧ Below W.heap.size W W' := by
  go_enter Tryd.func73, Tryd.ntmps73
  go_wp2
  go_ret
  exact ⟨rfl, (Below.refl _ _).alloc (Nat.le_refl _) _⟩
set_option maxRecDepth 100000 in
theorem size5 {W : World} {x0 x1 x2 : Int} {t : ByteArray} {ia : Option Addr} {il ic : Nat} : Calls Tryd.prog 88 #[.agg #[.int .i64 x0, .int .i64 x1, .int .i64 x2, .string t, .slice ia il ic]] W fun e W' => e = .returned (.int .i64 4) ∧ Below W.heap.size W W' := by
  go_enter Tryd.func88, Tryd.ntmps88
  go_wp2
  go_ret
  exact ⟨rfl, (Below.refl _ _).alloc (Nat.le_refl _) _⟩
end Go.Proofs.YtgbadnbhgpnppaaDoor
