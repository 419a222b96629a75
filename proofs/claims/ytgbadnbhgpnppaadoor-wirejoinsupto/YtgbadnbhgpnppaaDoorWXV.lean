import Derived.Test.YtgbadnbhgpnppaaDoorXH
namespace Go.Proofs.YtgbadnbhgpnppaaDoor
open Go.RowKit
attribute [local go_sem ↓] Go.wp_at_zero Go.wp_at_succ

theorem wrap64_small {a : Int} (h1 : -9223372036854775808 ≤ a) (h2 : a ≤ 9223372036854775807) : wrap64 a = a := by rw [wrap64_eq]; omega
theorem un_nat {n : Nat} (h : n < 9223372036854775808) : un (n : Int) = n := by unfold un; omega
theorem rng_nat {n : Nat} (h : n < 9223372036854775808) : Rng (n : Int) := by unfold Rng; omega

set_option maxRecDepth 100000 in
set_option maxHeartbeats 4000000 in
theorem xvarint_any (W : World) (x : Int) (hx : Rng x) :
    Calls Tryd.prog 59 #[.int .i64 x] W fun e W' => ∃ v', e = .returned v' ∧ Bytes W.heap.size W' v' (vint (un x)) ∧ Below W.heap.size W W' := by
  obtain ⟨i0, hi, hz0, hz1, hz2⟩ := info_parts Tryd.infoByte
  go_enter Tryd.func59, Tryd.ntmps59
  go_wp2
  go_loopg [0, 3] (un x) (fun gk v0 v3 wr => ∃ (y : Int) (cs : List Int), v0 = .int .i64 y ∧ Rng y ∧ gk = un y ∧ cs ++ vint (un y) = vint (un x) ∧ Bytes W.heap.size wr v3 cs ∧ Ext W (.slice none 0 0) wr v3)
  case atStart => exact ⟨x, [], rfl, hx, rfl, rfl, bytes_nil _ _, Ext.refl _ _⟩
  case round =>
    obtain ⟨y, cs, rfl, hy, hgk, hcs, hB, hE⟩ := hrel
    have hlen : cs.length ≤ 10 := by
      have h1 := congrArg List.length hcs
      have h2 := vint_ten (un_lt x)
      rw [List.length_append] at h1
      omega
    have Hgk := hide hgk
    have Hcs := hide hcs
    clear hgk hcs
    go_wp2_with fail
    refine (halves_any wr y hy).mono ?_
    rintro e w' ⟨rfl, he⟩
    obtain rfl : wr = w' := he.symm
    have hl := un_lt y
    generalize un y = u at *
    obtain ⟨q, hq⟩ : ∃ q : Nat, q = u / 128 := ⟨_, rfl⟩
    obtain ⟨r, hr⟩ : ∃ r : Nat, r = u % 128 := ⟨_, rfl⟩
    rw [← hq, ← hr]
    have hrb : r < 128 := by omega
    have hqb : q < 144115188075855872 := by omega
    have Hq := hide hq
    have Hr := hide hr
    have Hl := hide hl
    clear hq hr hl hy
    unfold Bytes at hB
    by_cases h0 : q = 0
    · subst h0
      have hm : (r : Int) % 256 = (r : Int) := by omega
      go_wp2_with (at_builtin; refine wpList_append_own_at _ rfl _ _ 26 rfl W.heap.size 5 i0 (.int .u8 0) 1 1 Tryd.underlying26 hi hz0 hz1 hz2 rfl (by decide) _ _ _ rfl (hB.alloc _) ⟨wr.heap.size, 0, none⟩ 1 1 [.int .u8 (r : Int)] rfl rfl (cell_one_new _ _ _) (by simp [Value.oneCell']) (by unfold maxLen; omega) (by omega) (by have := hE.size; simp; omega) ?_; intro v4 w4 hown4 hgrow4 _ hat4; have Hown := hide hown4; have Hgrow := hide hgrow4; have Hat := hide hat4; clear hown4 hgrow4 hat4)
      go_ret
      refine ⟨_, rfl, ?_, (hE.trans (Ext.grown (unhide Hgrow) (unhide Hat))).fresh⟩
      have e1 := unhide Hq
      have e2 := unhide Hr
      have hv : vint u = [(r : Int)] := by rw [vint, if_pos (by omega : u ≤ 127)]; simp; omega
      rw [← unhide Hcs, hv]
      have := unhide Hown
      unfold Bytes
      simpa [List.append_assoc, Nat.add_assoc] using this
    · have hm : ((r : Int) + 128) % 256 = ((r + 128 : Nat) : Int) := by omega
      have hb0 : ((q : Int) == 0) = false := by simp; omega
      have hw : wrap64 ((r : Int) + 128) = (r : Int) + 128 := wrap64_small (by omega) (by omega)
      have H0 := hide h0
      clear h0
      go_wp2_with (at_builtin; refine wpList_append_own_at _ rfl _ _ 26 rfl W.heap.size 5 i0 (.int .u8 0) 1 1 Tryd.underlying26 hi hz0 hz1 hz2 rfl (by decide) _ _ _ rfl (hB.alloc _) ⟨wr.heap.size, 0, none⟩ 1 1 [.int .u8 ((r + 128 : Nat) : Int)] rfl rfl (cell_one_new _ _ _) (by simp [Value.oneCell']) (by unfold maxLen; omega) (by omega) (by have := hE.size; simp; omega) ?_; intro v4 w4 hown4 hgrow4 _ hat4; have Hown := hide hown4; have Hgrow := hide hgrow4; have Hat := hide hat4; clear hown4 hgrow4 hat4)
      go_roundg q
      case measure => have := unhide Hgk; have := unhide Hq; have := unhide H0; omega
      case rel =>
        have e1 := unhide Hq
        have e2 := unhide Hr
        have e3 := unhide H0
        have hun : un (q : Int) = q := un_nat (by omega)
        refine ⟨q, cs ++ [((r + 128 : Nat) : Int)], rfl, rng_nat (by omega), hun.symm, ?_, ?_, hE.trans (Ext.grown (unhide Hgrow) (unhide Hat))⟩
        · have hv : vint u = ((r + 128 : Nat) : Int) :: vint q := by rw [vint, if_neg (by omega : ¬ u ≤ 127), e1, e2]
          rw [hun, ← unhide Hcs, hv]
          simp
        · have := unhide Hown
          unfold Bytes
          simpa [List.append_assoc, Nat.add_assoc] using this
end Go.Proofs.YtgbadnbhgpnppaaDoor
namespace Go.Proofs.YtgbadnbhgpnppaaDoor
open Go.RowKit
attribute [local go_sem ↓] Go.wp_at_zero Go.wp_at_succ

/-- The lowest bytes by halves. -/
theorem lows_step (x : Int) (u i : Nat) (hi : i < 8) (hu : (u : Int) = x % 18446744073709551616 / 2 ^ (8 * i)) : x / 2 ^ (8 * i) % 256 = ((u % 256 : Nat) : Int) := by
  have h8 : i = 0 ∨ i = 1 ∨ i = 2 ∨ i = 3 ∨ i = 4 ∨ i = 5 ∨ i = 6 ∨ i = 7 := by omega
  rcases h8 with rfl | rfl | rfl | rfl | rfl | rfl | rfl | rfl <;> simp only [Nat.reduceMul, Int.reducePow] at hu ⊢ <;> omega
theorem div_step (x : Int) (u i : Nat) (hi : i < 8) (hu : (u : Int) = x % 18446744073709551616 / 2 ^ (8 * i)) : ((u / 256 : Nat) : Int) = x % 18446744073709551616 / 2 ^ (8 * (i + 1)) := by
  have h8 : i = 0 ∨ i = 1 ∨ i = 2 ∨ i = 3 ∨ i = 4 ∨ i = 5 ∨ i = 6 ∨ i = 7 := by omega
  rcases h8 with rfl | rfl | rfl | rfl | rfl | rfl | rfl | rfl <;> simp only [Nat.reduceMul, Nat.reduceAdd, Int.reducePow] at hu ⊢ <;> omega

set_option maxRecDepth 100000 in
set_option maxHeartbeats 4000000 in
theorem xlow_any (W : World) (x : Int) (hx : Rng x) (n : Nat) (hn : n ≤ 8) :
    Calls Tryd.prog 60 #[.int .i64 x, .int .i64 (n : Int)] W fun e W' => ∃ v', e = .returned v' ∧ Bytes W.heap.size W' v' (lows x n) ∧ Below W.heap.size W W' := by
  obtain ⟨i0, hi, hz0, hz1, hz2⟩ := info_parts Tryd.infoByte
  go_enter Tryd.func60, Tryd.ntmps60
  go_wp2
  go_loopg [0, 5, 6] n (fun gk v0 v5 v6 wr => ∃ (y : Int) (i : Nat), v0 = .int .i64 y ∧ v6 = .int .i64 (i : Int) ∧ Rng y ∧ gk = n - i ∧ i ≤ n ∧ ((un y : Nat) : Int) = x % 18446744073709551616 / 2 ^ (8 * i) ∧ Bytes W.heap.size wr v5 (lows x i) ∧ Ext W (.slice none 0 0) wr v5)
  case atStart => exact ⟨x, 0, rfl, rfl, hx, rfl, Nat.zero_le _, by rw [un_eq]; simp, bytes_nil _ _, Ext.refl _ _⟩
  case round =>
    obtain ⟨y, i, rfl, rfl, hy, hgk, hin, hu, hB, hE⟩ := hrel
    have Hgk := hide hgk
    have Hu := hide hu
    clear hgk hu
    have hL : (lows x i).length ≤ 8 := by simp [lows]; omega
    by_cases hlt : i < n
    · have hi1 : (i : Int) < (n : Int) := by omega
      go_wp2_with fail
      refine (halves_any wr y hy).mono ?_
      rintro e w' ⟨rfl, he⟩
      obtain rfl : wr = w' := he.symm
      have hl := un_lt y
      generalize un y = u at *
      obtain ⟨q, hq⟩ : ∃ q : Nat, q = u / 128 := ⟨_, rfl⟩
      obtain ⟨r, hr⟩ : ∃ r : Nat, r = u % 128 := ⟨_, rfl⟩
      rw [← hq, ← hr]
      have hqb : q < 144115188075855872 := by omega
      have hm : ((r : Int) + 128 * ((q : Int) % 2)) = ((u % 256 : Nat) : Int) := by omega
      have hm2 : ((u % 256 : Nat) : Int) % 256 = ((u % 256 : Nat) : Int) := by omega
      have hd : ((q : Int) / 2) = ((u / 256 : Nat) : Int) := by omega
      have b1 : -9223372036854775808 ≤ 128 * ((q : Int) % 2) ∧ 128 * ((q : Int) % 2) ≤ 9223372036854775807 := by omega
      have b2 : -9223372036854775808 ≤ ((u % 256 : Nat) : Int) ∧ ((u % 256 : Nat) : Int) ≤ 9223372036854775807 := by omega
      have hw1 : wrap64 (128 * ((q : Int) % 2)) = 128 * ((q : Int) % 2) := wrap64_small b1.1 b1.2
      have hw2 : wrap64 ((u % 256 : Nat) : Int) = ((u % 256 : Nat) : Int) := wrap64_small b2.1 b2.2
      clear b1 b2
      have Hl := hide hl
      clear hq hr hl hy
      unfold Bytes at hB
      have Hm := hide hm
      generalize hU : ((u % 256 : Nat) : Int) = U at *
      go_wp2_with (at_builtin; refine wpList_append_own_at _ rfl _ _ 26 rfl W.heap.size 5 i0 (.int .u8 0) 1 1 Tryd.underlying26 hi hz0 hz1 hz2 rfl (by decide) _ _ _ rfl (hB.alloc _) ⟨wr.heap.size, 0, none⟩ 1 1 [.int .u8 U] rfl rfl (cell_one_new _ _ _) (by simp [Value.oneCell']) (by unfold maxLen; omega) (by omega) (by have := hE.size; simp; omega) ?_; intro v4 w4 hown4 hgrow4 _ hat4; have Hown := hide hown4; have Hgrow := hide hgrow4; have Hat := hide hat4; clear hown4 hgrow4 hat4)
      go_roundg (n - (i + 1))
      case measure => have := unhide Hgk; omega
      case rel =>
        have hun : un ((u / 256 : Nat) : Int) = u / 256 := un_nat (by have := unhide Hl; omega)
        refine ⟨((u / 256 : Nat) : Int), i + 1, by rw [Int.natCast_ediv]; rfl, by go_num, rng_nat (by have := unhide Hl; omega), rfl, by omega, ?_, ?_, hE.trans (Ext.grown (unhide Hgrow) (unhide Hat))⟩
        · rw [hun]
          exact div_step x u i (by omega) (unhide Hu)
        · have := unhide Hown
          have e : lows x (i + 1) = lows x i ++ [U] := by
            rw [← hU, ← lows_step x u i (by omega) (unhide Hu)]
            simp [lows, List.range_succ]
          unfold Bytes
          rw [e]
          simpa [List.append_assoc, Nat.add_assoc] using this
    · obtain rfl : i = n := by omega
      go_wp2
      go_ret
      exact ⟨_, rfl, hB, hE.fresh⟩
end Go.Proofs.YtgbadnbhgpnppaaDoor
