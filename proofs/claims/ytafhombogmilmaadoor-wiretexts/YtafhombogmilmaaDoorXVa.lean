import Derived.Test.YtafhombogmilmaaDoorXH
namespace Go.Proofs.YtafhombogmilmaaDoor
open Go.RowKit
attribute [local go_sem ↓] Go.wp_at_zero Go.wp_at_succ

theorem wrap64_small {a : Int} (h1 : -9223372036854775808 ≤ a) (h2 : a ≤ 9223372036854775807) : wrap64 a = a := by rw [wrap64_eq]; omega
theorem un_nat {n : Nat} (h : n < 9223372036854775808) : un (n : Int) = n := by unfold un; omega
theorem rng_nat {n : Nat} (h : n < 9223372036854775808) : Rng (n : Int) := by unfold Rng; omega

set_option maxRecDepth 100000 in
set_option maxHeartbeats 4000000 in
theorem xvarint_any (W : World) (x : Int) (hx : Rng x) :
    Calls Tryd.prog 21 #[.int .i64 x] W fun e W' => ∃ v', e = .returned v' ∧ Bytes W.heap.size W' v' (vint (un x)) ∧ Below W.heap.size W W' := by
  obtain ⟨i0, hi, hz0, hz1, hz2⟩ := info_parts Tryd.infoByte
  go_enter Tryd.func21, Tryd.ntmps21
  go_wp2
  go_loopg [0, 3] (un x) (fun gk v0 v3 wr => ∃ (y : Int) (cs : List Int), v0 = .int .i64 y ∧ Rng y ∧ gk = un y ∧ cs ++ vint (un y) = vint (un x) ∧ Bytes W.heap.size wr v3 cs ∧ Ext W (.slice none 0 0) wr v3)
  case atStart => exact ⟨x, [], rfl, hx, rfl, rfl, bytes_nil _ _, Ext.refl _ _⟩
  case round =>
    obtain ⟨y, cs, rfl, hy, hgk, hcs, hB, hE⟩ := hrel
    have hlen : cs.length ≤ 10 := by
      have h1 := congrArg List.length hcs
      have h2 := vint_ten (un_lt x)
      rw [List.length_append] at h1
      omega
    have Hgk := hide hgk
    have Hcs := hide hcs
    clear hgk hcs
    go_wp2_with fail
    refine (halves_any wr y hy).mono ?_
    rintro e w' ⟨rfl, he⟩
    obtain rfl : wr = w' := he.symm
    have hl := un_lt y
    generalize un y = u at *
    obtain ⟨q, hq⟩ : ∃ q : Nat, q = u / 128 := ⟨_, rfl⟩
    obtain ⟨r, hr⟩ : ∃ r : Nat, r = u % 128 := ⟨_, rfl⟩
    rw [← hq, ← hr]
    have hrb : r < 128 := by omega
    have hqb : q < 144115188075855872 := by omega
    have Hq := hide hq
    have Hr := hide hr
    have Hl := hide hl
    clear hq hr hl hy
    unfold Bytes at hB
    by_cases h0 : q = 0
    · subst h0
      have hm : (r : Int) % 256 = (r : Int) := by omega
      go_wp2_with (at_builtin; refine wpList_append_own_at _ rfl _ _ 24 rfl W.heap.size 5 i0 (.int .u8 0) 1 1 Tryd.underlying24 hi hz0 hz1 hz2 rfl (by decide) _ _ _ rfl (hB.alloc _) ⟨wr.heap.size, 0, none⟩ 1 1 [.int .u8 (r : Int)] rfl rfl (cell_one_new _ _ _) (by simp [Value.oneCell']) (by unfold maxLen; omega) (by omega) (by have := hE.size; simp; omega) ?_; intro v4 w4 hown4 hgrow4 _ hat4; have Hown := hide hown4; have Hgrow := hide hgrow4; have Hat := hide hat4; clear hown4 hgrow4 hat4)
      go_ret
      refine ⟨_, rfl, ?_, (hE.trans (Ext.grown (unhide Hgrow) (unhide Hat))).fresh⟩
      have e1 := unhide Hq
      have e2 := unhide Hr
      have hv : vint u = [(r : Int)] := by rw [vint, if_pos (by omega : u ≤ 127)]; simp; omega
      rw [← unhide Hcs, hv]
      have := unhide Hown
      unfold Bytes
      simpa [List.append_assoc, Nat.add_assoc] using this
    · have hm : ((r : Int) + 128) % 256 = ((r + 128 : Nat) : Int) := by omega
      have hb0 : ((q : Int) == 0) = false := by simp; omega
      have hw : wrap64 ((r : Int) + 128) = (r : Int) + 128 := wrap64_small (by omega) (by omega)
      have H0 := hide h0
      clear h0
      go_wp2_with (at_builtin; refine wpList_append_own_at _ rfl _ _ 24 rfl W.heap.size 5 i0 (.int .u8 0) 1 1 Tryd.underlying24 hi hz0 hz1 hz2 rfl (by decide) _ _ _ rfl (hB.alloc _) ⟨wr.heap.size, 0, none⟩ 1 1 [.int .u8 ((r + 128 : Nat) : Int)] rfl rfl (cell_one_new _ _ _) (by simp [Value.oneCell']) (by unfold maxLen; omega) (by omega) (by have := hE.size; simp; omega) ?_; intro v4 w4 hown4 hgrow4 _ hat4; have Hown := hide hown4; have Hgrow := hide hgrow4; have Hat := hide hat4; clear hown4 hgrow4 hat4)
      go_roundg q
      case measure => have := unhide Hgk; have := unhide Hq; have := unhide H0; omega
      case rel =>
        have e1 := unhide Hq
        have e2 := unhide Hr
        have e3 := unhide H0
        have hun : un (q : Int) = q := un_nat (by omega)
        refine ⟨q, cs ++ [((r + 128 : Nat) : Int)], rfl, rng_nat (by omega), hun.symm, ?_, ?_, hE.trans (Ext.grown (unhide Hgrow) (unhide Hat))⟩
        · have hv : vint u = ((r + 128 : Nat) : Int) :: vint q := by rw [vint, if_neg (by omega : ¬ u ≤ 127), e1, e2]
          rw [hun, ← unhide Hcs, hv]
          simp
        · have := unhide Hown
          unfold Bytes
          simpa [List.append_assoc, Nat.add_assoc] using this
end Go.Proofs.YtafhombogmilmaaDoor
