import Derived.Test.YtfcjkkljmjmhmaaDoorWB
namespace Go.Proofs.YtfcjkkljmjmhmaaDoor
open Go.RowKit
attribute [local go_sem ↓] Go.wp_at_zero Go.wp_at_succ

/-- A varint's bytes: seven bits a byte, the lowest first. -/
def vint (u : Nat) : List Int := if u ≤ 127 then [(u : Int)] else ((u % 128 + 128 : Nat) : Int) :: vint (u / 128)
termination_by u
decreasing_by omega

theorem or128 (t : Nat) : bits BinOp.or IntKind.u8 ((t : Int) % 256) 128 = ((t % 128 + 128 : Nat) : Int) := by
  have key : ∀ n : Fin 256, bits BinOp.or IntKind.u8 (n.val : Int) 128 = ((n.val % 128 + 128 : Nat) : Int) := by decide +kernel
  have h := key ⟨t % 256, Nat.mod_lt _ (by decide)⟩
  have e : ((t % 256 : Nat) : Int) = (t : Int) % 256 := by omega
  simp only [e] at h
  rw [h]
  omega
theorem vint_len : ∀ (k u : Nat), u < 128 ^ (k + 1) → 1 ≤ (vint u).length ∧ (vint u).length ≤ k + 1
  | 0, u, h => by
    have : u ≤ 127 := by simp at h; omega
    rw [vint, if_pos this]
    simp
  | k + 1, u, h => by
    rw [vint]
    split
    · simp
    · have := vint_len k (u / 128) (by rw [Nat.div_lt_iff_lt_mul (by decide), ← Nat.pow_succ]; exact h)
      simp
      omega
theorem vint_ten {u : Nat} (h : u < 18446744073709551616) : 1 ≤ (vint u).length ∧ (vint u).length ≤ 10 := vint_len 9 u (by omega)

set_option maxRecDepth 100000 in
set_option maxHeartbeats 2000000 in
theorem putVarint_any {W : World} {base : Nat} {v : Value} {bs : List Int} (h : Bytes base W v bs) (hb : base ≤ W.heap.size) (hn : bs.length ≤ 1099511627776) (x : Int) (u : Nat) (hu : IntKind.u64.wrap x = (u : Int)) (hu2 : u < 18446744073709551616) :
    Calls Tryd.prog 39 #[v, .int .i64 x] W fun e W' => ∃ v', e = .returned v' ∧ Bytes base W' v' (bs ++ vint u) ∧ Ext W v W' v' := by
  obtain ⟨i0, hi, hz0, hz1, hz2⟩ := info_parts Tryd.infoByte
  go_enter Tryd.func39, Tryd.ntmps39
  go_wp2
  go_loopg [0, 5] u (fun gk v0 v5 wr => ∃ (cs : List Int) (t : Nat), v5 = .int .u64 (t : Int) ∧ gk = t ∧ t < 18446744073709551616 ∧ cs ++ vint t = vint u ∧ Bytes base wr v0 (bs ++ cs) ∧ Ext W v wr v0)
  case atStart => exact ⟨[], u, rfl, rfl, hu2, rfl, by simpa using h, Ext.refl _ _⟩
  case round =>
    obtain ⟨cs, t, rfl, hgk, ht, hcs, hB, hE⟩ := hrel
    have hlen : cs.length ≤ 10 := by
      have h1 := congrArg List.length hcs
      have h2 := vint_ten hu2
      rw [List.length_append] at h1
      omega
    have hL : (bs ++ cs).length ≤ 1099511627786 := by rw [List.length_append]; omega
    have Hgk := hide hgk
    have Hcs := hide hcs
    clear hgk hcs
    by_cases hlt : 127 < t
    · have hlt' : (127 : Int) < (t : Int) := by omega
      have hor := or128 t
      unfold Bytes at hB
      go_wp2_with (at_builtin; refine wpList_append_own_at _ rfl _ _ 23 rfl base 5 i0 (.int .u8 0) 1 1 Tryd.underlying23 hi hz0 hz1 hz2 rfl (by decide) _ _ _ rfl (hB.alloc _) ⟨wr.heap.size, 0, none⟩ 1 1 [.int .u8 ((t % 128 + 128 : Nat) : Int)] rfl rfl (cell_one_new _ _ _) (by simp [Value.oneCell']) (by unfold maxLen; omega) (by omega) (by have := hE.size; simp; omega) ?_; intro v4 w4 hown4 hgrow4 _ hat4; have Hown := hide hown4; have Hgrow := hide hgrow4; have Hat := hide hat4; clear hown4 hgrow4 hat4)
      go_roundg (t / 128)
      case measure => have := unhide Hgk; omega
      case rel =>
        refine ⟨cs ++ [((t % 128 + 128 : Nat) : Int)], t / 128, by simp, rfl, by omega, ?_, ?_, hE.trans (Ext.grown (unhide Hgrow) (unhide Hat))⟩
        · have hv : vint t = ((t % 128 + 128 : Nat) : Int) :: vint (t / 128) := by rw [vint, if_neg (by omega : ¬ t ≤ 127)]
          rw [← unhide Hcs, hv]
          simp
        · have := unhide Hown
          unfold Bytes
          simpa [List.append_assoc, Nat.add_assoc] using this
    · have hlt' : decide ((127 : Int) < (t : Int)) = false := by simp; omega
      have hm : (t : Int) % 256 = (t : Int) := by omega
      unfold Bytes at hB
      go_wp2_with (at_builtin; refine wpList_append_own_at _ rfl _ _ 23 rfl base 5 i0 (.int .u8 0) 1 1 Tryd.underlying23 hi hz0 hz1 hz2 rfl (by decide) _ _ _ rfl (hB.alloc _) ⟨wr.heap.size, 0, none⟩ 1 1 [.int .u8 (t : Int)] rfl rfl (cell_one_new _ _ _) (by simp [Value.oneCell']) (by unfold maxLen; omega) (by omega) (by have := hE.size; simp; omega) ?_; intro v4 w4 hown4 hgrow4 _ hat4; have Hown := hide hown4; have Hgrow := hide hgrow4; have Hat := hide hat4; clear hown4 hgrow4 hat4)
      go_ret
      refine ⟨_, rfl, ?_, hE.trans (Ext.grown (unhide Hgrow) (unhide Hat))⟩
      have hv : vint t = [(t : Int)] := by rw [vint, if_pos (by omega : t ≤ 127)]
      rw [← unhide Hcs, hv]
      have := unhide Hown
      unfold Bytes
      simpa [List.append_assoc, Nat.add_assoc] using this
end Go.Proofs.YtfcjkkljmjmhmaaDoor
