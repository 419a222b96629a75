import Derived.Test.YtfcjkkljmjmhmaaDoorWMc
namespace Go.Proofs.YtfcjkkljmjmhmaaDoor
open Go.RowKit
attribute [local go_sem ↓] Go.wp_at_zero Go.wp_at_succ

/-- The worth of m bytes from a place on. -/
def hf (s : ByteArray) : Nat → Nat → Nat
  | _, 0 => 0
  | p, m + 1 => bAt s p + 256 * hf s (p + 1) m
theorem hf_succ (s : ByteArray) : ∀ m p, hf s p (m + 1) = hf s p m + bAt s (p + m) * 256 ^ m
  | 0, p => by simp [hf]
  | m + 1, p => by
    have h := hf_succ s m (p + 1)
    show bAt s p + 256 * hf s (p + 1) (m + 1) = bAt s p + 256 * hf s (p + 1) m + _
    rw [h, show p + 1 + m = p + (m + 1) by omega, Nat.pow_succ, Nat.mul_add]
    have : 256 * (bAt s (p + (m + 1)) * 256 ^ m) = bAt s (p + (m + 1)) * (256 ^ m * 256) := by rw [Nat.mul_comm 256, Nat.mul_assoc]
    omega
theorem hf_fAt (s : ByteArray) (k : Nat) : ∀ n, hf s k n = fAt s k n
  | 0 => rfl
  | n + 1 => by rw [hf_succ, fAt, hf_fAt s k n]
theorem zero_hf (s : ByteArray) (p n : Nat) : Hid ((0 : Int) = wrap64 ((hf s p (n - n) : Nat) : Int)) := by
  show (0 : Int) = wrap64 ((hf s p (n - n) : Nat) : Int)
  rw [Nat.sub_self, hf, wrap64_eq]
  decide
theorem wrap_step8 (a x : Int) : wrap64 (wrap64 (256 * wrap64 a) + x) = wrap64 (x + 256 * a) := by rw [wrap64_eq, wrap64_eq, wrap64_eq, wrap64_eq]; omega
set_option maxRecDepth 100000 in
set_option maxHeartbeats 4000000 in
theorem cFixed_any {W : World} {c : Nat} {v : Value} {s : ByteArray} {k n : Nat} {st : Bool} (h : CuAt W c v s k st) (hB : Bs W v s) (hk : k ≤ s.size) (hs : s.size ≤ 1048576) (hn : n = 4 ∨ n = 8) :
    Calls Tryd.prog 66 #[.pointer (some ⟨c, 0, none⟩), .int .i64 (n : Int)] W fun e W' => CvA W c v s st e W' (xAt s k n) := by
  have Hh := hide h
  obtain ⟨c0, c1, c2, c3, f1⟩ := cells4_of h
  clear h
  obtain ⟨a, cp, rfl, _, hB3⟩ := hB
  have HB := hide hB3
  clear hB3
  have Hn : Hid (0 < n ∧ n ≤ 8) := by show _ ∧ _; omega
  have hn1 : (n : Int) ≤ 8 := by omega
  clear hn
  unfold xAt
  by_cases q : s.size < k + n
  · rw [if_pos q]
    have d1 : decide ((s.size : Int) - (k : Int) < (n : Int)) = true := by simp; omega
    clear q
    go_enter Tryd.func66, Tryd.ntmps66
    go_wp2
    repeat (go_quiet (fail); try go_wp2)
    go_ret2
    exact ⟨rfl, by decide, by (first | exact ⟨_, rfl⟩ | (simp only [World.drewN_drewN]; exact ⟨_, rfl⟩))⟩
  · rw [if_neg q]
    have d1 : decide ((s.size : Int) - (k : Int) < (n : Int)) = false := by simp; omega
    have hkn : k + n ≤ s.size := by omega
    obtain ⟨g, off, rfl, hg, hc⟩ := unhide HB (by have := (unhide Hn).1; omega)
    have Hc := hide hc
    have Hend : ∀ (m2 : Nat) (V : Int), V = wrap64 ((hf s k n : Nat) : Int) → Hid (CvA W c (.slice (some ⟨g, off, none⟩) s.size cp) s st (.returned (.tuple #[.int .i64 V, .int .i64 0])) ((W.drewN m2).setCell ⟨c, 1, none⟩ (.int .i64 ((k + n : Nat) : Int))) (.inl (fAt s k n, k + n))) := by
      intro m2 V hV
      rw [hV, hf_fAt]
      exact ⟨rfl, upd_set (o := 1) (unhide Hh) m2 (.int .i64 ((k + n : Nat) : Int))⟩
    have HEnd := hide Hend
    clear q hc Hend HB
    go_enter Tryd.func66, Tryd.ntmps66
    go_wp2
    repeat (go_quiet (fail); try go_wp2)
    go_loopg [6, 7] n (fun gk v6 v7 wr => ∃ (j m2 : Nat) (V : Int), v6 = .int .i64 V ∧ v7 = .int .i64 ((j : Int) - 1) ∧ gk = j ∧ j ≤ n ∧ wr = W.drewN m2 ∧ Hid (V = wrap64 ((hf s (k + j) (n - j) : Nat) : Int)))
    case atStart => exact ⟨n, _, 0, rfl, by go_num, rfl, by omega, by (first | rfl | (simp only [World.drewN_drewN]; rfl)), zero_hf _ _ _⟩
    case round =>
      obtain ⟨j, m2, V, rfl, hv6, hgk2, hj, rfl, HV⟩ := hrel
      have Hgk2 := hide hgk2
      clear hgk2
      cases j with
      | zero =>
        obtain rfl : _ = Value.int .i64 (-1) := hv6
        have he := fun m2 => unhide HEnd m2 V (unhide HV)
        have He := hide he
        clear he HV
        go_wp2
        go_ret2
        first | exact unhide (unhide He _) | (simp only [World.drewN_drewN]; exact unhide (unhide He _))
      | succ j =>
        rw [show ((j + 1 : Nat) : Int) - 1 = (j : Int) by omega] at hv6
        subst hv6
        obtain ⟨q, hq⟩ : ∃ q, k + j = q := ⟨_, rfl⟩
        have eq : (k : Int) + (j : Int) = (q : Int) := by omega
        have hqs : q < s.size := by omega
        obtain ⟨y, hy⟩ : ∃ y, bAt s q = y := ⟨_, rfl⟩
        have cy := unhide Hc q hqs
        rw [hy] at cy
        have hy2 : y < 256 := by rw [← hy]; exact bAt_lt s q
        have q0 : (0 : Int) ≤ (q : Int) := Int.natCast_nonneg _
        have q1 : (q : Int) < (s.size : Int) := by omega
        have HV2 : Hid (wrap64 (wrap64 (256 * V) + (y : Int)) = wrap64 ((hf s (k + j) (n - j) : Nat) : Int)) := by
          show _ = _
          rw [unhide HV, wrap_step8, show n - j = (n - (j + 1)) + 1 by omega, hf, hq, hy, show q + 1 = k + (j + 1) by omega]
          push_cast
          rfl
        clear HV hy hq
        go_wp2
        go_quiet (fail)
        go_wp2
        go_roundg j
        case measure => have := unhide Hgk2; omega
        case rel => exact ⟨j, _, _, rfl, by go_num, rfl, by omega, by (first | rfl | (simp only [World.drewN_drewN]; rfl)), HV2⟩
end Go.Proofs.YtfcjkkljmjmhmaaDoor
