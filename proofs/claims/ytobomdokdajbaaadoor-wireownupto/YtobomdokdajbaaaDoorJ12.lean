import Derived.Test.YtobomdokdajbaaaDoorJ08
import Derived.Test.YtobomdokdajbaaaDoorJ00

namespace Go.Proofs.YtobomdokdajbaaaDoor
open Go.RowKit
attribute [local go_sem ↓] Go.wp_at_zero Go.wp_at_succ

/-- The worth of m digits in base 128 from a place on. -/
def hv (s : ByteArray) : Nat → Nat → Nat
  | _, 0 => 0
  | p, m + 1 => bAt s p % 128 + 128 * hv s (p + 1) m
theorem hv_succ (s : ByteArray) : ∀ m p, hv s p (m + 1) = hv s p m + bAt s (p + m) % 128 * 128 ^ m
  | 0, p => by simp [hv]
  | m + 1, p => by
    have h := hv_succ s m (p + 1)
    show bAt s p % 128 + 128 * hv s (p + 1) (m + 1) = bAt s p % 128 + 128 * hv s (p + 1) m + _
    rw [h, show p + 1 + m = p + (m + 1) by omega, Nat.pow_succ, Nat.mul_add]
    have : 128 * (bAt s (p + (m + 1)) % 128 * 128 ^ m) = bAt s (p + (m + 1)) % 128 * (128 ^ m * 128) := by rw [Nat.mul_comm 128, Nat.mul_assoc]
    omega
theorem zero_hv (s : ByteArray) (p n : Nat) : Hid ((0 : Int) = wrap64 ((hv s p (n - n) : Nat) : Int)) := by
  show (0 : Int) = wrap64 ((hv s p (n - n) : Nat) : Int)
  rw [Nat.sub_self, hv, wrap64_eq]
  decide
/-- Bytes that can be read. -/
def Bs (W : World) (v : Value) (s : ByteArray) : Prop := ∃ a c, v = .slice a s.size c ∧ s.size ≤ c ∧ (0 < s.size → ∃ g off, a = some ⟨g, off, none⟩ ∧ g < W.heap.size ∧ ∀ i, i < s.size → W.cell? ⟨g, off + i, none⟩ = some (.int .u8 (bAt s i : Int)))
theorem bs_of {W : World} {v : Value} {l : List Nat} (h : HasB W v (byB l)) (hl : ∀ x ∈ l, x < 256) (hcap : ∀ a n c, v = .slice a n c → n ≤ c) : Bs W v (sOf l) := by
  obtain ⟨a, c, rfl, _, h3⟩ := h
  have hbl : (byB l).length = (sOf l).size := by rw [sOf_size]; simp [byB]
  refine ⟨a, c, by rw [hbl], by rw [← hbl]; exact hcap _ _ _ rfl, fun hp => ?_⟩
  obtain ⟨g, off, rfl, hg, hc⟩ := h3 (by rw [hbl]; exact hp)
  refine ⟨g, off, rfl, hg, fun i hi => hc i _ ?_⟩
  rw [sOf_size] at hi
  have hx : l[i]? = some l[i] := List.getElem?_eq_getElem hi
  rw [sOf_at hl hx]
  unfold byB
  rw [List.getElem?_map, hx]
  rfl
theorem Bs.up {W w : World} {v : Value} {s : ByteArray} (h : Bs W v s) (hb : ∀ g, g < W.heap.size → w.heap[g]? = W.heap[g]?) (hz : W.heap.size ≤ w.heap.size) : Bs w v s := by
  obtain ⟨a, c, rfl, hle, h3⟩ := h
  refine ⟨a, c, rfl, hle, fun hp => ?_⟩
  obtain ⟨g, off, rfl, hg, hc⟩ := h3 hp
  refine ⟨g, off, rfl, Nat.lt_of_lt_of_le hg hz, fun i hi => ?_⟩
  rw [← hc i hi]
  unfold World.cell?
  rw [hb g hg]
/-- A cursor of the reference in memory. -/
def CuAt (W : World) (c : Nat) (v : Value) (s : ByteArray) (k : Nat) (st : Bool) : Prop := W.heap[c]? = some (.cells #[v, .int .i64 (k : Int), .int .i64 (s.size : Int), .bool st] 88 (0, 0))
theorem cells4_of {W : World} {b : Nat} {x y z u : Value} {t : TypeId} (h : W.heap[b]? = some (.cells #[x, y, z, u] t (0, 0))) : W.cell? ⟨b, 0, none⟩ = some x ∧ W.cell? ⟨b, 1, none⟩ = some y ∧ W.cell? ⟨b, 2, none⟩ = some z ∧ W.cell? ⟨b, 3, none⟩ = some u ∧ W.frozen? ⟨b, 1, none⟩ = false := by
  unfold World.cell? World.frozen?
  rw [h]
  exact ⟨rfl, rfl, rfl, rfl, rfl⟩
def CvA (W : World) (c : Nat) (v : Value) (s : ByteArray) (st : Bool) (e : Ending) (W' : World) : (Nat × Nat) ⊕ Nat → Prop
  | .inl (u, k') => e = .returned (.tuple #[.int .i64 (wrap64 (u : Int)), .int .i64 0]) ∧ Upd W c (.cells #[v, .int .i64 (k' : Int), .int .i64 (s.size : Int), .bool st] 88 (0, 0)) W'
  | .inr n => e = .returned (.tuple #[.int .i64 0, .int .i64 (n : Int)]) ∧ n ≠ 0 ∧ ∃ m, W' = W.drewN m
theorem vGo_one {s : ByteArray} {st : Bool} {k n v x : Nat} (hn : n ≤ 9) (hlt : k + n < s.size) (hx : bAt s (k + n) = x) : vGo s st (10 - n) n (k + n) v = if n = 9 ∧ 1 < x then .inr 21 else if 127 < x then vGo s st (10 - (n + 1)) (n + 1) (k + (n + 1)) (v + (x - 128) * 128 ^ n) else if st = true ∧ 0 < n ∧ x = 0 then .inr 22 else .inl (v + x * 128 ^ n, k + n + 1) := by
  rw [show 10 - n = (10 - (n + 1)) + 1 by omega, vGo, if_pos hlt, hx, show k + n + 1 = k + (n + 1) by omega]
theorem byte_rem {y : Nat} (h : y < 256) : (wrap64 (y : Int)).tmod 128 = ((y % 128 : Nat) : Int) := by
  have e : wrap64 (y : Int) = (y : Int) := by rw [wrap64_eq]; omega
  rw [e, Int.tmod_eq_emod_of_nonneg (Int.natCast_nonneg _)]
  rfl
theorem wrap_step (a x : Int) : wrap64 (wrap64 (128 * wrap64 a) + x) = wrap64 (x + 128 * a) := by rw [wrap64_eq, wrap64_eq, wrap64_eq, wrap64_eq]; omega
set_option maxRecDepth 100000 in
set_option maxHeartbeats 8000000 in
theorem cVarint_any {W : World} {c : Nat} {v : Value} {s : ByteArray} {k : Nat} {st : Bool} (h : CuAt W c v s k st) (hB : Bs W v s) (hk : k ≤ s.size) (hs : s.size ≤ 1048576) :
    Calls Tryd.prog 52 #[.pointer (some ⟨c, 0, none⟩)] W fun e W' => CvA W c v s st e W' (vAt s st k) := by
  obtain ⟨R, hR⟩ : ∃ R, vAt s st k = R := ⟨_, rfl⟩
  rw [hR]
  have HR0 : Hid (vGo s st 10 0 k 0 = R) := hR
  have Hh := hide h
  obtain ⟨c0, c1, c2, c3, f1⟩ := cells4_of h
  clear h hR
  obtain ⟨a, cp, rfl, _, hB3⟩ := hB
  have HB := hide hB3
  clear hB3
  go_enter Tryd.func52, Tryd.ntmps52
  go_wp2
  go_loopg [4] 10 (fun gk v4 wr => ∃ (n m : Nat), v4 = .int .i64 (n : Int) ∧ gk = 10 - n ∧ n ≤ 9 ∧ k + n ≤ s.size ∧ wr = W.drewN m ∧ Hid (vGo s st (10 - n) n (k + n) (hv s k n) = R))
  case atStart => exact ⟨0, 0, rfl, rfl, by omega, by omega, rfl, HR0⟩
  case round =>
    clear HR0
    obtain ⟨n, m, rfl, hgk, hn, hkn, rfl, HR⟩ := hrel
    have Hgk := hide hgk
    clear hgk
    obtain ⟨p, hp⟩ : ∃ p, k + n = p := ⟨_, rfl⟩
    have ep : (k : Int) + (n : Int) = (p : Int) := by omega
    by_cases hlt : p < s.size
    · obtain ⟨g, off, rfl, hg, hc⟩ := unhide HB (by omega)
      obtain ⟨x, hx⟩ : ∃ x, bAt s p = x := ⟨_, rfl⟩
      have hx2 : x < 256 := by rw [← hx]; exact bAt_lt s p
      have cx := hc p hlt
      rw [hx] at cx
      have p0 : (0 : Int) ≤ (p : Int) := Int.natCast_nonneg _
      have p1 : (p : Int) < (s.size : Int) := by omega
      have p2 : decide ((s.size : Int) ≤ (p : Int)) = false := by simp; omega
      have hst := vGo_one (s := s) (st := st) (v := hv s k n) (x := x) hn (by rw [hp]; exact hlt) (by rw [hp]; exact hx)
      have Hst := hide ((unhide HR).symm.trans hst)
      have Hc := hide hc
      have Hp := hide hp
      clear hst HR hc
      by_cases hgo : n < 9 ∧ 127 < x
      · have d1 : decide ((n : Int) < 9) = true := by simp; omega
        have d2 : decide ((128 : Int) ≤ (x : Int)) = true := by simp; omega
        have HR2 : Hid (vGo s st (10 - (n + 1)) (n + 1) (k + (n + 1)) (hv s k (n + 1)) = R) := by
          have hr := unhide Hst
          rw [if_neg (by omega), if_pos hgo.2] at hr
          show _ = R
          rw [hr, hv_succ, unhide Hp, hx, show x - 128 = x % 128 by omega]
        clear Hst hx hp Hp
        go_wp2
        go_quiet (fail)
        go_wp2
        go_roundg (10 - (n + 1))
        case measure => have := unhide Hgk; omega
        case rel => exact ⟨n + 1, _, by go_num, rfl, by omega, by omega, by (first | rfl | (simp only [World.drewN_drewN]; rfl)), HR2⟩
      · have hx9 : n = 9 ∨ (n < 9 ∧ x ≤ 127) := by omega
        have e9 : n = 9 → (k : Int) + 9 = (p : Int) := fun e => by omega
        by_cases h21 : n = 9 ∧ 1 < x
        · have hr := unhide Hst
          rw [if_pos h21] at hr
          subst hr
          have d1 : decide ((n : Int) < 9) = false := by simp; omega
          have d2 : ((n : Int) == 9) = true := by simp; omega
          have d3 : decide ((1 : Int) < (x : Int)) = true := by simp; omega
          have ep9 := e9 h21.1
          clear Hst hx hp Hp hgo hx9 e9 h21
          go_wp2
          go_quiet (fail)
          go_wp2
          repeat (go_quiet (fail); try go_wp2)
          go_ret2
          exact ⟨rfl, by decide, by (first | exact ⟨_, rfl⟩ | (simp only [World.drewN_drewN]; exact ⟨_, rfl⟩))⟩
        · have hx3 : x ≤ 127 := by omega
          have hr := unhide Hst
          rw [if_neg h21, if_neg (by omega)] at hr
          have hcase : (decide ((n : Int) < 9) = false ∧ ((n : Int) == 9) = true ∧ (k : Int) + 9 = (p : Int) ∧ decide ((1 : Int) < (x : Int)) = false) ∨ (decide ((n : Int) < 9) = true ∧ decide ((128 : Int) ≤ (x : Int)) = false ∧ ((n : Int) == 9) = false) := by
            rcases hx9 with q | q
            · exact .inl ⟨by simp; omega, by simp; omega, e9 q, by simp; omega⟩
            · exact .inr ⟨by simp; omega, by simp; omega, beq_eq_false_iff_ne.2 (by omega)⟩
          clear Hst hgo hx9 e9 h21
          by_cases h22 : st = true ∧ 0 < n ∧ x = 0
          · rw [if_pos h22] at hr
            subst hr
            obtain ⟨rfl, h23, rfl⟩ := h22
            have dn : decide (0 < (n : Int)) = true := by simp; omega
            clear hx hp Hp
            rcases hcase with ⟨d1, d2, d3, d4⟩ | ⟨d1, d2, d3⟩
            all_goals (
              go_wp2
              go_quiet (fail)
              go_wp2
              repeat (go_quiet (fail); try go_wp2)
              go_ret2
              exact ⟨rfl, by decide, by (first | exact ⟨_, rfl⟩ | (simp only [World.drewN_drewN]; exact ⟨_, rfl⟩))⟩)
          · rw [if_neg h22] at hr
            have hval : hv s k (n + 1) = hv s k n + x * 128 ^ n := by rw [hv_succ, unhide Hp, hx, show x % 128 = x by omega]
            have Hval := hide hval
            subst hr
            have hs22 : st = false ∨ (st = true ∧ decide (0 < (n : Int)) = false ∧ decide (0 < n) = false) ∨ (st = true ∧ decide (0 < (n : Int)) = true ∧ 0 < n ∧ ((x : Int) == 0) = false) := by
              cases st with
              | false => exact .inl rfl
              | true =>
                by_cases q : n = 0
                · exact .inr (.inl ⟨rfl, by simp; omega, by simp; omega⟩)
                · exact .inr (.inr ⟨rfl, by simp; omega, by omega, beq_eq_false_iff_ne.2 (fun e => h22 ⟨rfl, by omega, by omega⟩)⟩)
            have Hend : ∀ (m2 : Nat) (V : Int), V = wrap64 ((hv s k (n + 1) : Nat) : Int) → Hid (CvA W c (.slice (some ⟨g, off, none⟩) s.size cp) s st (.returned (.tuple #[.int .i64 V, .int .i64 0])) ((W.drewN m2).setCell ⟨c, 1, none⟩ (.int .i64 ((p + 1 : Nat) : Int))) (.inl (hv s k n + x * 128 ^ n, k + n + 1))) := by
              intro m2 V hV
              rw [hV, unhide Hval, unhide Hp]
              exact ⟨rfl, upd_set (o := 1) (unhide Hh) m2 (.int .i64 ((p + 1 : Nat) : Int))⟩
            have HEnd := hide Hend
            clear h22 hval hx hp Hend
            obtain hloop : True := trivial
            rcases hcase with ⟨d1, d2, d3, d4⟩ | ⟨d1, d2, d3⟩
            all_goals (
              rcases hs22 with rfl | ⟨rfl, b1, b2⟩ | ⟨rfl, b1, b2, b3⟩
              all_goals (
                go_wp2
                go_quiet (fail)
                go_wp2
                repeat (go_quiet (fail); try go_wp2)
                go_loopg [5, 6] (n + 1) (fun gk v5 v6 wr => ∃ (j m2 : Nat) (V : Int), v5 = .int .i64 V ∧ v6 = .int .i64 ((j : Int) - 1) ∧ gk = j ∧ j ≤ n + 1 ∧ wr = W.drewN m2 ∧ Hid (V = wrap64 ((hv s (k + j) (n + 1 - j) : Nat) : Int)))
                case atStart => exact ⟨n + 1, _, 0, rfl, by go_num, rfl, by omega, by (first | rfl | (simp only [World.drewN_drewN]; rfl)), zero_hv _ _ _⟩
                case round =>
                  obtain ⟨j, m2, V, rfl, hv6, hgk2, hj, rfl, HV⟩ := hrel
                  have Hgk2 := hide hgk2
                  clear hgk2
                  cases j with
                  | zero =>
                    obtain rfl : _ = Value.int .i64 (-1) := hv6
                    have HE := unhide HEnd
                    have he := fun m2 => HE m2 V (unhide HV)
                    have He := hide he
                    clear he HE HV
                    go_wp2
                    go_ret2
                    first | exact unhide (unhide He _) | (simp only [World.drewN_drewN]; exact unhide (unhide He _))
                  | succ j =>
                    rw [show ((j + 1 : Nat) : Int) - 1 = (j : Int) by omega] at hv6
                    subst hv6
                    obtain ⟨q, hq⟩ : ∃ q, k + j = q := ⟨_, rfl⟩
                    have eq : (k : Int) + (j : Int) = (q : Int) := by omega
                    have hqs : q < s.size := by have := unhide Hp; omega
                    obtain ⟨y, hy⟩ : ∃ y, bAt s q = y := ⟨_, rfl⟩
                    have cy := unhide Hc q hqs
                    rw [hy] at cy
                    have q0 : (0 : Int) ≤ (q : Int) := Int.natCast_nonneg _
                    have q1 : (q : Int) < (s.size : Int) := by omega
                    have hy2 : y < 256 := by rw [← hy]; exact bAt_lt s q
                    have HV2 : Hid (wrap64 (wrap64 (128 * V) + (wrap64 (y : Int)).tmod 128) = wrap64 ((hv s (k + j) (n + 1 - j) : Nat) : Int)) := by
                      show _ = _
                      rw [byte_rem hy2, unhide HV, wrap_step, show n + 1 - j = (n + 1 - (j + 1)) + 1 by omega, hv, hq, hy, show q + 1 = k + (j + 1) by omega]
                      push_cast
                      rfl
                    clear HV hy hq hy2
                    go_wp2
                    go_quiet (fail)
                    go_wp2
                    go_roundg j
                    case measure => have := unhide Hgk2; omega
                    case rel => exact ⟨j, _, _, rfl, by go_num, rfl, by omega, by (first | rfl | (simp only [World.drewN_drewN]; rfl)), HV2⟩))
    · obtain rfl : p = s.size := by omega
      have hr := unhide HR
      rw [show 10 - n = (10 - (n + 1)) + 1 by omega, vGo, if_neg (by omega)] at hr
      subst hr
      have p2 : decide ((s.size : Int) ≤ (s.size : Int)) = true := by simp
      have p3 : decide ((s.size : Int) < (s.size : Int)) = false := by simp
      clear HR hlt hp
      go_wp2
      go_quiet (fail)
      go_wp2
      go_quiet (fail)
      go_wp2
      go_ret2
      exact ⟨rfl, by decide, by (first | exact ⟨_, rfl⟩ | (simp only [World.drewN_drewN]; exact ⟨_, rfl⟩))⟩
end Go.Proofs.YtobomdokdajbaaaDoor

namespace Go.Proofs.YtobomdokdajbaaaDoor
open Go.RowKit
attribute [local go_sem ↓] Go.wp_at_zero Go.wp_at_succ

/-- The worth of m bytes from a place on. -/
def hf (s : ByteArray) : Nat → Nat → Nat
  | _, 0 => 0
  | p, m + 1 => bAt s p + 256 * hf s (p + 1) m
theorem hf_succ (s : ByteArray) : ∀ m p, hf s p (m + 1) = hf s p m + bAt s (p + m) * 256 ^ m
  | 0, p => by simp [hf]
  | m + 1, p => by
    have h := hf_succ s m (p + 1)
    show bAt s p + 256 * hf s (p + 1) (m + 1) = bAt s p + 256 * hf s (p + 1) m + _
    rw [h, show p + 1 + m = p + (m + 1) by omega, Nat.pow_succ, Nat.mul_add]
    have : 256 * (bAt s (p + (m + 1)) * 256 ^ m) = bAt s (p + (m + 1)) * (256 ^ m * 256) := by rw [Nat.mul_comm 256, Nat.mul_assoc]
    omega
theorem hf_fAt (s : ByteArray) (k : Nat) : ∀ n, hf s k n = fAt s k n
  | 0 => rfl
  | n + 1 => by rw [hf_succ, fAt, hf_fAt s k n]
theorem zero_hf (s : ByteArray) (p n : Nat) : Hid ((0 : Int) = wrap64 ((hf s p (n - n) : Nat) : Int)) := by
  show (0 : Int) = wrap64 ((hf s p (n - n) : Nat) : Int)
  rw [Nat.sub_self, hf, wrap64_eq]
  decide
theorem wrap_step8 (a x : Int) : wrap64 (wrap64 (256 * wrap64 a) + x) = wrap64 (x + 256 * a) := by rw [wrap64_eq, wrap64_eq, wrap64_eq, wrap64_eq]; omega
set_option maxRecDepth 100000 in
set_option maxHeartbeats 4000000 in
theorem cFixed_any {W : World} {c : Nat} {v : Value} {s : ByteArray} {k n : Nat} {st : Bool} (h : CuAt W c v s k st) (hB : Bs W v s) (hk : k ≤ s.size) (hs : s.size ≤ 1048576) (hn : n = 4 ∨ n = 8) :
    Calls Tryd.prog 54 #[.pointer (some ⟨c, 0, none⟩), .int .i64 (n : Int)] W fun e W' => CvA W c v s st e W' (xAt s k n) := by
  have Hh := hide h
  obtain ⟨c0, c1, c2, c3, f1⟩ := cells4_of h
  clear h
  obtain ⟨a, cp, rfl, _, hB3⟩ := hB
  have HB := hide hB3
  clear hB3
  have Hn : Hid (0 < n ∧ n ≤ 8) := by show _ ∧ _; omega
  have hn1 : (n : Int) ≤ 8 := by omega
  clear hn
  unfold xAt
  by_cases q : s.size < k + n
  · rw [if_pos q]
    have d1 : decide ((s.size : Int) - (k : Int) < (n : Int)) = true := by simp; omega
    clear q
    go_enter Tryd.func54, Tryd.ntmps54
    go_wp2
    repeat (go_quiet (fail); try go_wp2)
    go_ret2
    exact ⟨rfl, by decide, by (first | exact ⟨_, rfl⟩ | (simp only [World.drewN_drewN]; exact ⟨_, rfl⟩))⟩
  · rw [if_neg q]
    have d1 : decide ((s.size : Int) - (k : Int) < (n : Int)) = false := by simp; omega
    have hkn : k + n ≤ s.size := by omega
    obtain ⟨g, off, rfl, hg, hc⟩ := unhide HB (by have := (unhide Hn).1; omega)
    have Hc := hide hc
    have Hend : ∀ (m2 : Nat) (V : Int), V = wrap64 ((hf s k n : Nat) : Int) → Hid (CvA W c (.slice (some ⟨g, off, none⟩) s.size cp) s st (.returned (.tuple #[.int .i64 V, .int .i64 0])) ((W.drewN m2).setCell ⟨c, 1, none⟩ (.int .i64 ((k + n : Nat) : Int))) (.inl (fAt s k n, k + n))) := by
      intro m2 V hV
      rw [hV, hf_fAt]
      exact ⟨rfl, upd_set (o := 1) (unhide Hh) m2 (.int .i64 ((k + n : Nat) : Int))⟩
    have HEnd := hide Hend
    clear q hc Hend HB
    go_enter Tryd.func54, Tryd.ntmps54
    go_wp2
    repeat (go_quiet (fail); try go_wp2)
    go_loopg [6, 7] n (fun gk v6 v7 wr => ∃ (j m2 : Nat) (V : Int), v6 = .int .i64 V ∧ v7 = .int .i64 ((j : Int) - 1) ∧ gk = j ∧ j ≤ n ∧ wr = W.drewN m2 ∧ Hid (V = wrap64 ((hf s (k + j) (n - j) : Nat) : Int)))
    case atStart => exact ⟨n, _, 0, rfl, by go_num, rfl, by omega, by (first | rfl | (simp only [World.drewN_drewN]; rfl)), zero_hf _ _ _⟩
    case round =>
      obtain ⟨j, m2, V, rfl, hv6, hgk2, hj, rfl, HV⟩ := hrel
      have Hgk2 := hide hgk2
      clear hgk2
      cases j with
      | zero =>
        obtain rfl : _ = Value.int .i64 (-1) := hv6
        have he := fun m2 => unhide HEnd m2 V (unhide HV)
        have He := hide he
        clear he HV
        go_wp2
        go_ret2
        first | exact unhide (unhide He _) | (simp only [World.drewN_drewN]; exact unhide (unhide He _))
      | succ j =>
        rw [show ((j + 1 : Nat) : Int) - 1 = (j : Int) by omega] at hv6
        subst hv6
        obtain ⟨q, hq⟩ : ∃ q, k + j = q := ⟨_, rfl⟩
        have eq : (k : Int) + (j : Int) = (q : Int) := by omega
        have hqs : q < s.size := by omega
        obtain ⟨y, hy⟩ : ∃ y, bAt s q = y := ⟨_, rfl⟩
        have cy := unhide Hc q hqs
        rw [hy] at cy
        have hy2 : y < 256 := by rw [← hy]; exact bAt_lt s q
        have q0 : (0 : Int) ≤ (q : Int) := Int.natCast_nonneg _
        have q1 : (q : Int) < (s.size : Int) := by omega
        have HV2 : Hid (wrap64 (wrap64 (256 * V) + (y : Int)) = wrap64 ((hf s (k + j) (n - j) : Nat) : Int)) := by
          show _ = _
          rw [unhide HV, wrap_step8, show n - j = (n - (j + 1)) + 1 by omega, hf, hq, hy, show q + 1 = k + (j + 1) by omega]
          push_cast
          rfl
        clear HV hy hq
        go_wp2
        go_quiet (fail)
        go_wp2
        go_roundg j
        case measure => have := unhide Hgk2; omega
        case rel => exact ⟨j, _, _, rfl, by go_num, rfl, by omega, by (first | rfl | (simp only [World.drewN_drewN]; rfl)), HV2⟩
end Go.Proofs.YtobomdokdajbaaaDoor

namespace Go.Proofs.YtobomdokdajbaaaDoor
open Go.RowKit
attribute [local go_sem ↓] Go.wp_at_zero Go.wp_at_succ

/-- A number's 64 bits, without a sign. -/
def un (x : Int) : Nat := (x % 18446744073709551616).toNat
theorem un_eq (x : Int) : ((un x : Nat) : Int) = x % 18446744073709551616 := by unfold un; omega
theorem un_lt (x : Int) : un x < 18446744073709551616 := by unfold un; omega
theorem un_wrap (x : Int) : IntKind.u64.wrap x = (un x : Int) := by rw [wrapu_eq, un_eq]

theorem ret2 {a b c d : Int} (h1 : a = c) (h2 : b = d) : Ending.returned (.tuple #[.int .i64 a, .int .i64 b]) = .returned (.tuple #[.int .i64 c, .int .i64 d]) := by rw [h1, h2]

set_option maxHeartbeats 1000000 in
theorem halves_any (W : World) (x : Int) (hx : Rng x) : Calls Tryd.prog 68 #[.int .i64 x] W fun e W' => e = .returned (.tuple #[.int .i64 ((un x / 128 : Nat) : Int), .int .i64 ((un x % 128 : Nat) : Int)]) ∧ W' = W := by
  have hu := un_eq x
  unfold Rng at hx
  generalize un x = u at *
  obtain ⟨q, hq⟩ : ∃ q : Nat, q = u / 128 := ⟨_, rfl⟩
  obtain ⟨r, hr⟩ : ∃ r : Nat, r = u % 128 := ⟨_, rfl⟩
  rw [← hq, ← hr]
  by_cases h0 : 0 ≤ x
  · have e1 : x.tmod 128 = (r : Int) := by rw [Int.tmod_eq_emod_of_nonneg h0]; omega
    have e2 : x.tdiv 128 = (q : Int) := by rw [Int.tdiv_eq_ediv_of_nonneg h0]; omega
    have e3 : decide (x < 0) = false := by simp; omega
    have e4 : wrap64 (q : Int) = (q : Int) := by rw [wrap64_eq]; omega
    clear hu hq hr h0 hx
    go_enter Tryd.func68, Tryd.ntmps68
    go_wp2
    go_ret2
    exact ⟨ret2 e4 rfl, rfl⟩
  · have hx0 : x < 0 := by omega
    obtain ⟨m, hm⟩ : ∃ m : Int, x = -m := ⟨-x, by omega⟩
    have t1 : x.tmod 128 = -(m % 128) := by rw [hm, Int.neg_tmod, Int.tmod_eq_emod_of_nonneg (by omega)]
    have t2 : x.tdiv 128 = -(m / 128) := by rw [hm, Int.neg_tdiv, Int.tdiv_eq_ediv_of_nonneg (by omega)]
    obtain ⟨s, hs⟩ : ∃ s : Int, s = -(m % 128) := ⟨_, rfl⟩
    obtain ⟨t, ht⟩ : ∃ t : Int, t = -(m / 128) := ⟨_, rfl⟩
    rw [← hs] at t1
    rw [← ht] at t2
    have tb : -72057594037927936 ≤ t ∧ t ≤ 0 := by omega
    by_cases hz : s = 0
    · have hr' : x.tmod 128 = (r : Int) := by rw [t1]; omega
      have e6 : wrap64 (t + 144115188075855872) = (q : Int) := by rw [wrap64_eq]; omega
      have e9 : wrap64 t = t := by rw [wrap64_eq]; omega
      clear hu hq hr hx hm hs ht h0 hz tb t1
      go_enter Tryd.func68, Tryd.ntmps68
      go_wp2
      go_ret2
      exact ⟨ret2 e6 rfl, rfl⟩
    · have hq' : t - 1 + 144115188075855872 = (q : Int) := by omega
      have hr' : s + 128 = (r : Int) := by omega
      have e4 : s < 0 := by omega
      have e5 : wrap64 (s + 128) = (r : Int) := by rw [wrap64_eq]; omega
      have e7 : wrap64 (t - 1) = t - 1 := by rw [wrap64_eq]; omega
      have e9 : wrap64 t = t := by rw [wrap64_eq]; omega
      have e8 : wrap64 (t - 1 + 144115188075855872) = (q : Int) := by rw [wrap64_eq]; omega
      have e10 : wrap64 (q : Int) = (q : Int) := by have h := e8; rw [hq'] at h; exact h
      clear hu hq hr hx hm hs ht h0 hz tb
      go_enter Tryd.func68, Tryd.ntmps68
      go_wp2
      go_ret2
      exact ⟨ret2 e10 rfl, rfl⟩
end Go.Proofs.YtobomdokdajbaaaDoor
