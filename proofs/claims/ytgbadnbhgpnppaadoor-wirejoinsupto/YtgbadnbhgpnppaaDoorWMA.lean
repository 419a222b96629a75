import Derived.Test.YtgbadnbhgpnppaaDoorWLc
namespace Go.Proofs.YtgbadnbhgpnppaaDoor
open Go.RowKit
attribute [local go_sem ↓] Go.wp_at_zero Go.wp_at_succ

/-- A number of n bytes, the lowest first. -/
def fAt (s : ByteArray) (k : Nat) : Nat → Nat
  | 0 => 0
  | n + 1 => fAt s k n + bAt s (k + n) * 256 ^ n
theorem fAt_lt (s : ByteArray) (k : Nat) : ∀ n, fAt s k n < 256 ^ n
  | 0 => by show 0 < 1; decide
  | n + 1 => by
    have h := fAt_lt s k n
    have hb := bAt_lt s (k + n)
    show fAt s k n + bAt s (k + n) * 256 ^ n < 256 ^ (n + 1)
    have : (bAt s (k + n) + 1) * 256 ^ n ≤ 256 * 256 ^ n := Nat.mul_le_mul_right _ (by omega)
    rw [Nat.pow_succ, Nat.mul_comm (256 ^ n) 256]
    rw [Nat.add_mul, Nat.one_mul] at this
    omega
def xAt (s : ByteArray) (k n : Nat) : (Nat × Nat) ⊕ Nat := if s.size < k + n then .inr 20 else .inl (fAt s k n, k + n)
theorem pow256 (i : Nat) : 256 ^ i = 2 ^ (8 * i) := by rw [Nat.pow_mul]
theorem or_next8 {v x i : Nat} (hv : v < 256 ^ i) (hx : x < 256) (hi : i < 8) : bits .or .u64 (v : Int) (IntKind.u64.wrap ((x : Int) * 2 ^ (8 * i))) = ((v + x * 256 ^ i : Nat) : Int) := by
  have h1 : (x + 1) * 256 ^ i ≤ 256 * 256 ^ i := Nat.mul_le_mul_right _ (by omega)
  have h2 : (256 : Nat) * 256 ^ i ≤ 256 ^ 8 := by rw [Nat.mul_comm, ← Nat.pow_succ]; exact Nat.pow_le_pow_right (by decide) (by omega)
  have e : (256 : Nat) ^ 8 = 18446744073709551616 := by decide
  rw [Nat.add_mul, Nat.one_mul] at h1
  have hb : v + x * 256 ^ i < 18446744073709551616 := by omega
  have e1 : (x : Int) * 2 ^ (8 * i) = ((x * 256 ^ i : Nat) : Int) := by rw [pow256]; push_cast; rfl
  rw [e1, u64_wrapN _ (Int.natCast_nonneg _) (by have : x * 256 ^ i < 18446744073709551616 := by omega
                                                 exact_mod_cast this), (bits_nat .u64 64 (by decide) u64_wrapN v (x * 256 ^ i) (by omega) (by omega)).2]
  congr 1
  rw [Nat.or_comm, pow256, Nat.mul_comm, ← Nat.two_pow_add_eq_or_of_lt (by rw [← pow256]; exact hv)]
  omega
set_option maxRecDepth 100000 in
set_option maxHeartbeats 4000000 in
theorem rFixed_ok {W : World} {b : Nat} {s : ByteArray} {k n : Nat} {st : Bool} (h : RdAt W b s k st) (hs : s.size ≤ 1048576) (hn : n = 4 ∨ n = 8) (hk : k + n ≤ s.size) :
    Calls Tryd.prog 38 #[.pointer (some ⟨b, 0, none⟩), .int .i64 (n : Int)] W fun e W' => VarA W b s st e W' (.inl (fAt s k n, k + n)) := by
  have Hh := hide h
  obtain ⟨c0, c1, c2, f0, f1, f2⟩ := cells3_of h
  clear h
  have d1 : decide ((s.size : Int) - (k : Int) < (n : Int)) = false := by simp; omega
  have d2 : ((n : Int) != 4) = false ∨ (((n : Int) != 4) = true ∧ ((n : Int) != 8) = false) := by
    rcases hn with rfl | rfl
    · exact .inl (by decide)
    · exact .inr ⟨by decide, by decide⟩
  have Hn : Hid (n ≤ 8) := by show n ≤ 8; omega
  clear hn
  rcases d2 with g1 | ⟨g1, g2⟩
  all_goals (
    go_enter Tryd.func38, Tryd.ntmps38
    go_wp2
    go_quiet (fail)
    go_wp2
    go_loopg [6, 27] n (fun gk v6 v27 wr => ∃ (i v m : Nat), v6 = .int .u64 (v : Int) ∧ v27 = .int .i64 (i : Int) ∧ gk = n - i ∧ i ≤ n ∧ wr = W.drewN m ∧ Hid (fAt s k i = v))
    case atStart => exact ⟨0, 0, _, rfl, rfl, rfl, by omega, rfl, rfl⟩
    case round =>
      obtain ⟨i, v, m, rfl, rfl, hgk, hi, rfl, Hv⟩ := hrel
      have Hgk := hide hgk
      clear hgk
      by_cases hlt : i < n
      · have hi1 : (i : Int) < (n : Int) := by omega
        have hki : k + i < s.size := by omega
        obtain ⟨x, hx⟩ : ∃ x : Nat, s[k + i].toNat = x := ⟨_, rfl⟩
        have hbx : bAt s (k + i) = x := (bAt_eq hki).trans hx
        have hx2 : x < 256 := by rw [← hbx]; exact bAt_lt s (k + i)
        have j0 : (0 : Int) ≤ (k : Int) + (i : Int) := by omega
        have j1 : (k : Int) + (i : Int) < (s.size : Int) := by omega
        have hor := or_next8 (v := v) (i := i) (by rw [← unhide Hv]; exact fAt_lt s k i) hx2 (by have := unhide Hn; omega)
        obtain ⟨nv, hnv⟩ : ∃ nv, v + x * 256 ^ i = nv := ⟨_, rfl⟩
        rw [hnv] at hor
        have Hv2 : Hid (fAt s k (i + 1) = nv) := by
          show fAt s k i + bAt s (k + i) * 256 ^ i = nv
          rw [unhide Hv, hbx, hnv]
        clear hnv hbx Hv
        go_wp2
        go_quiet (fail)
        go_wp2
        go_roundg (n - (i + 1))
        case measure => have := unhide Hgk; omega
        case rel => exact ⟨i + 1, nv, _, rfl, by go_num, rfl, by omega, rfl, Hv2⟩
      · obtain rfl : i = n := by omega
        have Hend : Hid (VarA W b s st (.returned (.tuple #[.int .i64 (wrap64 (v : Int)), .int .i64 0])) ((W.drewN m).setCell ⟨b, 1, none⟩ (.int .i64 ((k + i : Nat) : Int))) (.inl (fAt s k i, k + i))) := by
          rw [unhide Hv]
          exact ⟨rfl, upd_set (o := 1) (unhide Hh) m (.int .i64 ((k + i : Nat) : Int))⟩
        clear hlt
        go_wp2
        go_ret2
        exact unhide Hend)
set_option maxRecDepth 100000 in
set_option maxHeartbeats 2000000 in
theorem rFixed_ends {W : World} {b : Nat} {s : ByteArray} {k n : Nat} {st : Bool} (h : RdAt W b s k st) (hs : s.size ≤ 1048576) (hk0 : k ≤ s.size) (hn : n = 4 ∨ n = 8) (hk : s.size < k + n) :
    Calls Tryd.prog 38 #[.pointer (some ⟨b, 0, none⟩), .int .i64 (n : Int)] W fun e W' => VarA W b s st e W' (.inr 20) := by
  obtain ⟨c0, c1, c2, f0, f1, f2⟩ := cells3_of h
  clear h
  have d1 : decide ((s.size : Int) - (k : Int) < (n : Int)) = true := by simp; omega
  have d2 : ((n : Int) != 4) = false ∨ (((n : Int) != 4) = true ∧ ((n : Int) != 8) = false) := by
    rcases hn with rfl | rfl
    · exact .inl (by decide)
    · exact .inr ⟨by decide, by decide⟩
  clear hn
  rcases d2 with g1 | ⟨g1, g2⟩
  all_goals (
    go_enter Tryd.func38, Tryd.ntmps38
    go_wp2
    go_quiet (fail)
    go_wp2
    go_ret2
    exact ⟨rfl, by decide, _, rfl⟩)
set_option maxRecDepth 100000 in
set_option maxHeartbeats 2000000 in
theorem rFixed_bad {W : World} {b : Nat} {s : ByteArray} {st : Bool} {n : Int} (h4 : n ≠ 4) (h8 : n ≠ 8) :
    Calls Tryd.prog 38 #[.pointer (some ⟨b, 0, none⟩), .int .i64 n] W fun e W' => VarA W b s st e W' (.inr 1) := by
  have g1 : (n != 4) = true := by simp; exact h4
  have g2 : (n != 8) = true := by simp; exact h8
  clear h4 h8
  go_enter Tryd.func38, Tryd.ntmps38
  go_wp2
  go_ret2
  exact ⟨rfl, by decide, 0, rfl⟩
/-- Fixed. -/
theorem rFixed_any {W : World} {b : Nat} {s : ByteArray} {k n : Nat} {st : Bool} (h : RdAt W b s k st) (hs : s.size ≤ 1048576) (hk : k ≤ s.size) (hn : n = 4 ∨ n = 8) :
    Calls Tryd.prog 38 #[.pointer (some ⟨b, 0, none⟩), .int .i64 (n : Int)] W fun e W' => VarA W b s st e W' (xAt s k n) := by
  unfold xAt
  by_cases q : s.size < k + n
  · rw [if_pos q]; exact rFixed_ends h hs hk hn q
  · rw [if_neg q]; exact rFixed_ok h hs hn (by omega)
end Go.Proofs.YtgbadnbhgpnppaaDoor
namespace Go.Proofs.YtgbadnbhgpnppaaDoor
open Go.RowKit
attribute [local go_sem ↓] Go.wp_at_zero Go.wp_at_succ

theorem upd_same {W : World} {b : Nat} {o : Obj} (h : W.heap[b]? = some o) (n : Nat) : Upd W b o (W.drewN n) := ⟨rfl, rfl, rfl, Nat.le_refl _, h, fun _ _ _ => rfl⟩
/-- A text at a place. -/
def tAt (s : ByteArray) (st : Bool) (k : Nat) : (ByteArray × Nat) ⊕ Nat :=
  match vAt s st k with
  | .inr c => .inr c
  | .inl (u, k') => if s.size - k' < u then .inr 20 else .inl (s.extract k' (k' + u), k' + u)
def TxtA (W : World) (b : Nat) (s : ByteArray) (k : Nat) (st : Bool) (e : Ending) (W' : World) : (ByteArray × Nat) ⊕ Nat → Prop
  | .inl (t, k') => e = .returned (.tuple #[.string t, .int .i64 0]) ∧ Upd W b (.cells #[.string s, .int .i64 (k' : Int), .bool st] 70 (0, 0)) W'
  | .inr c => e = .returned (.tuple #[.string .empty, .int .i64 (c : Int)]) ∧ c ≠ 0 ∧ Upd W b (.cells #[.string s, .int .i64 (k : Int), .bool st] 70 (0, 0)) W'
set_option maxRecDepth 100000 in
set_option maxHeartbeats 4000000 in
theorem rText_any {W : World} {b : Nat} {s : ByteArray} {k : Nat} {st : Bool} (h : RdAt W b s k st) (hk : k ≤ s.size) (hs : s.size ≤ 1048576) :
    Calls Tryd.prog 40 #[.pointer (some ⟨b, 0, none⟩)] W fun e W' => TxtA W b s k st e W' (tAt s st k) := by
  have hv := rVarint_any h hk hs
  have hlt : ∀ u k', vAt s st k = .inl (u, k') → u < 18446744073709551616 ∧ k < k' ∧ k' ≤ s.size := fun u k' h => vAt_lt h
  unfold tAt
  obtain ⟨R, hR⟩ : ∃ R, vAt s st k = R := ⟨_, rfl⟩
  rw [hR] at hv hlt ⊢
  clear hR
  have Hlt := hide hlt
  clear hlt
  obtain ⟨c0, c1, c2, f0, f1, f2⟩ := cells3_of h
  have Hh := hide h
  have Hv := hide hv
  clear h hv
  cases R with
  | inr c =>
    go_enter Tryd.func40, Tryd.ntmps40
    go_wp2_with fail
    refine (unhide Hv).mono ?_
    intro e w1 hq
    clear Hv
    obtain ⟨rfl, hc, n, rfl⟩ := hq
    have qc : ((c : Int) != 0) = true := by simp; omega
    go_wp2
    go_ret2
    exact ⟨rfl, hc, upd_same (unhide Hh) n⟩
  | inl p =>
    obtain ⟨u, k'⟩ := p
    obtain ⟨hu, hk1, hk2⟩ := unhide Hlt u k' rfl
    clear Hlt
    show Calls Tryd.prog 40 #[.pointer (some ⟨b, 0, none⟩)] W fun e W' => TxtA W b s k st e W' (if s.size - k' < u then .inr 20 else .inl (s.extract k' (k' + u), k' + u))
    have e1 : IntKind.u64.wrap (wrap64 (u : Int)) = (u : Int) := by rw [wrapu_eq, wrap64_eq]; omega
    have e2 : IntKind.u64.wrap ((s.size : Int) - (k' : Int)) = (s.size : Int) - (k' : Int) := by rw [wrapu_eq]; omega
    by_cases hc : s.size - k' < u
    · rw [if_pos hc]
      have d1 : decide ((s.size : Int) - (k' : Int) < (u : Int)) = true := by simp; omega
      have hUb : ∀ (w1 : World) (n : Nat) (z : Value), Upd W b (.cells #[.string s, .int .i64 (k' : Int), .bool st] 70 (0, 0)) w1 → Upd W b (.cells #[.string s, z, .bool st] 70 (0, 0)) ((w1.drewN n).setCell ⟨b, 1, none⟩ z) := fun w1 n z hU => ⟨hU.os, hU.tape, hU.output, by rw [World.size_setCell]; exact hU.size, heap_setCell_same (w1.drewN n) b 1 _ _ z hU.at', fun q hq hn => (heap_setCell_other (w1.drewN n) ⟨b, 1, none⟩ q z hn).trans (hU.far q hq hn)⟩
      have HUb := hide hUb
      clear hUb hc
      go_enter Tryd.func40, Tryd.ntmps40
      go_wp2_with fail
      refine (unhide Hv).mono ?_
      intro e w1 hq
      clear Hv
      obtain ⟨rfl, hU⟩ := hq
      obtain ⟨d0, d2, d3, g0, g1, g2⟩ := cells3_of hU.at'
      have HU := hide hU
      clear hU c0 c1 c2 f0 f1 f2 Hh
      generalize wrap64 (u : Int) = wu at *
      go_wp2
      go_quiet (fail)
      go_wp2
      go_ret2
      exact ⟨rfl, by decide, unhide HUb _ _ _ (unhide HU)⟩
    · rw [if_neg hc]
      have hu2 : wrap64 (u : Int) = (u : Int) := by rw [wrap64_eq]; omega
      have d1 : decide ((s.size : Int) - (k' : Int) < (u : Int)) = false := by simp; omega
      have hUb : ∀ (w1 : World) (n : Nat) (z : Value), Upd W b (.cells #[.string s, .int .i64 (k' : Int), .bool st] 70 (0, 0)) w1 → Upd W b (.cells #[.string s, z, .bool st] 70 (0, 0)) ((w1.drewN n).setCell ⟨b, 1, none⟩ z) := fun w1 n z hU => ⟨hU.os, hU.tape, hU.output, by rw [World.size_setCell]; exact hU.size, heap_setCell_same (w1.drewN n) b 1 _ _ z hU.at', fun q hq hn => (heap_setCell_other (w1.drewN n) ⟨b, 1, none⟩ q z hn).trans (hU.far q hq hn)⟩
      have HUb := hide hUb
      have hb : k' + u ≤ s.size := by omega
      rw [hu2] at e1
      have Hu2 := hide hu2
      clear hUb hc hu2
      go_enter Tryd.func40, Tryd.ntmps40
      go_wp2_with fail
      refine (unhide Hv).mono ?_
      intro e w1 hq
      clear Hv
      obtain ⟨he, hU⟩ := hq
      rw [unhide Hu2] at he
      subst he
      obtain ⟨d0, d2, d3, g0, g1, g2⟩ := cells3_of hU.at'
      have HU := hide hU
      clear hU c0 c1 c2 f0 f1 f2 Hh
      go_wp2
      go_quiet (fail)
      go_wp2
      go_quiet (fail)
      go_wp2
      go_ret2
      exact ⟨rfl, unhide HUb _ _ _ (unhide HU)⟩
end Go.Proofs.YtgbadnbhgpnppaaDoor
