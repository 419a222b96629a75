import Derived.Test.YtpmdfgoajffmeaaIFind

namespace Go.Proofs.Ytpmdfgoajffmeaa
open Go.RowKit
attribute [local go_sem ↓] Go.wp_at_zero Go.wp_at_succ

/-- What 'place' answers. -/
def PlaceSays (W : World) (l : List Ent) (i : Int) (p : Option Addr) : Prop :=
  (p = none ∧ ¬ (0 ≤ i ∧ i < l.length)) ∨ ∃ b x, p = some ⟨b, 0, none⟩ ∧ b < W.heap.size ∧ W.cell? ⟨b, 0, none⟩ = some (.int .i64 x.1) ∧ W.cell? ⟨b, 1, none⟩ = some (.int .i64 x.2) ∧ 0 ≤ i ∧ l[i.toNat]? = some x

theorem at_mid {t pre l r post : List Ent} {x : Ent} {i : Int} (h : t = pre ++ (l ++ x :: r) ++ post) (hi : i = pre.length + l.length) : t[i.toNat]? = some x := by
  subst h hi
  have : ((pre.length : Int) + (l.length : Int)).toNat = (pre ++ l).length := by simp; omega
  rw [this, show pre ++ (l ++ x :: r) ++ post = (pre ++ l) ++ (x :: (r ++ post)) by simp]
  simp

set_option maxRecDepth 100000 in
set_option maxHeartbeats 2000000 in
theorem place_any (T : BT) (W : World) (p : Option Addr) (i : Int) (ht : IsT W.heap.size W p T) (hsz : (T.io.length : Int) ≤ 1152921504606846976) (hi0 : -9223372036854775808 ≤ i) (hi1 : i ≤ 9223372036854775807) :
    Calls Try.prog 32 #[.pointer p, .int .i64 i] W fun o W' => ∃ q, o = .returned (.pointer q) ∧ PlaceSays W T.io i q ∧ W' = W := by
  have Ht := hide ht
  clear ht
  go_enter Try.func32, Try.ntmps32
  go_wp2
  go_loopg [0, 1] T.height (fun n v u wr => wr = W ∧ ∃ q S j pre post, v = .pointer q ∧ u = .int .i64 j ∧ S.height = n ∧ IsT W.heap.size W q S ∧ T.io = pre ++ S.io ++ post ∧ j = i - (pre.length : Int) ∧ (j < (S.io.length : Int) ∨ post = []) ∧ (0 ≤ j ∨ i < 0) ∧ -9223372036854775808 ≤ j ∧ j ≤ 9223372036854775807)
  case atStart => exact ⟨rfl, p, T, i, [], [], rfl, rfl, rfl, unhide Ht, by simp, by simp, .inr rfl, by omega, hi0, hi1⟩
  case round =>
    obtain ⟨rfl, q, S, j, pre, post, rfl, rfl, hn, hS, hio, hj, hr1, hr2, hj0, hj1⟩ := hrel
    have hlen : (T.io.length : Int) = pre.length + S.io.length + post.length := by rw [hio]; simp; omega
    have Hio := hide hio
    have Hj := hide hj
    have hjj : j = i - (pre.length : Int) := hj
    clear hio hj
    cases S with
    | leaf =>
      obtain rfl : q = none := hS
      have Hf : Hid (¬ (0 ≤ i ∧ i < (T.io.length : Int))) := by
        show ¬ _
        simp only [BT.io, List.length_nil] at hr1 hlen
        rcases hr1 with h | rfl
        · omega
        · simp at hlen; omega
      clear hjj hr1 hr2 hlen
      go_wp2
      go_ret
      exact ⟨_, rfl, .inl ⟨rfl, unhide Hf⟩, rfl⟩
    | node l e r =>
      obtain ⟨b, pl, pr, rfl, hb, h0, h1, h2, h3, h4, hl, hr⟩ := hS
      have hh : l.height < gk ∧ r.height < gk := by rw [← hn]; simp only [BT.height]; omega
      rw [BT.io_len] at hr1 hlen
      clear hn h4
      have Hr1 := hide hr1
      have Hr2 := hide hr2
      have Hl := hide hlen
      have hlb : (l.io.length : Int) ≤ 1152921504606846976 := by omega
      clear hjj hr1 hr2 hlen
      by_cases hlt : j < (l.io.length : Int)
      · go_wp2_with (go_at_call 20; refine (count_any (T := l) hl).mono ?_; rintro o w' ⟨rfl, rfl⟩)
        go_roundg l.height
        case measure => exact hh.1
        case rel => exact ⟨rfl, pl, l, j, pre, e :: r.io ++ post, rfl, rfl, rfl, hl, by rw [unhide Hio]; simp [BT.io], unhide Hj, .inl hlt, unhide Hr2, hj0, hj1⟩
      · have hd1 : decide (j < (l.io.length : Int)) = false := decide_eq_false hlt
        by_cases hgt : (l.io.length : Int) < j
        · go_wp2_with (go_at_call 20; refine (count_any (T := l) hl).mono ?_; rintro o w' ⟨rfl, rfl⟩)
          go_roundg r.height
          case measure => exact hh.2
          case rel =>
            have hj' := unhide Hj
            have hr1' := unhide Hr1
            exact ⟨rfl, pr, r, j - l.io.length - 1, pre ++ (l.io ++ [e]), post, rfl, rfl, rfl, hr, by rw [unhide Hio]; simp [BT.io], by simp; omega, hr1'.elim (fun h => .inl (by omega)) .inr, by omega, by omega, by omega⟩
        · have hd2 : decide ((l.io.length : Int) < j) = false := decide_eq_false hgt
          have Heq : Hid (j = l.io.length) := by show j = _; omega
          clear hlt hgt
          go_wp2_with (go_at_call 20; refine (count_any (T := l) hl).mono ?_; rintro o w' ⟨rfl, rfl⟩)
          go_ret
          have hj' := unhide Hj
          have heq := unhide Heq
          exact ⟨_, rfl, .inr ⟨b, e, rfl, hb, h0, h1, by omega, at_mid (unhide Hio) (by omega)⟩, rfl⟩
end Go.Proofs.Ytpmdfgoajffmeaa
