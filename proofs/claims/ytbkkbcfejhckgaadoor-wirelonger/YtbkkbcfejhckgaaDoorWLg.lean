import Derived.Test.YtbkkbcfejhckgaaDoorWLf
import Derived.Test.YtbkkbcfejhckgaaDoorWLb
namespace Go.Proofs.YtbkkbcfejhckgaaDoor
open Go.RowKit
attribute [local go_sem ↓] Go.wp_at_zero Go.wp_at_succ

def withinF (v lo hi : Int) : Int := lo + v % (hi - lo + 1)
set_option maxRecDepth 100000 in
theorem within_any (W : World) (v lo hi : Int) (hv : -9223372036854775808 ≤ v ∧ v ≤ 9223372036854775807) (h : (lo = 1 ∧ hi = 536870911) ∨ (lo = 0 ∧ hi = 9)) :
    Calls Tryd.prog 4 #[.int .i64 v, .int .i64 lo, .int .i64 hi] W fun e w => e = .returned (.int .i64 (withinF v lo hi)) ∧ w = W := by
  obtain ⟨hv1, hv2⟩ := hv
  have htm : ∀ n : Int, 0 < n → (-n < v.tmod n ∧ v.tmod n < n ∧ ((0 ≤ v.tmod n ∧ v % n = v.tmod n) ∨ (v.tmod n < 0 ∧ v % n = v.tmod n + n))) := fun n hn => by
    rcases Int.le_total 0 v with h | h
    · have h2 : v.tmod n = v % n := Int.tmod_eq_emod_of_nonneg h
      have h3 := Int.emod_nonneg v (by omega : n ≠ 0)
      have h4 := Int.emod_lt_of_pos v hn
      exact ⟨by omega, by omega, .inl ⟨by omega, by omega⟩⟩
    · have h2 : (-v).tmod n = (-v) % n := Int.tmod_eq_emod_of_nonneg (by omega)
      rw [Int.neg_tmod] at h2
      have h3 := Int.emod_nonneg (-v) (by omega : n ≠ 0)
      have h4 := Int.emod_lt_of_pos (-v) hn
      have h5 := Int.emod_nonneg v (by omega : n ≠ 0)
      have h6 := Int.emod_lt_of_pos v hn
      have h7 : (n ∣ v + (-v) % n) := ⟨-((-v) / n), by have := Int.mul_ediv_add_emod (-v) n; rw [Int.mul_neg]; omega⟩
      by_cases h0 : (-v) % n = 0
      · have h8 : v % n = 0 := by
          have := Int.emod_emod_of_dvd v h7
          rw [h0, Int.add_zero] at h7
          exact Int.emod_eq_zero_of_dvd h7
        exact ⟨by omega, by omega, .inl ⟨by omega, by omega⟩⟩
      · have h8 : v % n = n - (-v) % n := by
          have e1 : v = (n - (-v) % n) + n * (-((-v) / n) - 1) := by
            have := Int.mul_ediv_add_emod (-v) n
            rw [Int.mul_sub, Int.mul_neg, Int.mul_one]
            omega
          rw [e1, Int.add_mul_emod_self_left]
          rw [← e1]
          exact Int.emod_eq_of_lt (by omega) (by omega)
        exact ⟨by omega, by omega, .inr ⟨by omega, by omega⟩⟩
  unfold withinF
  rcases h with ⟨rfl, rfl⟩ | ⟨rfl, rfl⟩
  · obtain ⟨b1, b2, b3⟩ := htm 536870911 (by decide)
    have hsh : (536870911 : Int) - 1 + 1 = 536870911 := by decide
    rw [hsh]
    clear htm
    obtain ⟨r, hr⟩ : ∃ r, v.tmod 536870911 = r := ⟨_, rfl⟩
    rw [hr] at b1 b2 b3
    rcases b3 with ⟨b3, b4⟩ | ⟨b3, b4⟩
    · have q1 : decide (r < 0) = false := by simp; omega
      rw [b4]
      clear b4
      go_enter Tryd.func4, Tryd.ntmps4
      go_wp2
      go_ret
      exact ⟨rfl, rfl⟩
    · have q1 : decide (r < 0) = true := by simp; omega
      rw [b4]
      clear b4
      go_enter Tryd.func4, Tryd.ntmps4
      go_wp2
      go_ret
      exact ⟨rfl, rfl⟩
  · obtain ⟨b1, b2, b3⟩ := htm 10 (by decide)
    have hsh : (9 : Int) - 0 + 1 = 10 := by decide
    rw [hsh]
    clear htm
    obtain ⟨r, hr⟩ : ∃ r, v.tmod 10 = r := ⟨_, rfl⟩
    rw [hr] at b1 b2 b3
    rcases b3 with ⟨b3, b4⟩ | ⟨b3, b4⟩
    · have q1 : decide (r < 0) = false := by simp; omega
      rw [b4]
      clear b4
      go_enter Tryd.func4, Tryd.ntmps4
      go_wp2
      go_ret
      exact ⟨by simp, rfl⟩
    · have q1 : decide (r < 0) = true := by simp; omega
      rw [b4]
      clear b4
      go_enter Tryd.func4, Tryd.ntmps4
      go_wp2
      go_ret
      exact ⟨by simp, rfl⟩
theorem or_128 {x : Nat} (h : x < 128) : bits BinOp.or IntKind.u8 (x : Int) 128 = ((x + 128 : Nat) : Int) := by
  have key : ∀ n : Fin 128, bits BinOp.or IntKind.u8 (n.val : Int) 128 = ((n.val + 128 : Nat) : Int) := by decide +kernel
  exact key ⟨x, h⟩
theorem byB_len (l : List Nat) : (byB l).length = l.length := by simp [byB]
theorem byB_set (l : List Nat) (i x : Nat) : (byB l).set i (x : Int) = byB (l.set i x) := by simp [byB, List.map_set]
theorem byB_app (a b : List Nat) : byB (a ++ b) = byB a ++ byB b := by simp [byB]
theorem bytes_at {base : Nat} {W : World} {v : Value} {l : List Int} (h : Bytes base W v l) (hp : 0 < l.length) : ∃ g c, v = .slice (some ⟨g, 0, none⟩) l.length c := by
  unfold Bytes at h
  obtain ⟨h1, ⟨q, h0⟩ | ⟨g', cap, cur, e, _⟩⟩ := h
  · omega
  · exact ⟨g', cap, e⟩
set_option maxRecDepth 100000 in
set_option maxHeartbeats 4000000 in
theorem long_any {W : World} {v : Value} {l : List Nat} {u m : Nat} (h : HasB W v (byB l)) (he : Enc l u) (hl : l.length ≤ 10) (hm : m ≤ 9) :
    Calls Tryd.prog 8 #[v, .int .i64 (m : Int)] W fun e W' => ∃ v', e = .returned v' ∧ Bytes W.heap.size W' v' (byB (longN m l)) ∧ Below W.heap.size W W' := by
  obtain ⟨i0, hi, hz0, hz1, hz2⟩ := info_parts Tryd.infoByte
  have ht := twin_any h (by rw [byB_len]; omega)
  obtain ⟨a, c, rfl, -⟩ := id h
  rw [byB_len] at ht ⊢
  have Ht := hide ht
  obtain ⟨L, hL⟩ : ∃ L, longN m l = L := ⟨_, rfl⟩
  rw [hL]
  have HL0 : Hid (longN (m - 0) l = L) := hL
  have He := hide he
  clear ht h hL he
  go_enter Tryd.func8, Tryd.ntmps8
  go_wp2_with fail
  refine (unhide Ht).mono ?_
  rintro e w1 ⟨rfl, hy, hb1⟩
  have Hy := hide hy
  have Hb1 := hide hb1
  clear hy hb1 Ht
  go_wp2
  go_loopg [5, 6] m (fun gk v5 v6 wr => ∃ (i : Nat) (l' : List Nat) (g vc : Nat), v5 = .slice (some ⟨g, 0, none⟩) l'.length vc ∧ v6 = .int .i64 (i : Int) ∧ gk = m - i ∧ i ≤ m ∧ l'.length ≤ 10 ∧ Hid (Enc l' u) ∧ Hid (Bytes W.heap.size wr (.slice (some ⟨g, 0, none⟩) l'.length vc) (byB l')) ∧ Hid (longN (m - i) l' = L) ∧ Hid (Below W.heap.size W wr))
  case atStart => exact ⟨0, l, _, _, rfl, rfl, rfl, by omega, hl, He, Hy, HL0, Hb1⟩
  case round =>
    obtain ⟨i, l', g, vc, rfl, rfl, hgk, him, hl', HE, HY, HL, HB⟩ := hrel
    have Hgk := hide hgk
    clear hgk HL0 He Hy Hb1
    by_cases h1 : i < m
    · have d1 : decide (i < m) = true := by simp; omega
      by_cases h2 : l'.length < 10
      · have d2 : decide ((l'.length : Int) < 10) = true := by simp; omega
        have hp := enc_pos (unhide HE)
        have hlast := enc_last (unhide HE)
        obtain ⟨x, hx⟩ : ∃ x, lastN l' = x := ⟨_, rfl⟩
        have hxa : (byB l')[l'.length - 1]? = some (x : Int) := by
          unfold byB
          rw [List.getElem?_map, ← hx]
          unfold lastN
          rw [List.getD_eq_getElem?_getD, List.getElem?_eq_getElem (by omega)]
          rfl
        obtain ⟨q1, q2, q3, q4⟩ := bytes_cell (unhide HY) hxa
        have ho0 := or_128 (x := x) (by omega)
        obtain ⟨y, hy⟩ : ∃ y, x + 128 = y := ⟨_, rfl⟩
        rw [hy] at ho0
        have hset := bytes_set (unhide HY) (l'.length - 1) (y : Int)
        rw [byB_set] at hset
        have hex : l'.set (l'.length - 1) y ++ [0] = ext l' := by unfold ext; rw [hx, hy]
        have hsl : (l'.set (l'.length - 1) y).length = l'.length := by simp
        obtain ⟨l2, hl2⟩ : ∃ l2, l'.set (l'.length - 1) y = l2 := ⟨_, rfl⟩
        rw [hl2] at hset hex hsl
        have z1 : (0 : Int) ≤ (l'.length : Int) - 1 := by omega
        have z2 : (l'.length : Int) - 1 < (l'.length : Int) := by omega
        have z3 : ((l'.length : Int) - 1).toNat = l'.length - 1 := by omega
        have HBs : Hid (Below W.heap.size W (wr.setCell ⟨g, l'.length - 1, none⟩ (.int .u8 (y : Int)))) := (unhide HB).setCell (p := ⟨g, l'.length - 1, none⟩) q3 _
        have hws : W.heap.size ≤ wr.heap.size := (unhide HB).size
        have hssz : (wr.setCell ⟨g, l'.length - 1, none⟩ (.int .u8 (y : Int))).heap.size = wr.heap.size := World.size_setCell _ _ _
        have O1 : Hid (l2.length + 1 ≤ maxLen) := by show _ ≤ _; unfold maxLen; omega
        have O2 : Hid ((l2.length + 1) * 1 ≤ 140737488355328) := by show _ ≤ _; omega
        have hset2 : (wr.setCell ⟨g, l'.length - 1, none⟩ (.int .u8 (y : Int))).ownsRow W.heap.size 5 1 (.slice (some ⟨g, 0, none⟩) l'.length vc) l2.length (ib (byB l2)) := by
          have := hset
          unfold Bytes at this
          rw [byB_len] at this
          exact this
        have Hset2 := hide hset2
        have HE2 : Hid (Enc (ext l') u) := enc_ext (unhide HE)
        have hel := ext_len l'
        have HL2 : Hid (longN (m - (i + 1)) (ext l') = L) := by
          have := unhide HL
          rw [show m - i = (m - (i + 1)) + 1 by omega, longN, if_pos h2] at this
          exact this
        have Hex := hide hex
        have Hssz := hide hssz
        have Hsl := hide hsl
        have Hel := hide hel
        clear hset hxa hlast hx hex hssz hset2 hl2 hy hsl hel HE HY HL
        go_wp2_with (at_builtin; refine wpList_append_own_at _ rfl _ _ 23 rfl W.heap.size 5 i0 (.int .u8 0) 1 1 Tryd.underlying23 hi hz0 hz1 hz2 rfl (by decide) _ _ _ rfl (World.ownsRow.alloc (unhide Hset2) _) ⟨wr.heap.size, 0, none⟩ 1 1 [.int .u8 0] rfl rfl (by first | exact cell_one_new _ _ _ | (intro j w hj; rw [← unhide Hssz]; exact cell_one_new _ _ _ j w hj)) (by simp [Value.oneCell']) (unhide O1) (unhide O2) (by rw [World.size_alloc, unhide Hssz]; omega) ?_; intro v4 w4 hown4 hgrow4 _ hat4; have Hown := hide hown4; have Hx4 : Hid (Ext (wr.setCell ⟨g, l'.length - 1, none⟩ (.int .u8 (y : Int))) (.slice (some ⟨g, 0, none⟩) l'.length vc) w4 v4) := Ext.grown hgrow4 hat4; clear hown4 hgrow4 hat4)
        have hby : Bytes W.heap.size w4 v4 (byB (ext l')) := by
          have := unhide Hown
          unfold Bytes
          rw [← unhide Hex, byB_app, List.length_append, byB_len]
          simpa [ib, byB] using this
        obtain ⟨g4, c4, rfl⟩ : ∃ g c, v4 = .slice (some ⟨g, 0, none⟩) (ext l').length c := by
          obtain ⟨g4, c4, e⟩ := bytes_at hby (by rw [byB_len, unhide Hel]; omega)
          rw [byB_len] at e
          exact ⟨g4, c4, e⟩
        have HB4 : Hid (Below W.heap.size W w4) := (unhide HBs).trans ((unhide Hx4).below (by rw [unhide Hssz]; exact hws) (fun b e => by injection e with e; rw [← e]; exact q3))
        have Hby := hide hby
        clear hby
        go_roundg (m - (i + 1))
        case measure => have := unhide Hgk; omega
        case rel => exact ⟨i + 1, ext l', g4, c4, rfl, by go_num, rfl, by omega, by rw [unhide Hel]; omega, HE2, Hby, HL2, HB4⟩
      · have d2 : decide ((l'.length : Int) < 10) = false := by simp; omega
        have hLe : longN (m - i) l' = l' := by rw [show m - i = (m - i - 1) + 1 by omega, longN, if_neg h2]
        have hr := unhide HL
        rw [hLe] at hr
        subst hr
        clear HL hLe
        go_wp2
        go_ret
        exact ⟨_, rfl, unhide HY, unhide HB⟩
    · have d1 : decide (i < m) = false := by simp; omega
      have hLe : longN (m - i) l' = l' := by rw [show m - i = 0 by omega, longN]
      have hr := unhide HL
      rw [hLe] at hr
      subst hr
      clear HL hLe
      go_wp2
      go_ret
      exact ⟨_, rfl, unhide HY, unhide HB⟩
end Go.Proofs.YtbkkbcfejhckgaaDoor
