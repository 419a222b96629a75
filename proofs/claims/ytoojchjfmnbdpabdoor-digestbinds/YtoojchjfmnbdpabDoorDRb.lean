import Derived.Test.YtoojchjfmnbdpabDoorDSJ
import Derived.Test.YtoojchjfmnbdpabDoorDRa
namespace Go.Proofs.YtoojchjfmnbdpabDoor
open Go.RowKit
attribute [local go_sem ↓] Go.wp_at_zero Go.wp_at_succ

theorem own_bytes {W : World} {base n : Nat} {v : Value} {l : List Nat} {x : Nat} {z : Int} (hz : z = (x : Int)) (hn : n = l.length) (h : W.ownsRow base 5 1 v (n + 1) (nb l ++ [.int .u8 z])) : Bytes base W v (l ++ [x]) := by
  subst hz hn
  unfold Bytes
  rw [nb_append, List.length_append]
  exact h
theorem Bytes.shp {base : Nat} {W : World} {v : Value} {l : List Nat} (h : Bytes base W v l) : ∃ a c, v = .slice a l.length c := by
  obtain ⟨a, c, rfl, _⟩ := h.has
  exact ⟨_, _, rfl⟩
/-- What stands behind the bytes, so far. -/
theorem pad_zero {n j : Nat} (h : j ≤ zeros n) : (n + 1 + j) % 64 = 56 ↔ j = zeros n := by
  unfold zeros at *
  omega
set_option maxRecDepth 100000 in
set_option maxHeartbeats 2000000 in
theorem xpadded_any {W : World} {v : Value} {l : List Nat} (h : HasB W v l) (hl : Byt l) (hn : l.length ≤ 140737488351300) :
    Calls Tryd.prog 40 #[v] W fun e W' => ∃ v', e = .returned v' ∧ Bytes W.heap.size W' v' (l ++ padding l.length) ∧ Below W.heap.size W W' := by
  obtain ⟨i0, hi, hz0, hz1, hz2⟩ := info_parts Tryd.infoByte
  obtain ⟨a, c, rfl, hm, h3⟩ := h
  have H3 := hide h3
  have hzl := zeros_lt l.length
  have H0 : Hid (Bytes W.heap.size W (.slice none 0 0) (l.take 0)) := bytes_nil _ _
  have HB0 : Hid (Below W.heap.size W W) := Below.refl _ _
  clear h3 hm
  go_enter Tryd.func40, Tryd.ntmps40
  go_wp2
  go_loopg [3, 4] l.length (fun gk v3 v4 wr => ∃ (i : Nat), v4 = .int .i64 (i : Int) ∧ gk = l.length - i ∧ i ≤ l.length ∧ Hid (Bytes W.heap.size wr v3 (l.take i)) ∧ Hid (Below W.heap.size W wr))
  case atStart => exact ⟨0, rfl, rfl, by omega, H0, HB0⟩
  case round =>
    obtain ⟨i, rfl, hgk, hk, HY, HB⟩ := hrel
    have Hgk := hide hgk
    clear hgk H0 HB0
    have hsz := (unhide HB).size
    by_cases hlt : i < l.length
    · obtain ⟨g, off, rfl, hg, hc⟩ := unhide H3 (by omega)
      obtain ⟨x, hx⟩ : ∃ x, l[i]? = some x := ⟨_, List.getElem?_eq_getElem hlt⟩
      have hxb := hl.at hx
      have hcell := ((unhide HB).cell (p := ⟨g, off + i, none⟩) hg).trans (hc i x hx)
      have htl : (l.take i).length = i := by rw [List.length_take]; omega
      have Hnx : Hid (l.take (i + 1) = l.take i ++ [x]) := by show _ = _; rw [List.take_add_one, hx]; rfl
      have O1 : Hid ((l.take i).length + 1 ≤ maxLen) := by show _ ≤ _; unfold maxLen; omega
      have O2 : Hid (((l.take i).length + 1) * 1 ≤ 140737488355328) := by show _ ≤ _; omega
      have Htl := hide htl
      clear hc hx htl
      go_wp2_with (at_builtin; refine wpList_append_own_at _ rfl _ _ 28 rfl W.heap.size 5 i0 (.int .u8 0) 1 1 Tryd.underlying28 hi hz0 hz1 hz2 rfl (by decide) _ _ _ rfl ((unhide HY).alloc _) ⟨wr.heap.size, 0, none⟩ 1 1 [.int .u8 (x : Int)] rfl rfl (cell_one_new _ _ _) (by simp [Value.oneCell']) (unhide O1) (unhide O2) (by rw [World.size_alloc]; omega) ?_; intro v4 w4 hown4 hgrow4 hdrop4 hat4; clear hdrop4; have Hown := hide hown4; have Hb4 : Hid (Below W.heap.size W w4) := below_grow0 (unhide HB) (unhide HB).size hgrow4 (fun b hb => ((unhide HY).lt b hb).1); clear hown4 hgrow4 hat4)
      go_roundg (l.length - (i + 1))
      case measure => have := unhide Hgk; omega
      case rel =>
        refine ⟨i + 1, by go_num, rfl, by omega, ?_, Hb4⟩
        show Bytes _ _ _ _
        rw [unhide Hnx]
        exact own_bytes rfl rfl (unhide Hown)
    · obtain rfl : i = l.length := by omega
      have hY := unhide HY
      rw [List.take_length] at hY
      have HY1 := hide hY
      have O1 : Hid (l.length + 1 ≤ maxLen) := by show _ ≤ _; unfold maxLen; omega
      have O2 : Hid ((l.length + 1) * 1 ≤ 140737488355328) := by show _ ≤ _; omega
      clear hY HY
      go_wp2_with (at_builtin; refine wpList_append_own_at _ rfl _ _ 28 rfl W.heap.size 5 i0 (.int .u8 0) 1 1 Tryd.underlying28 hi hz0 hz1 hz2 rfl (by decide) _ _ _ rfl ((unhide HY1).alloc _) ⟨wr.heap.size, 0, none⟩ 1 1 [.int .u8 128] rfl rfl (cell_one_new _ _ _) (by simp [Value.oneCell']) (unhide O1) (unhide O2) (by rw [World.size_alloc]; omega) ?_; intro v4 w4 hown4 hgrow4 hdrop4 hat4; clear hdrop4; have Hown := hide hown4; have Hb4 : Hid (Below W.heap.size W w4) := below_grow0 (unhide HB) (unhide HB).size hgrow4 (fun b hb => ((unhide HY1).lt b hb).1); clear hown4 hgrow4 hat4)
      have hY2 : Bytes W.heap.size w4 v4 ((l ++ [128]) ++ List.replicate 0 0) := by rw [List.replicate_zero, List.append_nil]; exact own_bytes (x := 128) rfl rfl (unhide Hown)
      have HY2 := hide hY2
      clear hY2 Hown O1 O2 HY1 hlt hk Hgk
      obtain ⟨n, hnl⟩ : ∃ n, n = l.length := ⟨_, rfl⟩
      have Hnl := hide hnl
      go_loopg [3] (zeros l.length) (fun gk v3 wr2 => ∃ (k : Nat), gk = zeros l.length - k ∧ k ≤ zeros l.length ∧ Hid (Bytes W.heap.size wr2 v3 ((l ++ [128]) ++ List.replicate k 0)) ∧ Hid (Below W.heap.size W wr2))
      case atStart => exact ⟨0, rfl, by omega, HY2, Hb4⟩
      case round =>
        clear HY2 Hb4 HB hsz
        obtain ⟨k, hgk, hk, HY, HB⟩ := hrel
        have Hgk := hide hgk
        have hsz := (unhide HB).size
        have hlen : ((l ++ [128]) ++ List.replicate k 0).length = l.length + 1 + k := by simp only [List.length_append, List.length_singleton, List.length_replicate]
        obtain ⟨va, vc, hv3⟩ := (unhide HY).shp
        rw [hlen] at hv3
        subst hv3
        obtain ⟨N, hN⟩ : ∃ N, N = l.length + 1 + k := ⟨_, rfl⟩
        obtain ⟨r, hr⟩ : ∃ r : Nat, r = N % 64 := ⟨_, rfl⟩
        have htm : (N : Int).tmod 64 = (r : Int) := by rw [Int.tmod_eq_emod_of_nonneg (by omega)]; omega
        have O1 : Hid (((l ++ [128]) ++ List.replicate k 0).length + 1 ≤ maxLen) := by show _ ≤ _; rw [hlen]; unfold maxLen; omega
        have O2 : Hid ((((l ++ [128]) ++ List.replicate k 0).length + 1) * 1 ≤ 140737488355328) := by show _ ≤ _; rw [hlen]; omega
        rw [← hN] at HY ⊢
        have HN := hide hN
        clear hgk
        by_cases hlt : k < zeros l.length
        · have hne : ((r : Int) != 56) = true := by
            have h56 : r ≠ 56 := fun q => by have := (pad_zero (n := l.length) (j := k) (by omega)).1 (by omega); omega
            simp; omega
          have Hlen := hide hlen
          clear hr hlen hN hnl
          go_wp2_with (at_builtin; refine wpList_append_own_at _ rfl _ _ 28 rfl W.heap.size 5 i0 (.int .u8 0) 1 1 Tryd.underlying28 hi hz0 hz1 hz2 rfl (by decide) _ _ _ rfl ((unhide HY).alloc _) ⟨wr.heap.size, 0, none⟩ 1 1 [.int .u8 0] rfl rfl (cell_one_new _ _ _) (by simp [Value.oneCell']) (unhide O1) (unhide O2) (by rw [World.size_alloc]; omega) ?_; intro v4 w4 hown4 hgrow4 hdrop4 hat4; clear hdrop4; have Hown := hide hown4; have Hb4 : Hid (Below W.heap.size W w4) := below_grow0 (unhide HB) (unhide HB).size hgrow4 (fun b hb => ((unhide HY).lt b hb).1); clear hown4 hgrow4 hat4)
          go_roundg (zeros l.length - (k + 1))
          case measure => have := unhide Hgk; omega
          case rel =>
            refine ⟨k + 1, rfl, by omega, ?_, Hb4⟩
            show Bytes _ _ _ _
            rw [List.replicate_succ', ← List.append_assoc]
            exact own_bytes (x := 0) rfl rfl (unhide Hown)
        · obtain rfl : k = zeros l.length := by omega
          have hne : ((r : Int) != 56) = false := by
            have := (pad_zero (n := l.length) (j := zeros l.length) (by omega)).2 rfl
            simp; omega
          obtain ⟨z, hz⟩ : ∃ z, z = zeros l.length := ⟨_, rfl⟩
          have Hz := hide hz
          have hY3 : Bytes W.heap.size wr (.slice va N vc) (((l ++ [128]) ++ List.replicate z 0) ++ (be8 (8 * l.length)).take 0) := by rw [List.take_zero, List.append_nil, hz]; exact unhide HY
          have HY3 := hide hY3
          have hz64 : z < 64 := by omega
          clear hr hlen hN hnl hY3 HY O1 O2 hlt hk Hgk hz hzl
          go_wp2
          go_loopg [3, 5] 8 (fun gk v3 v5 wr3 => ∃ (q : Nat), v5 = .int .i64 ((q : Int) - 1) ∧ gk = q ∧ q ≤ 8 ∧ Hid (Bytes W.heap.size wr3 v3 (((l ++ [128]) ++ List.replicate z 0) ++ (be8 (8 * l.length)).take (8 - q))) ∧ Hid (Below W.heap.size W wr3))
          case atStart => exact ⟨8, rfl, rfl, by omega, HY3, HB⟩
          case round =>
            clear HY3 HB hsz
            obtain ⟨q, rfl, hgk, hq, HY, HB⟩ := hrel
            obtain rfl : q = gk := hgk.symm
            clear hgk
            have hsz := (unhide HB).size
            by_cases hlt : 0 < q
            · obtain ⟨m, rfl⟩ : ∃ m, q = m + 1 := ⟨q - 1, by omega⟩
              have e1 : ((m + 1 : Nat) : Int) - 1 = (m : Int) := by omega
              rw [e1]
              obtain ⟨sf, hsf⟩ : ∃ sf : Nat, sf = 8 * m := ⟨_, rfl⟩
              have hsfi : 8 * (m : Int) = (sf : Int) := by omega
              have hat := be8_at (8 * l.length) (8 - (m + 1)) (by omega)
              rw [show 56 - 8 * (8 - (m + 1)) = sf by omega] at hat
              obtain ⟨y, hy⟩ : ∃ y : Nat, y = 8 * l.length / 2 ^ sf % 256 := ⟨_, rfl⟩
              rw [← hy] at hat
              have hval : 8 * (l.length : Int) / (2 : Int) ^ sf % 256 = (y : Int) := by rw [hy]; exact shr_cast l.length sf
              have Hnx : Hid ((be8 (8 * l.length)).take (8 - m) = (be8 (8 * l.length)).take (8 - (m + 1)) ++ [y]) := by show _ = _; rw [show 8 - m = (8 - (m + 1)) + 1 by omega, List.take_add_one, hat]; rfl
              have hs56 : sf ≤ 56 := by omega
              have hl1 : (((l ++ [128]) ++ List.replicate z 0) ++ (be8 (8 * l.length)).take (8 - (m + 1))).length ≤ l.length + 1 + z + 8 := by simp only [List.length_append, List.length_take, List.length_replicate, List.length_singleton]; omega
              have O1 : Hid ((((l ++ [128]) ++ List.replicate z 0) ++ (be8 (8 * l.length)).take (8 - (m + 1))).length + 1 ≤ maxLen) := by show _ ≤ _; unfold maxLen; omega
              have O2 : Hid (((((l ++ [128]) ++ List.replicate z 0) ++ (be8 (8 * l.length)).take (8 - (m + 1))).length + 1) * 1 ≤ 140737488355328) := by show _ ≤ _; omega
              have m0 : (0 : Int) ≤ (m : Int) := Int.natCast_nonneg _
              have Hval := hide hval
              clear hat hy hl1 hsf e1 hval
              go_wp2_with (at_builtin; refine wpList_append_own_at _ rfl _ _ 28 rfl W.heap.size 5 i0 (.int .u8 0) 1 1 Tryd.underlying28 hi hz0 hz1 hz2 rfl (by decide) _ _ _ rfl ((unhide HY).alloc _) ⟨wr.heap.size, 0, none⟩ 1 1 [.int .u8 (8 * (l.length : Int) / 2 ^ sf % 256)] rfl rfl (cell_one_new _ _ _) (by simp [Value.oneCell']) (unhide O1) (unhide O2) (by rw [World.size_alloc]; omega) ?_; intro v4 w4 hown4 hgrow4 hdrop4 hat4; clear hdrop4; have Hown := hide hown4; have Hb4 : Hid (Below W.heap.size W w4) := below_grow0 (unhide HB) (unhide HB).size hgrow4 (fun b hb => ((unhide HY).lt b hb).1); clear hown4 hgrow4 hat4)
              go_roundg m
              case measure => omega
              case rel =>
                refine ⟨m, by go_num, rfl, by omega, ?_, Hb4⟩
                show Bytes _ _ _ _
                rw [unhide Hnx, ← List.append_assoc]
                exact own_bytes (unhide Hval) rfl (unhide Hown)
            · obtain rfl : q = 0 := by omega
              have hY := unhide HY
              rw [List.take_of_length_le (by rw [be8_len]; omega)] at hY
              have hb : Bytes W.heap.size wr u3 (l ++ padding l.length) := by
                unfold padding
                rw [← unhide Hz]
                simpa [List.append_assoc] using hY
              have Hh := hide hb
              have e0 : ((0 : Nat) : Int) - 1 = -1 := rfl
              rw [e0]
              clear hb hY HY
              go_wp2
              go_ret
              exact ⟨_, rfl, unhide Hh, unhide HB⟩
end Go.Proofs.YtoojchjfmnbdpabDoor
