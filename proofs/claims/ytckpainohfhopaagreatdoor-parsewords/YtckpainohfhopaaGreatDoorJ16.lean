import Derived.Test.YtckpainohfhopaaGreatDoorQX2
import Derived.Test.YtckpainohfhopaaGreatDoorJ09

namespace Go.Proofs.YtckpainohfhopaaGreatDoor
open Go.RowKit Go.Lib
attribute [local go_sem ↓] Go.wp_at_zero Go.wp_at_succ

theorem pieceAt_self {s : ByteArray} {k x : Nat} (hb : byteAt s k = x) (h0 : ¬ x = 0) (h1 : ¬ x = 10) (h2 : ¬ x = 92) : pieceAt s k = some (x, 1) := by
  unfold pieceAt
  rw [hb, if_neg (fun o => o.elim h0 h1), if_neg h2]
theorem pieceAt_bad {s : ByteArray} {k x : Nat} (hb : byteAt s k = x) (h : x = 0 ∨ x = 10) : pieceAt s k = none := by
  unfold pieceAt
  rw [hb, if_pos h]
theorem pieceAt_esc {s : ByteArray} {k : Nat} (hb : byteAt s k = 92) : pieceAt s k = escL ((strN s).drop k) := by
  unfold pieceAt
  rw [hb, if_neg (by decide), if_pos rfl]
theorem Bytes.drew {base : Nat} {W : World} {v : Value} {l : List Nat} (h : Bytes base W v l) (n : Nat) : Bytes base (W.drewN n) v l := h
set_option maxRecDepth 100000 in
set_option maxHeartbeats 4000000 in
theorem xquoted_any (W : World) (s : ByteArray) (at0 : Nat) (ha : at0 < s.size) (hs : s.size ≤ 65536) : Calls Tryz.prog 53 #[.string s, .int .i64 (at0 : Int)] W (UQ W (uqAt s (byteAt s at0) (at0 + 1))) := by
  obtain ⟨i0, hi, hz0, hz1, hz2⟩ := info_parts Tryz.infoByte
  have hb0 := Below.refl W.heap.size W
  obtain ⟨q, hq, hq2, gq⟩ := strN_ex s at0 ha
  have hbq : byteAt s at0 = q := (byteAt_eq s at0 ha).trans gq
  rw [hbq]
  have a0 : (0 : Int) ≤ (at0 : Int) := Int.natCast_nonneg _
  have a1 : (at0 : Int) < (s.size : Int) := by omega
  have Hy0 : Hid (Bytes W.heap.size W (.slice none 0 0) []) := bytes_nil _ _
  clear hq hbq
  go_enter Tryz.func53, Tryz.ntmps53
  go_wp2
  go_loopg [7, 8, 9, 10, 11] (s.size - (at0 + 1)) (fun gk v7 v8 _ _ _ wr => ∃ (k : Nat) (pre : List Nat) (va : Option Addr) (vn vc : Nat), v7 = .slice va vn vc ∧ v8 = .int .i64 (k : Int) ∧ gk = s.size - k ∧ k ≤ s.size ∧ pre.length ≤ k ∧ Hid (Bytes W.heap.size wr (.slice va vn vc) pre) ∧ Hid (uqAt s q (at0 + 1) = (uqAt s q k).map fun r => (pre ++ r.1, r.2)) ∧ Hid (Below W.heap.size W wr))
  case atStart => exact ⟨at0 + 1, [], _, _, _, rfl, by go_num, rfl, by omega, by simp, Hy0, by show _ = _; simp, hb0⟩
  case round =>
    obtain ⟨k, pre, va, vn, vc, rfl, rfl, hgk, hk, hpl, HY, Hu, HB⟩ := hrel
    have Hgk := hide hgk
    clear hgk Hy0 gq
    by_cases hlt : k < s.size
    · obtain ⟨x, hx⟩ : ∃ x : Nat, s[k].toNat = x := ⟨_, rfl⟩
      have hbx : byteAt s k = x := (byteAt_eq s k hlt).trans hx
      have hx2 : x < 256 := by rw [← hbx]; exact byteAt_lt s k
      have k0 : (0 : Int) ≤ (k : Int) := Int.natCast_nonneg _
      have k1 : (k : Int) < (s.size : Int) := by omega
      have Hbx := hide hbx
      have hsz2 : W.heap.size ≤ wr.heap.size := (unhide HB).size
      have O1 : Hid (pre.length + 1 ≤ maxLen) := by show _ ≤ _; unfold maxLen; omega
      have O2 : Hid ((pre.length + 1) * 1 ≤ 140737488355328) := by show _ ≤ _; omega
      clear hbx
      by_cases hxq : x = q
      · have Hr : Hid (uqAt s q (at0 + 1) = some (pre, k + 1)) := by
          show _ = _
          rw [unhide Hu, uq_quote hlt ((unhide Hbx).trans hxq)]
          simp
        have fq : ((x : Int) != (q : Int)) = false := by simp; omega
        have kn : decide (s.size ≤ k) = false := by simp; omega
        clear Hu hxq
        go_wp2
        go_ret2
        exact uqGood (n := k + 1) (unhide HB) (unhide Hr) (unhide HY)
      · have fq : ((x : Int) != (q : Int)) = true := by simp; omega
        have hne : ¬ byteAt s k = q := by rw [unhide Hbx]; exact hxq
        by_cases c0 : x = 0 ∨ x = 10
        · have Hr : Hid (uqAt s q (at0 + 1) = none) := by
            show _ = _
            rw [unhide Hu, uq_bad hlt hne (pieceAt_bad (unhide Hbx) c0)]
            rfl
          clear Hu hxq hne
          rcases c0 with c0 | c0
          · have f0 := eqTT (c := x) (k := 0) (by omega)
            clear c0
            go_wp2
            go_ret2
            exact uqBad (unhide HB) (unhide Hr)
          · have f0 := eqF (c := x) (k := 0) (by omega)
            have f1 := eqTT (c := x) (k := 10) (by omega)
            clear c0
            go_wp2
            go_ret2
            exact uqBad (unhide HB) (unhide Hr)
        · obtain ⟨c0, c1⟩ := not_or.1 c0
          have f0 := eqF (c := x) (k := 0) (by omega)
          have f1 := eqF (c := x) (k := 10) (by omega)
          by_cases c2 : x = 92
          · have f2 : ((x : Int) != 92) = false := by simp; omega
            have hpe := pieceAt_esc ((unhide Hbx).trans c2)
            have Hpe := hide hpe
            have Hne := hide hne
            clear hpe hne hxq c0 c1 c2
            go_wp2_with fail
            refine (xescape_any wr s k hlt hs).mono ?_
            rintro e w2 ⟨hb2, ⟨ho, rfl⟩ | ⟨b, n, ho, rfl⟩⟩
            · have Hr : Hid (uqAt s q (at0 + 1) = none) := by
                show _ = _
                rw [unhide Hu, uq_bad hlt (unhide Hne) ((unhide Hpe).trans ho)]
                rfl
              have HB2 : Hid (Below W.heap.size W w2) := (unhide HB).trans (hb2.mono (unhide HB).size)
              clear ho hb2 Hu
              go_wp2
              go_ret2
              exact uqBad (unhide HB2) (unhide Hr)
            · obtain ⟨p1, p2, p3⟩ := pieceAt_pos ((unhide Hpe).trans ho) hlt
              have Hr : Hid (uqAt s q (at0 + 1) = (uqAt s q (k + n)).map fun r => ((pre ++ [b]) ++ r.1, r.2)) := by
                show _ = _
                rw [unhide Hu, uq_step hlt (unhide Hne) ((unhide Hpe).trans ho), Option.map_map]
                congr 1
                funext r
                simp
              have HB2 : Hid (Below W.heap.size W w2) := (unhide HB).trans (hb2.mono (unhide HB).size)
              have HY2 : Hid (Bytes W.heap.size w2 (.slice va vn vc) pre) := (unhide HY).up hb2
              have hsz3 : W.heap.size ≤ w2.heap.size := (unhide HB2).size
              have n0 : ((n : Int) == 0) = false := by simp; omega
              clear ho hb2 Hu HY HB
              go_wp2_with (at_builtin; refine wpList_append_own_at _ rfl _ _ 94 rfl W.heap.size 5 i0 (.int .u8 0) 1 1 Tryz.underlying94 hi hz0 hz1 hz2 rfl (by decide) _ _ _ rfl ((unhide HY2).alloc _) ⟨w2.heap.size, 0, none⟩ 1 1 [.int .u8 (b : Int)] rfl rfl (cells_lit _ _ _) (by simp [Value.oneCell']) (unhide O1) (unhide O2) (by rw [World.size_alloc]; omega) ?_; intro v4 w4 hown4 hgrow4 _ hat4; have HP : Hid (PutE W.heap.size w2 (.slice va vn vc) pre [b] (.returned v4) w4) := putE_lit (ys := [b]) hown4 rfl rfl hgrow4 hat4; clear hown4 hgrow4 hat4)
              obtain ⟨v5, hv5, hby, hext⟩ := unhide HP
              obtain rfl : v4 = v5 := by simpa using hv5
              obtain ⟨va', vn', vc', rfl⟩ := hby.shape
              have HB3 : Hid (Below W.heap.size W w4) := (unhide HB2).trans (hext.below hsz3 (unhide HY2).base_le)
              have HY3 := hide hby
              clear hby hext hv5 HP
              go_roundg (s.size - (k + n))
              case measure => have := unhide Hgk; omega
              case rel => exact ⟨k + n, pre ++ [b], _, _, _, rfl, by go_num, rfl, by omega, by simp only [List.length_append, List.length_singleton]; omega, HY3, Hr, HB3⟩
          · have f2 : ((x : Int) != 92) = true := by simp; omega
            have Hr : Hid (uqAt s q (at0 + 1) = (uqAt s q (k + 1)).map fun r => ((pre ++ [x]) ++ r.1, r.2)) := by
              show _ = _
              rw [unhide Hu, uq_step hlt hne (pieceAt_self (unhide Hbx) c0 c1 c2), Option.map_map]
              congr 1
              funext r
              simp
            clear Hu hxq hne c0 c1 c2
            go_wp2_with (at_builtin; refine wpList_append_own_at _ rfl _ _ 94 rfl W.heap.size 5 i0 (.int .u8 0) 1 1 Tryz.underlying94 hi hz0 hz1 hz2 rfl (by decide) _ _ _ rfl ((unhide HY).alloc _) ⟨wr.heap.size, 0, none⟩ 1 1 [.int .u8 (x : Int)] rfl rfl (cells_lit _ _ _) (by simp [Value.oneCell']) (unhide O1) (unhide O2) (by rw [World.size_alloc]; omega) ?_; intro v4 w4 hown4 hgrow4 _ hat4; have HP : Hid (PutE W.heap.size wr (.slice va vn vc) pre [x] (.returned v4) w4) := putE_lit (ys := [x]) hown4 rfl rfl hgrow4 hat4; clear hown4 hgrow4 hat4)
            obtain ⟨v5, hv5, hby, hext⟩ := unhide HP
            obtain rfl : v4 = v5 := by simpa using hv5
            obtain ⟨va', vn', vc', rfl⟩ := hby.shape
            have HB3 : Hid (Below W.heap.size W w4) := (unhide HB).trans (hext.below hsz2 (unhide HY).base_le)
            have HY3 := hide hby
            clear hby hext hv5 HP
            go_roundg (s.size - (k + 1))
            case measure => have := unhide Hgk; omega
            case rel => exact ⟨k + 1, pre ++ [x], _, _, _, rfl, by go_num, rfl, by omega, by simp only [List.length_append, List.length_singleton]; omega, HY3, Hr, HB3⟩
    · have Hr : Hid (uqAt s q (at0 + 1) = none) := by
        show _ = _
        rw [unhide Hu, uq_end hlt]
        rfl
      obtain rfl : k = s.size := by omega
      clear Hu
      go_wp2
      go_ret2
      exact uqBad (unhide HB) (unhide Hr)
end Go.Proofs.YtckpainohfhopaaGreatDoor

namespace Go.Proofs.YtckpainohfhopaaGreatDoor
open Go.RowKit Go.Lib
attribute [local go_sem ↓] Go.wp_at_zero Go.wp_at_succ

set_option maxRecDepth 100000 in
set_option maxHeartbeats 1000000 in
theorem xutf8_any (W : World) (s : ByteArray) (hs : s.size ≤ 140737488351232) :
    Calls Tryz.prog 27 #[.string s] W fun e w => e = .returned (.int .i64 (utfAt s 0)) ∧ w = W := by
  go_enter Tryz.func27, Tryz.ntmps27
  go_wp2
  go_loopg [3, 4] s.size (fun gk v3 _ wr => ∃ (k : Nat), v3 = .int .i64 (k : Int) ∧ gk = s.size - k ∧ k ≤ s.size ∧ wr = W ∧ Hid (utfAt s 0 = utfAt s k))
  case atStart => exact ⟨0, rfl, rfl, by omega, rfl, rfl⟩
  case round =>
    obtain ⟨k, rfl, hgk, hk, rfl, Hu⟩ := hrel
    have Hgk := hide hgk
    clear hgk
    by_cases hlt : k < s.size
    · go_wp2_with fail
      refine (follow_any wr s k hlt hs).mono ?_
      rintro e w2 ⟨rfl, he⟩
      obtain rfl : wr = w2 := he.symm
      obtain ⟨q1, q2⟩ := chAt_le s k hk
      by_cases h0 : chAt s k = 0
      · have Hr : Hid (utfAt s 0 = (k : Int)) := (unhide Hu).trans (utf_bad hlt h0)
        rw [h0]
        clear h0 q1 q2
        go_wp2
        go_ret
        exact ⟨by rw [unhide Hr]; rfl, rfl⟩
      · have Hr : Hid (utfAt s 0 = utfAt s (k + chAt s k)) := (unhide Hu).trans (utf_step hlt h0)
        obtain ⟨n, hn⟩ : ∃ n, n = chAt s k := ⟨_, rfl⟩
        rw [← hn] at h0 q1 q2 Hr ⊢
        have n0 : ((n : Int) == 0) = false := by simp; omega
        clear hn
        go_wp2
        go_roundg (s.size - (k + n))
        case measure => have := unhide Hgk; omega
        case rel => exact ⟨k + n, by go_num, rfl, by omega, rfl, Hr⟩
    · have Hr : Hid (utfAt s 0 = -1) := (unhide Hu).trans (utf_end hlt)
      obtain rfl : k = s.size := by omega
      go_wp2
      go_ret
      exact ⟨by rw [unhide Hr]; rfl, rfl⟩
end Go.Proofs.YtckpainohfhopaaGreatDoor
