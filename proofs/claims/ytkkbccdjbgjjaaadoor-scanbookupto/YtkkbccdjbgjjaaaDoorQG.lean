import Derived.Test.YtkkbccdjbgjjaaaDoorQEJ
import Derived.Test.YtkkbccdjbgjjaaaDoorSC1
import Derived.Test.YtkkbccdjbgjjaaaDoorSGJ

namespace Go.Proofs.YtkkbccdjbgjjaaaDoor
open Go.RowKit Go.Lib
attribute [local go_sem ↓] Go.wp_at_zero Go.wp_at_succ

theorem escL_drop {s : ByteArray} {k : Nat} : strN (s.extract k s.size) = (strN s).drop k := by
  rw [strN_extract, List.take_of_length_le]
  rw [List.length_drop, strN_len]
  omega
theorem pieceAt_drop {s : ByteArray} {k : Nat} (hk : k < s.size) : pieceAt (s.extract k s.size) 0 = pieceAt s k := by
  unfold pieceAt
  rw [byteAt_drop hk, escL_drop, List.drop_zero]
theorem cls_quote {c : Nat} : cls c = 4 ↔ c = 39 ∨ c = 34 := by
  unfold cls
  constructor
  · intro h
    repeat' split at h
    all_goals first | assumption | omega
  · intro h
    rw [if_neg (by omega), if_neg (by unfold isLet; omega), if_neg (by unfold isDig; omega), if_pos h]
/-- The bytes of a string, and the place behind it. -/
def UQ (W : World) (o : Option (List Nat × Nat)) (e : Ending) (w : World) : Prop := Below W.heap.size W w ∧ ((o = none ∧ e = .returned (.tuple #[.slice none 0 0, .int .i64 0])) ∨ ∃ (l : List Nat) (n : Nat) (v : Value), o = some (l, n) ∧ e = .returned (.tuple #[v, .int .i64 (n : Int)]) ∧ Bytes W.heap.size w v l)
theorem uqBad {W w : World} {o : Option (List Nat × Nat)} (hb : Below W.heap.size W w) (h : o = none) : UQ W o (.returned (.tuple #[.slice none 0 0, .int .i64 0])) w := ⟨hb, .inl ⟨h, rfl⟩⟩
theorem uqGood {W w : World} {o : Option (List Nat × Nat)} {l : List Nat} {n : Nat} {v : Value} (hb : Below W.heap.size W w) (h : o = some (l, n)) (hv : Bytes W.heap.size w v l) : UQ W o (.returned (.tuple #[v, .int .i64 (n : Int)])) w := ⟨hb, .inr ⟨l, n, v, h, rfl, hv⟩⟩
theorem unqL_none {s : ByteArray} (h0 : ¬ s.size = 0) (h : ¬ (byteAt s 0 = 39 ∨ byteAt s 0 = 34)) : unqL s = none := by unfold unqL; rw [if_neg h0, if_neg h]
theorem unqL_some {s : ByteArray} (h0 : ¬ s.size = 0) (h : byteAt s 0 = 39 ∨ byteAt s 0 = 34) : unqL s = uqAt s (byteAt s 0) 1 := by unfold unqL; rw [if_neg h0, if_pos h]
set_option maxRecDepth 100000 in
set_option maxHeartbeats 2000000 in
theorem unquote_any {W : World} (hE : HasE W) (s : ByteArray) (hs : s.size ≤ 65536) : Calls Tryd.prog 26 #[.string s] W (UQ W (unqL s)) := by
  obtain ⟨i0, hi, hz0, hz1, hz2⟩ := info_parts Tryd.infoByte
  have hb0 := Below.refl W.heap.size W
  by_cases h0 : s.size = 0
  · have Hn : Hid (unqL s = none) := by show _ = _; unfold unqL; rw [if_pos h0]
    obtain rfl := isEmptyT h0
    go_enter Tryd.func26, Tryd.ntmps26
    go_wp2
    go_ret2
    exact uqBad hb0 (unhide Hn)
  · have e0 := isEmptyF h0
    obtain ⟨q, hq, hq2, gq⟩ := strN_ex s 0 (by omega)
    have hbq : byteAt s 0 = q := (byteAt_eq s 0 (by omega)).trans gq
    have Hbq := hide hbq
    clear hq hbq
    by_cases hqt : q = 39 ∨ q = 34
    · have hL : unqL s = uqAt s q 1 := by rw [unqL_some h0 (by rw [unhide Hbq]; exact hqt), unhide Hbq]
      rw [hL]
      have hc : cls q = 4 := cls_quote.2 hqt
      have s1 : (1 : Int) ≤ (s.size : Int) := by omega
      clear hL hqt
      go_enter Tryd.func26, Tryd.ntmps26
      go_wp2_with fail
      refine (classOf_any W q hq2).mono ?_
      rintro e w' ⟨rfl, he⟩
      obtain rfl : W = w' := he.symm
      rw [hc]
      have Hy0 : Hid (Bytes W.heap.size W (.slice none 0 0) []) := bytes_nil _ _
      go_wp2
      go_loopg [4, 5, 6, 7] (s.size - 1) (fun gk v4 v5 _ _ wr => ∃ (k : Nat) (pre : List Nat) (va : Option Addr) (vn vc : Nat), v4 = .slice va vn vc ∧ v5 = .int .i64 (k : Int) ∧ gk = s.size - k ∧ 1 ≤ k ∧ k ≤ s.size ∧ pre.length ≤ k ∧ Hid (Bytes W.heap.size wr (.slice va vn vc) pre) ∧ Hid (uqAt s q 1 = (uqAt s q k).map fun r => (pre ++ r.1, r.2)) ∧ Hid (Below W.heap.size W wr))
      case atStart => exact ⟨1, [], _, _, _, rfl, rfl, rfl, Nat.le_refl _, by omega, by simp, Hy0, by show _ = _; simp, hb0⟩
      case round =>
        obtain ⟨k, pre, va, vn, vc, rfl, rfl, hgk, hk1, hk, hpl, HY, Hu, HB⟩ := hrel
        have Hgk := hide hgk
        clear hgk Hy0 hc
        by_cases hlt : k < s.size
        · obtain ⟨x, hx⟩ : ∃ x : Nat, s[k].toNat = x := ⟨_, rfl⟩
          have hbx : byteAt s k = x := (byteAt_eq s k hlt).trans hx
          have hx2 : x < 256 := by rw [← hbx]; exact byteAt_lt s k
          have k0 : (0 : Int) ≤ (k : Int) := Int.natCast_nonneg _
          have k1 : (k : Int) < (s.size : Int) := by omega
          have Hbx := hide hbx
          clear hbx
          by_cases hxq : x = q
          · have Hr : Hid (uqAt s q 1 = some (pre, k + 1)) := by
              show _ = _
              rw [unhide Hu, uq_quote hlt ((unhide Hbx).trans hxq)]
              simp
            have fq : ((x : Int) == (q : Int)) = true := by simp; omega
            clear Hu hxq
            go_wp2
            go_quiet (fail)
            go_wp2
            go_ret2
            exact uqGood (n := k + 1) (below_drewN (unhide HB) _) (unhide Hr) (unhide HY)
          · have fq : ((x : Int) == (q : Int)) = false := by simp; omega
            have hz := extract_size s k s.size (Nat.le_refl _)
            have hpd := pieceAt_drop hlt
            have Hpd := hide hpd
            have Hxq := hide hxq
            clear hpd hxq
            go_wp2
            go_quiet (fail)
            go_wp2_with fail
            refine (piece_any (W := wr.drewN nq) (hE.up (below_drewN (unhide HB) _)) (s.extract k s.size) (by omega) (by omega)).mono ?_
            rintro e w2 ⟨hb2, ⟨ho, rfl⟩ | ⟨b, n, ho, rfl⟩⟩
            · rw [unhide Hpd] at ho
              have Hr : Hid (uqAt s q 1 = none) := by
                show _ = _
                rw [unhide Hu, uq_bad hlt (by rw [unhide Hbx]; exact unhide Hxq) ho]
                rfl
              have HB2 : Hid (Below W.heap.size W w2) := (below_drewN (unhide HB) _).trans (hb2.mono (unhide HB).size)
              clear ho hb2 hz Hu
              go_wp2
              go_ret2
              exact uqBad (unhide HB2) (unhide Hr)
            · rw [unhide Hpd] at ho
              obtain ⟨p1, p2, p3⟩ := pieceAt_pos ho hlt
              have Hr : Hid (uqAt s q 1 = (uqAt s q (k + n)).map fun r => ((pre ++ [b]) ++ r.1, r.2)) := by
                show _ = _
                rw [unhide Hu, uq_step hlt (by rw [unhide Hbx]; exact unhide Hxq) ho, Option.map_map]
                congr 1
                funext r
                simp
              have HB2 : Hid (Below W.heap.size W w2) := (below_drewN (unhide HB) _).trans (hb2.mono (unhide HB).size)
              have HY2 : Hid (Bytes W.heap.size w2 (.slice va vn vc) pre) := ((unhide HY).up (Below.refl _ _)).up ((below_drewN (Below.refl _ wr) _).trans hb2)
              have hsz2 : W.heap.size ≤ w2.heap.size := (unhide HB2).size
              have n0 : ((n : Int) == 0) = false := by simp; omega
              have O1 : Hid (pre.length + 1 ≤ maxLen) := by show _ ≤ _; unfold maxLen; omega
              have O2 : Hid ((pre.length + 1) * 1 ≤ 140737488355328) := by show _ ≤ _; omega
              clear ho hb2 hz Hu HY HB
              go_wp2_with (at_builtin; refine wpList_append_own_at _ rfl _ _ 40 rfl W.heap.size 5 i0 (.int .u8 0) 1 1 Tryd.underlying40 hi hz0 hz1 hz2 rfl (by decide) _ _ _ rfl ((unhide HY2).alloc _) ⟨w2.heap.size, 0, none⟩ 1 1 [.int .u8 (b : Int)] rfl rfl (cells_lit _ _ _) (by simp [Value.oneCell']) (unhide O1) (unhide O2) (by rw [World.size_alloc]; omega) ?_; intro v4 w4 hown4 hgrow4 _ hat4; have HP : Hid (PutE W.heap.size w2 (.slice va vn vc) pre [b] (.returned v4) w4) := putE_lit (ys := [b]) hown4 rfl rfl hgrow4 hat4; clear hown4 hgrow4 hat4)
              obtain ⟨v5, hv5, hby, hext⟩ := unhide HP
              obtain rfl : v4 = v5 := by simpa using hv5
              obtain ⟨va', vn', vc', rfl⟩ := hby.shape
              have HB3 : Hid (Below W.heap.size W w4) := (unhide HB2).trans (hext.below hsz2 (unhide HY2).base_le)
              have HY3 := hide hby
              clear hby hext hv5 HP
              go_roundg (s.size - (k + n))
              case measure => have := unhide Hgk; omega
              case rel => exact ⟨k + n, pre ++ [b], _, _, _, rfl, by go_num, rfl, by omega, by omega, by simp only [List.length_append, List.length_singleton]; omega, HY3, Hr, HB3⟩
        · have Hr : Hid (uqAt s q 1 = none) := by
            show _ = _
            rw [unhide Hu, uq_end hlt]
            rfl
          obtain rfl : k = s.size := by omega
          clear Hu
          go_wp2
          go_ret2
          exact uqBad (unhide HB) (unhide Hr)
    · have Hn : Hid (unqL s = none) := unqL_none h0 (by rw [unhide Hbq]; exact hqt)
      have hc : ((cls q : Int) != 4) = true := by
        have := mt cls_quote.1 hqt
        simp; omega
      clear hqt
      go_enter Tryd.func26, Tryd.ntmps26
      go_wp2_with fail
      refine (classOf_any W q hq2).mono ?_
      rintro e w' ⟨rfl, he⟩
      obtain rfl : W = w' := he.symm
      go_wp2
      go_ret2
      exact uqBad hb0 (unhide Hn)
end Go.Proofs.YtkkbccdjbgjjaaaDoor
