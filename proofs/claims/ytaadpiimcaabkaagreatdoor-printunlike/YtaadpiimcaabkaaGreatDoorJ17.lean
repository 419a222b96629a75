import Derived.Test.YtaadpiimcaabkaaGreatDoorJ15
import Derived.Test.YtaadpiimcaabkaaGreatDoorJ07
import Derived.Test.YtaadpiimcaabkaaGreatDoorJ16
import Derived.Test.YtaadpiimcaabkaaGreatDoorJ12
import Derived.Test.YtaadpiimcaabkaaGreatDoorJ13
import Derived.Shelf.Strings.Search3
import Derived.Test.YtaadpiimcaabkaaGreatDoorChecked

namespace Go.Proofs.YtaadpiimcaabkaaGreatDoor
open Go.RowKit Go.Lib
attribute [local go_sem ↓] Go.wp_at_zero Go.wp_at_succ

theorem escL_drop {s : ByteArray} {k : Nat} : strN (s.extract k s.size) = (strN s).drop k := by
  rw [strN_extract, List.take_of_length_le]
  rw [List.length_drop, strN_len]
  omega
theorem pieceAt_drop {s : ByteArray} {k : Nat} (hk : k < s.size) : pieceAt (s.extract k s.size) 0 = pieceAt s k := by
  unfold pieceAt
  rw [byteAt_drop hk, escL_drop, List.drop_zero]
theorem cls_quote {c : Nat} : cls c = 4 ↔ c = 39 ∨ c = 34 := by
  unfold cls
  constructor
  · intro h
    repeat' split at h
    all_goals first | assumption | omega
  · intro h
    rw [if_neg (by omega), if_neg (by unfold isLet; omega), if_neg (by unfold isDig; omega), if_pos h]
/-- The bytes of a string, and the place behind it. -/
def UQ (W : World) (o : Option (List Nat × Nat)) (e : Ending) (w : World) : Prop := Below W.heap.size W w ∧ ((o = none ∧ e = .returned (.tuple #[.slice none 0 0, .int .i64 0])) ∨ ∃ (l : List Nat) (n : Nat) (v : Value), o = some (l, n) ∧ e = .returned (.tuple #[v, .int .i64 (n : Int)]) ∧ Bytes W.heap.size w v l)
theorem uqBad {W w : World} {o : Option (List Nat × Nat)} (hb : Below W.heap.size W w) (h : o = none) : UQ W o (.returned (.tuple #[.slice none 0 0, .int .i64 0])) w := ⟨hb, .inl ⟨h, rfl⟩⟩
theorem uqGood {W w : World} {o : Option (List Nat × Nat)} {l : List Nat} {n : Nat} {v : Value} (hb : Below W.heap.size W w) (h : o = some (l, n)) (hv : Bytes W.heap.size w v l) : UQ W o (.returned (.tuple #[v, .int .i64 (n : Int)])) w := ⟨hb, .inr ⟨l, n, v, h, rfl, hv⟩⟩
theorem unqL_none {s : ByteArray} (h0 : ¬ s.size = 0) (h : ¬ (byteAt s 0 = 39 ∨ byteAt s 0 = 34)) : unqL s = none := by unfold unqL; rw [if_neg h0, if_neg h]
theorem unqL_some {s : ByteArray} (h0 : ¬ s.size = 0) (h : byteAt s 0 = 39 ∨ byteAt s 0 = 34) : unqL s = uqAt s (byteAt s 0) 1 := by unfold unqL; rw [if_neg h0, if_pos h]
set_option maxRecDepth 100000 in
set_option maxHeartbeats 2000000 in
theorem unquote_any {W : World} (hE : HasE W) (s : ByteArray) (hs : s.size ≤ 65536) : Calls Tryz.prog 145 #[.string s] W (UQ W (unqL s)) := by
  obtain ⟨i0, hi, hz0, hz1, hz2⟩ := info_parts Tryz.infoByte
  have hb0 := Below.refl W.heap.size W
  by_cases h0 : s.size = 0
  · have Hn : Hid (unqL s = none) := by show _ = _; unfold unqL; rw [if_pos h0]
    obtain rfl := isEmptyT h0
    go_enter Tryz.func145, Tryz.ntmps145
    go_wp2
    go_ret2
    exact uqBad hb0 (unhide Hn)
  · have e0 := isEmptyF h0
    obtain ⟨q, hq, hq2, gq⟩ := strN_ex s 0 (by omega)
    have hbq : byteAt s 0 = q := (byteAt_eq s 0 (by omega)).trans gq
    have Hbq := hide hbq
    clear hq hbq
    by_cases hqt : q = 39 ∨ q = 34
    · have hL : unqL s = uqAt s q 1 := by rw [unqL_some h0 (by rw [unhide Hbq]; exact hqt), unhide Hbq]
      rw [hL]
      have hc : cls q = 4 := cls_quote.2 hqt
      have s1 : (1 : Int) ≤ (s.size : Int) := by omega
      clear hL hqt
      go_enter Tryz.func145, Tryz.ntmps145
      go_wp2_with fail
      refine (classOf_any W q hq2).mono ?_
      rintro e w' ⟨rfl, he⟩
      obtain rfl : W = w' := he.symm
      rw [hc]
      have Hy0 : Hid (Bytes W.heap.size W (.slice none 0 0) []) := bytes_nil _ _
      go_wp2
      go_loopg [4, 5, 6, 7] (s.size - 1) (fun gk v4 v5 _ _ wr => ∃ (k : Nat) (pre : List Nat) (va : Option Addr) (vn vc : Nat), v4 = .slice va vn vc ∧ v5 = .int .i64 (k : Int) ∧ gk = s.size - k ∧ 1 ≤ k ∧ k ≤ s.size ∧ pre.length ≤ k ∧ Hid (Bytes W.heap.size wr (.slice va vn vc) pre) ∧ Hid (uqAt s q 1 = (uqAt s q k).map fun r => (pre ++ r.1, r.2)) ∧ Hid (Below W.heap.size W wr))
      case atStart => exact ⟨1, [], _, _, _, rfl, rfl, rfl, Nat.le_refl _, by omega, by simp, Hy0, by show _ = _; simp, hb0⟩
      case round =>
        obtain ⟨k, pre, va, vn, vc, rfl, rfl, hgk, hk1, hk, hpl, HY, Hu, HB⟩ := hrel
        have Hgk := hide hgk
        clear hgk Hy0 hc
        by_cases hlt : k < s.size
        · obtain ⟨x, hx⟩ : ∃ x : Nat, s[k].toNat = x := ⟨_, rfl⟩
          have hbx : byteAt s k = x := (byteAt_eq s k hlt).trans hx
          have hx2 : x < 256 := by rw [← hbx]; exact byteAt_lt s k
          have k0 : (0 : Int) ≤ (k : Int) := Int.natCast_nonneg _
          have k1 : (k : Int) < (s.size : Int) := by omega
          have Hbx := hide hbx
          clear hbx
          by_cases hxq : x = q
          · have Hr : Hid (uqAt s q 1 = some (pre, k + 1)) := by
              show _ = _
              rw [unhide Hu, uq_quote hlt ((unhide Hbx).trans hxq)]
              simp
            have fq : ((x : Int) == (q : Int)) = true := by simp; omega
            clear Hu hxq
            go_wp2
            go_quiet (fail)
            go_wp2
            go_ret2
            exact uqGood (n := k + 1) (below_drewN (unhide HB) _) (unhide Hr) (unhide HY)
          · have fq : ((x : Int) == (q : Int)) = false := by simp; omega
            have hz := extract_size s k s.size (Nat.le_refl _)
            have hpd := pieceAt_drop hlt
            have Hpd := hide hpd
            have Hxq := hide hxq
            clear hpd hxq
            go_wp2
            go_quiet (fail)
            go_wp2_with fail
            refine (piece_any (W := wr.drewN nq) (hE.up (below_drewN (unhide HB) _)) (s.extract k s.size) (by omega) (by omega)).mono ?_
            rintro e w2 ⟨hb2, ⟨ho, rfl⟩ | ⟨b, n, ho, rfl⟩⟩
            · rw [unhide Hpd] at ho
              have Hr : Hid (uqAt s q 1 = none) := by
                show _ = _
                rw [unhide Hu, uq_bad hlt (by rw [unhide Hbx]; exact unhide Hxq) ho]
                rfl
              have HB2 : Hid (Below W.heap.size W w2) := (below_drewN (unhide HB) _).trans (hb2.mono (unhide HB).size)
              clear ho hb2 hz Hu
              go_wp2
              go_ret2
              exact uqBad (unhide HB2) (unhide Hr)
            · rw [unhide Hpd] at ho
              obtain ⟨p1, p2, p3⟩ := pieceAt_pos ho hlt
              have Hr : Hid (uqAt s q 1 = (uqAt s q (k + n)).map fun r => ((pre ++ [b]) ++ r.1, r.2)) := by
                show _ = _
                rw [unhide Hu, uq_step hlt (by rw [unhide Hbx]; exact unhide Hxq) ho, Option.map_map]
                congr 1
                funext r
                simp
              have HB2 : Hid (Below W.heap.size W w2) := (below_drewN (unhide HB) _).trans (hb2.mono (unhide HB).size)
              have HY2 : Hid (Bytes W.heap.size w2 (.slice va vn vc) pre) := ((unhide HY).up (Below.refl _ _)).up ((below_drewN (Below.refl _ wr) _).trans hb2)
              have hsz2 : W.heap.size ≤ w2.heap.size := (unhide HB2).size
              have n0 : ((n : Int) == 0) = false := by simp; omega
              have O1 : Hid (pre.length + 1 ≤ maxLen) := by show _ ≤ _; unfold maxLen; omega
              have O2 : Hid ((pre.length + 1) * 1 ≤ 140737488355328) := by show _ ≤ _; omega
              clear ho hb2 hz Hu HY HB
              go_wp2_with (at_builtin; refine wpList_append_own_at _ rfl _ _ 58 rfl W.heap.size 5 i0 (.int .u8 0) 1 1 Tryz.underlying58 hi hz0 hz1 hz2 rfl (by decide) _ _ _ rfl ((unhide HY2).alloc _) ⟨w2.heap.size, 0, none⟩ 1 1 [.int .u8 (b : Int)] rfl rfl (cells_lit _ _ _) (by simp [Value.oneCell']) (unhide O1) (unhide O2) (by rw [World.size_alloc]; omega) ?_; intro v4 w4 hown4 hgrow4 _ hat4; have HP : Hid (PutE W.heap.size w2 (.slice va vn vc) pre [b] (.returned v4) w4) := putE_lit (ys := [b]) hown4 rfl rfl hgrow4 hat4; clear hown4 hgrow4 hat4)
              obtain ⟨v5, hv5, hby, hext⟩ := unhide HP
              obtain rfl : v4 = v5 := by simpa using hv5
              obtain ⟨va', vn', vc', rfl⟩ := hby.shape
              have HB3 : Hid (Below W.heap.size W w4) := (unhide HB2).trans (hext.below hsz2 (unhide HY2).base_le)
              have HY3 := hide hby
              clear hby hext hv5 HP
              go_roundg (s.size - (k + n))
              case measure => have := unhide Hgk; omega
              case rel => exact ⟨k + n, pre ++ [b], _, _, _, rfl, by go_num, rfl, by omega, by omega, by simp only [List.length_append, List.length_singleton]; omega, HY3, Hr, HB3⟩
        · have Hr : Hid (uqAt s q 1 = none) := by
            show _ = _
            rw [unhide Hu, uq_end hlt]
            rfl
          obtain rfl : k = s.size := by omega
          clear Hu
          go_wp2
          go_ret2
          exact uqBad (unhide HB) (unhide Hr)
    · have Hn : Hid (unqL s = none) := unqL_none h0 (by rw [unhide Hbq]; exact hqt)
      have hc : ((cls q : Int) != 4) = true := by
        have := mt cls_quote.1 hqt
        simp; omega
      clear hqt
      go_enter Tryz.func145, Tryz.ntmps145
      go_wp2_with fail
      refine (classOf_any W q hq2).mono ?_
      rintro e w' ⟨rfl, he⟩
      obtain rfl : W = w' := he.symm
      go_wp2
      go_ret2
      exact uqBad hb0 (unhide Hn)
end Go.Proofs.YtaadpiimcaabkaaGreatDoor

namespace Go.Proofs.YtaadpiimcaabkaaGreatDoor
open Go.RowKit
attribute [local go_sem ↓] Go.wp_at_zero Go.wp_at_succ

theorem cls_cases (c : Nat) : (cls c = 1 ∧ isBlk c) ∨ (¬ isBlk c ∧ ((cls c = 2 ∧ isLet c) ∨ (¬ isLet c ∧ ((cls c = 3 ∧ isDig c) ∨ (¬ isDig c ∧ ((cls c = 4 ∧ (c = 39 ∨ c = 34)) ∨ (¬ (c = 39 ∨ c = 34) ∧ ((cls c = 5 ∧ isSgn c) ∨ (¬ isSgn c ∧ ((cls c = 6 ∧ c = 47) ∨ (cls c = 0 ∧ ¬ c = 47)))))))))))  := by
  unfold cls isBlk
  by_cases h1 : (9 ≤ c ∧ c ≤ 13) ∨ c = 32
  · exact .inl ⟨by rw [if_pos h1], h1⟩
  · refine .inr ⟨h1, ?_⟩
    rw [if_neg h1]
    by_cases h2 : isLet c
    · exact .inl ⟨by rw [if_pos h2], h2⟩
    · refine .inr ⟨h2, ?_⟩
      rw [if_neg h2]
      by_cases h3 : isDig c
      · exact .inl ⟨by rw [if_pos h3], h3⟩
      · refine .inr ⟨h3, ?_⟩
        rw [if_neg h3]
        by_cases h4 : c = 39 ∨ c = 34
        · exact .inl ⟨by rw [if_pos h4], h4⟩
        · refine .inr ⟨h4, ?_⟩
          rw [if_neg h4]
          by_cases h5 : isSgn c
          · exact .inl ⟨by rw [if_pos h5], h5⟩
          · refine .inr ⟨h5, ?_⟩
            rw [if_neg h5]
            by_cases h6 : c = 47
            · exact .inl ⟨by rw [if_pos h6], h6⟩
            · exact .inr ⟨by rw [if_neg h6], h6⟩
theorem takeB {W : World} {B b : Nat} {s : ByteArray} {k n c : Nat} {v : Value} {xs : List Value} (I : ScanIn W B b s k n v xs) (hp : passF s s.size k = (k, true)) (ho : (oneF s k).2.2 = c) (hc : c ≠ 0) (kind m c' : Int) (hc' : c' = (c : Int)) :
    Calls Tryz.prog 137 #[.pointer (some ⟨b, 0, none⟩), .int .i64 kind, .int .i64 m, .int .i64 c'] W (StepP B b s k n xs W) := by
  subst hc'
  exact take_badP I hp ho hc kind m
theorem takeO {W : World} {B b : Nat} {s : ByteArray} {k n m t : Nat} {v : Value} {xs : List Value} (I : ScanIn W B b s k n v xs) (hp : passF s s.size k = (k, true)) (ho : oneF s k = (t, k + m, 0)) (t' m' : Int) (ht : t' = (t : Int)) (hm : m' = (m : Int)) :
    Calls Tryz.prog 137 #[.pointer (some ⟨b, 0, none⟩), .int .i64 t', .int .i64 m', .int .i64 0] W (StepP B b s k n xs W) := by
  subst ht hm
  exact take_okP I hp ho
set_option maxRecDepth 100000 in
theorem stepP_none {W : World} {B b : Nat} {s : ByteArray} {k n : Nat} {v : Value} {xs : List Value} (I : ScanIn W B b s k n v xs) (hp : passF s s.size k = (k, true)) (ho : (oneF s k).2.2 = 40) :
    Calls Tryz.prog 136 #[.pointer (some ⟨b, 0, none⟩)] W (StepP B b s k n xs W) := by
  have H := hide (takeB I hp ho (by decide) 0 0 40 rfl)
  clear I hp ho
  go_enter Tryz.func136, Tryz.ntmps136
  go_wp2_with fail
  refine (unhide H).mono ?_
  intro e w hq
  obtain ⟨c, rfl⟩ := hq.ret
  have Hq := hide hq
  clear hq
  go_wp2
  go_ret
  exact unhide Hq
set_option maxRecDepth 100000 in
theorem stepP_sign {W : World} {B b : Nat} {s : ByteArray} {k n : Nat} {v : Value} {xs : List Value} (I : ScanIn W B b s k n v xs) (hp : passF s s.size k = (k, true)) (ho : oneF s k = (4, k + 1, 0)) :
    Calls Tryz.prog 146 #[.pointer (some ⟨b, 0, none⟩)] W (StepP B b s k n xs W) := by
  have H := hide (takeO I hp ho 4 1 rfl rfl)
  clear I hp ho
  go_enter Tryz.func146, Tryz.ntmps146
  go_wp2_with fail
  refine (unhide H).mono ?_
  intro e w hq
  obtain ⟨c, rfl⟩ := hq.ret
  have Hq := hide hq
  clear hq
  go_wp2
  go_ret
  exact unhide Hq
theorem stepP_blank {W : World} {B b : Nat} {s : ByteArray} {k n : Nat} {v : Value} {xs : List Value} (I : ScanIn W B b s k n v xs) (h : isBlk (byteAt s k)) :
    Calls Tryz.prog 138 #[.pointer (some ⟨b, 0, none⟩)] W (StepP B b s k n xs W) := by
  refine (step_blank I.sc I.more I.size).mono ?_
  rintro e w ⟨rfl, rfl⟩
  have hmore := I.more
  refine ⟨(BX.refl _ _ _).set _ _, .inl ⟨rfl, k + 1, [], v, I.sc.at _, ?_, by omega, by omega, I.room, ?_⟩⟩
  · show World.ownsRow _ B 107 3 v n (xs ++ [])
    rw [List.append_nil]
    obtain ⟨h1, ⟨rfl, h0⟩ | ⟨g, c, cur, rfl, h2, h3, h4⟩⟩ := I.row
    · exact ⟨h1, .inl ⟨rfl, h0⟩⟩
    · refine ⟨h1, .inr ⟨g, c, cur, rfl, h2, (heap_setCell_other _ ⟨b, 1, none⟩ g _ ?_).trans h3, h4⟩⟩
      have := I.lo
      show ¬ g = b
      omega
  · rw [frontT_nil]
    exact tk_pass n (pass_blank I.more h)
set_option maxRecDepth 100000 in
theorem stepP_letter {W : World} {B b : Nat} {s : ByteArray} {k n : Nat} {v : Value} {xs : List Value} (I : ScanIn W B b s k n v xs) (hp : passF s s.size k = (k, true)) (ho : oneF s k = (1, endRow s k, 0)) :
    Calls Tryz.prog 139 #[.pointer (some ⟨b, 0, none⟩)] W (StepP B b s k n xs W) := by
  have hr := rest_any I.sc (Nat.le_of_lt I.more)
  have HI := hide I
  have hs := I.size
  have hk := I.more
  have Hp := hide hp
  have Ho := hide ho
  clear I hp ho
  go_enter Tryz.func139, Tryz.ntmps139
  go_wp2_with fail
  refine hr.mono ?_
  rintro e w1 ⟨rfl, n1, rfl⟩
  clear hr
  have hro := row_any (W.drewN n1) (s.extract k s.size) (by rw [ByteArray.size_extract]; omega)
  go_wp2_with fail
  refine hro.mono ?_
  rintro e w2 ⟨m, rfl, hw2, hn, h1, h2⟩
  obtain rfl : W.drewN n1 = w2 := hw2.symm
  clear hw2 hro
  obtain ⟨eE, hle⟩ := endRow_row (by omega) hn h1 h2
  have hb1 : Below W.heap.size W (W.drewN n1) := below_drewN (Below.refl _ _) n1
  have ht := takeO ((unhide HI).up hb1) (unhide Hp) (by rw [unhide Ho, eE]) 1 (m : Int) rfl rfl
  have Ht := hide ht
  have Hb1 := hide hb1
  clear ht hn h1 h2 hle eE hb1
  go_wp2_with fail
  refine (unhide Ht).mono ?_
  intro e w hq
  obtain ⟨c, rfl⟩ := hq.ret
  have Hq := hide (hq.from (unhide Hb1) (unhide HI).hi)
  clear hq
  go_wp2
  go_ret
  exact unhide Hq
set_option maxRecDepth 100000 in
theorem stepP_digit {W : World} {B b : Nat} {s : ByteArray} {k n : Nat} {v : Value} {xs : List Value} (hE : HasE W) (I : ScanIn W B b s k n v xs) (hp : passF s s.size k = (k, true)) (ho : oneF s k = if wv (strN (s.extract k (endRow s k))) = none then (0, 0, 41) else (2, endRow s k, 0)) :
    Calls Tryz.prog 142 #[.pointer (some ⟨b, 0, none⟩)] W (StepP B b s k n xs W) := by
  have hr := rest_any I.sc (Nat.le_of_lt I.more)
  have HI := hide I
  have HE := hide hE
  have hs := I.size
  have hk := I.more
  have Hp := hide hp
  have Ho := hide ho
  clear I hp ho hE
  go_enter Tryz.func142, Tryz.ntmps142
  go_wp2_with fail
  refine hr.mono ?_
  rintro e w1 ⟨rfl, n1, rfl⟩
  clear hr
  have hro := row_any (W.drewN n1) (s.extract k s.size) (by rw [ByteArray.size_extract]; omega)
  go_wp2_with fail
  refine hro.mono ?_
  rintro e w2 ⟨m, rfl, hw2, hn, h1, h2⟩
  obtain rfl : W.drewN n1 = w2 := hw2.symm
  clear hw2 hro
  obtain ⟨eE, hle⟩ := endRow_row (by omega) hn h1 h2
  have hb1 : Below W.heap.size W (W.drewN n1) := below_drewN (Below.refl _ _) n1
  have hr2 := rest_any ((unhide HI).up hb1).sc (Nat.le_of_lt hk)
  have hsz : (s.extract k s.size).size = s.size - k := by rw [ByteArray.size_extract]; omega
  have Hb1 := hide hb1
  have HeE := hide eE
  have hex := extract_two s k m hle
  have m0 : (0 : Int) ≤ (m : Int) := Int.natCast_nonneg _
  have m1 : (m : Int) ≤ ((s.size - k : Nat) : Int) := by omega
  clear hn h1 h2 hb1 eE
  go_wp2_with fail
  refine hr2.mono ?_
  rintro e w3 ⟨rfl, n2, rfl⟩
  clear hr2
  have hb2 : Below W.heap.size W (W.drewN (n1 + n2)) := below_drewN (Below.refl _ _) (n1 + n2)
  have hwo := worth_any ((unhide HE).up hb2) (s.extract k (k + m)) (by rw [ByteArray.size_extract]; omega)
  have Hb2 := hide hb2
  clear hb2
  go_wp2_with fail
  refine hwo.mono ?_
  rintro e w4 ⟨hb4, wn, wc, rfl, hu⟩
  have hb5 : Below W.heap.size W w4 := (unhide Hb2).trans hb4
  rcases hu with ⟨u, hu1, rfl, rfl⟩ | ⟨hu1, rfl, rfl⟩
  · have ht := takeO ((unhide HI).up hb5) (unhide Hp) (m := m) (t := 2) (by rw [unhide Ho, unhide HeE, hu1]; rfl) 2 (m : Int) rfl rfl
    have Ht := hide ht
    have Hb5 := hide hb5
    clear ht hb4 hb5 hu1 hwo
    go_wp2_with fail
    refine (unhide Ht).mono ?_
    intro e w hq
    obtain ⟨c, rfl⟩ := hq.ret
    have Hq := hide (hq.from (unhide Hb5) (unhide HI).hi)
    clear hq
    go_wp2
    go_ret
    exact unhide Hq
  · have ht := takeB ((unhide HI).up hb5) (unhide Hp) (c := 41) (by rw [unhide Ho, unhide HeE, hu1]; rfl) (by decide) 2 (m : Int) 41 rfl
    have Ht := hide ht
    have Hb5 := hide hb5
    clear ht hb4 hb5 hu1 hwo
    go_wp2_with fail
    refine (unhide Ht).mono ?_
    intro e w hq
    obtain ⟨c, rfl⟩ := hq.ret
    have Hq := hide (hq.from (unhide Hb5) (unhide HI).hi)
    clear hq
    go_wp2
    go_ret
    exact unhide Hq
end Go.Proofs.YtaadpiimcaabkaaGreatDoor
namespace Go.Proofs
open Go.Shelf
def Tryz.laysNI143_ren : Go.Shelf.Ren := ⟨fun | 143 => 156 | 219 => 187 | 217 => 181 | 225 => 196 | 224 => 197 | 267 => 198 | 266 => 194 | 314 => 210 | n => n, fun | 9 => 9 | 3 => 3 | 4 => 4 | 5 => 5 | 46 => 156 | 146 => 187 | 51 => 186 | n => n, fun | 1 => 1 | n => n⟩
theorem Tryz.laysNI143 : Go.Proofs.Lays.n143 Tryz.prog Tryz.laysNI143_ren := {
  mixed := by kernel_rfl
  f143 := Tryz.func156.trans (congrArg some (by kernel_rfl))
  f217 := Tryz.func181.trans (congrArg some (by kernel_rfl))
  f219 := Tryz.func187.trans (congrArg some (by kernel_rfl))
  f224 := Tryz.func197.trans (congrArg some (by kernel_rfl))
  f225 := Tryz.func196.trans (congrArg some (by kernel_rfl))
  f266 := Tryz.func194.trans (congrArg some (by kernel_rfl))
  f267 := Tryz.func198.trans (congrArg some (by kernel_rfl))
  f314 := Tryz.func210.trans (congrArg some (by kernel_rfl))
  t3 := Tryz.underlying3
  a3 := Tryz.isAgg3
  z3 := Tryz.sizeOf3
  v3 := Tryz.zeroValue3
  t4 := Tryz.underlying4
  a4 := Tryz.isAgg4
  z4 := Tryz.sizeOf4
  v4 := Tryz.zeroValue4
  t5 := Tryz.underlying5
  a5 := Tryz.isAgg5
  z5 := Tryz.sizeOf5
  v5 := Tryz.zeroValue5
  t9 := Tryz.underlying9
  a9 := Tryz.isAgg9
  z9 := Tryz.sizeOf9
  v9 := Tryz.zeroValue9
  t46 := Tryz.underlying156
  a46 := Tryz.isAgg156
  z46 := Tryz.sizeOf156
  v46 := Tryz.zeroValue156
  t51 := Tryz.underlying186
  a51 := Tryz.isAgg186
  z51 := Tryz.sizeOf186
  v51 := Tryz.zeroValue186
  t146 := Tryz.underlying187
  a146 := Tryz.isAgg187
  z146 := Tryz.sizeOf187
  v146 := Tryz.zeroValue187
  g1 := by kernel_rfl }
end Go.Proofs
