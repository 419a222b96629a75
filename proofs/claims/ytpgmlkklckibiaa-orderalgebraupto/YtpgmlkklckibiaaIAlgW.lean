import Derived.Test.YtpgmlkklckibiaaIAlg
namespace Go.Proofs.Ytpgmlkklckibiaa
open Go.RowKit Go.Shelf
attribute [local go_sem ↓] Go.wp_at_zero Go.wp_at_succ

set_option maxRecDepth 100000 in
set_option maxHeartbeats 8000000 in
theorem algebra_any {W : World} {v u : Value} {l r : List KT} (hl : IsArg W v l) (hr : IsArg W u r) (hsz : l.length + r.length ≤ 4194304) :
    Calls Try.prog 5 #[v, u] W fun e W' => e = .returned (.bool true) ∧ Below W.heap.size W W' := by
  have HL := hide hl
  have hl' := hl
  obtain ⟨la, lc, rfl, _, _, l3⟩ := hl'
  have HL3 := hide l3
  clear l3
  go_enter Try.func5, Try.ntmps5
  go_wp2_with fail
  refine (made_any hl (by omega)).mono ?_
  rintro e w1 ⟨m, A, rfl, hA, hkA, hb1⟩
  obtain ⟨hA, hnA, a, rfl⟩ := hA
  have HkA := hide hkA
  clear hkA hl
  go_wp2_with fail
  refine (made_any (hr.up hb1) (by omega)).mono ?_
  rintro e w2 ⟨m, B, rfl, hB, hkB, hb2⟩
  obtain ⟨hB, hnB, b, rfl⟩ := hB
  have hA2 := hA.up hb2
  have hB2 : Below W.heap.size W w2 := hb1.trans (hb2.mono hb1.size)
  clear hkB hr hA hb1 hb2
  go_wp2_with fail
  have hone : IsKs (w2.alloc (.cells #[.int .i64 4] 3)) (.slice (some ⟨w2.heap.size, 0, none⟩) 1 1) [4] :=
    ⟨_, _, rfl, by simp, by unfold maxLen; decide, fun _ => ⟨w2.heap.size, rfl, by rw [World.size_alloc]; omega, fun i k hik => by
      have := cell_one_new w2 (.int .i64 4) 3 i (.int .i64 k) (by rcases i with _ | i <;> simp_all)
      rwa [Go.WideShapes.add_plain, Nat.zero_add] at this⟩⟩
  have hx : Below w2.heap.size w2 (w2.alloc (.cells #[.int .i64 4] 3)) := (Below.refl _ _).alloc (Nat.le_refl _) _
  generalize w2.alloc (.cells #[.int .i64 4] 3) = X at *
  refine (made_any (isArg_ks hone) (by simp)).mono ?_
  rintro e w3 ⟨m, C, rfl, hC, hkC, hb3⟩
  obtain ⟨hC, hnC, c, rfl⟩ := hC
  have hb23 : Below w2.heap.size w2 w3 := hx.trans (hb3.mono hx.size)
  have hA3 := hA2.up hb23
  have hB3 := hB.up hb23
  have hW3 := hB2.trans (hb23.mono hB2.size)
  have hc1 : C.io.length = 1 := by
    obtain ⟨y, hy, _⟩ := hkC 4 (by simp)
    have := List.length_pos_of_mem hy
    simp at hnC
    omega
  clear hkC hone hA2 hB hb3 hx
  go_wp2_with fail
  refine (len_any hC).mono ?_
  rintro e w' ⟨rfl, he⟩
  obtain rfl : w3 = w' := he.symm
  rw [hc1]
  go_wp2_with fail
  refine (goes_any hC).mono ?_
  rintro e w4 ⟨rfl, hb4⟩
  have hA4 := hA3.up hb4
  have hB4 := hB3.up hb4
  have hW4 := hW3.trans (hb4.mono hW3.size)
  clear hA3 hB3 hC hb4 hb23
  go_wp2_with fail
  refine (join_any hA4 hB4 (by omega)).mono ?_
  rintro e w5 ⟨_, J, rfl, hJ, mj, hb5, j, rfl, _⟩
  have hA5 := hA4.up hb5
  have hB5 := hB4.up hb5
  have hW5 := hW4.trans (hb5.mono hW4.size)
  have MJ := hide mj
  clear hA4 hB4 hb5 mj
  go_wp2_with fail
  refine (only_any hA5 hB5 (by omega) (by omega)).mono ?_
  rintro e w6 ⟨_, O, rfl, hO, mo, hb6, o, rfl, _⟩
  have hA6 := hA5.up hb6
  have hB6 := hB5.up hb6
  have hJ6 := hJ.up hb6
  have hW6 := hW5.trans (hb6.mono hW5.size)
  have MO := hide mo
  clear hA5 hB5 hJ hb6 mo
  go_wp2_with fail
  refine (without_any hA6 hB6 (by omega) (by omega)).mono ?_
  rintro e w7 ⟨_, V, rfl, hV, mw, hb7, w, rfl, _⟩
  have hF : Five w7 a b j o w A B J O V := ⟨hA6.up hb7, hB6.up hb7, hJ6.up hb7, hO.up hb7, hV, unhide MJ, unhide MO, mw⟩
  have hW7 := hW6.trans (hb7.mono hW6.size)
  clear hA6 hB6 hJ6 hO hV mw hb7 MJ MO
  have hn := hF.lens
  have Hn := hide hn
  clear hn
  go_wp2_with fail
  refine (len_any hF.j).mono ?_
  rintro e w' ⟨rfl, he⟩
  obtain rfl : w7 = w' := he.symm
  go_wp2_with fail
  refine (len_any hF.b).mono ?_
  rintro e w' ⟨rfl, he⟩
  obtain rfl : w7 = w' := he.symm
  go_wp2_with fail
  refine (len_any hF.w).mono ?_
  rintro e w' ⟨rfl, he⟩
  obtain rfl : w7 = w' := he.symm
  have hn := unhide Hn
  have s1 : (B.io.length : Int) + (V.io.length : Int) = (J.io.length : Int) := by omega
  have s2 : (O.io.length : Int) + (V.io.length : Int) = (A.io.length : Int) := by omega
  have s3 : IntKind.i64.wrap (J.io.length : Int) = (J.io.length : Int) := by rw [IntKind.wrap_i64]; omega
  have s4 : IntKind.i64.wrap (A.io.length : Int) = (A.io.length : Int) := by rw [IntKind.wrap_i64]; omega
  clear hn
  have s5 : ((J.io.length : Int) != (J.io.length : Int)) = false := by simp
  have s6 : ((A.io.length : Int) != (A.io.length : Int)) = false := by simp
  go_wp2_with fail
  refine (len_any hF.o).mono ?_
  rintro e w' ⟨rfl, he⟩
  obtain rfl : w7 = w' := he.symm
  go_wp2_with fail
  refine (len_any hF.w).mono ?_
  rintro e w' ⟨rfl, he⟩
  obtain rfl : w7 = w' := he.symm
  go_wp2_with fail
  refine (len_any hF.a).mono ?_
  rintro e w' ⟨rfl, he⟩
  obtain rfl : w7 = w' := he.symm
  go_wp2
  go_loopg [11] l.length (fun gk v11 wr => ∃ (i : Nat), v11 = .int .i64 (i : Int) ∧ gk = l.length - i ∧ i ≤ l.length ∧ wr = w7)
  case atStart => exact ⟨0, rfl, rfl, Nat.zero_le _, rfl⟩
  case round =>
    obtain ⟨i, rfl, hgk, hi, rfl⟩ := hrel
    have Hgk := hide hgk
    clear hgk
    by_cases hlt : i < l.length
    · obtain ⟨g, off, rfl, hg, hc⟩ := unhide HL3 (by omega)
      obtain ⟨k, hk⟩ : ∃ k, l[i]? = some k := ⟨_, List.getElem?_eq_getElem hlt⟩
      have c0 := (hW7.cell (p := ⟨g, off + i, none⟩) hg).trans (hc i k hk)
      have hi0 : (0 : Int) ≤ (i : Int) := Int.natCast_nonneg _
      have hi1 : (i : Int) < (l.length : Int) := by omega
      have Hk := hide (unhide HkA k (List.mem_of_getElem? hk))
      clear hk hc
      go_wp2_with fail
      refine (get_any k hF.a).mono ?_
      rintro e w' ⟨x1, f1, rfl, g1, he⟩
      obtain rfl : wr = w' := he.symm
      go_wp2_with fail
      refine (get_any k hF.b).mono ?_
      rintro e w' ⟨x2, f2, rfl, g2, he⟩
      obtain rfl : wr = w' := he.symm
      go_wp2_with fail
      refine (get_any k hF.j).mono ?_
      rintro e w' ⟨x3, f3, rfl, g3, he⟩
      obtain rfl : wr = w' := he.symm
      obtain ⟨rfl, rfl, q1, q2⟩ := get_three hF (unhide Hk) g1 g2 g3
      clear g1 g2 g3 c0
      have e1 : (x3 != x3) = false := by simp
      cases f2 with
      | true =>
        obtain rfl := q1 rfl
        clear q1 q2
        go_wp2
        go_roundg (l.length - (i + 1))
        case measure => have := unhide Hgk; omega
        case rel => exact ⟨i + 1, by go_num, rfl, by omega, rfl⟩
      | false =>
        obtain rfl := q2 rfl
        clear q1 q2
        go_wp2
        go_roundg (l.length - (i + 1))
        case measure => have := unhide Hgk; omega
        case rel => exact ⟨i + 1, by go_num, rfl, by omega, rfl⟩
    · obtain rfl : i = l.length := by omega
      clear HkA s1 s2 s3 s4 s5 s6
      go_wp2_with fail
      refine (without_any hF.a hF.a (by omega) (by omega)).mono ?_
      rintro e x0 ⟨_, N, rfl, hN, mn, hc0, n, rfl, _⟩
      have hn0 : N.io.length = 0 := len_none fun x => by rw [mn x]; simp only [InS, Bool.false_eq_true, iff_false]; exact fun q => q.2 ⟨x, q.1, rfl⟩
      have hF0 := hF.up hc0
      have hX0 := hW7.trans (hc0.mono hW7.size)
      clear hF hc0 mn hW7
      go_wp2_with fail
      refine (len_any hN).mono ?_
      rintro e w' ⟨rfl, he⟩
      obtain rfl : x0 = w' := he.symm
      rw [hn0]
      clear hn0 hN
      have hln := unhide Hn
      have Hn2 : Hid (J.io.length ≤ 8388608 ∧ O.io.length ≤ 8388608 ∧ V.io.length ≤ 8388608 ∧ A.io.length ≤ 4194304 ∧ B.io.length ≤ 4194304) := ⟨by omega, by omega, by omega, by omega, by omega⟩
      clear hln
      go_wp2_with fail
      refine (join_any hF0.w hF0.o (by have := unhide Hn2; omega)).mono ?_
      rintro e y0 ⟨_, U0, rfl, hU0, mu0, hd0, u0x, rfl, _⟩
      have hG0 := hF0.up hd0
      have hY0 := hX0.trans (hd0.mono hX0.size)
      have ee0 := hG0.wo hU0 mu0
      clear mu0 hd0 hF0
      go_wp2_with fail
      refine (alike_any hU0 hG0.a ee0 (by rw [ee0]; have := unhide Hn2; omega)).mono ?_
      rintro e x1 ⟨rfl, hc1⟩
      have hF1 := hG0.up hc1
      have hX1 := hY0.trans (hc1.mono hY0.size)
      clear hG0 hc1 ee0 hU0
      go_wp2_with fail
      refine (join_any hF1.w hF1.b (by have := unhide Hn2; omega)).mono ?_
      rintro e y1 ⟨_, U1, rfl, hU1, mu1, hd1, u1x, rfl, _⟩
      have hG1 := hF1.up hd1
      have hY1 := hX1.trans (hd1.mono hX1.size)
      have ee1 := hG1.wb hU1 mu1
      clear mu1 hd1 hF1
      go_wp2_with fail
      refine (alike_any hU1 hG1.j ee1 (by rw [ee1]; have := unhide Hn2; omega)).mono ?_
      rintro e x2 ⟨rfl, hc2⟩
      have hF2 := hG1.up hc2
      have hX2 := hY1.trans (hc2.mono hY1.size)
      clear hG1 hc2 ee1 hU1
      go_wp2_with fail
      refine (join_any hF2.a hF2.a (by have := unhide Hn2; omega)).mono ?_
      rintro e y2 ⟨_, U2, rfl, hU2, mu2, hd2, u2x, rfl, _⟩
      have hG2 := hF2.up hd2
      have hY2 := hX2.trans (hd2.mono hX2.size)
      have ee2 := hG2.aa hU2 mu2
      clear mu2 hd2 hF2
      go_wp2_with fail
      refine (alike_any hU2 hG2.a ee2 (by rw [ee2]; have := unhide Hn2; omega)).mono ?_
      rintro e x3 ⟨rfl, hc3⟩
      have hF3 := hG2.up hc3
      have hX3 := hY2.trans (hc3.mono hY2.size)
      clear hG2 hc3 ee2 hU2
      go_wp2_with fail
      refine (only_any hF3.a hF3.a (by have := unhide Hn2; omega) (by have := unhide Hn2; omega)).mono ?_
      rintro e y3 ⟨_, U3, rfl, hU3, mu3, hd3, u3x, rfl, _⟩
      have hG3 := hF3.up hd3
      have hY3 := hX3.trans (hd3.mono hX3.size)
      have ee3 := hG3.ao hU3 mu3
      clear mu3 hd3 hF3
      go_wp2_with fail
      refine (alike_any hU3 hG3.a ee3 (by rw [ee3]; have := unhide Hn2; omega)).mono ?_
      rintro e x4 ⟨rfl, hc4⟩
      have hF4 := hG3.up hc4
      have hX4 := hY3.trans (hc4.mono hY3.size)
      clear hG3 hc4 ee3 hU3
      go_wp2_with fail
      refine (without_any hF4.j hF4.b (by have := unhide Hn2; omega) (by have := unhide Hn2; omega)).mono ?_
      rintro e y4 ⟨_, U4, rfl, hU4, mu4, hd4, u4x, rfl, _⟩
      have hG4 := hF4.up hd4
      have hY4 := hX4.trans (hd4.mono hX4.size)
      have ee4 := hG4.jb hU4 mu4
      clear mu4 hd4 hF4
      go_wp2_with fail
      refine (alike_any hU4 hG4.w ee4 (by rw [ee4]; have := unhide Hn2; omega)).mono ?_
      rintro e x5 ⟨rfl, hc5⟩
      have hF5 := hG4.up hc5
      have hX5 := hY4.trans (hc5.mono hY4.size)
      clear hG4 hc5 ee4 hU4
      go_wp2_with fail
      refine (only_any hF5.o hF5.b (by have := unhide Hn2; omega) (by have := unhide Hn2; omega)).mono ?_
      rintro e y5 ⟨_, U5, rfl, hU5, mu5, hd5, u5x, rfl, _⟩
      have hG5 := hF5.up hd5
      have hY5 := hX5.trans (hd5.mono hX5.size)
      have ee5 := hG5.ob hU5 mu5
      clear mu5 hd5 hF5
      go_wp2_with fail
      refine (alike_any hU5 hG5.o ee5 (by rw [ee5]; have := unhide Hn2; omega)).mono ?_
      rintro e x6 ⟨rfl, hc6⟩
      have hF6 := hG5.up hc6
      have hX6 := hY5.trans (hc6.mono hY5.size)
      clear hG5 hc6 ee5 hU5
      go_wp2
      go_ret
      exact ⟨rfl, hX6⟩
end Go.Proofs.Ytpgmlkklckibiaa
