import Derived.Test.YtoclbmdnndaccaaDoorDU
namespace Go.Proofs.YtoclbmdnndaccaaDoor
open Go.RowKit
attribute [local go_sem ↓] Go.wp_at_zero Go.wp_at_succ

set_option maxRecDepth 100000 in
set_option maxHeartbeats 1000000 in
theorem bursts_any {W : World} (hT : HasT W) {v : Value} {l : List Nat} {x1 x2 : Int} (h : HasB W v l) (hl : Byt l) (hn : l.length ≤ 140737488351232) (_hx1 : -9223372036854775808 ≤ x1 ∧ x1 ≤ 9223372036854775807) (_hx2 : -9223372036854775808 ≤ x2 ∧ x2 ≤ 9223372036854775807) :
    Calls Tryd.prog 3 #[v, .int .i64 x1, .int .i64 x2] W fun e W' => e = .returned (.bool true) ∧ Below W.heap.size W W' := by
  obtain ⟨i0, hi, hz0, hz1, hz2⟩ := info_parts Tryd.infoByte
  have Hh := hide h
  obtain ⟨a, c, rfl, hm, h3⟩ := h
  have H3 := hide h3
  have cv := k9_conv W
  by_cases h0 : l.length = 0
  · have hl0 : l = [] := List.eq_nil_of_length_eq_zero h0
    subst hl0
    clear h3 H3 Hh h0 hn
    go_enter Tryd.func3, Tryd.ntmps3
    go_wp2_with fail
    refine (crc_any (hT.up (k9_below W)) (k9_has W) k9_byt (by decide)).mono ?_
    rintro e w2 ⟨rfl, hb2⟩
    have hb02 := (k9_below W).trans (hb2.mono (k9_below W).size)
    clear cv hb2
    rw [show crc k9 = 3808858755 from crc_known]
    have how : (w2.alloc (.cells #[] 5)).ownsRow w2.heap.size 5 1 (.slice (some ⟨w2.heap.size, 0, none⟩) 0 0) 0 [] := ⟨rfl, .inr ⟨w2.heap.size, 0, #[], rfl, Nat.le_refl _, heap_new _ _, Nat.le_refl _, Nat.zero_le _, rfl, rfl⟩⟩
    have hbel : Below w2.heap.size w2 (w2.alloc (.cells #[] 5)) := (Below.refl _ _).alloc (Nat.le_refl _) _
    cases a with
    | none =>
      obtain rfl : c = 0 := hm.2.2 rfl
      clear hm
      go_wp2
      go_ret
      exact ⟨rfl, hb02.trans (hbel.mono hb02.size)⟩
    | some ad =>
      clear hm
      go_wp2_with (at_builtin; refine wpList_append_fits _ rfl _ _ 22 rfl w2.heap.size 5 i0 1 Tryd.underlying22 hi hz1 w2.heap.size 0 0 [] rfl how ad 0 c [] rfl rfl (fun j u hu => by simp at hu) (fun u hu => by simp at hu) (Nat.le_refl _) ?_; intro w3 hown3 hgrow3; have Hgrow := hide hgrow3; clear hown3 hgrow3)
      go_ret
      have hg := unhide Hgrow
      have hb3 : Below w2.heap.size w2 w3 := hbel.trans ⟨hg.os, hg.tape, hg.output, hg.size, fun b hb => hg.block b (by have := hbel.size; omega) (fun e => by have e' : b = w2.heap.size := Option.some.inj e; omega)⟩
      exact ⟨rfl, hb02.trans (hb3.mono hb02.size)⟩
  · obtain ⟨g0, off, rfl, hg0, hc0⟩ := h3 (by omega)
    have hsrc : ∀ j u, (nb l)[j]? = some u → W.cell? ((⟨g0, off, none⟩ : Addr).add j) = some u := by
      intro j u hu
      rw [nb_at] at hu
      obtain ⟨b, hb', rfl⟩ := Option.map_eq_some_iff.1 hu
      rw [Go.WideShapes.add_plain]
      exact hc0 j b hb'
    have Hs := hide hsrc
    have hpos : 0 < l.length := by omega
    obtain ⟨r, hr⟩ : ∃ r : Int, x1.tmod (8 * (l.length : Int)) = r := ⟨_, rfl⟩
    have hr1 : -(8 * (l.length : Int)) < r ∧ r < 8 * (l.length : Int) := by
      rw [← hr]
      exact ⟨Int.lt_tmod_of_pos _ (by omega), Int.tmod_lt_of_pos _ (by omega)⟩
    by_cases hneg : r < 0
    · obtain ⟨A, hA⟩ : ∃ A : Nat, r + 8 * (l.length : Int) = (A : Int) := ⟨(r + 8 * (l.length : Int)).toNat, by omega⟩
      have hA2 : A < 8 * l.length := by omega
      obtain ⟨hr1, hr2⟩ := hr1
      clear h3 H3 hsrc hc0 h0
      go_enter Tryd.func3, Tryd.ntmps3
      go_wp2_with fail
      refine (crc_any (hT.up (k9_below W)) (k9_has W) k9_byt (by decide)).mono ?_
      rintro e w2 ⟨rfl, hb2⟩
      have hb02 := (k9_below W).trans (hb2.mono (k9_below W).size)
      clear cv hb2
      rw [show crc k9 = 3808858755 from crc_known]
      have how : (w2.alloc (.cells #[] 5)).ownsRow w2.heap.size 5 1 (.slice (some ⟨w2.heap.size, 0, none⟩) 0 0) 0 [] := ⟨rfl, .inr ⟨w2.heap.size, 0, #[], rfl, Nat.le_refl _, heap_new _ _, Nat.le_refl _, Nat.zero_le _, rfl, rfl⟩⟩
      have hbel : Below w2.heap.size w2 (w2.alloc (.cells #[] 5)) := (Below.refl _ _).alloc (Nat.le_refl _) _
      have hb03 : Below W.heap.size W (w2.alloc (.cells #[] 5)) := hb02.trans (hbel.mono hb02.size)
      have hsrc2 : ∀ j u, (nb l)[j]? = some u → (w2.alloc (.cells #[] 5)).cell? ((⟨g0, off, none⟩ : Addr).add j) = some u := fun j u hu => by
        have := unhide Hs j u hu
        rw [Go.WideShapes.add_plain] at this ⊢
        exact (hb03.cell (p := ⟨g0, off + j, none⟩) hg0).trans this
      have hlz : ((l.length : Int) == 0) = false := by rw [beq_eq_false_iff_ne]; omega
      have hsz2 := hb02.size
      go_wp2_with (at_builtin; refine wpList_append_lies _ rfl _ _ 22 rfl w2.heap.size 5 i0 (.int .u8 0) 1 1 Tryd.underlying22 hi hz0 hz1 hz2 rfl (by decide) _ _ _ rfl how ⟨g0, off, none⟩ l.length c (nb l) rfl (by rw [nb_len]; omega) hsrc2 (nb_one _) hpos (by unfold maxLen; omega) (by omega) hbel.size (w2.heap.size + 1) (by simp) ?_; intro g cap w3 hown3 hgrow3 hat3 hlt3; have Hown := hide hown3; have Hgrow := hide hgrow3; clear hown3 hgrow3 hat3 hlt3)
      have hown := unhide Hown
      rw [Nat.zero_add, List.nil_append] at hown
      obtain ⟨hR0, hcap1, hcap2, hbg⟩ := rowB_of hown
      have hg := unhide Hgrow
      have hb3 : Below w2.heap.size w2 w3 := hbel.trans ⟨hg.os, hg.tape, hg.output, hg.size, fun b hb => hg.block b (by have := hbel.size; omega) (fun e => by have e' : b = w2.heap.size := Option.some.inj e; omega)⟩
      have hb03' : Below W.heap.size W w3 := hb02.trans (hb3.mono hb02.size)
      have HR0 := hide hR0
      have hgW : W.heap.size ≤ g := by omega
      clear hown Hown hg Hgrow hb3 how hbel hb03 hsrc2 hR0 hb02 hbg
      go_loopg [9, 10] 32 (fun gk v9 v10 wr => ∃ (i w : Nat) (lc : List Nat), v10 = .int .i64 (i : Int) ∧ v9 = .bool (decide (w ≠ 0)) ∧ gk = 32 - i ∧ i ≤ 32 ∧ w < 2 ^ i ∧ lc.length = l.length ∧ Byt lc ∧ numL lc = numL l ^^^ w * 2 ^ A ∧ RowB wr g lc ∧ Below W.heap.size W wr)
      case atStart => exact ⟨0, 0, l, rfl, rfl, rfl, by omega, by decide, rfl, hl, by simp, unhide HR0, hb03'⟩
      case round =>
        obtain ⟨i, w, lc, rfl, rfl, hgk, hk, hw, hlc, hbc, hnum, hR, hB⟩ := hrel
        have Hgk := hide hgk
        clear hgk HR0 hb03'
        by_cases hlt : i < 32
        · by_cases hin : A + i < 8 * l.length
          · obtain ⟨K, hK⟩ : ∃ K : Nat, K = A + i := ⟨_, rfl⟩
            have hKi : (A : Int) + (i : Int) = (K : Int) := by omega
            obtain ⟨d, hd⟩ : ∃ d : Nat, d = K / 8 := ⟨_, rfl⟩
            obtain ⟨m, hm'⟩ : ∃ m : Nat, m = K % 8 := ⟨_, rfl⟩
            have hdl : d < lc.length := by omega
            obtain ⟨x, hx⟩ : ∃ x, lc[d]? = some x := ⟨_, List.getElem?_eq_getElem hdl⟩
            have hxb := hbc.at hx
            have hcell := hR.cell hx
            have hfr := hR.frozen d
            have k1 : (K : Int).tdiv 8 = (d : Int) := by rw [Int.tdiv_eq_ediv_of_nonneg (by omega)]; omega
            have k2 : (K : Int).tmod 8 = (m : Int) := by rw [Int.tmod_eq_emod_of_nonneg (by omega)]; omega
            have hm8 : m < 8 := by omega
            have hdl' : d < l.length := by omega
            have hpow : (2 : Nat) ^ m < 256 := Nat.lt_of_lt_of_le (Nat.pow_lt_pow_right (a := 2) (by decide) hm8) (by decide)
            have hxor : bits .xor .u8 (x : Int) ((2 : Int) ^ m % 256) = ((x ^^^ 2 ^ m : Nat) : Int) := by
              have e : (2 : Int) ^ m % 256 = ((2 ^ m : Nat) : Int) := by rw [show (2 : Int) ^ m = ((2 ^ m : Nat) : Int) by norm_cast]; generalize (2 : Nat) ^ m = z at hpow; omega
              rw [e]
              exact u8_xor_nat _ _ hxb hpow
            clear hpow
            have hKn : K < 1125899906842624 := by omega
            have hKl : (K : Int) < 8 * (l.length : Int) := by omega
            have Hw := hide hw
            have Hnum := hide hnum
            have HR := hide hR
            have HK := hide hK
            have Hd := hide hd
            have Hm := hide hm'
            have Hx := hide hx
            clear hw hnum hR hK hd hm' hx
            go_wp2
            · go_region
              all_goals go_wp2
              all_goals go_roundg (32 - (i + 1))
              all_goals first
                | (have := unhide Hgk; omega)
                | (refine ⟨i + 1, w ^^^ 2 ^ i, lc.set d (x ^^^ 2 ^ m), by go_num, by rw [decide_eq_true (xor_ne (unhide Hw))], rfl, by omega, xor_lt' (unhide Hw), by rw [List.length_set]; exact hlc, ?_, ?_, ?_, ?_⟩
                   · intro z hz
                     rcases List.mem_or_eq_of_mem_set hz with q | q
                     · exact hbc z q
                     · rw [q]; exact Nat.xor_lt_two_pow (n := 8) hxb (Nat.pow_lt_pow_right (by decide) hm8)
                   · have e := numL_set lc K x (by rw [← unhide Hd]; exact unhide Hx)
                     rw [← unhide Hd, ← unhide Hm] at e
                     rw [e, unhide Hnum, xor_mulpow, unhide HK, Nat.xor_assoc, ← Nat.pow_add, Nat.add_comm i A]
                   · exact (unhide HR).set hdl _
                   · exact below_drewN (below_set hB hgW _ _) _)
            · go_roundg (32 - (i + 1))
              case measure => have := unhide Hgk; omega
              case rel => exact ⟨i + 1, w, lc, by go_num, by simp, rfl, by omega, Nat.lt_of_lt_of_le (unhide Hw) (Nat.pow_le_pow_right (by decide) (Nat.le_succ i)), hlc, hbc, unhide Hnum, unhide HR, hB⟩
          · have hin' : decide ((A : Int) + (i : Int) < 8 * (l.length : Int)) = false := by simp; omega
            have hlt' : (i : Int) < 32 := by omega
            clear hin
            have hw32 : w < 4294967296 := Nat.lt_of_lt_of_le hw (Nat.le_trans (Nat.pow_le_pow_right (by decide) hk) (by omega))
            have hbu := burst (b := l) (c := lc) hlc.symm (at' := A) (w := w) (by omega) hw32 hnum
            have hx0 : crc l < 4294967296 := crc_lt hl
            obtain ⟨y0, hy0⟩ : ∃ y0 : Nat, crc l = y0 := ⟨_, rfl⟩
            obtain ⟨y1, hy1⟩ : ∃ y1 : Nat, crc lc = y1 := ⟨_, rfl⟩
            rw [hy0, hy1] at hbu
            rw [hy0] at hx0
            have hne : (((y0 : Nat) : Int) != ((y1 : Nat) : Int)) = !decide (w = 0) := by
              by_cases hw0 : w = 0
              · have := hbu.2 hw0; subst this; simp [hw0]
              · have : y0 ≠ y1 := fun q => hw0 (hbu.1 q)
                simp [hw0]
                omega
            have hHl := (unhide Hh).up hB
            have hHc : HasB wr (.slice (some ⟨g, 0, none⟩) l.length cap) lc := hR.has hlc.symm ⟨hcap1, hcap2⟩
            have hge : (0 : Int) ≤ (y0 : Int) := Int.natCast_nonneg _
            have hbb : ((!decide (w = 0)) == (!decide (w = 0))) = true := by simp
            clear hbu hw hnum hR hw32
            generalize hbw : (!decide (w = 0)) = bw at *
            go_wp2_with fail
            refine (crc_any (hT.up hB) hHl hl (by omega)).mono ?_
            rintro e w4 ⟨rfl, hb4⟩
            have hB4 : Below W.heap.size W w4 := hB.trans (hb4.mono hB.size)
            rw [hy0]
            go_wp2_with fail
            refine (crc_any (hT.up hB4) (hHc.up hb4) hbc (by omega)).mono ?_
            rintro e w5 ⟨rfl, hb5⟩
            have hB5 : Below W.heap.size W w5 := hB4.trans (hb5.mono hB4.size)
            rw [hy1]
            go_wp2
            go_ret
            exact ⟨by simp; omega, hB5⟩
        · obtain rfl : i = 32 := by omega
          have hw32 : w < 4294967296 := Nat.lt_of_lt_of_le hw (Nat.le_trans (Nat.pow_le_pow_right (by decide) hk) (by omega))
          have hbu := burst (b := l) (c := lc) hlc.symm (at' := A) (w := w) (by omega) hw32 hnum
          have hx0 : crc l < 4294967296 := crc_lt hl
          obtain ⟨y0, hy0⟩ : ∃ y0 : Nat, crc l = y0 := ⟨_, rfl⟩
          obtain ⟨y1, hy1⟩ : ∃ y1 : Nat, crc lc = y1 := ⟨_, rfl⟩
          rw [hy0, hy1] at hbu
          rw [hy0] at hx0
          have hne : (((y0 : Nat) : Int) != ((y1 : Nat) : Int)) = !decide (w = 0) := by
            by_cases hw0 : w = 0
            · have := hbu.2 hw0; subst this; simp [hw0]
            · have : y0 ≠ y1 := fun q => hw0 (hbu.1 q)
              simp [hw0]
              omega
          have hHl := (unhide Hh).up hB
          have hHc : HasB wr (.slice (some ⟨g, 0, none⟩) l.length cap) lc := hR.has hlc.symm ⟨hcap1, hcap2⟩
          have hge : (0 : Int) ≤ (y0 : Int) := Int.natCast_nonneg _
          have hbb : ((!decide (w = 0)) == (!decide (w = 0))) = true := by simp
          clear hbu hw hnum hR hw32
          generalize hbw : (!decide (w = 0)) = bw at *
          go_wp2_with fail
          refine (crc_any (hT.up hB) hHl hl (by omega)).mono ?_
          rintro e w4 ⟨rfl, hb4⟩
          have hB4 : Below W.heap.size W w4 := hB.trans (hb4.mono hB.size)
          rw [hy0]
          go_wp2_with fail
          refine (crc_any (hT.up hB4) (hHc.up hb4) hbc (by omega)).mono ?_
          rintro e w5 ⟨rfl, hb5⟩
          have hB5 : Below W.heap.size W w5 := hB4.trans (hb5.mono hB4.size)
          rw [hy1]
          go_wp2
          go_ret
          exact ⟨by simp; omega, hB5⟩
    · obtain ⟨A, hA⟩ : ∃ A : Nat, r = (A : Int) := ⟨r.toNat, by omega⟩
      subst hA
      have hA2 : A < 8 * l.length := by omega
      clear hr1 hneg
      clear h3 H3 hsrc hc0 h0
      go_enter Tryd.func3, Tryd.ntmps3
      go_wp2_with fail
      refine (crc_any (hT.up (k9_below W)) (k9_has W) k9_byt (by decide)).mono ?_
      rintro e w2 ⟨rfl, hb2⟩
      have hb02 := (k9_below W).trans (hb2.mono (k9_below W).size)
      clear cv hb2
      rw [show crc k9 = 3808858755 from crc_known]
      have how : (w2.alloc (.cells #[] 5)).ownsRow w2.heap.size 5 1 (.slice (some ⟨w2.heap.size, 0, none⟩) 0 0) 0 [] := ⟨rfl, .inr ⟨w2.heap.size, 0, #[], rfl, Nat.le_refl _, heap_new _ _, Nat.le_refl _, Nat.zero_le _, rfl, rfl⟩⟩
      have hbel : Below w2.heap.size w2 (w2.alloc (.cells #[] 5)) := (Below.refl _ _).alloc (Nat.le_refl _) _
      have hb03 : Below W.heap.size W (w2.alloc (.cells #[] 5)) := hb02.trans (hbel.mono hb02.size)
      have hsrc2 : ∀ j u, (nb l)[j]? = some u → (w2.alloc (.cells #[] 5)).cell? ((⟨g0, off, none⟩ : Addr).add j) = some u := fun j u hu => by
        have := unhide Hs j u hu
        rw [Go.WideShapes.add_plain] at this ⊢
        exact (hb03.cell (p := ⟨g0, off + j, none⟩) hg0).trans this
      have hlz : ((l.length : Int) == 0) = false := by rw [beq_eq_false_iff_ne]; omega
      have hsz2 := hb02.size
      go_wp2_with (at_builtin; refine wpList_append_lies _ rfl _ _ 22 rfl w2.heap.size 5 i0 (.int .u8 0) 1 1 Tryd.underlying22 hi hz0 hz1 hz2 rfl (by decide) _ _ _ rfl how ⟨g0, off, none⟩ l.length c (nb l) rfl (by rw [nb_len]; omega) hsrc2 (nb_one _) hpos (by unfold maxLen; omega) (by omega) hbel.size (w2.heap.size + 1) (by simp) ?_; intro g cap w3 hown3 hgrow3 hat3 hlt3; have Hown := hide hown3; have Hgrow := hide hgrow3; clear hown3 hgrow3 hat3 hlt3)
      have hown := unhide Hown
      rw [Nat.zero_add, List.nil_append] at hown
      obtain ⟨hR0, hcap1, hcap2, hbg⟩ := rowB_of hown
      have hg := unhide Hgrow
      have hb3 : Below w2.heap.size w2 w3 := hbel.trans ⟨hg.os, hg.tape, hg.output, hg.size, fun b hb => hg.block b (by have := hbel.size; omega) (fun e => by have e' : b = w2.heap.size := Option.some.inj e; omega)⟩
      have hb03' : Below W.heap.size W w3 := hb02.trans (hb3.mono hb02.size)
      have HR0 := hide hR0
      have hgW : W.heap.size ≤ g := by omega
      clear hown Hown hg Hgrow hb3 how hbel hb03 hsrc2 hR0 hb02 hbg
      go_loopg [9, 10] 32 (fun gk v9 v10 wr => ∃ (i w : Nat) (lc : List Nat), v10 = .int .i64 (i : Int) ∧ v9 = .bool (decide (w ≠ 0)) ∧ gk = 32 - i ∧ i ≤ 32 ∧ w < 2 ^ i ∧ lc.length = l.length ∧ Byt lc ∧ numL lc = numL l ^^^ w * 2 ^ A ∧ RowB wr g lc ∧ Below W.heap.size W wr)
      case atStart => exact ⟨0, 0, l, rfl, rfl, rfl, by omega, by decide, rfl, hl, by simp, unhide HR0, hb03'⟩
      case round =>
        obtain ⟨i, w, lc, rfl, rfl, hgk, hk, hw, hlc, hbc, hnum, hR, hB⟩ := hrel
        have Hgk := hide hgk
        clear hgk HR0 hb03'
        by_cases hlt : i < 32
        · by_cases hin : A + i < 8 * l.length
          · obtain ⟨K, hK⟩ : ∃ K : Nat, K = A + i := ⟨_, rfl⟩
            have hKi : (A : Int) + (i : Int) = (K : Int) := by omega
            obtain ⟨d, hd⟩ : ∃ d : Nat, d = K / 8 := ⟨_, rfl⟩
            obtain ⟨m, hm'⟩ : ∃ m : Nat, m = K % 8 := ⟨_, rfl⟩
            have hdl : d < lc.length := by omega
            obtain ⟨x, hx⟩ : ∃ x, lc[d]? = some x := ⟨_, List.getElem?_eq_getElem hdl⟩
            have hxb := hbc.at hx
            have hcell := hR.cell hx
            have hfr := hR.frozen d
            have k1 : (K : Int).tdiv 8 = (d : Int) := by rw [Int.tdiv_eq_ediv_of_nonneg (by omega)]; omega
            have k2 : (K : Int).tmod 8 = (m : Int) := by rw [Int.tmod_eq_emod_of_nonneg (by omega)]; omega
            have hm8 : m < 8 := by omega
            have hdl' : d < l.length := by omega
            have hpow : (2 : Nat) ^ m < 256 := Nat.lt_of_lt_of_le (Nat.pow_lt_pow_right (a := 2) (by decide) hm8) (by decide)
            have hxor : bits .xor .u8 (x : Int) ((2 : Int) ^ m % 256) = ((x ^^^ 2 ^ m : Nat) : Int) := by
              have e : (2 : Int) ^ m % 256 = ((2 ^ m : Nat) : Int) := by rw [show (2 : Int) ^ m = ((2 ^ m : Nat) : Int) by norm_cast]; generalize (2 : Nat) ^ m = z at hpow; omega
              rw [e]
              exact u8_xor_nat _ _ hxb hpow
            clear hpow
            have hKn : K < 1125899906842624 := by omega
            have hKl : (K : Int) < 8 * (l.length : Int) := by omega
            have Hw := hide hw
            have Hnum := hide hnum
            have HR := hide hR
            have HK := hide hK
            have Hd := hide hd
            have Hm := hide hm'
            have Hx := hide hx
            clear hw hnum hR hK hd hm' hx
            go_wp2
            · go_region
              all_goals go_wp2
              all_goals go_roundg (32 - (i + 1))
              all_goals first
                | (have := unhide Hgk; omega)
                | (refine ⟨i + 1, w ^^^ 2 ^ i, lc.set d (x ^^^ 2 ^ m), by go_num, by rw [decide_eq_true (xor_ne (unhide Hw))], rfl, by omega, xor_lt' (unhide Hw), by rw [List.length_set]; exact hlc, ?_, ?_, ?_, ?_⟩
                   · intro z hz
                     rcases List.mem_or_eq_of_mem_set hz with q | q
                     · exact hbc z q
                     · rw [q]; exact Nat.xor_lt_two_pow (n := 8) hxb (Nat.pow_lt_pow_right (by decide) hm8)
                   · have e := numL_set lc K x (by rw [← unhide Hd]; exact unhide Hx)
                     rw [← unhide Hd, ← unhide Hm] at e
                     rw [e, unhide Hnum, xor_mulpow, unhide HK, Nat.xor_assoc, ← Nat.pow_add, Nat.add_comm i A]
                   · exact (unhide HR).set hdl _
                   · exact below_drewN (below_set hB hgW _ _) _)
            · go_roundg (32 - (i + 1))
              case measure => have := unhide Hgk; omega
              case rel => exact ⟨i + 1, w, lc, by go_num, by simp, rfl, by omega, Nat.lt_of_lt_of_le (unhide Hw) (Nat.pow_le_pow_right (by decide) (Nat.le_succ i)), hlc, hbc, unhide Hnum, unhide HR, hB⟩
          · have hin' : decide ((A : Int) + (i : Int) < 8 * (l.length : Int)) = false := by simp; omega
            have hlt' : (i : Int) < 32 := by omega
            clear hin
            have hw32 : w < 4294967296 := Nat.lt_of_lt_of_le hw (Nat.le_trans (Nat.pow_le_pow_right (by decide) hk) (by omega))
            have hbu := burst (b := l) (c := lc) hlc.symm (at' := A) (w := w) (by omega) hw32 hnum
            have hx0 : crc l < 4294967296 := crc_lt hl
            obtain ⟨y0, hy0⟩ : ∃ y0 : Nat, crc l = y0 := ⟨_, rfl⟩
            obtain ⟨y1, hy1⟩ : ∃ y1 : Nat, crc lc = y1 := ⟨_, rfl⟩
            rw [hy0, hy1] at hbu
            rw [hy0] at hx0
            have hne : (((y0 : Nat) : Int) != ((y1 : Nat) : Int)) = !decide (w = 0) := by
              by_cases hw0 : w = 0
              · have := hbu.2 hw0; subst this; simp [hw0]
              · have : y0 ≠ y1 := fun q => hw0 (hbu.1 q)
                simp [hw0]
                omega
            have hHl := (unhide Hh).up hB
            have hHc : HasB wr (.slice (some ⟨g, 0, none⟩) l.length cap) lc := hR.has hlc.symm ⟨hcap1, hcap2⟩
            have hge : (0 : Int) ≤ (y0 : Int) := Int.natCast_nonneg _
            have hbb : ((!decide (w = 0)) == (!decide (w = 0))) = true := by simp
            clear hbu hw hnum hR hw32
            generalize hbw : (!decide (w = 0)) = bw at *
            go_wp2_with fail
            refine (crc_any (hT.up hB) hHl hl (by omega)).mono ?_
            rintro e w4 ⟨rfl, hb4⟩
            have hB4 : Below W.heap.size W w4 := hB.trans (hb4.mono hB.size)
            rw [hy0]
            go_wp2_with fail
            refine (crc_any (hT.up hB4) (hHc.up hb4) hbc (by omega)).mono ?_
            rintro e w5 ⟨rfl, hb5⟩
            have hB5 : Below W.heap.size W w5 := hB4.trans (hb5.mono hB4.size)
            rw [hy1]
            go_wp2
            go_ret
            exact ⟨by simp; omega, hB5⟩
        · obtain rfl : i = 32 := by omega
          have hw32 : w < 4294967296 := Nat.lt_of_lt_of_le hw (Nat.le_trans (Nat.pow_le_pow_right (by decide) hk) (by omega))
          have hbu := burst (b := l) (c := lc) hlc.symm (at' := A) (w := w) (by omega) hw32 hnum
          have hx0 : crc l < 4294967296 := crc_lt hl
          obtain ⟨y0, hy0⟩ : ∃ y0 : Nat, crc l = y0 := ⟨_, rfl⟩
          obtain ⟨y1, hy1⟩ : ∃ y1 : Nat, crc lc = y1 := ⟨_, rfl⟩
          rw [hy0, hy1] at hbu
          rw [hy0] at hx0
          have hne : (((y0 : Nat) : Int) != ((y1 : Nat) : Int)) = !decide (w = 0) := by
            by_cases hw0 : w = 0
            · have := hbu.2 hw0; subst this; simp [hw0]
            · have : y0 ≠ y1 := fun q => hw0 (hbu.1 q)
              simp [hw0]
              omega
          have hHl := (unhide Hh).up hB
          have hHc : HasB wr (.slice (some ⟨g, 0, none⟩) l.length cap) lc := hR.has hlc.symm ⟨hcap1, hcap2⟩
          have hge : (0 : Int) ≤ (y0 : Int) := Int.natCast_nonneg _
          have hbb : ((!decide (w = 0)) == (!decide (w = 0))) = true := by simp
          clear hbu hw hnum hR hw32
          generalize hbw : (!decide (w = 0)) = bw at *
          go_wp2_with fail
          refine (crc_any (hT.up hB) hHl hl (by omega)).mono ?_
          rintro e w4 ⟨rfl, hb4⟩
          have hB4 : Below W.heap.size W w4 := hB.trans (hb4.mono hB.size)
          rw [hy0]
          go_wp2_with fail
          refine (crc_any (hT.up hB4) (hHc.up hb4) hbc (by omega)).mono ?_
          rintro e w5 ⟨rfl, hb5⟩
          have hB5 : Below W.heap.size W w5 := hB4.trans (hb5.mono hB4.size)
          rw [hy1]
          go_wp2
          go_ret
          exact ⟨by simp; omega, hB5⟩
end Go.Proofs.YtoclbmdnndaccaaDoor
