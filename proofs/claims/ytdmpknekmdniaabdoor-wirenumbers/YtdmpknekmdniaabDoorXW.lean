import Derived.Test.YtdmpknekmdniaabDoorXT
import Derived.Test.YtdmpknekmdniaabDoorWKw
namespace Go.Proofs.YtdmpknekmdniaabDoor
open Go.RowKit
attribute [local go_sem ↓] Go.wp_at_zero Go.wp_at_succ

/-- Numbers that came in. -/
def HasI (W : World) (v : Value) (l : List Int) : Prop := ∃ a c, v = .slice a l.length c ∧ l.length ≤ maxLen ∧ (∀ x ∈ l, Rng x) ∧ (0 < l.length → ∃ g off, a = some ⟨g, off, none⟩ ∧ g < W.heap.size ∧ ∀ i x, l[i]? = some x → W.cell? ⟨g, off + i, none⟩ = some (.int .i64 x))

set_option maxRecDepth 100000 in
set_option maxHeartbeats 8000000 in
theorem numbers_any (hadd : AddNil) {W : World} (hF : HasF W) {v : Value} {l : List Int} (h : HasI W v l) : Calls Tryd.prog 4 #[v] W fun e W' => e = .returned (.bool true) ∧ Below W.heap.size W W' := by
  obtain ⟨a, c, rfl, hm, hr, h3⟩ := h
  have H3 := hide h3
  have Hr := hide hr
  unfold maxLen at hm
  clear h3 hr
  go_enter Tryd.func4, Tryd.ntmps4
  go_wp2_with fail
  refine (known_any hadd hF).mono ?_
  rintro e w0 ⟨rfl, hb0⟩
  go_wp2
  go_loopg [3] l.length (fun gk v3 wr => ∃ (i : Nat), v3 = .int .i64 (i : Int) ∧ gk = l.length - i ∧ (i = 0 ∨ i < l.length) ∧ Below W.heap.size W wr)
  case atStart => exact ⟨0, rfl, rfl, .inl rfl, hb0⟩
  case round =>
    clear hb0
    obtain ⟨i, rfl, hgk, hin, hB⟩ := hrel
    have Hgk := hide hgk
    clear hgk
    have hw : wrap64 ((i : Int) + 1) = (i : Int) + 1 := wrap64_small (by omega) (by omega)
    by_cases hlt : i + 1 < l.length
    · obtain ⟨g, off, rfl, hg, hc⟩ := unhide H3 (by clear hw; omega)
      obtain ⟨x, hx⟩ : ∃ x, l[i]? = some x := ⟨_, List.getElem?_eq_getElem (by clear hw; omega)⟩
      obtain ⟨y, hy⟩ : ∃ y, l[i + 1]? = some y := ⟨_, List.getElem?_eq_getElem hlt⟩
      have hRx := unhide Hr x (List.mem_of_getElem? hx)
      have q0 := hc i x hx
      have q1 := hc (i + 1) y hy
      have HC : Hid (∀ w, Below W.heap.size W w → w.cell? ⟨g, off + i, none⟩ = some (.int .i64 x) ∧ w.cell? ⟨g, off + (i + 1), none⟩ = some (.int .i64 y)) := fun w hb => ⟨(hb.cell (p := ⟨g, off + i, none⟩) hg).trans q0, (hb.cell (p := ⟨g, off + (i + 1), none⟩) hg).trans q1⟩
      have hi0 : (0 : Int) ≤ (i : Int) := Int.natCast_nonneg _
      have hi1 : (i : Int) < (l.length : Int) := by clear hw; omega
      obtain ⟨j, hj⟩ : ∃ j : Nat, (i : Int) + 1 = (j : Int) ∧ j = i + 1 := ⟨i + 1, by omega, rfl⟩
      obtain ⟨hj, hj'⟩ := hj
      have hi2 : (j : Int) < (l.length : Int) := by clear hw; omega
      have hi3 : (0 : Int) ≤ (j : Int) := Int.natCast_nonneg _
      have hw3 : IntKind.i64.wrap ((i : Int) + 1) = (j : Int) := by clear hw; rw [IntKind.wrap_i64]; omega
      have hw4 : wrap64 ((i : Int) + 1) = (j : Int) := hw.trans hj
      rw [← hj'] at HC
      have Hj := hide hj
      have Hj' := hide hj'
      have hltj : j < l.length := by clear hw hw3 hw4; omega
      clear hw hj hj'
      clear hc hx hy q0 q1
      obtain ⟨c0, c1⟩ := unhide HC wr hB
      go_wp2_with fail
      have hB_wr := hB
      clear hB
      refine (varint_any wr x (un x) (un_wrap x) (un_lt x)).mono ?_
      rintro e w1 ⟨va, rfl, hv, hb⟩
      have hB_w1 := hB_wr.trans (hb.mono hB_wr.size)
      have Ha_w1 := hide hv.has
      clear hb hv c0 c1 hB_wr
      obtain ⟨c0, c1⟩ := unhide HC w1 hB_w1
      go_wp2_with fail
      refine (zig_any w1 x hRx).mono ?_
      rintro e w' ⟨rfl, he⟩
      obtain rfl : w1 = w' := he.symm
      go_wp2_with fail
      refine (zag_any w1 x).mono ?_
      rintro e w' ⟨rfl, he⟩
      obtain rfl : w1 = w' := he.symm
      go_wp2_with fail
      refine (xvarint_any w1 x hRx).mono ?_
      rintro e w2 ⟨vb, rfl, hv, hb⟩
      have hB_w2 := hB_w1.trans (hb.mono hB_w1.size)
      have Ha_w2 := hide ((unhide Ha_w1).up hb)
      have Hb_w2 := hide hv.has
      clear hb hv c0 c1 hB_w1 Ha_w1
      obtain ⟨c0, c1⟩ := unhide HC w2 hB_w2
      go_wp2_with fail
      refine (same_any (unhide Ha_w2) (unhide Hb_w2)).mono ?_
      rintro e w3 ⟨rfl, hb⟩
      have hB_w3 := hB_w2.trans (hb.mono hB_w2.size)
      have Ha_w3 := hide ((unhide Ha_w2).up hb)
      have Hb_w3 := hide ((unhide Hb_w2).up hb)
      clear hb c0 c1 hB_w2 Ha_w2 Hb_w2
      clear Ha_w3
      clear Hb_w3
      obtain ⟨c0, c1⟩ := unhide HC w3 hB_w3
      go_wp2_with fail
      refine (xzig_any w3 x hRx).mono ?_
      rintro e w' ⟨rfl, he⟩
      obtain rfl : w3 = w' := he.symm
      have z0 : (zig x != zig x) = false := by simp
      go_wp2_with fail
      refine (xzag_any w3 x hRx).mono ?_
      rintro e w' ⟨rfl, he⟩
      obtain rfl : w3 = w' := he.symm
      have y0 : (zag x != zag x) = false := by simp
      go_wp2_with fail
      have HS_c : Hid (∀ w', Below w3.heap.size w3 w' → (w'.cell? ⟨g, off + i, none⟩ = some (.int .i64 x) ∧ w'.cell? ⟨g, off + j, none⟩ = some (.int .i64 y)) ∧ Below w3.heap.size w3 w') := fun w' h => ⟨unhide HC w' (hB_w3.trans (h.mono hB_w3.size)), h⟩
      go_region_held3 (fun w' => (w'.cell? ⟨g, off + i, none⟩ = some (.int .i64 x) ∧ w'.cell? ⟨g, off + j, none⟩ = some (.int .i64 y)) ∧ Below w3.heap.size w3 w')
        ((refine unhide HS_c _ ?_; first | exact (Below.refl _ _).drew | exact hB2 | exact Below.refl _ _))
        (first
          | (go_at_call 24; refine (fixedU w3.drew x y).mono ?_; intro o w4 hfx; obtain ⟨vc, rfl, hv, hb2⟩ := hfx.gives; have hB2 : Below w3.heap.size w3 w4 := ((Below.refl _ w3).drew).trans hb2; have Hc_w4 := hide hv; clear hv hfx))
      have hB_w4 := hB_w3.trans (hB2.mono hB_w3.size)
      clear hB2 hb2 HS_c c0 c1 hB_w3
      obtain ⟨c0, c1⟩ := unhide HC w4 hB_w4
      go_wp2_with fail
      have HS_d : Hid (∀ w', Below w4.heap.size w4 w' → (w'.cell? ⟨g, off + i, none⟩ = some (.int .i64 x) ∧ w'.cell? ⟨g, off + j, none⟩ = some (.int .i64 y)) ∧ Below w4.heap.size w4 w') := fun w' h => ⟨unhide HC w' (hB_w4.trans (h.mono hB_w4.size)), h⟩
      go_region_held3 (fun w' => (w'.cell? ⟨g, off + i, none⟩ = some (.int .i64 x) ∧ w'.cell? ⟨g, off + j, none⟩ = some (.int .i64 y)) ∧ Below w4.heap.size w4 w')
        ((refine unhide HS_d _ ?_; first | exact (Below.refl _ _).drew | exact hB2 | exact Below.refl _ _))
        (first
          | (go_at_call 25; refine (xfixedU w4.drew x y hRx).mono ?_; intro o w5 hfx; obtain ⟨vd, rfl, hv, hb2⟩ := hfx.gives; have hB2 : Below w4.heap.size w4 w5 := ((Below.refl _ w4).drew).trans hb2; have Hd_w5 := hide hv; clear hv hfx))
      have hB_w5 := hB_w4.trans (hB2.mono hB_w4.size)
      have Hc_w5 := hide ((unhide Hc_w4).up hB2)
      clear hB2 hb2 HS_d c0 c1 hB_w4 Hc_w4
      obtain ⟨c0, c1⟩ := unhide HC w5 hB_w5
      have f0 : (fixC x y != fixC x y) = false := by simp
      go_wp2_with fail
      refine (same_any (unhide Hc_w5) (unhide Hd_w5)).mono ?_
      rintro e w6 ⟨rfl, hb⟩
      have hB_w6 := hB_w5.trans (hb.mono hB_w5.size)
      have Hc_w6 := hide ((unhide Hc_w5).up hb)
      have Hd_w6 := hide ((unhide Hd_w5).up hb)
      clear hb c0 c1 hB_w5 Hc_w5 Hd_w5
      clear Hc_w6
      clear Hd_w6
      obtain ⟨c0, c1⟩ := unhide HC w6 hB_w6
      go_wp2_with fail
      have f4 : (fixC x 4 != fixC x 4) = false := by simp
      have f8 : (fixC x 8 != fixC x 8) = false := by simp
      have t0 : (tagC x y != tagC x y) = false := by simp
      refine wp_loop_rounds 3 ?_
      rw [rounds_succ]
      go_wp2_with fail
      refine (fixedU w6 x 4).mono ?_
      intro o w7 hfx
      obtain ⟨ve, rfl, hv, hb⟩ := hfx.gives
      have hB_w7 := hB_w6.trans (hb.mono hB_w6.size)
      have He_w7 := hide hv
      clear hv hfx hb c0 c1 hB_w6
      obtain ⟨c0, c1⟩ := unhide HC w7 hB_w7
      go_wp2_with fail
      refine (xfixedU w7 x 4 hRx).mono ?_
      intro o w8 hfx
      obtain ⟨vf, rfl, hv, hb⟩ := hfx.gives
      have hB_w8 := hB_w7.trans (hb.mono hB_w7.size)
      have He_w8 := hide ((unhide He_w7).up hb)
      have Hf_w8 := hide hv
      clear hv hfx hb c0 c1 hB_w7 He_w7
      obtain ⟨c0, c1⟩ := unhide HC w8 hB_w8
      go_wp2_with fail
      refine (same_any (unhide He_w8) (unhide Hf_w8)).mono ?_
      rintro e w9 ⟨rfl, hb⟩
      have hB_w9 := hB_w8.trans (hb.mono hB_w8.size)
      have He_w9 := hide ((unhide He_w8).up hb)
      have Hf_w9 := hide ((unhide Hf_w8).up hb)
      clear hb c0 c1 hB_w8 He_w8 Hf_w8
      clear He_w9
      clear Hf_w9
      obtain ⟨c0, c1⟩ := unhide HC w9 hB_w9
      go_wp2_with fail
      rw [rounds_succ]
      go_wp2_with fail
      refine (fixedU w9 x 8).mono ?_
      intro o w10 hfx
      obtain ⟨ve, rfl, hv, hb⟩ := hfx.gives
      have hB_w10 := hB_w9.trans (hb.mono hB_w9.size)
      have He_w10 := hide hv
      clear hv hfx hb c0 c1 hB_w9
      obtain ⟨c0, c1⟩ := unhide HC w10 hB_w10
      go_wp2_with fail
      refine (xfixedU w10 x 8 hRx).mono ?_
      intro o w11 hfx
      obtain ⟨vf, rfl, hv, hb⟩ := hfx.gives
      have hB_w11 := hB_w10.trans (hb.mono hB_w10.size)
      have He_w11 := hide ((unhide He_w10).up hb)
      have Hf_w11 := hide hv
      clear hv hfx hb c0 c1 hB_w10 He_w10
      obtain ⟨c0, c1⟩ := unhide HC w11 hB_w11
      go_wp2_with fail
      refine (same_any (unhide He_w11) (unhide Hf_w11)).mono ?_
      rintro e w12 ⟨rfl, hb⟩
      have hB_w12 := hB_w11.trans (hb.mono hB_w11.size)
      have He_w12 := hide ((unhide He_w11).up hb)
      have Hf_w12 := hide ((unhide Hf_w11).up hb)
      clear hb c0 c1 hB_w11 He_w11 Hf_w11
      clear He_w12
      clear Hf_w12
      obtain ⟨c0, c1⟩ := unhide HC w12 hB_w12
      go_wp2_with fail
      rw [rounds_succ]
      go_wp2_with fail
      have HS_p : Hid (∀ w', Below w12.heap.size w12 w' → (w'.cell? ⟨g, off + i, none⟩ = some (.int .i64 x) ∧ w'.cell? ⟨g, off + j, none⟩ = some (.int .i64 y)) ∧ Below w12.heap.size w12 w') := fun w' h => ⟨unhide HC w' (hB_w12.trans (h.mono hB_w12.size)), h⟩
      go_region_held3 (fun w' => (w'.cell? ⟨g, off + i, none⟩ = some (.int .i64 x) ∧ w'.cell? ⟨g, off + j, none⟩ = some (.int .i64 y)) ∧ Below w12.heap.size w12 w')
        ((refine unhide HS_p _ ?_; first | exact (Below.refl _ _).drew | exact hB2 | exact Below.refl _ _))
        (first
          | (go_at_call 26; refine (tagU w12.drew x y).mono ?_; intro o w13 hfx; obtain ⟨vp, rfl, hv, hb2⟩ := hfx.gives; have hB2 : Below w12.heap.size w12 w13 := ((Below.refl _ w12).drew).trans hb2; have Hp_w13 := hide hv; clear hv hfx))
      have hB_w13 := hB_w12.trans (hB2.mono hB_w12.size)
      clear hB2 hb2 HS_p c0 c1 hB_w12
      obtain ⟨c0, c1⟩ := unhide HC w13 hB_w13
      go_wp2_with fail
      have HS_q : Hid (∀ w', Below w13.heap.size w13 w' → (w'.cell? ⟨g, off + i, none⟩ = some (.int .i64 x) ∧ w'.cell? ⟨g, off + j, none⟩ = some (.int .i64 y)) ∧ Below w13.heap.size w13 w') := fun w' h => ⟨unhide HC w' (hB_w13.trans (h.mono hB_w13.size)), h⟩
      go_region_held3 (fun w' => (w'.cell? ⟨g, off + i, none⟩ = some (.int .i64 x) ∧ w'.cell? ⟨g, off + j, none⟩ = some (.int .i64 y)) ∧ Below w13.heap.size w13 w')
        ((refine unhide HS_q _ ?_; first | exact (Below.refl _ _).drew | exact hB2 | exact Below.refl _ _))
        (first
          | (go_at_call 27; refine (xtagU w13.drew x y).mono ?_; intro o w14 hfx; obtain ⟨vq, rfl, hv, hb2⟩ := hfx.gives; have hB2 : Below w13.heap.size w13 w14 := ((Below.refl _ w13).drew).trans hb2; have Hq_w14 := hide hv; clear hv hfx))
      have hB_w14 := hB_w13.trans (hB2.mono hB_w13.size)
      have Hp_w14 := hide ((unhide Hp_w13).up hB2)
      clear hB2 hb2 HS_q c0 c1 hB_w13 Hp_w13
      obtain ⟨c0, c1⟩ := unhide HC w14 hB_w14
      go_wp2_with fail
      refine (same_any (unhide Hp_w14) (unhide Hq_w14)).mono ?_
      rintro e w15 ⟨rfl, hb⟩
      have hB_w15 := hB_w14.trans (hb.mono hB_w14.size)
      have Hp_w15 := hide ((unhide Hp_w14).up hb)
      have Hq_w15 := hide ((unhide Hq_w14).up hb)
      clear hb c0 c1 hB_w14 Hp_w14 Hq_w14
      clear Hp_w15
      clear Hq_w15
      obtain ⟨c0, c1⟩ := unhide HC w15 hB_w15
      go_wp2
      go_roundg (l.length - j)
      case measure => have := unhide Hgk; have := unhide Hj'; omega
      case rel => exact ⟨j, by go_num, rfl, .inr hltj, hB_w15⟩
    · go_wp2
      go_ret
      exact ⟨rfl, hB⟩
end Go.Proofs.YtdmpknekmdniaabDoor
