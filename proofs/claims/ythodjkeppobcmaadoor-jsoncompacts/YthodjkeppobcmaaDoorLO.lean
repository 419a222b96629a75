import Derived.Test.YthodjkeppobcmaaDoorLN
import Derived.Outline

namespace Go.Proofs.YthodjkeppobcmaaDoor
open Go.RowKit Go.Lib
attribute [local go_sem ↓] Go.wp_at_zero Go.wp_at_succ

theorem wpAnyZ_two {P : Program} {md : Region.Mode} {ops : Array Oper} {Q : Exit → Act → World → Prop} {T : World → Prop} {z : Nat} (i j : Nat) {oi oj : Oper} {n : Nat} {d : Array Bool} {a : Act} {w : World} (hr : Region.ready md ops d = [i, j]) (hi : ops[i]? = some oi) (hj : ops[j]? = some oj)
    (h1 : ∀ K : Act → World → Prop, (∀ a' w', ((i ≠ z → T w') ∧ wpAnyZ P md ops Q T z n (d.setIfInBounds i true) a' w') → K a' w') → if Region.wanted oi (yielded ops a.tmps) = true then Oper.wp P oi a w K Q else K (a.put oi.dst undef) w)
    (h2 : ∀ K : Act → World → Prop, (∀ a' w', ((j ≠ z → T w') ∧ wpAnyZ P md ops Q T z n (d.setIfInBounds j true) a' w') → K a' w') → if Region.wanted oj (yielded ops a.tmps) = true then Oper.wp P oj a w K Q else K (a.put oj.dst undef) w) : wpAnyZ P md ops Q T z (n + 1) d a w := by
  refine ⟨fun h0 => (by rw [h0] at hr; cases hr), fun k hk => ?_⟩
  rw [hr] at hk
  rcases (by simpa using hk : k = i ∨ k = j) with rfl | rfl
  · exact wpOp_step hi h1
  · exact wpOp_step hj h2
theorem leafR {w1 w2 : World} {t : Nat} {s : ByteArray} {pl kd k e : Nat} {x : ByteArray} (hx : Tx w1 t s e 0 pl w2) (h1 : kd ≠ 1) (h2 : kd ≠ 2) (h3 : k ≤ e) : VR w1 w1 t s pl (.ok (((strN s).drop k).take (e - k), e)) (.returned (NdV.val ⟨kd, k, e, x, .slice none 0 0, .slice none 0 0⟩)) w2 :=
  ⟨_, rfl, ⟨⟨_, _, _, rfl⟩, ⟨_, _, _, rfl⟩⟩, hx, .leaf kd k e x _ _ ⟨⟨_, _, _, rfl⟩, ⟨_, _, _, rfl⟩⟩ h1 h2 h3 (by rw [strN_len]; exact hx.le)⟩
theorem heap_drew (w : World) : w.drew.heap = w.heap := rfl
theorem VR.drew {V W : World} {t : Nat} {s : ByteArray} {pl : Nat} {R : RR} {e : Ending} {w : World} (h : VR V W t s pl R e w) : VR V W t s pl R e w.drew := by
  obtain ⟨d, h1, h2, h3⟩ := h
  refine ⟨d, h1, h2, ?_⟩
  match R, h3 with
  | .error (c, p), ⟨a, hx⟩ => exact ⟨a, hx.drew⟩
  | .ok (l, p), ⟨hx, hn⟩ => exact ⟨hx.drew, HasNd.to (w := w) (w' := w.drew) (P := fun g => W.heap.size ≤ g) (Q := fun g => W.heap.size ≤ g) (Nat.le_refl w.heap.size) (fun g hg _ => ⟨hg, rfl⟩) hn⟩
theorem badR {w1 w2 : World} {t : Nat} {s : ByteArray} {pl a c p : Nat} (d : NdV) (hx : Tx w1 t s a c p w2) (hd : isSl d.vn ∧ isSl d.vi) : VR w1 w1 t s pl (.error (c, p)) (.returned d.val) w2 := ⟨d, rfl, hd, a, hx⟩
set_option maxRecDepth 100000 in
set_option maxHeartbeats 2000000 in
theorem tvalue_deep {V W : World} {t : Nat} {s : ByteArray} {a pl : Nat} (h : Tx V t s a 0 pl W) (hs : s.size ≤ 67108864) (hb : bt (strN s) (skB (strN s) a) = 123 ∨ bt (strN s) (skB (strN s) a) = 91) : Calls Tryd.prog 19 #[.pointer (some ⟨t, 0, none⟩), .int .i64 ((200 : Nat) : Int)] W (VR V W t s pl (valR (strN s) 0 a)) := by
  have hR' : valR (strN s) 0 a = .error (4, skB (strN s) a) := by unfold valR; rw [if_pos hb]
  rw [hR']
  clear hR'
  have HNx := hide (next_any (h.grow (.cells #[.int .i64 0, .int .i64 0, .int .i64 0, .string ⟨#[]⟩, .slice none 0 0, .slice none 0 0] 43)).self hs)
  have ht := (Array.getElem?_eq_some_iff.1 h.blk).1
  have hvs := h.gr.size
  have hle := h.le
  have Hgr := hide (World.grownBy.trans h.gr (show W.grownBy (W.alloc (.cells #[.int .i64 0, .int .i64 0, .int .i64 0, .string ⟨#[]⟩, .slice none 0 0, .slice none 0 0] 43)) (some t) from World.grownBy_alloc W _ _))
  have hrb := heap_new W (.cells #[.int .i64 0, .int .i64 0, .int .i64 0, .string ⟨#[]⟩, .slice none 0 0, .slice none 0 0] 43)
  obtain ⟨r, hr⟩ : ∃ r, W.heap.size = r := ⟨_, rfl⟩
  rw [hr] at hrb
  have HRb := hide hrb
  have Hr0 := hide hr
  have Hne0 : Hid (r < W.heap.size + 1 ∧ r ≠ t ∧ V.heap.size ≤ r ∧ W.heap.size ≤ r) := by show _ ∧ _; omega
  have Hsk := hide (skB_in hle)
  obtain ⟨k, hk⟩ : ∃ k, skB (strN s) a = k := ⟨_, rfl⟩
  rw [hk] at HNx Hsk
  have hx256 := bt_256 s k
  obtain ⟨x, hx⟩ : ∃ x, bt (strN s) k = x := ⟨_, rfl⟩
  rw [hx] at HNx hx256
  have Hx := hide hx
  have Hk := hide hk
  have HL := hide (strN_len s)
  clear h hvs hrb hr
  rw [hk, hx] at hb
  rw [hk]
  clear hx hk
  rcases hb with hb | hb
  all_goals (
    subst hb
    go_enter Tryd.func19, Tryd.ntmps19
    go_wp2_with fail
    refine (unhide HNx).mono ?_
    rintro e w1 ⟨rfl, h1⟩
    have rb1 := (h1.gr.block r (by rw [World.size_alloc]; exact (unhide Hne0).1) (by simpa using (unhide Hne0).2.1)).trans (unhide HRb)
    have hws : W.heap.size + 1 ≤ w1.heap.size := by have := h1.gr.size; rw [World.size_alloc] at this; exact this
    have HRb1 := hide rb1
    have HG1 := hide (World.grownBy.trans (unhide Hgr) h1.gr)
    have HNe : Hid (r < w1.heap.size ∧ r ≠ t ∧ V.heap.size ≤ r) := ⟨by have := (unhide Hne0).1; omega, (unhide Hne0).2.1, (unhide Hne0).2.2.1⟩
    have HNs : Hid (W.heap.size ≤ w1.heap.size) := by show _ ≤ _; omega
    have H1 := hide h1
    rw [unhide Hr0]
    clear h1 rb1 hws HNx Hgr HRb Hne0 Hr0
    have HC := hide (fail_any (unhide H1).self 4 k)
    obtain ⟨-, c1, -, -, -⟩ := (unhide H1).cells
    go_wp2_with fail
    refine (unhide HC).mono ?_
    rintro e w2 ⟨rfl, h2⟩
    simp only [if_true] at h2
    have rb := (h2.gr.block r (Array.getElem?_eq_some_iff.1 (unhide HRb1)).1 (by simpa using (unhide HNe).2.1)).trans (unhide HRb1)
    obtain ⟨⟨r0, r1, r2, r3, r4, r5⟩, rf⟩ := cells6 rb
    have g0 := rf 0
    have g1 := rf 1
    have g2 := rf 2
    have g3 := rf 3
    have g4 := rf 4
    have g5 := rf 5
    obtain ⟨k1, k2⟩ := set6_block rb (.int .i64 0) (.int .i64 0) (.int .i64 0) (.string ⟨#[]⟩) (.slice none 0 0) (.slice none 0 0)
    have hv : VR w1 w1 t s pl (.error (4, k)) (.returned (NdV.val ⟨0, 0, 0, ⟨#[]⟩, .slice none 0 0, .slice none 0 0⟩)) w2 := badR _ h2 ⟨⟨_, _, _, rfl⟩, ⟨_, _, _, rfl⟩⟩
    have hfin := hv.lay (V := V) (W := W) (r := r) (unhide HG1) (unhide HNe) (unhide HNs) k2
    have K1 := hide k1
    have HFin := hide hfin
    unfold set6 at K1 HFin
    clear hv h2 rb rf k1 k2 hfin HC H1 HG1
    go_wp2
    refine bodyPost_ret (results_cell_row rfl _ _ r 43 #[.int .i64 0, .int .i64 0, .int .i64 0, .string ⟨#[]⟩, .slice none 0 0, .slice none 0 0] (0, 0) _ rfl (unhide K1) Tryd.underlying43 rfl sizeNode) rfl ?_
    exact unhide HFin)
set_option maxRecDepth 100000 in
set_option maxHeartbeats 4000000 in
theorem tvalue_sc {V W : World} {t : Nat} {s : ByteArray} {a pl op d : Nat} (h : Tx V t s a 0 pl W) (hs : s.size ≤ 67108864) (hb1 : bt (strN s) (skB (strN s) a) ≠ 123) (hb2 : bt (strN s) (skB (strN s) a) ≠ 91) : Calls Tryd.prog 19 #[.pointer (some ⟨t, 0, none⟩), .int .i64 (op : Int)] W (VR V W t s pl (valR (strN s) d a)) := by
  have HNx := hide (next_any (h.grow (.cells #[.int .i64 0, .int .i64 0, .int .i64 0, .string ⟨#[]⟩, .slice none 0 0, .slice none 0 0] 43)).self hs)
  have ht := (Array.getElem?_eq_some_iff.1 h.blk).1
  have hvs := h.gr.size
  have hle := h.le
  have Hgr := hide (World.grownBy.trans h.gr (show W.grownBy (W.alloc (.cells #[.int .i64 0, .int .i64 0, .int .i64 0, .string ⟨#[]⟩, .slice none 0 0, .slice none 0 0] 43)) (some t) from World.grownBy_alloc W _ _))
  have hrb := heap_new W (.cells #[.int .i64 0, .int .i64 0, .int .i64 0, .string ⟨#[]⟩, .slice none 0 0, .slice none 0 0] 43)
  obtain ⟨r, hr⟩ : ∃ r, W.heap.size = r := ⟨_, rfl⟩
  rw [hr] at hrb
  have HRb := hide hrb
  have Hr0 := hide hr
  have Hne0 : Hid (r < W.heap.size + 1 ∧ r ≠ t ∧ V.heap.size ≤ r ∧ W.heap.size ≤ r) := by show _ ∧ _; omega
  have Hsk := hide (skB_in hle)
  obtain ⟨k, hk⟩ : ∃ k, skB (strN s) a = k := ⟨_, rfl⟩
  rw [hk] at HNx Hsk
  have hx256 := bt_256 s k
  obtain ⟨x, hx⟩ : ∃ x, bt (strN s) k = x := ⟨_, rfl⟩
  rw [hx] at HNx hx256
  have Hx := hide hx
  have Hk := hide hk
  have HL := hide (strN_len s)
  clear h hvs hrb hr
  obtain ⟨R, hR⟩ : ∃ R, valR (strN s) d a = R := ⟨_, rfl⟩
  have HR := hide hR
  rw [hR]
  rw [hk, hx] at hb1 hb2
  have e0 : ((x : Int) == 123) = false := by simp; omega
  have e1 : ((x : Int) == 91) = false := by simp; omega
  by_cases h34 : x = 34
  · have hv := val_str (d := d) hk (hx.trans h34)
    have hlt : k < s.size := bt_in (hx.trans h34) (by omega)
    have HV := hide hv
    subst h34
    clear hR hv hx hk hb1 hb2 e0 e1
    go_enter Tryd.func19, Tryd.ntmps19
    go_wp2_with fail
    refine (unhide HNx).mono ?_
    rintro e w1 ⟨rfl, h1⟩
    have rb1 := (h1.gr.block r (by rw [World.size_alloc]; exact (unhide Hne0).1) (by simpa using (unhide Hne0).2.1)).trans (unhide HRb)
    have hws : W.heap.size + 1 ≤ w1.heap.size := by have := h1.gr.size; rw [World.size_alloc] at this; exact this
    have HRb1 := hide rb1
    have HG1 := hide (World.grownBy.trans (unhide Hgr) h1.gr)
    have HNe : Hid (r < w1.heap.size ∧ r ≠ t ∧ V.heap.size ≤ r) := ⟨by have := (unhide Hne0).1; omega, (unhide Hne0).2.1, (unhide Hne0).2.2.1⟩
    have HNs : Hid (W.heap.size ≤ w1.heap.size) := by show _ ≤ _; omega
    have H1 := hide h1
    rw [unhide Hr0]
    clear h1 rb1 hws HNx Hgr HRb Hne0 Hr0
    have HC : Hid (Calls Tryd.prog 33 #[.pointer (some ⟨t, 0, none⟩)] w1 (VR w1 w1 t s pl R)) := by
      refine (text_any (unhide H1).self hs hlt).mono ?_
      intro e w hw
      match hE : strE (strN s) k, hw with
      | none, ⟨he, hx⟩ =>
        subst he
        rw [← unhide HR, (unhide HV).1 hE]
        exact badR ⟨3, k, 0, ⟨#[]⟩, .slice none 0 0, .slice none 0 0⟩ hx ⟨⟨_, _, _, rfl⟩, ⟨_, _, _, rfl⟩⟩
      | some e5, ⟨⟨y, he⟩, hx⟩ =>
        subst he
        have := strG_le _ _ _ _ hE
        rw [← unhide HR, (unhide HV).2 e5 hE]
        exact leafR hx (by omega) (by omega) (by omega)
    go_wp2_with fail
    refine (unhide HC).mono ?_
    intro e w2 hv
    obtain ⟨d4, rfl, ⟨⟨an, nn, cn, e1⟩, ⟨ai, ni, ci, e2⟩⟩, -⟩ := id hv
    have hx : ∃ a5 er5 pl5, Tx w1 t s a5 er5 pl5 w2 := by
      obtain ⟨d', -, -, h2⟩ := hv
      match R, h2 with
      | .error (c5, p5), ⟨a5, h5⟩ => exact ⟨a5, c5, p5, h5⟩
      | .ok (l5, p5), ⟨h5, _⟩ => exact ⟨p5, 0, _, h5⟩
    obtain ⟨a5, er5, pl5, hx⟩ := hx
    have rb := (hx.gr.block r (Array.getElem?_eq_some_iff.1 (unhide HRb1)).1 (by simpa using (unhide HNe).2.1)).trans (unhide HRb1)
    obtain ⟨⟨r0, r1, r2, r3, r4, r5⟩, rf⟩ := cells6 rb
    have g0 := rf 0
    have g1 := rf 1
    have g2 := rf 2
    have g3 := rf 3
    have g4 := rf 4
    have g5 := rf 5
    obtain ⟨dk, da, de, dx, dn, di⟩ := d4
    simp only at e1 e2
    subst e1 e2
    obtain ⟨k1, k2⟩ := set6_block rb (.int .i64 dk) (.int .i64 da) (.int .i64 de) (.string dx) (.slice an nn cn) (.slice ai ni ci)
    have hfin := hv.lay (V := V) (W := W) (r := r) (unhide HG1) (unhide HNe) (unhide HNs) k2
    have K1 := hide k1
    have HFin := hide hfin
    unfold set6 at K1 HFin
    unfold NdV.val
    clear hv hx rb rf k1 k2 hfin
    go_wp2
    refine bodyPost_ret (results_cell_row rfl _ _ r 43 #[.int .i64 dk, .int .i64 da, .int .i64 de, .string dx, .slice an nn cn, .slice ai ni ci] (0, 0) _ rfl (unhide K1) Tryd.underlying43 rfl sizeNode) rfl ?_
    exact unhide HFin
  have e34 : ((x : Int) == 34) = false := by simp; omega
  have wordR : ∀ (c : Nat) (r0 : List Nat) (p : ByteArray) (kd : Nat) (w1 : World), x = c → ((c = 116 ∧ r0 = [114, 117, 101]) ∨ (c = 102 ∧ r0 = [97, 108, 115, 101]) ∨ (c = 110 ∧ r0 = [117, 108, 108])) → strN p = c :: r0 → p.size ≤ 5 → kd ≠ 1 → kd ≠ 2 → Tx w1 t s k 0 pl w1 → Calls Tryd.prog 34 #[.pointer (some ⟨t, 0, none⟩), .string p, .int .i64 (kd : Int)] w1 (VR w1 w1 t s pl R) := by
    intro c r0 p kd w1 hc hw hp hp5 hk1 hk2 h1
    have hps : p.size = r0.length + 1 := by rw [← strN_len, hp, List.length_cons]
    refine (tword_any h1 hs p hp5 kd).mono ?_
    have hv := val_word (d := d) hk (hx.trans hc) hw
    intro e w hw'
    rw [hps, hp] at hw'
    by_cases q : ((strN s).drop k).take (r0.length + 1) = c :: r0
    · rw [if_pos q] at hw' hv
      obtain ⟨he, hx'⟩ := hw'
      subst he
      rw [← unhide HR, hv, ← q, show r0.length + 1 = k + (r0.length + 1) - k by omega]
      have := leafR (kd := kd) (k := k) (x := ⟨#[]⟩) hx' hk1 hk2 (by omega)
      rw [show k + (k + (r0.length + 1) - k) = k + (r0.length + 1) by omega]
      have e5 : ((k + (r0.length + 1) : Nat) : Int) = (k : Int) + ((k + (r0.length + 1) - k : Nat) : Int) := by omega
      unfold NdV.val at this
      simp only at this
      rw [e5] at this
      exact this
    · rw [if_neg q] at hw' hv
      obtain ⟨he, hx'⟩ := hw'
      subst he
      rw [← unhide HR, hv]
      exact badR ⟨kd, k, 0, ⟨#[]⟩, .slice none 0 0, .slice none 0 0⟩ hx' ⟨⟨_, _, _, rfl⟩, ⟨_, _, _, rfl⟩⟩
  have HWd := hide wordR
  clear wordR
  by_cases h116 : x = 116
  · have HW1 := hide (fun w1 h1 => unhide HWd 116 [114, 117, 101] ⟨#[116, 114, 117, 101]⟩ 5 w1 h116 (.inl ⟨rfl, rfl⟩) rfl (by decide) (by omega) (by omega) h1)
    subst h116
    clear hR hx hk hb1 hb2 e0 e1 HWd e34 h34
    go_enter Tryd.func19, Tryd.ntmps19
    go_wp2_with fail
    refine (unhide HNx).mono ?_
    rintro e w1 ⟨rfl, h1⟩
    have rb1 := (h1.gr.block r (by rw [World.size_alloc]; exact (unhide Hne0).1) (by simpa using (unhide Hne0).2.1)).trans (unhide HRb)
    have hws : W.heap.size + 1 ≤ w1.heap.size := by have := h1.gr.size; rw [World.size_alloc] at this; exact this
    have HRb1 := hide rb1
    have HG1 := hide (World.grownBy.trans (unhide Hgr) h1.gr)
    have HNe : Hid (r < w1.heap.size ∧ r ≠ t ∧ V.heap.size ≤ r) := ⟨by have := (unhide Hne0).1; omega, (unhide Hne0).2.1, (unhide Hne0).2.2.1⟩
    have HNs : Hid (W.heap.size ≤ w1.heap.size) := by show _ ≤ _; omega
    have H1 := hide h1
    rw [unhide Hr0]
    clear h1 rb1 hws HNx Hgr HRb Hne0 Hr0
    have HC := hide (unhide HW1 w1 (unhide H1).self)
    go_wp2_with fail
    refine (unhide HC).mono ?_
    intro e w2 hv
    obtain ⟨d4, rfl, ⟨⟨an, nn, cn, e1⟩, ⟨ai, ni, ci, e2⟩⟩, -⟩ := id hv
    have hx : ∃ a5 er5 pl5, Tx w1 t s a5 er5 pl5 w2 := by
      obtain ⟨d', -, -, h2⟩ := hv
      match R, h2 with
      | .error (c5, p5), ⟨a5, h5⟩ => exact ⟨a5, c5, p5, h5⟩
      | .ok (l5, p5), ⟨h5, _⟩ => exact ⟨p5, 0, _, h5⟩
    obtain ⟨a5, er5, pl5, hx⟩ := hx
    have rb := (hx.gr.block r (Array.getElem?_eq_some_iff.1 (unhide HRb1)).1 (by simpa using (unhide HNe).2.1)).trans (unhide HRb1)
    obtain ⟨⟨r0, r1, r2, r3, r4, r5⟩, rf⟩ := cells6 rb
    have g0 := rf 0
    have g1 := rf 1
    have g2 := rf 2
    have g3 := rf 3
    have g4 := rf 4
    have g5 := rf 5
    obtain ⟨dk, da, de, dx, dn, di⟩ := d4
    simp only at e1 e2
    subst e1 e2
    obtain ⟨k1, k2⟩ := set6_block rb (.int .i64 dk) (.int .i64 da) (.int .i64 de) (.string dx) (.slice an nn cn) (.slice ai ni ci)
    have hfin := hv.lay (V := V) (W := W) (r := r) (unhide HG1) (unhide HNe) (unhide HNs) k2
    have K1 := hide k1
    have HFin := hide hfin
    unfold set6 at K1 HFin
    unfold NdV.val
    clear hv hx rb rf k1 k2 hfin
    go_wp2
    refine bodyPost_ret (results_cell_row rfl _ _ r 43 #[.int .i64 dk, .int .i64 da, .int .i64 de, .string dx, .slice an nn cn, .slice ai ni ci] (0, 0) _ rfl (unhide K1) Tryd.underlying43 rfl sizeNode) rfl ?_
    exact unhide HFin
  have e116 : ((x : Int) == 116) = false := by simp; omega
  by_cases h102 : x = 102
  · have HW1 := hide (fun w1 h1 => unhide HWd 102 [97, 108, 115, 101] ⟨#[102, 97, 108, 115, 101]⟩ 6 w1 h102 (.inr (.inl ⟨rfl, rfl⟩)) rfl (by decide) (by omega) (by omega) h1)
    subst h102
    clear hR hx hk hb1 hb2 e0 e1 HWd e34 h34 e116 h116
    go_enter Tryd.func19, Tryd.ntmps19
    go_wp2_with fail
    refine (unhide HNx).mono ?_
    rintro e w1 ⟨rfl, h1⟩
    have rb1 := (h1.gr.block r (by rw [World.size_alloc]; exact (unhide Hne0).1) (by simpa using (unhide Hne0).2.1)).trans (unhide HRb)
    have hws : W.heap.size + 1 ≤ w1.heap.size := by have := h1.gr.size; rw [World.size_alloc] at this; exact this
    have HRb1 := hide rb1
    have HG1 := hide (World.grownBy.trans (unhide Hgr) h1.gr)
    have HNe : Hid (r < w1.heap.size ∧ r ≠ t ∧ V.heap.size ≤ r) := ⟨by have := (unhide Hne0).1; omega, (unhide Hne0).2.1, (unhide Hne0).2.2.1⟩
    have HNs : Hid (W.heap.size ≤ w1.heap.size) := by show _ ≤ _; omega
    have H1 := hide h1
    rw [unhide Hr0]
    clear h1 rb1 hws HNx Hgr HRb Hne0 Hr0
    have HC := hide (unhide HW1 w1 (unhide H1).self)
    go_wp2_with fail
    refine (unhide HC).mono ?_
    intro e w2 hv
    obtain ⟨d4, rfl, ⟨⟨an, nn, cn, e1⟩, ⟨ai, ni, ci, e2⟩⟩, -⟩ := id hv
    have hx : ∃ a5 er5 pl5, Tx w1 t s a5 er5 pl5 w2 := by
      obtain ⟨d', -, -, h2⟩ := hv
      match R, h2 with
      | .error (c5, p5), ⟨a5, h5⟩ => exact ⟨a5, c5, p5, h5⟩
      | .ok (l5, p5), ⟨h5, _⟩ => exact ⟨p5, 0, _, h5⟩
    obtain ⟨a5, er5, pl5, hx⟩ := hx
    have rb := (hx.gr.block r (Array.getElem?_eq_some_iff.1 (unhide HRb1)).1 (by simpa using (unhide HNe).2.1)).trans (unhide HRb1)
    obtain ⟨⟨r0, r1, r2, r3, r4, r5⟩, rf⟩ := cells6 rb
    have g0 := rf 0
    have g1 := rf 1
    have g2 := rf 2
    have g3 := rf 3
    have g4 := rf 4
    have g5 := rf 5
    obtain ⟨dk, da, de, dx, dn, di⟩ := d4
    simp only at e1 e2
    subst e1 e2
    obtain ⟨k1, k2⟩ := set6_block rb (.int .i64 dk) (.int .i64 da) (.int .i64 de) (.string dx) (.slice an nn cn) (.slice ai ni ci)
    have hfin := hv.lay (V := V) (W := W) (r := r) (unhide HG1) (unhide HNe) (unhide HNs) k2
    have K1 := hide k1
    have HFin := hide hfin
    unfold set6 at K1 HFin
    unfold NdV.val
    clear hv hx rb rf k1 k2 hfin
    go_wp2
    refine bodyPost_ret (results_cell_row rfl _ _ r 43 #[.int .i64 dk, .int .i64 da, .int .i64 de, .string dx, .slice an nn cn, .slice ai ni ci] (0, 0) _ rfl (unhide K1) Tryd.underlying43 rfl sizeNode) rfl ?_
    exact unhide HFin
  have e102 : ((x : Int) == 102) = false := by simp; omega
  by_cases h110 : x = 110
  · have HW1 := hide (fun w1 h1 => unhide HWd 110 [117, 108, 108] ⟨#[110, 117, 108, 108]⟩ 7 w1 h110 (.inr (.inr ⟨rfl, rfl⟩)) rfl (by decide) (by omega) (by omega) h1)
    subst h110
    clear hR hx hk hb1 hb2 e0 e1 HWd e34 h34 e116 h116 e102 h102
    go_enter Tryd.func19, Tryd.ntmps19
    go_wp2_with fail
    refine (unhide HNx).mono ?_
    rintro e w1 ⟨rfl, h1⟩
    have rb1 := (h1.gr.block r (by rw [World.size_alloc]; exact (unhide Hne0).1) (by simpa using (unhide Hne0).2.1)).trans (unhide HRb)
    have hws : W.heap.size + 1 ≤ w1.heap.size := by have := h1.gr.size; rw [World.size_alloc] at this; exact this
    have HRb1 := hide rb1
    have HG1 := hide (World.grownBy.trans (unhide Hgr) h1.gr)
    have HNe : Hid (r < w1.heap.size ∧ r ≠ t ∧ V.heap.size ≤ r) := ⟨by have := (unhide Hne0).1; omega, (unhide Hne0).2.1, (unhide Hne0).2.2.1⟩
    have HNs : Hid (W.heap.size ≤ w1.heap.size) := by show _ ≤ _; omega
    have H1 := hide h1
    rw [unhide Hr0]
    clear h1 rb1 hws HNx Hgr HRb Hne0 Hr0
    have HC := hide (unhide HW1 w1 (unhide H1).self)
    go_wp2_with fail
    refine (unhide HC).mono ?_
    intro e w2 hv
    obtain ⟨d4, rfl, ⟨⟨an, nn, cn, e1⟩, ⟨ai, ni, ci, e2⟩⟩, -⟩ := id hv
    have hx : ∃ a5 er5 pl5, Tx w1 t s a5 er5 pl5 w2 := by
      obtain ⟨d', -, -, h2⟩ := hv
      match R, h2 with
      | .error (c5, p5), ⟨a5, h5⟩ => exact ⟨a5, c5, p5, h5⟩
      | .ok (l5, p5), ⟨h5, _⟩ => exact ⟨p5, 0, _, h5⟩
    obtain ⟨a5, er5, pl5, hx⟩ := hx
    have rb := (hx.gr.block r (Array.getElem?_eq_some_iff.1 (unhide HRb1)).1 (by simpa using (unhide HNe).2.1)).trans (unhide HRb1)
    obtain ⟨⟨r0, r1, r2, r3, r4, r5⟩, rf⟩ := cells6 rb
    have g0 := rf 0
    have g1 := rf 1
    have g2 := rf 2
    have g3 := rf 3
    have g4 := rf 4
    have g5 := rf 5
    obtain ⟨dk, da, de, dx, dn, di⟩ := d4
    simp only at e1 e2
    subst e1 e2
    obtain ⟨k1, k2⟩ := set6_block rb (.int .i64 dk) (.int .i64 da) (.int .i64 de) (.string dx) (.slice an nn cn) (.slice ai ni ci)
    have hfin := hv.lay (V := V) (W := W) (r := r) (unhide HG1) (unhide HNe) (unhide HNs) k2
    have K1 := hide k1
    have HFin := hide hfin
    unfold set6 at K1 HFin
    unfold NdV.val
    clear hv hx rb rf k1 k2 hfin
    go_wp2
    refine bodyPost_ret (results_cell_row rfl _ _ r 43 #[.int .i64 dk, .int .i64 da, .int .i64 de, .string dx, .slice an nn cn, .slice ai ni ci] (0, 0) _ rfl (unhide K1) Tryd.underlying43 rfl sizeNode) rfl ?_
    exact unhide HFin
  have e110 : ((x : Int) == 110) = false := by simp; omega
  have hv := val_num (d := d) hk (by rw [hx]; exact hb1) (by rw [hx]; exact hb2) (by rw [hx]; exact h34) (by rw [hx]; unfold isWd; simp; omega)
  rw [hR] at hv
  have HV := hide hv
  have HNl := hide (numE_le (unhide Hsk).2)
  clear hR hx hk hb1 hb2 h34 h116 h102 h110 hv HWd HR
  go_enter Tryd.func19, Tryd.ntmps19
  go_wp2_with fail
  refine (unhide HNx).mono ?_
  rintro e w1 ⟨rfl, h1⟩
  have rb1 := (h1.gr.block r (by rw [World.size_alloc]; exact (unhide Hne0).1) (by simpa using (unhide Hne0).2.1)).trans (unhide HRb)
  have hws : W.heap.size + 1 ≤ w1.heap.size := by have := h1.gr.size; rw [World.size_alloc] at this; exact this
  have HRb1 := hide rb1
  have HG1 := hide (World.grownBy.trans (unhide Hgr) h1.gr)
  have HNe : Hid (r < w1.heap.size ∧ r ≠ t ∧ V.heap.size ≤ r) := ⟨by have := (unhide Hne0).1; omega, (unhide Hne0).2.1, (unhide Hne0).2.2.1⟩
  have HNs : Hid (W.heap.size ≤ w1.heap.size) := by show _ ≤ _; omega
  have H1 := hide h1
  rw [unhide Hr0]
  clear h1 rb1 hws HNx Hgr HRb Hne0 Hr0
  obtain ⟨cs, c1, -, -, tf⟩ := (unhide H1).cells
  have t1 := tf 1
  have HC := hide (tnumber_any cs k (unhide Hsk).2 hs)
  have htl : t < w1.heap.size := (Array.getElem?_eq_some_iff.1 (unhide H1).blk).1
  obtain ⟨m, hm⟩ : ∃ m, numE (strN s) k = m := ⟨_, rfl⟩
  rw [hm] at HC HV HNl
  have Hm := hide hm
  clear tf hm HC
  go_upto_region 17 with fail
  go_cut [6] (fun v6 wx => v6 = .pointer (some ⟨w1.heap.size, 0, none⟩) ∧ wx = w1.drew.alloc (.cells #[.int .i64 4, .int .i64 (k : Int), .int .i64 (m : Int), .string ⟨#[]⟩, .slice none 0 0, .slice none 0 0] 43))
  case first =>
    have hT : (fun w : World => w.cell? ⟨t, 0, none⟩ = some (.string s) ∧ w.cell? ⟨t, 1, none⟩ = some (.int .i64 (k : Int))) w1.drew := ⟨cs, c1⟩
    refine wp_region_any (by kernel_rfl) (wpAny_of_Z (z := 13) (T := fun w => w.cell? ⟨t, 0, none⟩ = some (.string s) ∧ w.cell? ⟨t, 1, none⟩ = some (.int .i64 (k : Int))) _ _ _ _ ?_)
    try (change wpAnyZ _ _ _ _ _ _ _ _ _ (World.drew _))
    refine wpAnyZ_tk 0 (.pointer (some ⟨t, 0, none⟩)) 43 rfl rfl (Or.inl ⟨by rfl, fun w hw => by obtain ⟨hw1, hw2⟩ := hw; go_simp⟩) hT ?_
    simp only [Act.put, List.setIfInBounds_toArray, List.set_cons_zero, List.set_cons_succ]
    refine wpAnyZ_tk 1 (.pointer (some ⟨t, 0, none⟩)) 44 rfl rfl (Or.inl ⟨by rfl, fun w hw => by obtain ⟨hw1, hw2⟩ := hw; go_simp⟩) hT ?_
    simp only [Act.put, List.setIfInBounds_toArray, List.set_cons_zero, List.set_cons_succ]
    refine wpAnyZ_tk 2 (.pointer (some ⟨t, 1, none⟩)) 45 rfl rfl (Or.inl ⟨by rfl, fun w hw => by obtain ⟨hw1, hw2⟩ := hw; go_simp⟩) hT ?_
    simp only [Act.put, List.setIfInBounds_toArray, List.set_cons_zero, List.set_cons_succ]
    refine wpAnyZ_tk 3 (.int .i64 (k : Int)) 46 rfl rfl (Or.inl ⟨by rfl, fun w hw => by obtain ⟨hw1, hw2⟩ := hw; go_simp⟩) hT ?_
    simp only [Act.put, List.setIfInBounds_toArray, List.set_cons_zero, List.set_cons_succ]
    refine wpAnyZ_tk 4 (.pointer (some ⟨t, 0, none⟩)) 47 rfl rfl (Or.inl ⟨by rfl, fun w hw => by obtain ⟨hw1, hw2⟩ := hw; go_simp⟩) hT ?_
    simp only [Act.put, List.setIfInBounds_toArray, List.set_cons_zero, List.set_cons_succ]
    refine wpAnyZ_tk 5 (.pointer (some ⟨t, 0, none⟩)) 48 rfl rfl (Or.inl ⟨by rfl, fun w hw => by obtain ⟨hw1, hw2⟩ := hw; go_simp⟩) hT ?_
    simp only [Act.put, List.setIfInBounds_toArray, List.set_cons_zero, List.set_cons_succ]
    refine wpAnyZ_tk 6 (.pointer (some ⟨t, 0, none⟩)) 49 rfl rfl (Or.inl ⟨by rfl, fun w hw => by obtain ⟨hw1, hw2⟩ := hw; go_simp⟩) hT ?_
    simp only [Act.put, List.setIfInBounds_toArray, List.set_cons_zero, List.set_cons_succ]
    refine wpAnyZ_tk 7 (.pointer (some ⟨t, 1, none⟩)) 50 rfl rfl (Or.inl ⟨by rfl, fun w hw => by obtain ⟨hw1, hw2⟩ := hw; go_simp⟩) hT ?_
    simp only [Act.put, List.setIfInBounds_toArray, List.set_cons_zero, List.set_cons_succ]
    refine wpAnyZ_tk 8 (.int .i64 (k : Int)) 51 rfl rfl (Or.inl ⟨by rfl, fun w hw => by obtain ⟨hw1, hw2⟩ := hw; go_simp⟩) hT ?_
    simp only [Act.put, List.setIfInBounds_toArray, List.set_cons_zero, List.set_cons_succ]
    refine wpAnyZ_two 9 11 (by kernel_rfl) rfl rfl (fun K hK => ?_) (fun K hK => ?_)
    · refine step_callD 52 rfl rfl 35 (cf_tnumber _) #[.tmp 47, .tmp 51] #[53, 3] rfl #[.pointer (some ⟨t, 0, none⟩), .int .i64 (k : Int)] (by first | rfl | simp [Act.eval]) (show Calls Tryd.prog 35 _ w1.drew _ from tnumber_any (W := w1.drew) cs k (unhide Hsk).2 hs) ?_
      rintro e w2 ⟨rfl, rfl⟩
      refine ⟨_, rfl, hK _ _ ⟨fun _ => hT, ?_⟩⟩
      clear hK K
      rw [unhide Hm]
      simp only [Act.put, List.setIfInBounds_toArray, List.set_cons_zero, List.set_cons_succ]
      refine wpAnyZ_tk 10 (.agg #[.int .i64 4, .int .i64 (k : Int), .int .i64 (m : Int), .string ⟨#[]⟩, .slice none 0 0, .slice none 0 0]) 53 rfl rfl (Or.inl ⟨by rfl, fun w hw => by go_simp⟩) hT ?_
      simp only [Act.put, List.setIfInBounds_toArray, List.set_cons_zero, List.set_cons_succ]
      refine wpAnyZ_one 11 (by kernel_rfl) rfl (fun K hK => ?_)
      go_simp
      have hT2 : (fun w : World => w.cell? ⟨t, 0, none⟩ = some (.string s) ∧ w.cell? ⟨t, 1, none⟩ = some (.int .i64 (k : Int))) (w1.drew.alloc (.cells #[.int .i64 0, .int .i64 0, .int .i64 0, .string ⟨#[]⟩, .slice none 0 0, .slice none 0 0] 43)) := ⟨((unhide H1).drew.grow _).cells.1, ((unhide H1).drew.grow _).cells.2.1⟩
      refine hK _ _ ⟨fun _ => hT2, ?_⟩
      clear hK K
      refine wpAnyZ_one 12 (by kernel_rfl) rfl (fun K hK => ?_)
      go_simp
      have hT3 : (fun w : World => w.cell? ⟨t, 0, none⟩ = some (.string s) ∧ w.cell? ⟨t, 1, none⟩ = some (.int .i64 (k : Int))) (w1.drew.alloc (.cells #[.int .i64 4, .int .i64 (k : Int), .int .i64 (m : Int), .string ⟨#[]⟩, .slice none 0 0, .slice none 0 0] 43)) := ⟨((unhide H1).drew.grow _).cells.1, ((unhide H1).drew.grow _).cells.2.1⟩
      refine hK _ _ ⟨fun _ => hT3, ?_⟩
      clear hK K
      refine wpAnyZ_done (by kernel_rfl) ?_
      go_wp2_with fail
      go_meet
      exact ⟨rfl, rfl⟩
    · go_simp
      have hT2 : (fun w : World => w.cell? ⟨t, 0, none⟩ = some (.string s) ∧ w.cell? ⟨t, 1, none⟩ = some (.int .i64 (k : Int))) (w1.drew.alloc (.cells #[.int .i64 0, .int .i64 0, .int .i64 0, .string ⟨#[]⟩, .slice none 0 0, .slice none 0 0] 43)) := ⟨((unhide H1).drew.grow _).cells.1, ((unhide H1).drew.grow _).cells.2.1⟩
      refine hK _ _ ⟨fun _ => hT2, ?_⟩
      clear hK K
      refine wpAnyZ_one 9 (by kernel_rfl) rfl (fun K hK => ?_)
      refine step_callD 52 rfl rfl 35 (cf_tnumber _) #[.tmp 47, .tmp 51] #[53, 3] rfl #[.pointer (some ⟨t, 0, none⟩), .int .i64 (k : Int)] (by first | rfl | simp [Act.eval]) (tnumber_any hT2.1 k (unhide Hsk).2 hs) ?_
      rintro e w2 ⟨rfl, rfl⟩
      refine ⟨_, rfl, hK _ _ ⟨fun _ => hT2, ?_⟩⟩
      clear hK K
      rw [unhide Hm]
      simp only [Act.put, List.setIfInBounds_toArray, List.set_cons_zero, List.set_cons_succ]
      refine wpAnyZ_tk 10 (.agg #[.int .i64 4, .int .i64 (k : Int), .int .i64 (m : Int), .string ⟨#[]⟩, .slice none 0 0, .slice none 0 0]) 53 rfl rfl (Or.inl ⟨by rfl, fun w hw => by go_simp⟩) hT2 ?_
      simp only [Act.put, List.setIfInBounds_toArray, List.set_cons_zero, List.set_cons_succ]
      refine wpAnyZ_one 12 (by kernel_rfl) rfl (fun K hK => ?_)
      go_simp
      have hT3 : (fun w : World => w.cell? ⟨t, 0, none⟩ = some (.string s) ∧ w.cell? ⟨t, 1, none⟩ = some (.int .i64 (k : Int))) (w1.drew.alloc (.cells #[.int .i64 4, .int .i64 (k : Int), .int .i64 (m : Int), .string ⟨#[]⟩, .slice none 0 0, .slice none 0 0] 43)) := ⟨((unhide H1).drew.grow _).cells.1, ((unhide H1).drew.grow _).cells.2.1⟩
      refine hK _ _ ⟨fun _ => hT3, ?_⟩
      clear hK K
      refine wpAnyZ_done (by kernel_rfl) ?_
      go_wp2_with fail
      go_meet
      exact ⟨rfl, rfl⟩
  case rest =>
  obtain ⟨rfl, hwc⟩ := hcut
  have h3 := (unhide H1).self.drew.grow (.cells #[.int .i64 4, .int .i64 (k : Int), .int .i64 (m : Int), .string ⟨#[]⟩, .slice none 0 0, .slice none 0 0] 43)
  have nb3 : (w1.drew.alloc (.cells #[.int .i64 4, .int .i64 (k : Int), .int .i64 (m : Int), .string ⟨#[]⟩, .slice none 0 0, .slice none 0 0] 43)).heap[w1.heap.size]? = _ := heap_new w1.drew (.cells #[.int .i64 4, .int .i64 (k : Int), .int .i64 (m : Int), .string ⟨#[]⟩, .slice none 0 0, .slice none 0 0] 43)
  have rb3 : (w1.drew.alloc (.cells #[.int .i64 4, .int .i64 (k : Int), .int .i64 (m : Int), .string ⟨#[]⟩, .slice none 0 0, .slice none 0 0] 43)).heap[r]? = _ := (Below.heap_alloc w1.drew (.cells #[.int .i64 4, .int .i64 (k : Int), .int .i64 (m : Int), .string ⟨#[]⟩, .slice none 0 0, .slice none 0 0] 43) r (unhide HNe).1).trans (unhide HRb1)
  rw [← hwc] at h3 nb3 rb3
  obtain ⟨n, hn⟩ : ∃ n, w1.heap.size = n := ⟨_, rfl⟩
  have HNe2 : Hid (n ≠ t ∧ n ≠ r ∧ w1.heap.size ≤ n) := by have := (unhide HNe).1; show _ ∧ _; omega
  rw [hn] at nb3 ⊢
  have H3 := hide h3
  have Hnb3 := hide nb3
  have Hrb3 := hide rb3
  obtain ⟨d0, d1, -, -, df⟩ := h3.cells
  have df1 := df 1
  obtain ⟨⟨n0, n1, n2, n3, n4, n5⟩, nf⟩ := cells6 nb3
  have nf3 := nf 3
  clear h3 nb3 rb3 hwc hn df nf cs c1 t1 htl
  by_cases hkm : k < m
  · have HRk : Hid (R = .ok (((strN s).drop k).take (m - k), m)) := (unhide HV).trans (if_pos hkm)
    have q : ((m : Int) == (k : Int)) = false := by simp; omega
    have i1 : (k : Int) ≤ (m : Int) := by omega
    have i2 : (m : Int) ≤ (s.size : Int) := by have := (unhide HNl).2; omega
    have k0' : (0 : Int) ≤ (k : Int) := Int.natCast_nonneg _
    have ne1 : ¬ n = t := (unhide HNe2).1
    have ne2 : ¬ n = r := (unhide HNe2).2.1
    have ne3 : ¬ r = t := (unhide HNe).2.1
    have HEnd : Hid (∀ w5 : World, w5.heap = wc.heap → w5.os = wc.os → w5.tape = wc.tape → w5.output = wc.output → (set6 ((w5.setCell ⟨n, 3, none⟩ (.string (s.extract k m))).setCell ⟨t, 1, none⟩ (.int .i64 (m : Int))) r (.int .i64 4) (.int .i64 (k : Int)) (.int .i64 (m : Int)) (.string (s.extract k m)) (.slice none 0 0) (.slice none 0 0)).heap[r]? = some (.cells #[.int .i64 4, .int .i64 (k : Int), .int .i64 (m : Int), .string (s.extract k m), .slice none 0 0, .slice none 0 0] 43 (0, 0)) ∧ VR V W t s pl R (.returned (NdV.val ⟨4, k, m, s.extract k m, .slice none 0 0, .slice none 0 0⟩)) (set6 ((w5.setCell ⟨n, 3, none⟩ (.string (s.extract k m))).setCell ⟨t, 1, none⟩ (.int .i64 (m : Int))) r (.int .i64 4) (.int .i64 (k : Int)) (.int .i64 (m : Int)) (.string (s.extract k m)) (.slice none 0 0) (.slice none 0 0))) := by
      intro w5 e1 e2 e3 e4
      have hx5 : Tx w1 t s k 0 pl w5 := by
        have := unhide H3
        exact ⟨by rw [e1]; exact this.blk, ⟨e2.trans this.gr.os, e3.trans this.gr.tape, e4.trans this.gr.output, by rw [e1]; exact this.gr.size, fun g hg hn => by rw [e1]; exact this.gr.block g hg hn⟩, this.le⟩
      have nb5 : w5.heap[n]? = some (.cells #[.int .i64 4, .int .i64 (k : Int), .int .i64 (m : Int), .string ⟨#[]⟩, .slice none 0 0, .slice none 0 0] 43 (0, 0)) := by rw [e1]; exact unhide Hnb3
      have rb5 : w5.heap[r]? = some (.cells #[.int .i64 0, .int .i64 0, .int .i64 0, .string ⟨#[]⟩, .slice none 0 0, .slice none 0 0] 43 (0, 0)) := by rw [e1]; exact unhide Hrb3
      obtain ⟨m1, m2⟩ := set_block (j := 3) nb5 (.string (s.extract k m))
      have hx6 := hx5.other m2 ne1 (unhide HNe2).2.2
      have rb6 := (m2.block r (Array.getElem?_eq_some_iff.1 rb5).1 (by simpa using (Ne.symm ne2))).trans rb5
      have hx7 := hx6.at m (unhide HNl).2
      obtain ⟨m3, m4⟩ := set_block (j := 1) hx6.blk (.int .i64 (m : Int))
      have rb7 := (m4.block r (Array.getElem?_eq_some_iff.1 rb6).1 (by simpa using ne3)).trans rb6
      obtain ⟨k1, k2⟩ := set6_block rb7 (.int .i64 4) (.int .i64 (k : Int)) (.int .i64 (m : Int)) (.string (s.extract k m)) (.slice none 0 0) (.slice none 0 0)
      refine ⟨k1, ?_⟩
      rw [unhide HRk]
      exact VR.lay (leafR (kd := 4) hx7 (by omega) (by omega) (by omega)) (unhide HG1) (unhide HNe) (unhide HNs) k2
    obtain ⟨⟨r0, r1, r2, r3, r4, r5⟩, rf⟩ := cells6 (unhide Hrb3)
    have g0 := rf 0
    have g1 := rf 1
    have g2 := rf 2
    have g3 := rf 3
    have g4 := rf 4
    have g5 := rf 5
    unfold set6 at HEnd
    clear rf H1 H3 Hnb3 Hrb3 HV
    go_wp2_with fail
    go_region
    all_goals (
      go_wp2_with fail
      obtain ⟨k1, k2⟩ := unhide HEnd wc rfl rfl rfl rfl
      refine bodyPost_ret (results_cell_row rfl _ _ r 43 #[.int .i64 4, .int .i64 (k : Int), .int .i64 (m : Int), .string (s.extract k m), .slice none 0 0, .slice none 0 0] (0, 0) _ rfl ?_ Tryd.underlying43 rfl sizeNode) rfl ?_
      · rw [heap_drew]
        with_reducible exact k1
      · refine VR.drew ?_
        unfold NdV.val at k2
        simp only at k2
        with_reducible exact k2)
  · have HRk : Hid (R = .error (120, k)) := (unhide HV).trans (if_neg hkm)
    have hmk : m = k := by have := (unhide HNl).1; omega
    subst hmk
    have HC := hide (fail_any (unhide H3).self 120 m)
    clear H1 HV
    go_wp2_with fail
    refine (unhide HC).mono ?_
    rintro e w5 ⟨rfl, h5⟩
    simp only [if_true] at h5
    have hg5 := h5.gr
    have rb := (hg5.block r (Array.getElem?_eq_some_iff.1 (unhide Hrb3)).1 (by simpa using (unhide HNe).2.1)).trans (unhide Hrb3)
    have nb := (hg5.block n (Array.getElem?_eq_some_iff.1 (unhide Hnb3)).1 (by simpa using (unhide HNe2).1)).trans (unhide Hnb3)
    obtain ⟨⟨p0, p1, p2, p3, p4, p5⟩, -⟩ := cells6 nb
    obtain ⟨⟨r0, r1, r2, r3, r4, r5⟩, rf⟩ := cells6 rb
    have g0 := rf 0
    have g1 := rf 1
    have g2 := rf 2
    have g3 := rf 3
    have g4 := rf 4
    have g5 := rf 5
    obtain ⟨k1, k2⟩ := set6_block rb (.int .i64 4) (.int .i64 (m : Int)) (.int .i64 (m : Int)) (.string ⟨#[]⟩) (.slice none 0 0) (.slice none 0 0)
    have hfin : VR V W t s pl R (.returned (NdV.val ⟨4, m, m, ⟨#[]⟩, .slice none 0 0, .slice none 0 0⟩)) (set6 w5 r (.int .i64 4) (.int .i64 (m : Int)) (.int .i64 (m : Int)) (.string ⟨#[]⟩) (.slice none 0 0) (.slice none 0 0)) := by
      rw [unhide HRk]
      exact VR.lay (badR _ (h5.from (unhide H3).gr) ⟨⟨_, _, _, rfl⟩, ⟨_, _, _, rfl⟩⟩) (unhide HG1) (unhide HNe) (unhide HNs) k2
    have K1 := hide k1
    have HFin := hide hfin
    have ne2 : ¬ n = r := (unhide HNe2).2.1
    unfold set6 at K1 HFin
    clear h5 hg5 rb nb rf k1 k2 hfin HC n0 n1 n2 n3 n4 n5 nf3 d0 d1 df1
    go_wp2
    refine bodyPost_ret (results_cell_row rfl _ _ r 43 #[.int .i64 4, .int .i64 (m : Int), .int .i64 (m : Int), .string ⟨#[]⟩, .slice none 0 0, .slice none 0 0] (0, 0) _ rfl (unhide K1) Tryd.underlying43 rfl sizeNode) rfl ?_
    exact unhide HFin
set_option maxRecDepth 100000 in
set_option maxHeartbeats 4000000 in
theorem tvalue_any {t : Nat} {s : ByteArray} {pl : Nat} (hs : s.size ≤ 67108864) : ∀ (d op : Nat), op + d = 200 → ∀ (V : World) (a : Nat) (W : World), Tx V t s a 0 pl W → Calls Tryd.prog 19 #[.pointer (some ⟨t, 0, none⟩), .int .i64 (op : Int)] W (VR V W t s pl (valR (strN s) d a)) := by
  intro d
  induction d with
  | zero =>
    intro op hop V a W h
    by_cases hb : bt (strN s) (skB (strN s) a) = 123 ∨ bt (strN s) (skB (strN s) a) = 91
    · obtain rfl : op = 200 := by omega
      exact tvalue_deep h hs hb
    · exact tvalue_sc h hs (fun e => hb (.inl e)) (fun e => hb (.inr e))
  | succ d ih =>
    intro op hop V a W h
    have h0 := h
    have HNx := hide (next_any (h.grow (.cells #[.int .i64 0, .int .i64 0, .int .i64 0, .string ⟨#[]⟩, .slice none 0 0, .slice none 0 0] 43)).self hs)
    have ht := (Array.getElem?_eq_some_iff.1 h.blk).1
    have hvs := h.gr.size
    have hle := h.le
    have Hgr := hide (World.grownBy.trans h.gr (show W.grownBy (W.alloc (.cells #[.int .i64 0, .int .i64 0, .int .i64 0, .string ⟨#[]⟩, .slice none 0 0, .slice none 0 0] 43)) (some t) from World.grownBy_alloc W _ _))
    have hrb := heap_new W (.cells #[.int .i64 0, .int .i64 0, .int .i64 0, .string ⟨#[]⟩, .slice none 0 0, .slice none 0 0] 43)
    obtain ⟨r, hr⟩ : ∃ r, W.heap.size = r := ⟨_, rfl⟩
    rw [hr] at hrb
    have HRb := hide hrb
    have Hr0 := hide hr
    have Hne0 : Hid (r < W.heap.size + 1 ∧ r ≠ t ∧ V.heap.size ≤ r ∧ W.heap.size ≤ r) := by show _ ∧ _; omega
    have Hsk := hide (skB_in hle)
    obtain ⟨k, hk⟩ : ∃ k, skB (strN s) a = k := ⟨_, rfl⟩
    rw [hk] at HNx Hsk
    have hx256 := bt_256 s k
    obtain ⟨x, hx⟩ : ∃ x, bt (strN s) k = x := ⟨_, rfl⟩
    rw [hx] at HNx hx256
    have Hx := hide hx
    have Hk := hide hk
    have HL := hide (strN_len s)
    clear h hvs hrb hr
    by_cases h123 : x = 123
    · have hR' : valR (strN s) (d + 1) a = rowR (strN s) (memR (strN s) (valR (strN s) d)) 123 125 k := by
        unfold valR
        rw [hk, hx, if_pos h123, ← hk, rowR_sk]
      obtain ⟨R, hR⟩ : ∃ R, valR (strN s) (d + 1) a = R := ⟨_, rfl⟩
      have HRR := hide (hR.symm.trans hR')
      rw [hR]
      have Hih := hide (fun a' w hw => ih (op + 1) (by omega) w a' w hw)
      have hkk : skB (strN s) k = k := by rw [← hk, skB_sk]
      have Hkk := hide hkk
      have q200 : decide ((200 : Int) ≤ (op : Int)) = false := by simp; omega
      have op1 : ((op + 1 : Nat) : Int) = (op : Int) + 1 := by omega
      have Hop := hide op1
      have hop2 : op < 200 := by omega
      subst h123
      clear hR hR' hx hk hkk ih hop op1 h0
      go_enter Tryd.func19, Tryd.ntmps19
      go_wp2_with fail
      refine (unhide HNx).mono ?_
      rintro e w1 ⟨rfl, h1⟩
      have rb1 := (h1.gr.block r (by rw [World.size_alloc]; exact (unhide Hne0).1) (by simpa using (unhide Hne0).2.1)).trans (unhide HRb)
      have hws : W.heap.size + 1 ≤ w1.heap.size := by have := h1.gr.size; rw [World.size_alloc] at this; exact this
      have HRb1 := hide rb1
      have HG1 := hide (World.grownBy.trans (unhide Hgr) h1.gr)
      have HNe : Hid (r < w1.heap.size ∧ r ≠ t ∧ V.heap.size ≤ r) := ⟨by have := (unhide Hne0).1; omega, (unhide Hne0).2.1, (unhide Hne0).2.2.1⟩
      have HNs : Hid (W.heap.size ≤ w1.heap.size) := by show _ ≤ _; omega
      have H1 := hide h1
      rw [unhide Hr0]
      clear h1 rb1 hws HNx Hgr HRb Hne0 Hr0
      have hC := insideO (V := w1) (op := op + 1) (d := d) (unhide H1).self hs (unhide Hx) (unhide Hkk) (unhide Hih)
      rw [← unhide HRR, unhide Hop] at hC
      have HC := hide hC
      clear hC
      go_wp2_with fail
      refine (unhide HC).mono ?_
      intro e w2 hv
      obtain ⟨d4, rfl, ⟨⟨an, nn, cn, e1⟩, ⟨ai, ni, ci, e2⟩⟩, -⟩ := id hv
      have hx : ∃ a5 er5 pl5, Tx w1 t s a5 er5 pl5 w2 := by
        obtain ⟨d', -, -, h2⟩ := hv
        match R, h2 with
        | .error (c5, p5), ⟨a5, h5⟩ => exact ⟨a5, c5, p5, h5⟩
        | .ok (l5, p5), ⟨h5, _⟩ => exact ⟨p5, 0, _, h5⟩
      obtain ⟨a5, er5, pl5, hx⟩ := hx
      have rb := (hx.gr.block r (Array.getElem?_eq_some_iff.1 (unhide HRb1)).1 (by simpa using (unhide HNe).2.1)).trans (unhide HRb1)
      obtain ⟨⟨r0, r1, r2, r3, r4, r5⟩, rf⟩ := cells6 rb
      have g0 := rf 0
      have g1 := rf 1
      have g2 := rf 2
      have g3 := rf 3
      have g4 := rf 4
      have g5 := rf 5
      obtain ⟨dk, da, de, dx, dn, di⟩ := d4
      simp only at e1 e2
      subst e1 e2
      obtain ⟨k1, k2⟩ := set6_block rb (.int .i64 dk) (.int .i64 da) (.int .i64 de) (.string dx) (.slice an nn cn) (.slice ai ni ci)
      have hfin := hv.lay (V := V) (W := W) (r := r) (unhide HG1) (unhide HNe) (unhide HNs) k2
      have K1 := hide k1
      have HFin := hide hfin
      unfold set6 at K1 HFin
      unfold NdV.val
      clear hv hx rb rf k1 k2 hfin
      go_wp2
      refine bodyPost_ret (results_cell_row rfl _ _ r 43 #[.int .i64 dk, .int .i64 da, .int .i64 de, .string dx, .slice an nn cn, .slice ai ni ci] (0, 0) _ rfl (unhide K1) Tryd.underlying43 rfl sizeNode) rfl ?_
      exact unhide HFin
    by_cases h91 : x = 91
    · have hR' : valR (strN s) (d + 1) a = rowR (strN s) (valR (strN s) d) 91 93 k := by
        unfold valR
        rw [hk, hx, if_neg h123, if_pos h91, ← hk, rowR_sk]
      obtain ⟨R, hR⟩ : ∃ R, valR (strN s) (d + 1) a = R := ⟨_, rfl⟩
      have HRR := hide (hR.symm.trans hR')
      rw [hR]
      have Hih := hide (fun a' w hw => ih (op + 1) (by omega) w a' w hw)
      have hkk : skB (strN s) k = k := by rw [← hk, skB_sk]
      have Hkk := hide hkk
      have q200 : decide ((200 : Int) ≤ (op : Int)) = false := by simp; omega
      have op1 : ((op + 1 : Nat) : Int) = (op : Int) + 1 := by omega
      have Hop := hide op1
      have hop2 : op < 200 := by omega
      subst h91
      clear hR hR' hx hk hkk ih hop op1 h123 h0
      go_enter Tryd.func19, Tryd.ntmps19
      go_wp2_with fail
      refine (unhide HNx).mono ?_
      rintro e w1 ⟨rfl, h1⟩
      have rb1 := (h1.gr.block r (by rw [World.size_alloc]; exact (unhide Hne0).1) (by simpa using (unhide Hne0).2.1)).trans (unhide HRb)
      have hws : W.heap.size + 1 ≤ w1.heap.size := by have := h1.gr.size; rw [World.size_alloc] at this; exact this
      have HRb1 := hide rb1
      have HG1 := hide (World.grownBy.trans (unhide Hgr) h1.gr)
      have HNe : Hid (r < w1.heap.size ∧ r ≠ t ∧ V.heap.size ≤ r) := ⟨by have := (unhide Hne0).1; omega, (unhide Hne0).2.1, (unhide Hne0).2.2.1⟩
      have HNs : Hid (W.heap.size ≤ w1.heap.size) := by show _ ≤ _; omega
      have H1 := hide h1
      rw [unhide Hr0]
      clear h1 rb1 hws HNx Hgr HRb Hne0 Hr0
      have hC := insideA (V := w1) (op := op + 1) (d := d) (unhide H1).self hs (unhide Hx) (unhide Hkk) (unhide Hih)
      rw [← unhide HRR, unhide Hop] at hC
      have HC := hide hC
      clear hC
      go_wp2_with fail
      refine (unhide HC).mono ?_
      intro e w2 hv
      obtain ⟨d4, rfl, ⟨⟨an, nn, cn, e1⟩, ⟨ai, ni, ci, e2⟩⟩, -⟩ := id hv
      have hx : ∃ a5 er5 pl5, Tx w1 t s a5 er5 pl5 w2 := by
        obtain ⟨d', -, -, h2⟩ := hv
        match R, h2 with
        | .error (c5, p5), ⟨a5, h5⟩ => exact ⟨a5, c5, p5, h5⟩
        | .ok (l5, p5), ⟨h5, _⟩ => exact ⟨p5, 0, _, h5⟩
      obtain ⟨a5, er5, pl5, hx⟩ := hx
      have rb := (hx.gr.block r (Array.getElem?_eq_some_iff.1 (unhide HRb1)).1 (by simpa using (unhide HNe).2.1)).trans (unhide HRb1)
      obtain ⟨⟨r0, r1, r2, r3, r4, r5⟩, rf⟩ := cells6 rb
      have g0 := rf 0
      have g1 := rf 1
      have g2 := rf 2
      have g3 := rf 3
      have g4 := rf 4
      have g5 := rf 5
      obtain ⟨dk, da, de, dx, dn, di⟩ := d4
      simp only at e1 e2
      subst e1 e2
      obtain ⟨k1, k2⟩ := set6_block rb (.int .i64 dk) (.int .i64 da) (.int .i64 de) (.string dx) (.slice an nn cn) (.slice ai ni ci)
      have hfin := hv.lay (V := V) (W := W) (r := r) (unhide HG1) (unhide HNe) (unhide HNs) k2
      have K1 := hide k1
      have HFin := hide hfin
      unfold set6 at K1 HFin
      unfold NdV.val
      clear hv hx rb rf k1 k2 hfin
      go_wp2
      refine bodyPost_ret (results_cell_row rfl _ _ r 43 #[.int .i64 dk, .int .i64 da, .int .i64 de, .string dx, .slice an nn cn, .slice ai ni ci] (0, 0) _ rfl (unhide K1) Tryd.underlying43 rfl sizeNode) rfl ?_
      exact unhide HFin
    exact tvalue_sc h0 hs (by rw [hk, hx]; exact h123) (by rw [hk, hx]; exact h91)
end Go.Proofs.YthodjkeppobcmaaDoor
