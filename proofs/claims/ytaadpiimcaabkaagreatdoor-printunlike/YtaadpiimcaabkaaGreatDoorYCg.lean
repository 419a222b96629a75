import Derived.Test.YtaadpiimcaabkaaGreatDoorJ42
import Derived.Test.YtaadpiimcaabkaaGreatDoorJ45
import Derived.Test.YtaadpiimcaabkaaGreatDoorJ45
import Derived.Test.YtaadpiimcaabkaaGreatDoorYCc

namespace Go.Proofs.YtaadpiimcaabkaaGreatDoor
open Go.RowKit
attribute [local go_sem ↓] Go.wp_at_zero Go.wp_at_succ

theorem sz_cut : ∀ (k f : Nat) (m : Ms), SzM k m → SzM k (cutM f m)
  | 0, _, _, _ => trivial
  | k + 1, 0, .mk nm fs os ms es rs gs, h => ⟨h.1, fun m hm => by simp at hm⟩
  | k + 1, f + 1, .mk nm fs os ms es rs gs, h => ⟨h.1, fun m hm => by obtain ⟨x, hx, rfl⟩ := List.mem_map.1 hm; exact sz_cut k f x (h.2 x hx)⟩
theorem sz_cutL {l : List Ms} (h : ∀ m ∈ l, SzM 32 m) : ∀ m ∈ cutL 200 l, SzM 32 m := fun m hm => by obtain ⟨x, hx, rfl⟩ := List.mem_map.1 hm; exact sz_cut 32 199 x (h x hx)
/-- What Text tells of a file: the text tells the file. -/
theorem textR_cases (F : Fl) : (textR F).2 ≠ 0 ∨ (textR F = (ofN (fileL F), 0) ∧ RtF F) := by
  unfold textR
  split
  · rename_i h
    split
    · exact .inr ⟨rfl, (file_cost h).1⟩
    · exact .inl (by decide)
  · exact .inl (by decide)
theorem textR_inj {F G : Fl} (h : RtF F) (k : RtF G) : (ofN (fileL F) = ofN (fileL G)) ↔ F = G := ⟨fun e => file_inj h k (ofN_inj (fileL_byt F) (fileL_byt G) e), fun e => by rw [e]⟩
theorem set4 {w : World} {b : Nat} {v0 v1 v2 v3 : Value} {t : TypeId} (h : w.heap[b]? = some (.cells #[v0, v1, v2, v3] t (0, 0))) (u0 u1 u2 u3 : Value) :
    ((((w.setCell ⟨b, 0, none⟩ u0).setCell ⟨b, 1, none⟩ u1).setCell ⟨b, 2, none⟩ u2).setCell ⟨b, 3, none⟩ u3).heap[b]? = some (.cells #[u0, u1, u2, u3] t (0, 0)) ∧ w.grownBy ((((w.setCell ⟨b, 0, none⟩ u0).setCell ⟨b, 1, none⟩ u1).setCell ⟨b, 2, none⟩ u2).setCell ⟨b, 3, none⟩ u3) (some b) := by
  obtain ⟨q0, g0⟩ := set_block (j := 0) h u0
  obtain ⟨q1, g1⟩ := set_block (j := 1) q0 u1
  obtain ⟨q2, g2⟩ := set_block (j := 2) q1 u2
  obtain ⟨q3, g3⟩ := set_block (j := 3) q2 u3
  exact ⟨q3, ((g0.trans g1).trans g2).trans g3⟩
theorem froz4 {w : World} {b : Nat} {cs : Array Value} {t : TypeId} (h : w.heap[b]? = some (.cells cs t (0, 0))) : w.frozen? ⟨b, 0, none⟩ = false ∧ w.frozen? ⟨b, 1, none⟩ = false ∧ w.frozen? ⟨b, 2, none⟩ = false ∧ w.frozen? ⟨b, 3, none⟩ = false := by simp [World.frozen?, h]
theorem flO_form {R : Nat → Prop} {w : World} {v vi vm ve : Value} {F : Fl} {cm ce : List Value} (h : FlO R w v F vi vm ve cm ce) : ∃ bi di bm dm be de, vi = .slice bi F.imps.length di ∧ vm = .slice bm F.ms.length dm ∧ ve = .slice be F.es.length de := by
  obtain ⟨a1, c1, e1, -⟩ := h.hi.rl
  obtain ⟨a2, c2, e2, -⟩ := h.hm.rl
  obtain ⟨a3, c3, e3, -⟩ := h.he.rl
  exact ⟨a1, c1, a2, c2, a3, c3, e1, e2, e3⟩
theorem num_beq (a b : Int) (h : a ≠ b) : (a != b) = true := by simpa using h
set_option maxRecDepth 100000 in
set_option maxHeartbeats 8000000 in
theorem unlike_core {W : World} {v u vi vm ve ui um ue : Value} {F G : Fl} {cm ce cm2 ce2 : List Value} (hF : HasF W) (hE : HasE W) (hM : HasM W) (hP : HasP W) (h : FlL W v F vi vm ve cm ce) (hr : ReF F) (hs : ∀ m ∈ F.ms, SzM 32 m) (h' : FlL W u G ui um ue cm2 ce2) (hr' : ReF G) (hs' : ∀ m ∈ G.ms, SzM 32 m) :
    Calls Tryz.prog 3 #[v, u] W fun e w => e = .returned (.bool true) ∧ Below W.heap.size W w := by
  obtain ⟨pk1, is1, ms1, es1⟩ := F
  obtain ⟨pk2, is2, ms2, es2⟩ := G
  have HTW := hide (fun w' hb => twin_any h hr w' hb)
  have HTW2 := hide (fun w' hb => twin_any h' hr' w' hb)
  obtain ⟨rfl, ⟨ai1, ci1, rfl, -, -⟩, ⟨am1, cm1, rfl, -, -⟩, -, ⟨ae1, ce1, rfl, -, -⟩, -⟩ := h
  obtain ⟨rfl, ⟨ai2, ci2, rfl, -, -⟩, ⟨am2, cm2', rfl, -, -⟩, -, ⟨ae2, ce2', rfl, -, -⟩, -⟩ := h'
  simp only at hs hs' HTW HTW2 ⊢
  have Hs := hide (sz_cutL hs)
  have Hs' := hide (sz_cutL hs')
  have HW0 := hide (And.intro hM (And.intro hE (And.intro hP hF)))
  obtain ⟨V0, hV0⟩ : ∃ V, W.alloc (.cells #[.string pk1, .slice ai1 is1.length ci1, .slice am1 ms1.length cm1, .slice ae1 es1.length ce1] 26) = V := ⟨_, rfl⟩
  have k0 := heap_new W (.cells #[.string pk1, .slice ai1 is1.length ci1, .slice am1 ms1.length cm1, .slice ae1 es1.length ce1] 26)
  have s0 := World.size_alloc W (.cells #[.string pk1, .slice ai1 is1.length ci1, .slice am1 ms1.length cm1, .slice ae1 es1.length ce1] 26)
  have b0 : Below W.heap.size W (W.alloc (.cells #[.string pk1, .slice ai1 is1.length ci1, .slice am1 ms1.length cm1, .slice ae1 es1.length ce1] 26)) := (Below.refl _ _).alloc (Nat.le_refl _) _
  rw [hV0] at k0 s0 b0
  obtain ⟨V, hV⟩ : ∃ V', V0.alloc (.cells #[.string pk2, .slice ai2 is2.length ci2, .slice am2 ms2.length cm2', .slice ae2 es2.length ce2'] 26) = V' := ⟨_, rfl⟩
  have k1 := heap_new V0 (.cells #[.string pk2, .slice ai2 is2.length ci2, .slice am2 ms2.length cm2', .slice ae2 es2.length ce2'] 26)
  have b1 : Below V0.heap.size V0 (V0.alloc (.cells #[.string pk2, .slice ai2 is2.length ci2, .slice am2 ms2.length cm2', .slice ae2 es2.length ce2'] 26)) := (Below.refl _ _).alloc (Nat.le_refl _) _
  rw [hV] at k1 b1
  have hb : Below W.heap.size W V := b0.trans (b1.mono b0.size)
  have kp : V.heap[W.heap.size]? = some (.cells #[.string pk1, .slice ai1 is1.length ci1, .slice am1 ms1.length cm1, .slice ae1 es1.length ce1] 26 (0, 0)) := (b1.block _ (by omega)).trans k0
  have kq : V.heap[V0.heap.size]? = some (.cells #[.string pk2, .slice ai2 is2.length ci2, .slice am2 ms2.length cm2', .slice ae2 es2.length ce2'] 26 (0, 0)) := k1
  have HH := hide (head_any (hM.up hb hM.1) (hE.up hb) (hP.up hb) (hF.up hb))
  have HV := hide (And.intro hb (And.intro kp kq))
  have hlt0 : W.heap.size < V0.heap.size := by omega
  clear hM hE hP hF hs hs' hr hr' k0 s0 b0 k1 b1 hb kp kq
  go_enter Tryz.func3, Tryz.ntmps3
  go_wp2_with fail
  refine (unhide HH).mono ?_
  rintro e w1 ⟨rfl, hb1⟩
  obtain ⟨hb, kp, kq⟩ := unhide HV
  have kp := (hb1.block _ (Array.getElem?_eq_some_iff.1 kp).1).trans kp
  have kq := (hb1.block _ (Array.getElem?_eq_some_iff.1 kq).1).trans kq
  have hb := hb.trans (hb1.mono hb.size)
  have hlq := (Array.getElem?_eq_some_iff.1 kq).1
  have HT1 := hide (unhide HTW w1 hb)
  have c := en_of kp
  obtain ⟨c0, c1, c2, c3⟩ := c
  have H1 := hide (And.intro hb (And.intro kp (And.intro kq hlq)))
  clear hb1 HH HV hb kp kq HTW hlq
  go_wp2_with fail
  refine (unhide HT1).mono ?_
  rintro e w2 ⟨u1, ui1, um1, ue1, x1, y1, rfl, hf1, hb2⟩
  obtain ⟨hb, kp, kq, hlq⟩ := unhide H1
  obtain ⟨bi1, di1, bm1, dm1, be1, de1, rfl, rfl, rfl⟩ := flO_form hf1
  obtain rfl := hf1.is
  unfold cutF at hf1 ⊢
  simp only at hf1 ⊢
  have kp := (hb2.block _ (Array.getElem?_eq_some_iff.1 kp).1).trans kp
  have kq := (hb2.block _ (Array.getElem?_eq_some_iff.1 kq).1).trans kq
  have hb := hb.trans (hb2.mono hb.size)
  obtain ⟨c0, c1, c2, c3⟩ := en_of kp
  obtain ⟨z0, z1, z2, z3⟩ := froz4 kp
  obtain ⟨X, hX⟩ : ∃ X, (((w2.setCell ⟨W.heap.size, 0, none⟩ (.string pk1)).setCell ⟨W.heap.size, 1, none⟩ (.slice bi1 is1.length di1)).setCell ⟨W.heap.size, 2, none⟩ (.slice bm1 (cutL 200 ms1).length dm1)).setCell ⟨W.heap.size, 3, none⟩ (.slice be1 es1.length de1) = X := ⟨_, rfl⟩
  obtain ⟨kx, gx⟩ := set4 kp (.string pk1) (.slice bi1 is1.length di1) (.slice bm1 (cutL 200 ms1).length dm1) (.slice be1 es1.length de1)
  rw [hX] at kx gx
  have hbx := grown_below hb gx hb.size (fun k e => by obtain rfl := Option.some.inj e; omega)
  have kq := (gx.block _ (Array.getElem?_eq_some_iff.1 kq).1 (by simp; omega)).trans kq
  have hf1 := hf1.mono (stays_grown gx (fun g (hg : w1.heap.size ≤ g) e => by have := Option.some.inj e; omega))
  have HT2 := hide (unhide HTW2 X hbx)
  have hl2 := hb2.size
  have hl3 := gx.size
  obtain ⟨d0, d1, d2, d3⟩ := en_of kq
  have H2 := hide (And.intro hbx (And.intro kx (And.intro kq (And.intro hf1 (show V0.heap.size < w1.heap.size ∧ w1.heap.size ≤ X.heap.size by omega)))))
  clear hb2 HT1 H1 hb kp kq HTW2 kx gx hbx hf1 hl2 hl3 hlq
  go_wp2_with fail
  refine (unhide HT2).mono ?_
  rintro e w4 ⟨u2, ui2, um2, ue2, x2, y2, rfl, hf2, hb4⟩
  obtain ⟨hb, kp, kq, hf1, hl1, hl2⟩ := unhide H2
  obtain ⟨bi2, di2, bm2, dm2, be2, de2, rfl, rfl, rfl⟩ := flO_form hf2
  obtain rfl := hf2.is
  unfold cutF at hf2 ⊢
  simp only at hf2 ⊢
  have kp := (hb4.block _ (Array.getElem?_eq_some_iff.1 kp).1).trans kp
  have kq := (hb4.block _ (Array.getElem?_eq_some_iff.1 kq).1).trans kq
  have hf1 := hf1.mono (stays_below hb4)
  have hb := hb.trans (hb4.mono hb.size)
  obtain ⟨d0, d1, d2, d3⟩ := en_of kq
  obtain ⟨z0, z1, z2, z3⟩ := froz4 kq
  obtain ⟨Y, hY⟩ : ∃ Y, (((w4.setCell ⟨V0.heap.size, 0, none⟩ (.string pk2)).setCell ⟨V0.heap.size, 1, none⟩ (.slice bi2 is2.length di2)).setCell ⟨V0.heap.size, 2, none⟩ (.slice bm2 (cutL 200 ms2).length dm2)).setCell ⟨V0.heap.size, 3, none⟩ (.slice be2 es2.length de2) = Y := ⟨_, rfl⟩
  obtain ⟨ky, gy⟩ := set4 kq (.string pk2) (.slice bi2 is2.length di2) (.slice bm2 (cutL 200 ms2).length dm2) (.slice be2 es2.length de2)
  rw [hY] at ky gy
  have hby := grown_below hb gy hb.size (fun k e => by obtain rfl := Option.some.inj e; omega)
  have kp := (gy.block _ (Array.getElem?_eq_some_iff.1 kp).1 (by simp; omega)).trans kp
  have hf1 := (hf1.mono (stays_grown gy (fun g (hg : w1.heap.size ≤ g) e => by have := Option.some.inj e; omega))).toL
  have hf2 := (hf2.mono (stays_grown gy (fun g (hg : X.heap.size ≤ g) e => by have := Option.some.inj e; omega))).toL
  obtain ⟨hM, hE, hP, hF⟩ := unhide HW0
  have HX1 := hide (text_any (hM.up hby hM.1) (hE.up hby) (hP.up hby) (hF.up hby) hf1 (unhide Hs))
  obtain ⟨c0, c1, c2, c3⟩ := en_of kp
  have H3 := hide (And.intro hby (And.intro kp (And.intro ky (And.intro hf1 hf2))))
  clear hb4 HT2 H2 hb kp kq ky gy hby hf1 hf2 hl1 hl2 hM hE hP hF
  go_wp2_with fail
  refine (unhide HX1).mono ?_
  rintro e w6 ⟨rfl, hb6⟩
  obtain ⟨hby, kp, kq, hf1, hf2⟩ := unhide H3
  have kp := (hb6.block _ (Array.getElem?_eq_some_iff.1 kp).1).trans kp
  have kq := (hb6.block _ (Array.getElem?_eq_some_iff.1 kq).1).trans kq
  have hf1 := hf1.up hb6
  have hf2 := hf2.up hb6
  have hb := hby.trans (hb6.mono hby.size)
  obtain ⟨hM, hE, hP, hF⟩ := unhide HW0
  have HX2 := hide (text_any (hM.up hb hM.1) (hE.up hb) (hP.up hb) (hF.up hb) hf2 (unhide Hs'))
  obtain ⟨d0, d1, d2, d3⟩ := en_of kq
  have H4 := hide (And.intro hb (And.intro kp (And.intro kq (And.intro hf1 hf2))))
  clear hb6 HX1 H3 hby hb kp kq hf1 hf2 hM hE hP hF
  obtain ⟨T1, hT1⟩ : ∃ T, textR ⟨pk1, is1, cutL 200 ms1, es1⟩ = T := ⟨_, rfl⟩
  have hc1 := textR_cases ⟨pk1, is1, cutL 200 ms1, es1⟩
  rw [hT1] at hc1 ⊢
  obtain ⟨T2, hT2⟩ : ∃ T, textR ⟨pk2, is2, cutL 200 ms2, es2⟩ = T := ⟨_, rfl⟩
  have hc2 := textR_cases ⟨pk2, is2, cutL 200 ms2, es2⟩
  rw [hT2] at hc2 HX2
  obtain ⟨s1, n1⟩ := T1
  obtain ⟨s2, n2⟩ := T2
  have HC1 := hide hc1
  have HC2 := hide hc2
  clear hT1 hT2 hc1 hc2
  simp only at HX2 ⊢
  go_wp2_with fail
  refine (unhide HX2).mono ?_
  rintro e w7 ⟨rfl, hb7⟩
  obtain ⟨hb, kp, kq, hf1, hf2⟩ := unhide H4
  have kp := (hb7.block _ (Array.getElem?_eq_some_iff.1 kp).1).trans kp
  have kq := (hb7.block _ (Array.getElem?_eq_some_iff.1 kq).1).trans kq
  have hf1 := hf1.up hb7
  have hf2 := hf2.up hb7
  have hb := hb.trans (hb7.mono hb.size)
  obtain ⟨c0, c1, c2, c3⟩ := en_of kp
  obtain ⟨d0, d1, d2, d3⟩ := en_of kq
  have HB := hide hb
  have HF := hide (And.intro hf1 hf2)
  clear hb7 HX2 H4 hb kp kq hf1 hf2 HW0 Hs Hs'
  go_wp2_with fail
  refine (num_any w7 n1).mono ?_
  rintro e w8 ⟨rfl, rfl⟩
  rcases unhide HC1 with h1 | ⟨h1, r1⟩
  · have e1 := num_beq n1 0 h1
    clear h1 HC1 HC2
    go_wp2
    go_ret
    exact ⟨rfl, unhide HB⟩
  · obtain ⟨rfl, rfl⟩ := Prod.mk.inj h1
    have R1 := hide r1
    clear h1 r1 HC1
    go_wp2_with fail
    refine (num_any _ n2).mono ?_
    rintro e w9 ⟨rfl, rfl⟩
    rcases unhide HC2 with h2 | ⟨h2, r2⟩
    · have e1 := num_beq n2 0 h2
      clear h2 HC2
      go_wp2
      go_ret
      exact ⟨rfl, unhide HB⟩
    · obtain ⟨rfl, rfl⟩ := Prod.mk.inj h2
      have HI := hide (textR_inj (unhide R1) r2)
      have HS := hide (same_any (unhide HF).1 (unhide HF).2 (fun m hm => rt_dp 32 m ((unhide R1).ms m hm)) (fun m hm => rt_dp 32 m (r2.ms m hm)) _ (Below.refl _ _))
      clear h2 r2 HC2 R1 HF
      obtain ⟨S1, hS1⟩ : ∃ S, ofN (fileL ⟨pk1, is1, cutL 200 ms1, es1⟩) = S := ⟨_, rfl⟩
      obtain ⟨S2, hS2⟩ : ∃ S, ofN (fileL ⟨pk2, is2, cutL 200 ms2, es2⟩) = S := ⟨_, rfl⟩
      rw [hS1, hS2] at HI
      rw [hS1, hS2]
      clear hS1 hS2
      have Hst : Hid (∃ b : Bool, (S1.toList == S2.toList) = b ∧ (b = true ↔ S1 = S2)) := by
        by_cases hq : S1 = S2
        · exact ⟨true, by rw [hq]; simp, by simp [hq]⟩
        · exact ⟨false, str_ne hq, by simp [hq]⟩
      obtain ⟨b, hb, hbi⟩ := unhide Hst
      have Hbi := hide hbi
      clear hbi Hst
      go_wp2_with fail
      refine (unhide HS).mono ?_
      rintro e w9 ⟨q, rfl, hq, hb9⟩
      have hqb : q = b := by
        have h1 := unhide Hbi
        have h2 := unhide HI
        have : q = true ↔ b = true := hq.trans (h2.symm.trans h1.symm)
        cases q <;> cases b <;> simp_all
      subst hqb
      have HB2 := hide ((unhide HB).trans (hb9.mono (unhide HB).size))
      clear hq hb9 HS HB HI Hbi
      have eq : (q == q) = true := by simp
      go_wp2
      go_ret
      exact ⟨rfl, unhide HB2⟩
end Go.Proofs.YtaadpiimcaabkaaGreatDoor
