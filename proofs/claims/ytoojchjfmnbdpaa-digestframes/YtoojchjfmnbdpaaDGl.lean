import Derived.Test.YtoojchjfmnbdpaaDGm
namespace Go.Proofs.Ytoojchjfmnbdpaa
open Go.RowKit
attribute [local go_sem ↓] Go.wp_at_zero Go.wp_at_succ

set_option maxRecDepth 100000 in
set_option maxHeartbeats 4000000 in
theorem frames_any {W : World} {v : Value} {ls : List (List Nat)} (h : HasBB W v ls) (hl : BytB ls) (hn : ls.length ≤ 5864062014634 ∧ ∀ l ∈ ls, l.length ≤ 140737488351232) :
    Calls Try.prog 4 #[v] W fun e W' => e = .returned (.bool true) ∧ Below W.heap.size W W' := by
  obtain ⟨n1, n2⟩ := hn
  have n3 : ls.length ≤ 65536 → fsize ls ≤ 9223372036854775000 := fun hh => fsize_few n2 hh
  have hrA := roomyAll_any h n1 n2
  have Hh := hide h
  obtain ⟨va, vc, rfl, _, _⟩ := h
  go_enter Try.func4, Try.ntmps4
  go_wp2_with fail
  refine hrA.mono ?_
  rintro e w1 ⟨rfl, hb1, ps, m1, m2, hps, hR1, hm1, hm2⟩
  have hpl : ps.length = ls.length := by rw [← hps, List.length_map]
  clear hrA
  -- the first literal
  have bA : Below w1.heap.size w1 (w1.alloc (.cells #[.int .u8 7] 5)) := (Below.refl _ _).alloc (Nat.le_refl _) _
  have bB : Below w1.heap.size w1 ((w1.alloc (.cells #[.int .u8 7] 5)).alloc (.cells #[.slice (some ⟨w1.heap.size, 0, none⟩) 1 1] 24)) := bA.alloc (by rw [World.size_alloc]; omega) _
  have hbb := hasBB_one (W := w1.alloc (.cells #[.int .u8 7] 5)) (v := .slice (some ⟨w1.heap.size, 0, none⟩) 1 1) (l := [7]) (hasB_one1 w1 7) 24
  rw [World.size_alloc] at hbb
  have f1 := frame_any hbb (fun _ => by decide)
  rw [show frameA ([7] :: []) = (0, lit9) from rfl] at f1
  have F1 := hide f1
  have BB := hide bB
  clear f1 hbb bA bB
  go_wp2_with fail
  refine (unhide F1).mono ?_
  rintro e w2 ⟨v2, a2, c2, rfl, hB2, hv2, hb2⟩
  have hb12 : Below w1.heap.size w1 w2 := (unhide BB).trans (hb2.mono (unhide BB).size)
  have hb02 := hb1.trans (hb12.mono hb1.size)
  have hR2 := hR1.up hb12
  have hm12 := hm1.up hb12
  have hm22 := hm2.up hb12
  subst hv2
  clear F1 BB hb2 hb12 hR1 hm1 hm2
  have hH2 := hR2.has (by omega) (fun p hp => by have := n2 p.2 (by rw [← hps]; exact List.mem_map_of_mem hp); omega)
  rw [hps, hpl] at hH2
  go_wp2_with fail
  refine (frame_any hH2 n3).mono ?_
  rintro e w3 ⟨v3, a3, c3, rfl, hB3, hv3, hb3⟩
  have hb03 := hb02.trans (hb3.mono hb02.size)
  have hR3 := hR2.up hb3
  have hm13 := hm12.up hb3
  have hm23 := hm22.up hb3
  have hB23 := hB2.up hb3
  subst hv3
  clear hb3 hR2 hm12 hm22 hB2 hH2
  go_wp2_with fail
  refine (xframe_all ((unhide Hh).up hb03) n3).mono ?_
  rintro e w4 ⟨v4, a4, c4, rfl, hB4, hv4, hb4⟩
  have hb04 := hb03.trans (hb4.mono hb03.size)
  have hR4 := hR3.up hb4
  have hm14 := hm13.up hb4
  have hm24 := hm23.up hb4
  have hB24 := hB23.up hb4
  have hB34 := hB3.up hb4
  subst hv4
  clear hb4 hR3 hm13 hm23 hB23 hB3
  have hFb := frameA_byt hl
  have hpb : ∀ p ∈ ps, Byt p.2 ∧ p.2.length ≤ 140737488351232 := fun p hp => by
    have hm : p.2 ∈ ls := by rw [← hps]; exact List.mem_map_of_mem hp
    exact ⟨hl _ hm, n2 _ hm⟩
  obtain ⟨z1, hz1⟩ : ∃ z, (frameA ls).1 = z := ⟨_, rfl⟩
  obtain ⟨L1, hL1⟩ : ∃ z, (frameA ls).2 = z := ⟨_, rfl⟩
  rw [hL1] at hB34 hB4 hFb
  rw [hz1, hL1]
  have q1 : (z1 != z1) = false := by simp
  have Hps := hide hps
  clear hps hz1 hL1
  go_wp2_with fail
  refine (same_any hB34 hB4 hFb hFb).mono ?_
  rintro e w' ⟨rfl, he⟩
  obtain rfl : w4 = w' := he.symm
  clear he
  rw [show decide (L1 = L1) = true by simp]
  go_wp2_with fail
  refine (num_any w4 z1).mono ?_
  rintro e w' ⟨rfl, he⟩
  obtain rfl : w4 = w' := he.symm
  clear he
  have hk := keptAll_any hR4 hm14 hm24 (by rw [unhide Hps]; exact (unhide Hh).up hb04) hpb (by omega)
  rw [hpl] at hk
  go_wp2_with fail
  refine hk.mono ?_
  rintro e w5 ⟨rfl, hb5⟩
  have hb05 := hb04.trans (hb5.mono hb04.size)
  have hR5 := hR4.up hb5
  have hB25 := hB24.up hb5
  clear hb5 hR4 hm14 hm24 hB24 hB34 hB4 hk
  go_wp2_with fail
  refine (num_any w5 0).mono ?_
  rintro e w' ⟨rfl, he⟩
  obtain rfl : w5 = w' := he.symm
  clear he
  have bC : Below w5.heap.size w5 (w5.alloc (.cells #[.int .u8 1, .int .u8 0, .int .u8 0, .int .u8 0, .int .u8 1, .int .u8 0, .int .u8 0, .int .u8 0, .int .u8 7] 5)) := (Below.refl _ _).alloc (Nat.le_refl _) _
  have h9 : HasB (w5.alloc (.cells #[.int .u8 1, .int .u8 0, .int .u8 0, .int .u8 0, .int .u8 1, .int .u8 0, .int .u8 0, .int .u8 0, .int .u8 7] 5)) (.slice (some ⟨w5.heap.size, 0, none⟩) 9 9) lit9 := hasB_lit (l := lit9) (t := 5) (fr := (0, 0)) (heap_new _ _) 9 9 rfl (by decide)
  have hs9 := same_any (hB25.up bC) h9 (by unfold Byt lit9; decide) (by unfold Byt lit9; decide)
  rw [show decide (lit9 = lit9) = true by simp] at hs9
  have HS9 := hide hs9
  have hb06 := hb05.trans (bC.mono hb05.size)
  have hR6 := hR5.up bC
  clear hs9 h9 hR5 hB25
  obtain ⟨w6, hw6⟩ : ∃ w6, w5.alloc (.cells #[.int .u8 1, .int .u8 0, .int .u8 0, .int .u8 0, .int .u8 1, .int .u8 0, .int .u8 0, .int .u8 0, .int .u8 7] 5) = w6 := ⟨_, rfl⟩
  rw [hw6] at HS9 hb06 hR6
  go_wp2_with fail
  refine (unhide HS9).mono ?_
  rintro e w' ⟨rfl, he⟩
  obtain rfl : w6 = w' := he.symm
  clear he bC HS9 hw6
  have hf := flippedAll_any (base := W.heap.size) hR6 (Nat.le_refl _) hpb (by omega)
  rw [hpl] at hf
  go_wp2_with fail
  refine hf.mono ?_
  rintro e w7 ⟨v7, rfl, hH7, hR7, hb7⟩
  have hb07 := hb06.trans hb7
  have hfs := fsize_flip ps
  rw [unhide Hps] at hfs
  have hkl : ((ps.reverse.map flipP).map Prod.snd).length = ls.length := by rw [List.length_map, List.length_map, List.length_reverse, hpl]
  have n4 : ((ps.reverse.map flipP).map Prod.snd).length ≤ 65536 → fsize ((ps.reverse.map flipP).map Prod.snd) ≤ 9223372036854775000 := fun hh => by rw [hfs]; exact n3 (by omega)
  clear hfs hkl
  have hql : (ps.reverse.map flipP).length = ls.length := by rw [List.length_map, List.length_reverse, hpl]
  have hqb : ∀ p ∈ ps.reverse.map flipP, Byt p.2 ∧ p.2.length ≤ 140737488351232 := fun p hp => by
    obtain ⟨r, hr, rfl⟩ := List.mem_map.1 hp
    obtain ⟨g1, g2⟩ := hpb r (List.mem_reverse.1 hr)
    exact ⟨flip_byt g1, by show (flip r.2).length ≤ _; rw [flip_len]; exact g2⟩
  clear hf hb7 hR6 hb06 hpb hpl
  generalize ps.reverse.map flipP = qs at *
  have hH8 := hR7.has (by omega) (fun p hp => by have := (hqb p hp).2; omega)
  rw [hql] at hH8
  have hQb : ∀ l ∈ qs.map Prod.snd, Byt l := fun l hl' => by
    obtain ⟨p, hp, rfl⟩ := List.mem_map.1 hl'
    exact (hqb p hp).1
  have hFc := frameA_byt hQb
  generalize qs.map Prod.snd = ks at *
  have hvs : ∃ a n c, v7 = .slice a n c := by obtain ⟨a, c, e, _⟩ := hH7; exact ⟨_, _, _, e⟩
  obtain ⟨a7, n7, c7, rfl⟩ := hvs
  clear hR7 hqb hql
  go_wp2_with fail
  refine (frame_any hH8 n4).mono ?_
  rintro e w8 ⟨v8, a8, c8, rfl, hB8, hv8, hb8⟩
  have hb08 := hb07.trans (hb8.mono hb07.size)
  have hH78 := hH7.up hb8
  have hH88 := hH8.up hb8
  subst hv8
  clear hb8 hH7 hH8
  go_wp2_with fail
  refine (xframe_all hH78 n4).mono ?_
  rintro e w9 ⟨v9, a9, c9, rfl, hB9, hv9, hb9⟩
  have hb09 := hb08.trans (hb9.mono hb08.size)
  have hH79 := hH78.up hb9
  have hH89 := hH88.up hb9
  have hB89 := hB8.up hb9
  subst hv9
  clear hb9 hH78 hH88 hB8
  obtain ⟨z2, hz2⟩ : ∃ z, (frameA ks).1 = z := ⟨_, rfl⟩
  obtain ⟨L2, hL2⟩ : ∃ z, (frameA ks).2 = z := ⟨_, rfl⟩
  rw [hL2] at hB89 hB9 hFc
  rw [hz2, hL2]
  have q2 : (z2 == z2) = true := by simp
  go_wp2_with fail
  refine (same_any hB89 hB9 hFc hFc).mono ?_
  rintro e w' ⟨rfl, he⟩
  obtain rfl : w9 = w' := he.symm
  clear he
  rw [show decide (L2 = L2) = true by simp]
  go_wp2_with fail
  refine (num_any w9 z2).mono ?_
  rintro e w' ⟨rfl, he⟩
  obtain rfl : w9 = w' := he.symm
  clear he
  go_wp2_with fail
  refine (sameAll_any hH89 hH79 hQb hQb).mono ?_
  rintro e w' ⟨rfl, m, rfl⟩
  rw [show decide (ks = ks) = true by simp]
  go_wp2
  go_ret
  exact ⟨rfl, below_drewN hb09 m⟩
end Go.Proofs.Ytoojchjfmnbdpaa
