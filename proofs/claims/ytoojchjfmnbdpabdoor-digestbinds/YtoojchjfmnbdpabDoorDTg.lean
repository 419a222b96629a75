import Derived.Test.YtoojchjfmnbdpabDoorDTf
import Derived.Test.YtoojchjfmnbdpabDoorDL1
namespace Go.Proofs.YtoojchjfmnbdpabDoor
open Go.RowKit
attribute [local go_sem ↓] Go.wp_at_zero Go.wp_at_succ

def leH : List Nat := [54, 101, 51, 52, 48, 98, 57, 99, 102, 102, 98, 51, 55, 97, 57, 56, 57, 99, 97, 53, 52, 52, 101, 54, 98, 98, 55, 56, 48, 97, 50, 99, 55, 56, 57, 48, 49, 100, 51, 102, 98, 51, 51, 55, 51, 56, 55, 54, 56, 53, 49, 49, 97, 51, 48, 54, 49, 55, 97, 102, 97, 48, 49, 100]
theorem rootA_one : rootA ([] :: []) = (0, sha (0 :: [])) := by
  unfold rootA
  rw [if_neg (by decide)]
  show (0, rootF (65535 + 1) ([] :: [])) = _
  rw [rootF, if_neg (by decide), if_pos (by decide)]
  rfl
theorem le_sha : hexL (sha (0 :: [])) = leH := by
  rw [shaF_eq]
  decide +kernel
set_option maxRecDepth 100000 in
set_option maxHeartbeats 4000000 in
theorem roots_any {W : World} (hS : HasS W) (hK : HasK W) (hX : HasX W) {v : Value} {ls : List (List Nat)} {z : Int} (h : HasBB W v ls) (hl : BytB ls) (hn : ls.length ≤ 5864062014634 ∧ ∀ l ∈ ls, l.length ≤ 140737488351232) (hz : -9223372036854775808 ≤ z ∧ z ≤ 9223372036854775807) :
    Calls Tryd.prog 7 #[v, .int .i64 z] W fun e W' => e = .returned (.bool true) ∧ Below W.heap.size W W' := by
  obtain ⟨n1, n2⟩ := id hn
  have hrA := roomyAll_any h n1 n2
  have hbn : ∀ l ∈ ls, Byt l ∧ l.length ≤ 140737488351232 := fun l hl' => ⟨hl l hl', n2 l hl'⟩
  have Hh := hide h
  have Hz := hide hz
  clear hz
  obtain ⟨va, vc, rfl, hvm, _⟩ := h
  have hvc : vc ≤ 9223372036854775807 := by have := hvm.2.1; unfold maxLen at this; omega
  have hvc2 := hvm.1
  clear hvm
  go_enter Tryd.func7, Tryd.ntmps7
  go_wp2_with fail
  refine hrA.mono ?_
  rintro e w1 ⟨rfl, hb1, ps, m1, m2, hps, hR1, hm1, hm2⟩
  have hpl : ps.length = ls.length := by rw [← hps, List.length_map]
  clear hrA
  have bB : Below w1.heap.size w1 (w1.alloc (.cells #[.slice none 0 0] 28)) := (Below.refl _ _).alloc (Nat.le_refl _) _
  have hbb := hasBB_one (W := w1) (hasB_nil w1) 28
  have b0B := hb1.trans (bB.mono hb1.size)
  have f1 := root_any (hK.up b0B) (hS.up b0B) hbb (fun l hl' => by rw [List.mem_singleton.1 hl']; exact ⟨fun x hx => (by cases hx), by decide⟩)
  rw [rootA_one] at f1
  have F1 := hide f1
  have BB := hide bB
  clear f1 hbb bB b0B
  go_wp2_with fail
  refine (unhide F1).mono ?_
  rintro e w2 ⟨v2, rfl, ⟨hB2, a2, c2, hv2⟩, hb2⟩
  have hb12 : Below w1.heap.size w1 w2 := (unhide BB).trans (hb2.mono (unhide BB).size)
  have hb02 := hb1.trans (hb12.mono hb1.size)
  have hR2 := hR1.up hb12
  have hm12 := hm1.up hb12
  have hm22 := hm2.up hb12
  subst hv2
  clear F1 BB hb2 hb12 hR1 hm1 hm2 hb1
  have hH2 := hR2.has (by omega) (fun p hp => by have := n2 p.2 (by rw [← hps]; exact List.mem_map_of_mem hp); omega)
  rw [hps, hpl] at hH2
  go_wp2_with fail
  refine (root_any (hK.up hb02) (hS.up hb02) hH2 hbn).mono ?_
  rintro e w3 ⟨v3, rfl, ⟨hB3, a3, c3, hv3⟩, hb3⟩
  have hb03 := hb02.trans (hb3.mono hb02.size)
  have hR3 := hR2.up hb3
  have hm13 := hm12.up hb3
  have hm23 := hm22.up hb3
  have hB23 := hB2.up hb3
  have hH3 := hH2.up hb3
  subst hv3
  clear hb3 hR2 hm12 hm22 hB2 hH2 hb02
  go_wp2_with fail
  refine (xroot_any (hX.up hb03) ((unhide Hh).up hb03) hbn).mono ?_
  rintro e w4 ⟨v4, rfl, ⟨hB4, a4, c4, hv4⟩, hb4⟩
  have hb04 := hb03.trans (hb4.mono hb03.size)
  have hR4 := hR3.up hb4
  have hm14 := hm13.up hb4
  have hm24 := hm23.up hb4
  have hB24 := hB23.up hb4
  have hB34 := hB3.up hb4
  have hH4 := hH3.up hb4
  subst hv4
  clear hb4 hR3 hm13 hm23 hB23 hB3 hH3 hb03
  go_wp2_with fail
  refine (prove_any (z := z) (hK.up hb04) (hS.up hb04) hH4 hbn).mono ?_
  rintro e w5 ⟨v5, rfl, ⟨hP5, a5, n5, c5, hv5⟩, hb5⟩
  have hb05 := hb04.trans (hb5.mono hb04.size)
  have hR5 := hR4.up hb5
  have hm15 := hm14.up hb5
  have hm25 := hm24.up hb5
  have hB25 := hB24.up hb5
  have hB35 := hB34.up hb5
  have hB45 := hB4.up hb5
  subst hv5
  clear hb5 hR4 hm14 hm24 hB24 hB34 hB4 hH4 hb04
  go_wp2_with fail
  refine (xprove_any (z := z) (hX.up hb05) ((unhide Hh).up hb05) hbn).mono ?_
  rintro e w6 ⟨v6, rfl, ⟨hP6, a6, n6, c6, hv6⟩, hb6⟩
  have hb06 := hb05.trans (hb6.mono hb05.size)
  have hR6 := hR5.up hb6
  have hm16 := hm15.up hb6
  have hm26 := hm25.up hb6
  have hB26 := hB25.up hb6
  have hB36 := hB35.up hb6
  have hB46 := hB45.up hb6
  have hP56 := hP5.up hb6
  subst hv6
  clear hb6 hR5 hm15 hm25 hB25 hB35 hB45 hP5 hb05
  have hpb : ∀ p ∈ ps, Byt p.2 ∧ p.2.length ≤ 140737488351232 := fun p hp => by
    have hm : p.2 ∈ ls := by rw [← hps]; exact List.mem_map_of_mem hp
    exact ⟨hl _ hm, n2 _ hm⟩
  have hFb := rootA_byt ls
  have hPb := proveA_byt ls z
  have Hps := hide hps
  clear hps
  generalize (rootA ls).1 = z1 at *
  generalize (rootA ls).2 = L1 at *
  generalize (proveA ls z).1 = z2 at *
  generalize (proveA ls z).2 = L2 at *
  have q1 : (z1 != z1) = false := by simp
  have q2 : (z2 != z2) = false := by simp
  go_wp2_with fail
  refine (num_any w6 0).mono ?_
  rintro e w' ⟨rfl, he⟩
  obtain rfl : w6 = w' := he.symm
  clear he
  go_wp2_with fail
  refine (xhex_any hB26 (sha_byt _) (by rw [sha_len]; decide)).mono ?_
  rintro e w7 ⟨rfl, hb7⟩
  have hb07 := hb06.trans (hb7.mono hb06.size)
  have hR7 := hR6.up hb7
  have hm17 := hm16.up hb7
  have hm27 := hm26.up hb7
  have hB37 := hB36.up hb7
  have hB47 := hB46.up hb7
  have hP57 := hP56.up hb7
  have hP67 := hP6.up hb7
  rw [le_sha]
  have hof : ofN leH = ⟨#[54, 101, 51, 52, 48, 98, 57, 99, 102, 102, 98, 51, 55, 97, 57, 56, 57, 99, 97, 53, 52, 52, 101, 54, 98, 98, 55, 56, 48, 97, 50, 99, 55, 56, 57, 48, 49, 100, 51, 102, 98, 51, 51, 55, 51, 56, 55, 54, 56, 53, 49, 49, 97, 51, 48, 54, 49, 55, 97, 102, 97, 48, 49, 100]⟩ := rfl
  rw [hof]
  clear hof hb7 hR6 hm16 hm26 hB26 hB36 hB46 hP56 hP6 hb06
  go_wp2_with fail
  refine (same_any hB37 hB47 hFb hFb).mono ?_
  rintro e w' ⟨rfl, he⟩
  obtain rfl : w7 = w' := he.symm
  clear he hB37 hB47
  rw [show decide (L1 = L1) = true by simp]
  go_wp2_with fail
  refine (num_any w7 z1).mono ?_
  rintro e w' ⟨rfl, he⟩
  obtain rfl : w7 = w' := he.symm
  clear he
  go_wp2_with fail
  refine (sameAll_any hP57 hP67 hPb hPb).mono ?_
  rintro e w8 ⟨rfl, m8, rfl⟩
  rw [show decide (L2 = L2) = true by simp]
  have hb08 : Below W.heap.size W (w7.drewN m8) := below_drewN hb07 m8
  have bD8 : Below w7.heap.size w7 (w7.drewN m8) := below_drewN (Below.refl _ _) m8
  have hR8 := hR7.up bD8
  have hm18 := hm17.up bD8
  have hm28 := hm27.up bD8
  clear hP57 hP67 hR7 hm17 hm27 hb07 bD8
  generalize w7.drewN m8 = w8 at *
  go_wp2_with fail
  refine (num_any w8 z2).mono ?_
  rintro e w' ⟨rfl, he⟩
  obtain rfl : w8 = w' := he.symm
  clear he
  have hk := keptAll_any hR8 hm18 hm28 (by rw [unhide Hps]; exact (unhide Hh).up hb08) hpb (by omega)
  rw [hpl] at hk
  go_wp2_with fail
  refine hk.mono ?_
  rintro e w9 ⟨rfl, hb9⟩
  have hb09 := hb08.trans (hb9.mono hb08.size)
  have hR9 := hR8.up hb9
  clear hb9 hR8 hm18 hm28 hk hb08
  by_cases hbig : 1000 < ls.length
  · have q3 : decide (1000 < (ls.length : Int)) = true := decide_eq_true (by omega)
    go_wp2
    go_ret
    exact ⟨rfl, hb09⟩
  · have q3 : decide (1000 < (ls.length : Int)) = false := decide_eq_false (by omega)
    have hf := flippedAll_any (base := W.heap.size) hR9 (Nat.le_refl _) hpb (by omega)
    rw [hpl] at hf
    go_wp2_with fail
    refine hf.mono ?_
    rintro e wA ⟨vA, rfl, hHA, hRA, hbA⟩
    have hb0A := hb09.trans hbA
    have hql : (ps.reverse.map flipP).length = ls.length := by rw [List.length_map, List.length_reverse, hpl]
    have hqb : ∀ p ∈ ps.reverse.map flipP, Byt p.2 ∧ p.2.length ≤ 140737488351232 := fun p hp => by
      obtain ⟨r, hr, rfl⟩ := List.mem_map.1 hp
      obtain ⟨g1, g2⟩ := hpb r (List.mem_reverse.1 hr)
      exact ⟨flip_byt g1, by show (flip r.2).length ≤ _; rw [flip_len]; exact g2⟩
    clear hf hbA hR9 hb09 hpb hpl
    generalize ps.reverse.map flipP = qs at *
    have hHB := hRA.has (by omega) (fun p hp => by have := (hqb p hp).2; omega)
    rw [hql] at hHB
    have hQb : ∀ l ∈ qs.map Prod.snd, Byt l ∧ l.length ≤ 140737488351232 := fun l hl' => by
      obtain ⟨p, hp, rfl⟩ := List.mem_map.1 hl'
      exact hqb p hp
    generalize qs.map Prod.snd = ks at *
    obtain ⟨aA, nA, cA, hvA⟩ : ∃ a n c, vA = .slice a n c := by obtain ⟨a, c, e, _⟩ := id hHA; exact ⟨_, _, _, e⟩
    subst hvA
    have hQ1 : ∀ l ∈ ks, Byt l := fun l hl' => (hQb l hl').1
    clear hRA hqb hql hFb hPb
    go_wp2_with fail
    refine (root_any (hK.up hb0A) (hS.up hb0A) hHB hQb).mono ?_
    rintro e wB ⟨vB, rfl, ⟨hBB, aB, cB, hvB⟩, hbB⟩
    have hb0B := hb0A.trans (hbB.mono hb0A.size)
    have hHA2 := hHA.up hbB
    have hHB2 := hHB.up hbB
    subst hvB
    clear hbB hHA hHB hb0A
    go_wp2_with fail
    refine (xroot_any (hX.up hb0B) hHA2 hQb).mono ?_
    rintro e wC ⟨vC, rfl, ⟨hBC, aC, cC, hvC⟩, hbC⟩
    have hb0C := hb0B.trans (hbC.mono hb0B.size)
    have hHA3 := hHA2.up hbC
    have hHB3 := hHB2.up hbC
    have hBB3 := hBB.up hbC
    subst hvC
    clear hbC hHA2 hHB2 hBB hb0B
    go_wp2_with fail
    refine (prove_any (z := z) (hK.up hb0C) (hS.up hb0C) hHB3 hQb).mono ?_
    rintro e wD ⟨vD, rfl, ⟨hPD, aD, nD, cD, hvD⟩, hbD⟩
    have hb0D := hb0C.trans (hbD.mono hb0C.size)
    have hHA4 := hHA3.up hbD
    have hHB4 := hHB3.up hbD
    have hBB4 := hBB3.up hbD
    have hBC4 := hBC.up hbD
    subst hvD
    clear hbD hHA3 hHB3 hBB3 hBC hb0C
    go_wp2_with fail
    refine (xprove_any (z := z) (hX.up hb0D) hHA4 hQb).mono ?_
    rintro e wE ⟨vE, rfl, ⟨hPE, aE, nE, cE, hvE⟩, hbE⟩
    have hb0E := hb0D.trans (hbE.mono hb0D.size)
    have hHA5 := hHA4.up hbE
    have hHB5 := hHB4.up hbE
    have hBB5 := hBB4.up hbE
    have hBC5 := hBC4.up hbE
    have hPD5 := hPD.up hbE
    subst hvE
    clear hbE hHA4 hHB4 hBB4 hBC4 hPD hb0D
    have hFb := rootA_byt ks
    have hPb := proveA_byt ks z
    generalize (rootA ks).1 = z3 at *
    generalize (rootA ks).2 = L3 at *
    generalize (proveA ks z).1 = z4 at *
    generalize (proveA ks z).2 = L4 at *
    have q5 : (z3 == z3) = true := by simp
    have q6 : (z4 == z4) = true := by simp
    go_wp2_with fail
    refine (same_any hBB5 hBC5 hFb hFb).mono ?_
    rintro e w' ⟨rfl, he⟩
    obtain rfl : wE = w' := he.symm
    clear he
    rw [show decide (L3 = L3) = true by simp]
    go_wp2_with fail
    refine (num_any wE z3).mono ?_
    rintro e w' ⟨rfl, he⟩
    obtain rfl : wE = w' := he.symm
    clear he
    go_wp2_with fail
    refine (sameAll_any hPD5 hPE hPb hPb).mono ?_
    rintro e wF ⟨rfl, mF, rfl⟩
    rw [show decide (L4 = L4) = true by simp]
    have hb0F : Below W.heap.size W (wE.drewN mF) := below_drewN hb0E mF
    have bDF : Below wE.heap.size wE (wE.drewN mF) := below_drewN (Below.refl _ _) mF
    have hHA6 := hHA5.up bDF
    have hHB6 := hHB5.up bDF
    clear hHA5 hHB5 hPD5 hPE hb0E bDF hBB5 hBC5
    generalize wE.drewN mF = wF at *
    go_wp2_with fail
    refine (num_any wF z4).mono ?_
    rintro e w' ⟨rfl, he⟩
    obtain rfl : wF = w' := he.symm
    clear he
    go_wp2_with fail
    refine (sameAll_any hHB6 hHA6 hQ1 hQ1).mono ?_
    rintro e w' ⟨rfl, m, rfl⟩
    rw [show decide (ks = ks) = true by simp]
    go_wp2
    go_ret
    exact ⟨rfl, below_drewN hb0F m⟩
end Go.Proofs.YtoojchjfmnbdpabDoor
