import Derived.Test.YtoojchjfmnbdpabDoorDMd
import Derived.Test.YtoojchjfmnbdpabDoorDOO
namespace Go.Proofs.YtoojchjfmnbdpabDoor
open Go.RowKit
attribute [local go_sem ↓] Go.wp_at_zero Go.wp_at_succ

def dxH : List Nat := [57, 102, 52, 54, 53, 52, 98, 53, 55, 55, 54, 101, 49, 53, 52, 53, 101, 100, 97, 102, 99, 98, 100, 52, 54, 98, 57, 98, 48, 57, 100, 102, 55, 57, 99, 55, 51, 99, 98, 56, 56, 99, 101, 53, 98, 97, 52, 54, 52, 98, 57, 54, 49, 51, 98, 98, 48, 50, 54, 48, 98, 102, 53, 51]
def dS : ByteArray := ⟨#[100]⟩
theorem dx_dom : (domainA dS ([120] :: [])).1 = 0 ∧ hexL (domainA dS ([120] :: [])).2 = dxH := by
  have e : domainA dS ([120] :: []) = (0, sha (frameL (sl dS :: [120] :: []))) := domainA_ok (by decide)
  rw [e, shaF_eq]
  decide +kernel
theorem domainA_byt (s : ByteArray) (ls : List (List Nat)) : Byt (domainA s ls).2 := by
  unfold domainA
  split
  · exact sha_byt _
  · intro x hx; cases hx
theorem domainA_len (s : ByteArray) (ls : List (List Nat)) : (domainA s ls).2.length ≤ 32 := by
  unfold domainA
  split
  · show (sha _).length ≤ 32
    rw [sha_len]
    decide
  · simp
set_option maxRecDepth 100000 in
set_option maxHeartbeats 4000000 in
theorem domains_any {W : World} (hS : HasS W) (hK : HasK W) (hX : HasX W) {s : ByteArray} {v : Value} {ls : List (List Nat)} (hs : s.size ≤ 140737488351232) (h : HasBB W v ls) (hl : BytB ls) (hn : ls.length ≤ 5864062014634 ∧ ∀ l ∈ ls, l.length ≤ 140737488351232) :
    Calls Tryd.prog 6 #[.string s, v] W fun e W' => e = .returned (.bool true) ∧ Below W.heap.size W W' := by
  obtain ⟨n1, n2⟩ := id hn
  have hrA := roomyAll_any h n1 n2
  have Hh := hide h
  obtain ⟨va, vc, rfl, _, _⟩ := h
  go_enter Tryd.func6, Tryd.ntmps6
  go_wp2_with fail
  refine hrA.mono ?_
  rintro e w1 ⟨rfl, hb1, ps, m1, m2, hps, hR1, hm1, hm2⟩
  have hpl : ps.length = ls.length := by rw [← hps, List.length_map]
  clear hrA
  have bA : Below w1.heap.size w1 (w1.alloc (.cells #[.int .u8 120] 5)) := (Below.refl _ _).alloc (Nat.le_refl _) _
  have bB : Below w1.heap.size w1 ((w1.alloc (.cells #[.int .u8 120] 5)).alloc (.cells #[.slice (some ⟨w1.heap.size, 0, none⟩) 1 1] 28)) := bA.alloc (by rw [World.size_alloc]; omega) _
  have hbb := hasBB_one (W := w1.alloc (.cells #[.int .u8 120] 5)) (v := .slice (some ⟨w1.heap.size, 0, none⟩) 1 1) (l := [120]) (hasB_one1 w1 120) 28
  rw [World.size_alloc] at hbb
  have b0B := hb1.trans (bB.mono hb1.size)
  have f1 := domain_any (s := dS) (hK.up b0B) (hS.up b0B) hbb (fun l hl => by rw [List.mem_singleton.1 hl]; unfold Byt; decide) (by decide) ⟨by decide, fun l hl => by rw [List.mem_singleton.1 hl]; decide⟩
  obtain ⟨dz, dh⟩ := dx_dom
  have hdb := domainA_byt dS ([120] :: [])
  have hdl := domainA_len dS ([120] :: [])
  rw [dz] at f1
  obtain ⟨D0, hD0⟩ : ∃ D0, (domainA dS ([120] :: [])).2 = D0 := ⟨_, rfl⟩
  rw [hD0] at f1 dh hdb hdl
  unfold dS at f1
  have F1 := hide f1
  have BB := hide bB
  clear f1 hbb bA bB b0B dz hD0
  go_wp2_with fail
  refine (unhide F1).mono ?_
  rintro e w2 ⟨v2, rfl, ⟨hB2, a2, c2, hv2⟩, hb2⟩
  have hb12 : Below w1.heap.size w1 w2 := (unhide BB).trans (hb2.mono (unhide BB).size)
  have hb02 := hb1.trans (hb12.mono hb1.size)
  have hR2 := hR1.up hb12
  have hm12 := hm1.up hb12
  have hm22 := hm2.up hb12
  subst hv2
  clear F1 BB hb2 hb12 hR1 hm1 hm2
  have hH2 := hR2.has (by omega) (fun p hp => by have := n2 p.2 (by rw [← hps]; exact List.mem_map_of_mem hp); omega)
  rw [hps, hpl] at hH2
  go_wp2_with fail
  refine (domain_any (hK.up hb02) (hS.up hb02) hH2 hl hs hn).mono ?_
  rintro e w3 ⟨v3, rfl, ⟨hB3, a3, c3, hv3⟩, hb3⟩
  have hb03 := hb02.trans (hb3.mono hb02.size)
  have hR3 := hR2.up hb3
  have hm13 := hm12.up hb3
  have hm23 := hm22.up hb3
  have hB23 := hB2.up hb3
  subst hv3
  clear hb3 hR2 hm12 hm22 hB2 hH2
  go_wp2_with fail
  refine (xdomain_any (hX.up hb03) ((unhide Hh).up hb03) hl hs hn).mono ?_
  rintro e w4 ⟨v4, rfl, ⟨hB4, a4, c4, hv4⟩, hb4⟩
  have hb04 := hb03.trans (hb4.mono hb03.size)
  have hR4 := hR3.up hb4
  have hm14 := hm13.up hb4
  have hm24 := hm23.up hb4
  have hB24 := hB23.up hb4
  have hB34 := hB3.up hb4
  subst hv4
  clear hb4 hR3 hm13 hm23 hB23 hB3
  have hFb := domainA_byt s ls
  have hpb : ∀ p ∈ ps, Byt p.2 ∧ p.2.length ≤ 140737488351232 := fun p hp => by
    have hm : p.2 ∈ ls := by rw [← hps]; exact List.mem_map_of_mem hp
    exact ⟨hl _ hm, n2 _ hm⟩
  obtain ⟨z1, hz1⟩ : ∃ z, (domainA s ls).1 = z := ⟨_, rfl⟩
  obtain ⟨L1, hL1⟩ : ∃ z, (domainA s ls).2 = z := ⟨_, rfl⟩
  rw [hL1] at hB34 hB4 hFb
  rw [hz1, hL1]
  have q1 : (z1 != z1) = false := by simp
  have Hps := hide hps
  clear hps hz1 hL1
  go_wp2_with fail
  refine (same_any hB34 hB4 hFb hFb).mono ?_
  rintro e w' ⟨rfl, he⟩
  obtain rfl : w4 = w' := he.symm
  clear he
  rw [show decide (L1 = L1) = true by simp]
  go_wp2_with fail
  refine (num_any w4 z1).mono ?_
  rintro e w' ⟨rfl, he⟩
  obtain rfl : w4 = w' := he.symm
  clear he
  have hk := keptAll_any hR4 hm14 hm24 (by rw [unhide Hps]; exact (unhide Hh).up hb04) hpb (by omega)
  rw [hpl] at hk
  go_wp2_with fail
  refine hk.mono ?_
  rintro e w5 ⟨rfl, hb5⟩
  have hb05 := hb04.trans (hb5.mono hb04.size)
  have hR5 := hR4.up hb5
  have hB25 := hB24.up hb5
  clear hb5 hR4 hm14 hm24 hB24 hB34 hB4 hk
  go_wp2_with fail
  refine (num_any w5 0).mono ?_
  rintro e w' ⟨rfl, he⟩
  obtain rfl : w5 = w' := he.symm
  clear he
  go_wp2_with fail
  refine (xhex_any hB25 hdb (by omega)).mono ?_
  rintro e w6 ⟨rfl, hb6⟩
  have hb06 := hb05.trans (hb6.mono hb05.size)
  have hR6 := hR5.up hb6
  rw [dh]
  have hof : ofN dxH = ⟨#[57, 102, 52, 54, 53, 52, 98, 53, 55, 55, 54, 101, 49, 53, 52, 53, 101, 100, 97, 102, 99, 98, 100, 52, 54, 98, 57, 98, 48, 57, 100, 102, 55, 57, 99, 55, 51, 99, 98, 56, 56, 99, 101, 53, 98, 97, 52, 54, 52, 98, 57, 54, 49, 51, 98, 98, 48, 50, 54, 48, 98, 102, 53, 51]⟩ := rfl
  rw [hof]
  clear hof hb6 hR5 hB25 hdb hdl dh
  have hf := flippedAll_any (base := W.heap.size) hR6 (Nat.le_refl _) hpb (by omega)
  rw [hpl] at hf
  go_wp2_with fail
  refine hf.mono ?_
  rintro e w7 ⟨v7, rfl, hH7, hR7, hb7⟩
  have hb07 := hb06.trans hb7
  have hkl : ((ps.reverse.map flipP).map Prod.snd).length = ls.length := by rw [List.length_map, List.length_map, List.length_reverse, hpl]
  have hql : (ps.reverse.map flipP).length = ls.length := by rw [List.length_map, List.length_reverse, hpl]
  have hqb : ∀ p ∈ ps.reverse.map flipP, Byt p.2 ∧ p.2.length ≤ 140737488351232 := fun p hp => by
    obtain ⟨r, hr, rfl⟩ := List.mem_map.1 hp
    obtain ⟨g1, g2⟩ := hpb r (List.mem_reverse.1 hr)
    exact ⟨flip_byt g1, by show (flip r.2).length ≤ _; rw [flip_len]; exact g2⟩
  clear hf hb7 hR6 hb06 hpb hpl
  generalize ps.reverse.map flipP = qs at *
  have hH8 := hR7.has (by omega) (fun p hp => by have := (hqb p hp).2; omega)
  rw [hql] at hH8
  have hQb : ∀ l ∈ qs.map Prod.snd, Byt l := fun l hl' => by
    obtain ⟨p, hp, rfl⟩ := List.mem_map.1 hl'
    exact (hqb p hp).1
  have hQn : (qs.map Prod.snd).length ≤ 5864062014634 ∧ ∀ l ∈ qs.map Prod.snd, l.length ≤ 140737488351232 := ⟨by omega, fun l hl' => by
    obtain ⟨p, hp, rfl⟩ := List.mem_map.1 hl'
    exact (hqb p hp).2⟩
  generalize qs.map Prod.snd = ks at *
  have hvs : ∃ a n c, v7 = .slice a n c := by obtain ⟨a, c, e, _⟩ := hH7; exact ⟨_, _, _, e⟩
  obtain ⟨a7, n7, c7, rfl⟩ := hvs
  have hFc := domainA_byt s ks
  clear hR7 hqb hql hkl
  go_wp2_with fail
  refine (domain_any (hK.up hb07) (hS.up hb07) hH8 hQb hs hQn).mono ?_
  rintro e w8 ⟨v8, rfl, ⟨hB8, a8, c8, hv8⟩, hb8⟩
  have hb08 := hb07.trans (hb8.mono hb07.size)
  have hH78 := hH7.up hb8
  have hH88 := hH8.up hb8
  subst hv8
  clear hb8 hH7 hH8
  go_wp2_with fail
  refine (xdomain_any (hX.up hb08) hH78 hQb hs hQn).mono ?_
  rintro e w9 ⟨v9, rfl, ⟨hB9, a9, c9, hv9⟩, hb9⟩
  have hb09 := hb08.trans (hb9.mono hb08.size)
  have hH79 := hH78.up hb9
  have hH89 := hH88.up hb9
  have hB89 := hB8.up hb9
  subst hv9
  clear hb9 hH78 hH88 hB8
  obtain ⟨z2, hz2⟩ : ∃ z, (domainA s ks).1 = z := ⟨_, rfl⟩
  obtain ⟨L2, hL2⟩ : ∃ z, (domainA s ks).2 = z := ⟨_, rfl⟩
  rw [hL2] at hB89 hB9 hFc
  rw [hz2, hL2]
  have q2 : (z2 == z2) = true := by simp
  go_wp2_with fail
  refine (same_any hB89 hB9 hFc hFc).mono ?_
  rintro e w' ⟨rfl, he⟩
  obtain rfl : w9 = w' := he.symm
  clear he
  rw [show decide (L2 = L2) = true by simp]
  go_wp2_with fail
  refine (num_any w9 z2).mono ?_
  rintro e w' ⟨rfl, he⟩
  obtain rfl : w9 = w' := he.symm
  clear he
  go_wp2_with fail
  refine (sameAll_any hH89 hH79 hQb hQb).mono ?_
  rintro e w' ⟨rfl, m, rfl⟩
  rw [show decide (ks = ks) = true by simp]
  go_wp2
  go_ret
  exact ⟨rfl, below_drewN hb09 m⟩
end Go.Proofs.YtoojchjfmnbdpabDoor
