import Derived.Test.YtoojchjfmnbdpabDoorDTk
import Derived.Test.YtoojchjfmnbdpabDoorDTg
namespace Go.Proofs.YtoojchjfmnbdpabDoor
open Go.RowKit
attribute [local go_sem ↓] Go.wp_at_zero Go.wp_at_succ

theorem proveA_len (ls : List (List Nat)) (z : Int) : (proveA ls z).2.length ≤ 65536 ∧ ∀ l ∈ (proveA ls z).2, l.length = 32 := by
  unfold proveA
  split
  · exact ⟨by simp, fun l hl => by cases hl⟩
  · split
    · exact ⟨by simp, fun l hl => by cases hl⟩
    · exact ⟨wayF_len _ _ _, fun l hl => (wayF_byt _ _ _ l hl).2⟩
theorem rebuildA_one : rebuildA [] 0 1 [] = (0, sha (0 :: [])) := by
  unfold rebuildA
  rw [if_neg (by decide), if_neg (by decide)]
  rfl
set_option maxRecDepth 100000 in
set_option maxHeartbeats 4000000 in
theorem rebuilds_any {W : World} (hS : HasS W) (hK : HasK W) (hX : HasX W) {v u p : Value} {ls pf : List (List Nat)} {leaf : List Nat} {z c : Int} (h : HasBB W v ls) (hl : BytB ls) (hn : ls.length ≤ 5864062014634 ∧ ∀ l ∈ ls, l.length ≤ 140737488351232) (hz : -9223372036854775808 ≤ z ∧ z ≤ 9223372036854775807) (hf : HasB W u leaf) (hfb : Byt leaf) (hfn : leaf.length ≤ 140737488351232) (hc : -9223372036854775808 ≤ c ∧ c ≤ 9223372036854775807) (g : HasBB W p pf) (hp : BytB pf) (gn : pf.length ≤ 5864062014634 ∧ ∀ l ∈ pf, l.length ≤ 140737488351232) :
    Calls Tryd.prog 8 #[v, .int .i64 z, u, .int .i64 c, p] W fun e W' => e = .returned (.bool true) ∧ Below W.heap.size W W' := by
  obtain ⟨n1, n2⟩ := id hn
  obtain ⟨n3, n4⟩ := id gn
  have hbn : ∀ l ∈ ls, Byt l ∧ l.length ≤ 140737488351232 := fun l hl' => ⟨hl l hl', n2 l hl'⟩
  have Hh := hide h
  have Hf := hide hf
  have Hg := hide g
  have Hz := hide hz
  have Hc := hide hc
  have hb0_0 : Below W.heap.size W W := Below.refl _ _
  clear hz hc
  obtain ⟨va, vc, rfl, hvm, _⟩ := h
  have hvc : vc ≤ 9223372036854775807 := by have := hvm.2.1; unfold maxLen at this; omega
  have hvc2 := hvm.1
  obtain ⟨ua, uc, rfl, _, _⟩ := hf
  obtain ⟨pa, pc, rfl, hpm, _⟩ := g
  have hpc : pc ≤ 9223372036854775807 := by have := hpm.2.1; unfold maxLen at this; omega
  have hpc2 := hpm.1
  clear hvm hpm
  go_enter Tryd.func8, Tryd.ntmps8
  go_wp2_with fail
  refine (roomyAll_any ((unhide Hg).up hb0_0) n3 n4).mono ?_
  rintro e w1 ⟨rfl, hb_1, ps, m1, m2, hps, R_1, M_1, K_1⟩
  have hpl : ps.length = pf.length := by rw [← hps, List.length_map]
  have hb0_1 : Below W.heap.size W w1 := hb0_0.trans (hb_1.mono hb0_0.size)
  clear hb0_0 hb_1
  have hG1 : W.heap.size < w1.heap.size := R_1.lt
  have hGp : ∀ p ∈ ps, p.1 < w1.heap.size := fun p hp => (R_1.each p hp).lt
  go_wp2_with fail
  refine (roomy_any ((unhide Hf).up hb0_1) hfn).mono ?_
  rintro e w2 ⟨rfl, Q_2, hb_2⟩
  have hb0_2 : Below W.heap.size W w2 := hb0_1.trans (hb_2.mono hb0_1.size)
  have R_2 := R_1.up hb_2
  have M_2 := M_1.up hb_2
  have K_2 := K_1.up hb_2
  clear R_1 M_1 K_1 hb0_1 hb_2
  obtain ⟨G, hG⟩ : ∃ G, w1.heap.size = G := ⟨_, rfl⟩
  rw [hG] at hG1 hGp Q_2 ⊢
  have HGp := hide hGp
  clear hG hGp
  have hpb : ∀ p ∈ ps, Byt p.2 ∧ p.2.length ≤ 140737488351232 := fun p hp' => by
    have hm : p.2 ∈ pf := by rw [← hps]; exact List.mem_map_of_mem hp'
    exact ⟨hp _ hm, n4 _ hm⟩
  have HBm := R_2.has (by omega) (fun p hp' => by have := (hpb p hp').2; omega)
  rw [hps, hpl] at HBm
  go_wp2_with fail
  refine (rebuild_any (z := z) (c := c) (hK.up hb0_2) (hS.up hb0_2) (Q_2.has (by omega)) hfb hfn HBm hp).mono ?_
  rintro e w3 ⟨v3, rfl, ⟨A_3, a3, c3, hv3⟩, hb_3⟩
  subst hv3
  clear HBm
  have hb0_3 : Below W.heap.size W w3 := hb0_2.trans (hb_3.mono hb0_2.size)
  have R_3 := R_2.up hb_3
  have M_3 := M_2.up hb_3
  have K_3 := K_2.up hb_3
  have Q_3 := Q_2.up hb_3
  clear R_2 M_2 K_2 Q_2 hb0_2 hb_3
  go_wp2_with fail
  refine (xrebuild_any (z := z) (c := c) (hX.up hb0_3) ((unhide Hf).up hb0_3) hfb hfn ((unhide Hg).up hb0_3) hp).mono ?_
  rintro e w4 ⟨v4, rfl, ⟨B_4, a4, c4, hv4⟩, hb_4⟩
  subst hv4
  have hb0_4 : Below W.heap.size W w4 := hb0_3.trans (hb_4.mono hb0_3.size)
  have R_4 := R_3.up hb_4
  have M_4 := M_3.up hb_4
  have K_4 := K_3.up hb_4
  have Q_4 := Q_3.up hb_4
  have A_4 := A_3.up hb_4
  clear R_3 M_3 K_3 Q_3 A_3 hb0_3 hb_4
  have hAb := rebuildA_byt leaf z c pf
  have Hps := hide hps
  clear hps
  generalize (rebuildA leaf z c pf).1 = z1 at *
  generalize (rebuildA leaf z c pf).2 = L1 at *
  have q1 : (z1 != z1) = false := by simp
  go_wp2_with fail
  refine (same_any A_4 B_4 hAb hAb).mono ?_
  rintro e w' ⟨rfl, he⟩
  obtain rfl : w4 = w' := he.symm
  clear he
  rw [show decide (L1 = L1) = true by simp]
  go_wp2_with fail
  refine (num_any w4 z1).mono ?_
  rintro e w' ⟨rfl, he⟩
  obtain rfl : w4 = w' := he.symm
  clear he
  have hk := keptAll_any R_4 M_4 K_4 (by rw [unhide Hps]; exact (unhide Hg).up hb0_4) hpb (by omega)
  rw [hpl] at hk
  go_wp2_with fail
  refine (hk).mono ?_
  rintro e w5 ⟨rfl, hb_5⟩
  clear hk hAb
  have hb0_5 : Below W.heap.size W w5 := hb0_4.trans (hb_5.mono hb0_4.size)
  have R_5 := R_4.up hb_5
  have Q_5 := Q_4.up hb_5
  clear R_4 M_4 K_4 Q_4 A_4 B_4 hb0_4 hb_5
  go_wp2_with fail
  refine (kept_any Q_5 ((unhide Hf).up hb0_5) hfb hfn).mono ?_
  rintro e w6 ⟨rfl, hb_6⟩
  have hb0_6 : Below W.heap.size W w6 := hb0_5.trans (hb_6.mono hb0_5.size)
  have R_6 := R_5.up hb_6
  have Q_6 := Q_5.up hb_6
  clear R_5 Q_5 hb0_5 hb_6
  have s6 := hb0_6.size
  have Gs : G < w6.heap.size := Q_6.lt
  go_wp2_with fail
  refine (flipped_but Q_6 hfb hfn).mono ?_
  rintro e w7 ⟨v7, rfl, A_7, Q_7, bt⟩
  have R_7 := R_6.but bt hG1 (fun p hp' => unhide HGp p hp')
  have hb0_7 : Below W.heap.size W w7 := hb0_6.trans (bt.below (Nat.le_of_lt hG1) s6)
  have hfl := flip_byt hfb
  have hfe : (flip leaf).length = leaf.length := flip_len leaf
  have hfn2 : (flip leaf).length ≤ 140737488351232 := by omega
  obtain ⟨xa, xc, hv7⟩ := A_7.slc
  rw [hfe] at hv7
  subst hv7
  clear bt Q_6 R_6 hb0_6
  have HF7 := hide hfe
  clear hfe
  generalize flip leaf = fleaf at *
  have hfa := flippedAll_far (fun b => G ≤ b) (base := W.heap.size) R_7 (by omega) (fun p hp' => by have := unhide HGp p hp'; omega) (Nat.le_refl _) hpb (by omega)
  rw [hpl] at hfa
  go_wp2_with fail
  refine hfa.mono ?_
  rintro e w8 ⟨v8, rfl, P_8, R_8, hb_8, far8⟩
  have Q_8 : Room w8 G fleaf := (far8 G Q_7.lt (Nat.le_refl _)).trans Q_7
  have A_8 : HasB w8 _ fleaf := A_7.has.stays hb_8.size (fun b e hlt => far8 b hlt (by have := (A_7.lt b e).1; omega))
  have hb0_8 := hb0_7.trans hb_8
  have hql : (ps.reverse.map flipP).length = pf.length := by rw [List.length_map, List.length_reverse, hpl]
  have hqb : ∀ p ∈ ps.reverse.map flipP, Byt p.2 ∧ p.2.length ≤ 140737488351232 := fun p hp' => by
    obtain ⟨r, hr, rfl⟩ := List.mem_map.1 hp'
    obtain ⟨g1, g2⟩ := hpb r (List.mem_reverse.1 hr)
    exact ⟨flip_byt g1, by show (flip r.2).length ≤ _; rw [flip_len]; exact g2⟩
  clear hfa far8 R_7 Q_7 A_7 hb0_7 hb_8 hpb hpl HGp Hps
  generalize ps.reverse.map flipP = qs at *
  have M_8 := R_8.has (by omega) (fun p hp' => by have := (hqb p hp').2; omega)
  rw [hql] at M_8
  have hQb : ∀ l ∈ qs.map Prod.snd, Byt l := fun l hl' => by
    obtain ⟨p, hp', rfl⟩ := List.mem_map.1 hl'
    exact (hqb p hp').1
  generalize qs.map Prod.snd = ks at *
  obtain ⟨aA, nA, cA, hvA⟩ : ∃ a n c, v8 = .slice a n c := by obtain ⟨a, c, e, _⟩ := id P_8; exact ⟨_, _, _, e⟩
  subst hvA
  clear R_8 hqb hql
  have HQ8 := Q_8.has (by omega)
  rw [unhide HF7] at HQ8
  go_wp2_with fail
  refine (rebuild_any (z := z) (c := c) (hK.up hb0_8) (hS.up hb0_8) HQ8 hfl hfn2 M_8 hQb).mono ?_
  rintro e w9 ⟨v9, rfl, ⟨B_9, a9, c9, hv9⟩, hb_9⟩
  subst hv9
  have hb0_9 : Below W.heap.size W w9 := hb0_8.trans (hb_9.mono hb0_8.size)
  have Q_9 := Q_8.up hb_9
  have A_9 := A_8.up hb_9
  have P_9 := P_8.up hb_9
  have M_9 := M_8.up hb_9
  clear Q_8 A_8 P_8 M_8 hb0_8 hb_9
  go_wp2_with fail
  refine (xrebuild_any (z := z) (c := c) (hX.up hb0_9) A_9 hfl hfn2 P_9 hQb).mono ?_
  rintro e w10 ⟨v10, rfl, ⟨C_10, a10, c10, hv10⟩, hb_10⟩
  subst hv10
  have hb0_10 : Below W.heap.size W w10 := hb0_9.trans (hb_10.mono hb0_9.size)
  have Q_10 := Q_9.up hb_10
  have A_10 := A_9.up hb_10
  have P_10 := P_9.up hb_10
  have M_10 := M_9.up hb_10
  have B_10 := B_9.up hb_10
  clear Q_9 A_9 P_9 M_9 B_9 hb0_9 hb_10
  have hAb := rebuildA_byt fleaf z c ks
  generalize (rebuildA fleaf z c ks).1 = z2 at *
  generalize (rebuildA fleaf z c ks).2 = L2 at *
  have q2 : (z2 != z2) = false := by simp
  go_wp2_with fail
  refine (same_any B_10 C_10 hAb hAb).mono ?_
  rintro e w' ⟨rfl, he⟩
  obtain rfl : w10 = w' := he.symm
  clear he
  rw [show decide (L2 = L2) = true by simp]
  go_wp2_with fail
  refine (num_any w10 z2).mono ?_
  rintro e w' ⟨rfl, he⟩
  obtain rfl : w10 = w' := he.symm
  clear he
  go_wp2_with fail
  refine (sameAll_any M_10 P_10 hQb hQb).mono ?_
  rintro e wq ⟨rfl, mq, rfl⟩
  have bq : Below w10.heap.size w10 (w10.drewN mq) := below_drewN (Below.refl _ _) mq
  obtain ⟨w11, hwm⟩ : ∃ x, w10.drewN mq = x := ⟨_, rfl⟩
  rw [hwm] at bq ⊢
  clear hwm
  have hb0_11 : Below W.heap.size W w11 := hb0_10.trans (bq.mono hb0_10.size)
  have Q_11 := Q_10.up bq
  have A_11 := A_10.up bq
  clear Q_10 A_10 P_10 M_10 B_10 C_10 hb0_10 bq
  rw [show decide (ks = ks) = true by simp]
  have hke := kept_any Q_11 A_11 hfl hfn2
  rw [unhide HF7] at hke
  go_wp2_with fail
  refine (hke).mono ?_
  rintro e w12 ⟨rfl, hb_12⟩
  have hb0_12 : Below W.heap.size W w12 := hb0_11.trans (hb_12.mono hb0_11.size)
  clear Q_11 A_11 hb0_11 hb_12
  clear hAb hfl hfn2 hQb
  go_wp2_with fail
  refine (xprove_any (z := z) (hX.up hb0_12) ((unhide Hh).up hb0_12) hbn).mono ?_
  rintro e w13 ⟨v13, rfl, ⟨P_13, a13, n13, c13, hv13⟩, hb_13⟩
  subst hv13
  have hb0_13 : Below W.heap.size W w13 := hb0_12.trans (hb_13.mono hb0_12.size)
  clear hb0_12 hb_13
  have hPb := proveA_byt ls z
  obtain ⟨pn1, pn2⟩ := proveA_len ls z
  have Hpn := hide pn2
  clear pn2
  generalize (proveA ls z).1 = z3 at *
  generalize (proveA ls z).2 = way at *
  go_wp2_with fail
  refine (roomyAll_any P_13 (by omega) (fun l hl' => by rw [unhide Hpn l hl']; decide)).mono ?_
  rintro e w14 ⟨rfl, hb_14, ps2, m3, m4, hps2, R_14, M_14, K_14⟩
  have hpl2 : ps2.length = way.length := by rw [← hps2, List.length_map]
  clear M_14 K_14
  have hb0_14 : Below W.heap.size W w14 := hb0_13.trans (hb_14.mono hb0_13.size)
  have P_14 := P_13.up hb_14
  clear P_13 hb0_13 hb_14
  have HBw := R_14.has (by omega) (fun p hp' => by have : p.2 ∈ way := (by rw [← hps2]; exact List.mem_map_of_mem hp'); rw [unhide Hpn _ this]; decide)
  rw [hps2, hpl2] at HBw
  obtain ⟨G2, hG2⟩ : ∃ G, w13.heap.size = G := ⟨_, rfl⟩
  rw [hG2] at HBw ⊢
  clear hG2 R_14
  go_wp2_with fail
  refine (rebuild_any (z := z) (c := (ls.length : Int)) (hK.up hb0_14) (hS.up hb0_14) ((unhide Hf).up hb0_14) hfb hfn HBw hPb).mono ?_
  rintro e w15 ⟨v15, rfl, ⟨B_15, a15, c15, hv15⟩, hb_15⟩
  subst hv15
  clear HBw
  have hb0_15 : Below W.heap.size W w15 := hb0_14.trans (hb_15.mono hb0_14.size)
  have P_15 := P_14.up hb_15
  clear P_14 hb0_14 hb_15
  go_wp2_with fail
  refine (xrebuild_any (z := z) (c := (ls.length : Int)) (hX.up hb0_15) ((unhide Hf).up hb0_15) hfb hfn P_15 hPb).mono ?_
  rintro e w16 ⟨v16, rfl, ⟨C_16, a16, c16, hv16⟩, hb_16⟩
  subst hv16
  have hb0_16 : Below W.heap.size W w16 := hb0_15.trans (hb_16.mono hb0_15.size)
  have P_16 := P_15.up hb_16
  have B_16 := B_15.up hb_16
  clear P_15 B_15 hb0_15 hb_16
  have hAb := rebuildA_byt leaf z (ls.length : Int) way
  generalize (rebuildA leaf z (ls.length : Int) way).1 = z4 at *
  generalize (rebuildA leaf z (ls.length : Int) way).2 = L4 at *
  have q4 : (z4 == z4) = true := by simp
  have hone := rebuild_any (z := 0) (c := 1) (hK.up hb0_16) (hS.up hb0_16) (hasB_nil w16) (fun x hx => by cases hx) (by decide) (hasBB_nil w16) (fun l hl' => by cases hl')
  rw [rebuildA_one] at hone
  go_wp2_with fail
  refine (hone).mono ?_
  rintro e w17 ⟨v17, rfl, ⟨D_17, a17, c17, hv17⟩, hb_17⟩
  subst hv17
  clear hone
  have hb0_17 : Below W.heap.size W w17 := hb0_16.trans (hb_17.mono hb0_16.size)
  have P_17 := P_16.up hb_17
  have B_17 := B_16.up hb_17
  have C_17 := C_16.up hb_17
  clear P_16 B_16 C_16 hb0_16 hb_17
  go_wp2_with fail
  refine (same_any B_17 C_17 hAb hAb).mono ?_
  rintro e w' ⟨rfl, he⟩
  obtain rfl : w17 = w' := he.symm
  clear he
  rw [show decide (L4 = L4) = true by simp]
  go_wp2_with fail
  refine (num_any w17 z4).mono ?_
  rintro e w' ⟨rfl, he⟩
  obtain rfl : w17 = w' := he.symm
  clear he
  go_wp2_with fail
  refine (num_any w17 0).mono ?_
  rintro e w' ⟨rfl, he⟩
  obtain rfl : w17 = w' := he.symm
  clear he
  go_wp2_with fail
  refine (xhex_any D_17 (sha_byt _) (by rw [sha_len]; decide)).mono ?_
  rintro e w18 ⟨rfl, hb_18⟩
  have hb0_18 : Below W.heap.size W w18 := hb0_17.trans (hb_18.mono hb0_17.size)
  clear P_17 B_17 C_17 D_17 hb0_17 hb_18
  rw [le_sha]
  have hof : ofN leH = ⟨#[54, 101, 51, 52, 48, 98, 57, 99, 102, 102, 98, 51, 55, 97, 57, 56, 57, 99, 97, 53, 52, 52, 101, 54, 98, 98, 55, 56, 48, 97, 50, 99, 55, 56, 57, 48, 49, 100, 51, 102, 98, 51, 51, 55, 51, 56, 55, 54, 56, 53, 49, 49, 97, 51, 48, 54, 49, 55, 97, 102, 97, 48, 49, 100]⟩ := rfl
  rw [hof]
  clear hof
  go_wp2
  go_ret
  exact ⟨rfl, hb0_18⟩
end Go.Proofs.YtoojchjfmnbdpabDoor
