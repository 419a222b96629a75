import Derived.Test.YtoojchjfmnbdpabDoorDTh
namespace Go.Proofs.YtoojchjfmnbdpabDoor
open Go.RowKit
attribute [local go_sem ↓] Go.wp_at_zero Go.wp_at_succ

/-- To which root a leaf comes. -/
def comeF : Nat → List Nat → Nat → Nat → List (List Nat) → List Nat
  | 0, leaf, _, _, _ => sha (0 :: leaf)
  | f + 1, leaf, a, c, pf => if c < 2 then sha (0 :: leaf) else if a < cutN c then sha (1 :: (comeF f leaf a (cutN c) (pf.take (pf.length - 1)) ++ pf.getD (pf.length - 1) [])) else sha (1 :: (pf.getD (pf.length - 1) [] ++ comeF f leaf (a - cutN c) (c - cutN c) (pf.take (pf.length - 1))))
theorem comeF_byt (f : Nat) (leaf : List Nat) (a c : Nat) (pf : List (List Nat)) : Byt (comeF f leaf a c pf) := by
  cases f with
  | zero => exact sha_byt _
  | succ f => unfold comeF; split; · exact sha_byt _
              split <;> exact sha_byt _
theorem comeF_len (f : Nat) (leaf : List Nat) (a c : Nat) (pf : List (List Nat)) : (comeF f leaf a c pf).length = 32 := by
  cases f with
  | zero => exact sha_len _
  | succ f => unfold comeF; split; · exact sha_len _
              split <;> exact sha_len _
set_option maxRecDepth 100000 in
set_option maxHeartbeats 2000000 in
theorem xcome_any : ∀ (f : Nat) {W : World} {v p : Value} {leaf : List Nat} {pf : List (List Nat)} {a c : Nat}, HasX W → HasB W v leaf → Byt leaf → leaf.length ≤ 140737488351232 → HasBB W p pf → (∀ l ∈ pf, Byt l ∧ l.length = 32) → pf.length = stepsF f a c → c ≤ f → f ≤ 65536 → a ≤ 65536 →
    Calls Tryd.prog 55 #[v, .int .i64 (a : Int), .int .i64 (c : Int), p] W fun e W' => ∃ v', e = .returned v' ∧ Bytes W.heap.size W' v' (comeF f leaf a c pf) ∧ Below W.heap.size W W' := by
  intro f
  have leafCase : ∀ {W : World} {v p : Value} {leaf : List Nat} {pf : List (List Nat)} {a c : Nat}, HasX W → HasB W v leaf → Byt leaf → leaf.length ≤ 140737488351232 → HasBB W p pf → c < 2 →
      Calls Tryd.prog 55 #[v, .int .i64 (a : Int), .int .i64 (c : Int), p] W fun e W' => ∃ v', e = .returned v' ∧ Bytes W.heap.size W' v' (sha (0 :: leaf)) ∧ Below W.heap.size W W' := by
    intro W v p leaf pf a c hX hv hvb hvn hp h2
    have q1 : decide ((c : Int) < 2) = true := decide_eq_true (by omega)
    have hs := xjoined_any (x := 0) hv (hasB_nil W) (by simp; omega)
    rw [List.append_nil] at hs
    have Hs := hide hs
    obtain ⟨va, vc, rfl, _, _⟩ := hv
    obtain ⟨pa, pc, rfl, _, _⟩ := hp
    clear hs
    go_enter Tryd.func55, Tryd.ntmps55
    go_wp2_with fail
    refine (unhide Hs).mono ?_
    rintro e w2 ⟨v', rfl, hB2, hb2⟩
    obtain ⟨xx, yy, zz, hvv⟩ : ∃ x y z, v' = .slice x y z := by obtain ⟨x, y, e, _⟩ := id hB2.has; exact ⟨_, _, _, e⟩
    subst hvv
    have hsum := xsum_any (hX.up hb2) hB2.has (fun y hy => by
      rcases List.mem_cons.1 hy with rfl | hy
      · decide
      · exact hvb y hy) (by simp; omega)
    have Hsum := hide hsum
    clear hsum hB2 Hs
    go_wp2_with fail
    refine (unhide Hsum).mono ?_
    rintro e w3 ⟨v3, rfl, hB3, hb3⟩
    have HB3 := hide (hB3.lower (b' := W.heap.size) hb2.size)
    have Hb3 : Hid (Below W.heap.size W w3) := hb2.trans (hb3.mono hb2.size)
    clear hB3 hb3 hb2 Hsum
    go_wp2
    go_ret
    exact ⟨v3, rfl, unhide HB3, unhide Hb3⟩
  induction f with
  | zero =>
    intro W v p leaf pf a c hX hv hvb hvn hp hpb hpl hc hf ha
    exact leafCase hX hv hvb hvn hp (by omega)
  | succ f ih =>
    intro W v p leaf pf a c hX hv hvb hvn hp hpb hpl hc hf ha
    by_cases h2 : c < 2
    · rw [comeF, if_pos h2]
      exact leafCase hX hv hvb hvn hp h2
    · have q1 : decide ((c : Int) < 2) = false := decide_eq_false (by omega)
      have hcut := xcut_any c W (by omega) (by omega)
      obtain ⟨k, hk⟩ : ∃ k, cutN c = k := ⟨_, rfl⟩
      have k0 : 0 < k := by rw [← hk]; exact cutN_pos _
      have k1 : k < c := by rw [← hk]; exact cutN_lt (by omega)
      rw [hk] at hcut
      have Hcut := hide hcut
      have hpos : 0 < pf.length := by
        rw [hpl, stepsF, if_neg h2]
        split <;> omega
      obtain ⟨t, ht⟩ : ∃ t, pf.length = t + 1 := ⟨pf.length - 1, by omega⟩
      obtain ⟨pa, pc, rfl, hpm, hp3⟩ := id hp
      obtain ⟨g, off, rfl, hg, hcc⟩ := hp3 hpos
      obtain ⟨top, htop⟩ : ∃ x, pf[t]? = some x := ⟨_, List.getElem?_eq_getElem (by omega)⟩
      obtain ⟨u, hu, hBu⟩ := hcc t top htop
      obtain ⟨tb, tl⟩ := hpb top (List.mem_of_getElem? htop)
      have hgl : pf.getD t [] = top := by rw [List.getD_eq_getElem?_getD, htop]; rfl
      have hpc : pc ≤ 9223372036854775807 := by have := hpm.2.1; unfold maxLen at this; omega
      have hpc2 := hpm.1
      have htk := hp.take t (by omega)
      have hsb := stepsF_le (f + 1) a c
      have htn : t ≤ 65536 := by omega
      have et : (pf.length : Int) - 1 = (t : Int) := by omega
      have t0 : (0 : Int) ≤ (t : Int) := Int.natCast_nonneg _
      have t1 : (t : Int) < (pf.length : Int) := by omega
      have t2 : (t : Int) ≤ (pc : Int) := by omega
      have t3 : (t : Int) ≤ (pf.length : Int) := by omega
      have hlt' : (pf.take t).length = t := by rw [List.length_take]; omega
      have hbt : ∀ l ∈ pf.take t, Byt l ∧ l.length = 32 := fun l hl => hpb l (List.mem_of_mem_take hl)
      have Htk := hide htk
      have Hu := hide hu
      have HBu := hide hBu
      have Ht := hide ht
      clear htk hcut hcc hp3 hpm htop hu hp ht
      by_cases hlt : a < k
      · have eR : comeF (f + 1) leaf a c pf = sha (1 :: (comeF f leaf a k (pf.take t) ++ top)) := by
          rw [comeF, if_neg h2, hk, if_pos hlt, show pf.length - 1 = t by have := unhide Ht; omega, hgl]
        rw [eR]
        have q2 : decide ((a : Int) < (k : Int)) = true := decide_eq_true (by omega)
        have hst : (pf.take t).length = stepsF f a k := by
          rw [stepsF, if_neg h2, hk, if_pos hlt] at hpl
          have := unhide Ht
          omega
        have i1 := ih (a := a) (c := k) hX hv hvb hvn (unhide Htk) hbt hst (by omega) (by omega) ha
        have I1 := hide i1
        have hcl := comeF_len f leaf a k (pf.take t)
        obtain ⟨va, vc, rfl, _, _⟩ := hv
        have Hcb := hide (comeF_byt f leaf a k (pf.take t))
        clear i1 eR hst hpl hgl hk ih leafCase hlt'
        generalize comeF f leaf a k (pf.take t) = C at *
        go_enter Tryd.func55, Tryd.ntmps55
        go_wp2_with fail
        refine (unhide Hcut).mono ?_
        rintro e w' ⟨rfl, he⟩
        obtain rfl : W = w' := he.symm
        clear he
        go_wp2_with fail
        refine (unhide I1).mono ?_
        rintro e w2 ⟨v2, rfl, hB2, hb2⟩
        obtain ⟨x2, y2, c2, hv2⟩ : ∃ x y z, v2 = .slice x y z := by obtain ⟨x, y, e, _⟩ := id hB2.has; exact ⟨_, _, _, e⟩
        subst hv2
        have hju := xjoined_any (x := 1) hB2.has ((unhide HBu).up hb2) (by rw [hcl, tl]; decide)
        have Hju := hide hju
        have Hcl := hide hcl
        have Htl := hide tl
        clear hcl tl
        have cu := (hb2.cell (p := ⟨g, off + t, none⟩) hg).trans (unhide Hu)
        obtain ⟨ua, uc, e9, _, _⟩ := id (unhide HBu)
        subst e9
        clear hju hB2 I1 Hcut
        go_wp2_with fail
        refine (unhide Hju).mono ?_
        rintro e w3 ⟨v3, rfl, hB3, hb3⟩
        have b03 : Below W.heap.size W w3 := hb2.trans (hb3.mono hb2.size)
        obtain ⟨x3, y3, c3, hv3⟩ : ∃ x y z, v3 = .slice x y z := by obtain ⟨x, y, e, _⟩ := id hB3.has; exact ⟨_, _, _, e⟩
        subst hv3
        have hsum := xsum_any (hX.up b03) hB3.has (fun y hy => by
          rcases List.mem_cons.1 hy with rfl | hy
          · decide
          · rcases List.mem_append.1 hy with hy | hy
            · exact (unhide Hcb) y hy
            · exact tb y hy) (by rw [List.length_cons, List.length_append]; have h1 := unhide Hcl; have h2 := unhide Htl; omega)
        have Hsum := hide hsum
        clear hsum hB3 Hju hb3 hb2 cu
        go_wp2_with fail
        refine (unhide Hsum).mono ?_
        rintro e w4 ⟨v4, rfl, hB4, hb4⟩
        have HB4 := hide (hB4.lower (b' := W.heap.size) b03.size)
        have Hb4 : Hid (Below W.heap.size W w4) := b03.trans (hb4.mono b03.size)
        clear hB4 hb4 b03 Hsum
        go_wp2
        go_ret
        exact ⟨v4, rfl, unhide HB4, unhide Hb4⟩
      · obtain ⟨aa, haa⟩ : ∃ aa, a - k = aa := ⟨_, rfl⟩
        obtain ⟨cc, hcc⟩ : ∃ cc, c - k = cc := ⟨_, rfl⟩
        have eR : comeF (f + 1) leaf a c pf = sha (1 :: (top ++ comeF f leaf aa cc (pf.take t))) := by
          rw [comeF, if_neg h2, hk, if_neg hlt, show pf.length - 1 = t by have := unhide Ht; omega, hgl, haa, hcc]
        rw [eR]
        have q2 : decide ((a : Int) < (k : Int)) = false := decide_eq_false (by omega)
        have eaa : (a : Int) - (k : Int) = (aa : Int) := by omega
        have ecc : (c : Int) - (k : Int) = (cc : Int) := by omega
        have hst : (pf.take t).length = stepsF f aa cc := by
          rw [stepsF, if_neg h2, hk, if_neg hlt, haa, hcc] at hpl
          have := unhide Ht
          omega
        have i1 := ih (a := aa) (c := cc) hX hv hvb hvn (unhide Htk) hbt hst (by omega) (by omega) (by omega)
        have I1 := hide i1
        have hcl := comeF_len f leaf aa cc (pf.take t)
        obtain ⟨va, vc, rfl, _, _⟩ := hv
        have Hcb := hide (comeF_byt f leaf aa cc (pf.take t))
        have haa2 : aa ≤ 65536 := by omega
        have hcc2 : cc ≤ 65536 := by omega
        clear i1 eR hst hpl hgl hk ih leafCase hlt' haa hcc
        generalize comeF f leaf aa cc (pf.take t) = C at *
        go_enter Tryd.func55, Tryd.ntmps55
        go_wp2_with fail
        refine (unhide Hcut).mono ?_
        rintro e w' ⟨rfl, he⟩
        obtain rfl : W = w' := he.symm
        clear he
        go_wp2_with fail
        refine (unhide I1).mono ?_
        rintro e w2 ⟨v2, rfl, hB2, hb2⟩
        obtain ⟨x2, y2, c2, hv2⟩ : ∃ x y z, v2 = .slice x y z := by obtain ⟨x, y, e, _⟩ := id hB2.has; exact ⟨_, _, _, e⟩
        subst hv2
        have hju := xjoined_any (x := 1) ((unhide HBu).up hb2) hB2.has (by rw [hcl, tl]; decide)
        have Hju := hide hju
        have Hcl := hide hcl
        have Htl := hide tl
        clear hcl tl
        have cu := (hb2.cell (p := ⟨g, off + t, none⟩) hg).trans (unhide Hu)
        obtain ⟨ua, uc, e9, _, _⟩ := id (unhide HBu)
        subst e9
        clear hju hB2 I1 Hcut
        go_wp2_with fail
        refine (unhide Hju).mono ?_
        rintro e w3 ⟨v3, rfl, hB3, hb3⟩
        have b03 : Below W.heap.size W w3 := hb2.trans (hb3.mono hb2.size)
        obtain ⟨x3, y3, c3, hv3⟩ : ∃ x y z, v3 = .slice x y z := by obtain ⟨x, y, e, _⟩ := id hB3.has; exact ⟨_, _, _, e⟩
        subst hv3
        have hsum := xsum_any (hX.up b03) hB3.has (fun y hy => by
          rcases List.mem_cons.1 hy with rfl | hy
          · decide
          · rcases List.mem_append.1 hy with hy | hy
            · exact tb y hy
            · exact (unhide Hcb) y hy) (by rw [List.length_cons, List.length_append]; have h1 := unhide Hcl; have h2 := unhide Htl; omega)
        have Hsum := hide hsum
        clear hsum hB3 Hju hb3 hb2 cu
        go_wp2_with fail
        refine (unhide Hsum).mono ?_
        rintro e w4 ⟨v4, rfl, hB4, hb4⟩
        have HB4 := hide (hB4.lower (b' := W.heap.size) b03.size)
        have Hb4 : Hid (Below W.heap.size W w4) := b03.trans (hb4.mono b03.size)
        clear hB4 hb4 b03 Hsum
        go_wp2
        go_ret
        exact ⟨v4, rfl, unhide HB4, unhide Hb4⟩
end Go.Proofs.YtoojchjfmnbdpabDoor
