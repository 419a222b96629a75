import Derived.Test.YtoojchjfmnbdpabDoorDTj
namespace Go.Proofs.YtoojchjfmnbdpabDoor
open Go.RowKit
attribute [local go_sem ↓] Go.wp_at_zero Go.wp_at_succ

/-- What Rebuild tells. -/
def rebuildA (leaf : List Nat) (z c : Int) (pf : List (List Nat)) : Int × List Nat := if c < 1 ∨ 65536 < c ∨ z < 0 ∨ c ≤ z then (32, []) else if pf.length ≠ stepsF c.toNat z.toNat c.toNat ∨ ¬ (∀ l ∈ pf, l.length = 32) then (32, []) else (0, comeF c.toNat leaf z.toNat c.toNat pf)
theorem rebuildA_byt (leaf : List Nat) (z c : Int) (pf : List (List Nat)) : Byt (rebuildA leaf z c pf).2 := by
  unfold rebuildA
  split
  · intro x hx; cases hx
  · split
    · intro x hx; cases hx
    · exact comeF_byt _ _ _ _ _
set_option maxRecDepth 100000 in
set_option maxHeartbeats 2000000 in
theorem rebuild_any {W : World} (hK : HasK W) (hS : HasS W) {v p : Value} {leaf : List Nat} {z c : Int} {pf : List (List Nat)} (hv : HasB W v leaf) (hvb : Byt leaf) (hvn : leaf.length ≤ 140737488351232) (hp : HasBB W p pf) (hpb : ∀ l ∈ pf, Byt l) :
    Calls Tryd.prog 22 #[v, .int .i64 z, .int .i64 c, p] W fun e W' => ∃ v', e = .returned (.tuple #[v', .int .i64 (rebuildA leaf z c pf).1]) ∧ (HasB W' v' (rebuildA leaf z c pf).2 ∧ ∃ n m, v' = .slice n (rebuildA leaf z c pf).2.length m) ∧ Below W.heap.size W W' := by
  by_cases h1 : c < 1
  · have eA : rebuildA leaf z c pf = (32, []) := by unfold rebuildA; rw [if_pos (.inl h1)]
    rw [eA]
    obtain ⟨va, vc, rfl, _, _⟩ := hv
    obtain ⟨pa, pc, rfl, _, _⟩ := hp
    have q1 : decide (c < 1) = true := decide_eq_true h1
    clear eA
    go_enter Tryd.func22, Tryd.ntmps22
    go_wp2
    go_ret2
    exact ⟨_, rfl, ⟨hasB_nil _, _, _, rfl⟩, Below.refl _ _⟩
  have q1 : decide (c < 1) = false := decide_eq_false h1
  by_cases h2 : 65536 < c
  · have eA : rebuildA leaf z c pf = (32, []) := by unfold rebuildA; rw [if_pos (.inr (.inl h2))]
    rw [eA]
    obtain ⟨va, vc, rfl, _, _⟩ := hv
    obtain ⟨pa, pc, rfl, _, _⟩ := hp
    have q2 : decide (65536 < c) = true := decide_eq_true h2
    clear eA
    go_enter Tryd.func22, Tryd.ntmps22
    go_wp2
    go_ret2
    exact ⟨_, rfl, ⟨hasB_nil _, _, _, rfl⟩, Below.refl _ _⟩
  have q2 : decide (65536 < c) = false := decide_eq_false h2
  by_cases h3 : z < 0
  · have eA : rebuildA leaf z c pf = (32, []) := by unfold rebuildA; rw [if_pos (.inr (.inr (.inl h3)))]
    rw [eA]
    obtain ⟨va, vc, rfl, _, _⟩ := hv
    obtain ⟨pa, pc, rfl, _, _⟩ := hp
    have q3 : decide (z < 0) = true := decide_eq_true h3
    clear eA
    go_enter Tryd.func22, Tryd.ntmps22
    go_wp2
    go_ret2
    exact ⟨_, rfl, ⟨hasB_nil _, _, _, rfl⟩, Below.refl _ _⟩
  have q3 : decide (z < 0) = false := decide_eq_false h3
  by_cases h4 : c ≤ z
  · have eA : rebuildA leaf z c pf = (32, []) := by unfold rebuildA; rw [if_pos (.inr (.inr (.inr h4)))]
    rw [eA]
    obtain ⟨va, vc, rfl, _, _⟩ := hv
    obtain ⟨pa, pc, rfl, _, _⟩ := hp
    have q4 : decide (c ≤ z) = true := decide_eq_true h4
    clear eA
    go_enter Tryd.func22, Tryd.ntmps22
    go_wp2
    go_ret2
    exact ⟨_, rfl, ⟨hasB_nil _, _, _, rfl⟩, Below.refl _ _⟩
  have q4 : decide (c ≤ z) = false := decide_eq_false h4
  obtain ⟨n, hn⟩ : ∃ n : Nat, c = (n : Int) := ⟨c.toNat, by omega⟩
  obtain ⟨a, ha⟩ : ∃ a : Nat, z = (a : Int) := ⟨z.toNat, by omega⟩
  subst hn ha
  have hwl := wayLen_any (W := W) (a := a) (c := n) (by omega) (by omega)
  have hpl0 : (pf.length : Int) ≤ 9223372036854775807 := by obtain ⟨pa, pc, _, hm, _⟩ := hp; have := hm.1; have := hm.2.1; unfold maxLen at this; omega
  have hsl := stepsF_le n a n
  by_cases h5 : pf.length = stepsF n a n
  · have had := areDigests_any hp
    have q5 : ((pf.length : Int) != ((stepsF n a n : Nat) : Int)) = false := by rw [h5]; simp
    by_cases h6 : ∀ l ∈ pf, l.length = 32
    · have eA : rebuildA leaf a n pf = (0, comeF n leaf a n pf) := by
        unfold rebuildA
        rw [if_neg (by omega), if_neg (by simp only [Int.toNat_natCast]; rintro (q | q); exact q h5; exact q h6)]
        simp only [Int.toNat_natCast]
      rw [eA]
      rw [decide_eq_true h6] at had
      have hcl := climb_any n hK hS hv hvb hvn hp (fun l hl => ⟨hpb l hl, h6 l hl⟩) h5 (Nat.le_refl _) (by omega) (a := a) (by omega) (by omega)
      have Hcl := hide hcl
      have Had := hide had
      have Hwl := hide hwl
      clear hcl had hwl h5 h6 eA
      generalize stepsF n a n = S at *
      generalize comeF n leaf a n pf = C at *
      obtain ⟨va, vc, rfl, _, _⟩ := hv
      obtain ⟨pa, pc, rfl, _, _⟩ := hp
      go_enter Tryd.func22, Tryd.ntmps22
      go_wp2_with fail
      refine (unhide Hwl).mono ?_
      rintro e w' ⟨rfl, he⟩
      obtain rfl : W = w' := he.symm
      clear he
      go_wp2_with fail
      refine (unhide Had).mono ?_
      rintro e w' ⟨rfl, he⟩
      obtain rfl : W = w' := he.symm
      clear he
      go_wp2_with fail
      refine (unhide Hcl).mono ?_
      rintro e w2 ⟨v2, rfl, hB2, hb2⟩
      obtain ⟨x, y, hv⟩ : ∃ x y, v2 = .slice x C.length y := by obtain ⟨x, y, e, _⟩ := id hB2.has; exact ⟨_, _, e⟩
      subst hv
      have HB := hide hB2.has
      have Hb := hide hb2
      clear hB2 hb2 Hcl
      go_wp2
      go_ret2
      exact ⟨_, rfl, ⟨unhide HB, _, _, rfl⟩, unhide Hb⟩
    · have eA : rebuildA leaf a n pf = (32, []) := by
        unfold rebuildA
        rw [if_neg (by omega), if_pos (.inr h6)]
      rw [eA]
      rw [decide_eq_false h6] at had
      have Had := hide had
      have Hwl := hide hwl
      clear had hwl h5 h6 eA
      generalize stepsF n a n = S at *
      obtain ⟨va, vc, rfl, _, _⟩ := hv
      obtain ⟨pa, pc, rfl, _, _⟩ := hp
      go_enter Tryd.func22, Tryd.ntmps22
      go_wp2_with fail
      refine (unhide Hwl).mono ?_
      rintro e w' ⟨rfl, he⟩
      obtain rfl : W = w' := he.symm
      clear he
      go_wp2_with fail
      refine (unhide Had).mono ?_
      rintro e w' ⟨rfl, he⟩
      obtain rfl : W = w' := he.symm
      clear he
      go_wp2
      go_ret2
      exact ⟨_, rfl, ⟨hasB_nil _, _, _, rfl⟩, Below.refl _ _⟩
  · have eA : rebuildA leaf a n pf = (32, []) := by
      unfold rebuildA
      rw [if_neg (by omega), if_pos (.inl (by simpa only [Int.toNat_natCast] using h5))]
    rw [eA]
    have q5 : ((pf.length : Int) != ((stepsF n a n : Nat) : Int)) = true := by simp; omega
    have Hwl := hide hwl
    clear hwl h5 eA
    generalize stepsF n a n = S at *
    obtain ⟨va, vc, rfl, _, _⟩ := hv
    obtain ⟨pa, pc, rfl, _, _⟩ := hp
    go_enter Tryd.func22, Tryd.ntmps22
    go_wp2_with fail
    refine (unhide Hwl).mono ?_
    rintro e w' ⟨rfl, he⟩
    obtain rfl : W = w' := he.symm
    clear he
    go_wp2
    go_ret2
    exact ⟨_, rfl, ⟨hasB_nil _, _, _, rfl⟩, Below.refl _ _⟩
set_option maxRecDepth 100000 in
set_option maxHeartbeats 2000000 in
theorem xrebuild_any {W : World} (hX : HasX W) {v p : Value} {leaf : List Nat} {z c : Int} {pf : List (List Nat)} (hv : HasB W v leaf) (hvb : Byt leaf) (hvn : leaf.length ≤ 140737488351232) (hp : HasBB W p pf) (hpb : ∀ l ∈ pf, Byt l) :
    Calls Tryd.prog 34 #[v, .int .i64 z, .int .i64 c, p] W fun e W' => ∃ v', e = .returned (.tuple #[v', .int .i64 (rebuildA leaf z c pf).1]) ∧ (HasB W' v' (rebuildA leaf z c pf).2 ∧ ∃ n m, v' = .slice n (rebuildA leaf z c pf).2.length m) ∧ Below W.heap.size W W' := by
  by_cases h1 : c < 1
  · have eA : rebuildA leaf z c pf = (32, []) := by unfold rebuildA; rw [if_pos (.inl h1)]
    rw [eA]
    obtain ⟨va, vc, rfl, _, _⟩ := hv
    obtain ⟨pa, pc, rfl, _, _⟩ := hp
    have q1 : decide (c < 1) = true := decide_eq_true h1
    clear eA
    go_enter Tryd.func34, Tryd.ntmps34
    go_wp2
    go_ret2
    exact ⟨_, rfl, ⟨hasB_nil _, _, _, rfl⟩, Below.refl _ _⟩
  have q1 : decide (c < 1) = false := decide_eq_false h1
  by_cases h2 : 65536 < c
  · have eA : rebuildA leaf z c pf = (32, []) := by unfold rebuildA; rw [if_pos (.inr (.inl h2))]
    rw [eA]
    obtain ⟨va, vc, rfl, _, _⟩ := hv
    obtain ⟨pa, pc, rfl, _, _⟩ := hp
    have q2 : decide (65536 < c) = true := decide_eq_true h2
    clear eA
    go_enter Tryd.func34, Tryd.ntmps34
    go_wp2
    go_ret2
    exact ⟨_, rfl, ⟨hasB_nil _, _, _, rfl⟩, Below.refl _ _⟩
  have q2 : decide (65536 < c) = false := decide_eq_false h2
  by_cases h3 : z < 0
  · have eA : rebuildA leaf z c pf = (32, []) := by unfold rebuildA; rw [if_pos (.inr (.inr (.inl h3)))]
    rw [eA]
    obtain ⟨va, vc, rfl, _, _⟩ := hv
    obtain ⟨pa, pc, rfl, _, _⟩ := hp
    have q3 : decide (z < 0) = true := decide_eq_true h3
    clear eA
    go_enter Tryd.func34, Tryd.ntmps34
    go_wp2
    go_ret2
    exact ⟨_, rfl, ⟨hasB_nil _, _, _, rfl⟩, Below.refl _ _⟩
  have q3 : decide (z < 0) = false := decide_eq_false h3
  by_cases h4 : c ≤ z
  · have eA : rebuildA leaf z c pf = (32, []) := by unfold rebuildA; rw [if_pos (.inr (.inr (.inr h4)))]
    rw [eA]
    obtain ⟨va, vc, rfl, _, _⟩ := hv
    obtain ⟨pa, pc, rfl, _, _⟩ := hp
    have q4 : decide (c ≤ z) = true := decide_eq_true h4
    clear eA
    go_enter Tryd.func34, Tryd.ntmps34
    go_wp2
    go_ret2
    exact ⟨_, rfl, ⟨hasB_nil _, _, _, rfl⟩, Below.refl _ _⟩
  have q4 : decide (c ≤ z) = false := decide_eq_false h4
  obtain ⟨n, hn⟩ : ∃ n : Nat, c = (n : Int) := ⟨c.toNat, by omega⟩
  obtain ⟨a, ha⟩ : ∃ a : Nat, z = (a : Int) := ⟨z.toNat, by omega⟩
  subst hn ha
  have hwl := xsteps_any n (W := W) (a := a) (c := n) (Nat.le_refl _) (by omega) (by omega)
  have hpl0 : (pf.length : Int) ≤ 9223372036854775807 := by obtain ⟨pa, pc, _, hm, _⟩ := hp; have := hm.1; have := hm.2.1; unfold maxLen at this; omega
  have hsl := stepsF_le n a n
  by_cases h5 : pf.length = stepsF n a n
  · have q5 : ((pf.length : Int) != ((stepsF n a n : Nat) : Int)) = false := by rw [h5]; simp
    have hcome : (∀ l ∈ pf, l.length = 32) → Calls Tryd.prog 55 #[v, .int .i64 (a : Int), .int .i64 (n : Int), p] W fun e W' => ∃ v', e = .returned v' ∧ Bytes W.heap.size W' v' (comeF n leaf a n pf) ∧ Below W.heap.size W W' :=
      fun h6 => xcome_any n hX hv hvb hvn hp (fun l hl => ⟨hpb l hl, h6 l hl⟩) h5 (Nat.le_refl _) (by omega) (by omega)
    have eA1 : (∀ l ∈ pf, l.length = 32) → rebuildA leaf a n pf = (0, comeF n leaf a n pf) := fun h6 => by
      unfold rebuildA
      rw [if_neg (by omega), if_neg (by simp only [Int.toNat_natCast]; rintro (q | q); exact q h5; exact q h6)]
      simp only [Int.toNat_natCast]
    have eA2 : ¬ (∀ l ∈ pf, l.length = 32) → rebuildA leaf a n pf = (32, []) := fun h6 => by
      unfold rebuildA
      rw [if_neg (by omega), if_pos (.inr h6)]
    have Hcome := hide hcome
    have HA1 := hide eA1
    have HA2 := hide eA2
    have Hwl := hide hwl
    have H5 := hide h5
    obtain ⟨va, vc, rfl, _, _⟩ := hv
    obtain ⟨pa, pc, rfl, hm, h3'⟩ := hp
    have hvc : pc ≤ 9223372036854775807 := by have := hm.2.1; unfold maxLen at this; omega
    have hvc2 := hm.1
    have H3 := hide h3'
    clear hcome eA1 eA2 hwl h5 hm h3'
    generalize stepsF n a n = S at *
    generalize rebuildA leaf a n pf = A at *
    generalize comeF n leaf a n pf = C at *
    go_enter Tryd.func34, Tryd.ntmps34
    go_wp2_with fail
    refine (unhide Hwl).mono ?_
    rintro e w' ⟨rfl, he⟩
    obtain rfl : W = w' := he.symm
    clear he
    go_wp2
    go_loopg [10] pf.length (fun gk v7 wr => ∃ (i : Nat), v7 = .int .i64 (i : Int) ∧ gk = pf.length - i ∧ i ≤ pf.length ∧ Hid (∀ l ∈ pf.take i, l.length = 32) ∧ wr = W)
    case atStart => exact ⟨0, rfl, rfl, by omega, fun l hl => by simp at hl, rfl⟩
    case round =>
      obtain ⟨i, rfl, hgk, hk, Hall, hwr⟩ := hrel
      obtain rfl : W = wr := hwr.symm
      have Hgk := hide hgk
      clear hgk hwr
      by_cases hlt : i < pf.length
      · obtain ⟨g, off, rfl, hg, hc⟩ := unhide H3 (by omega)
        obtain ⟨l, hl⟩ : ∃ x, pf[i]? = some x := ⟨_, List.getElem?_eq_getElem hlt⟩
        obtain ⟨u, hu, hBu⟩ := hc i l hl
        obtain ⟨ua, uc, rfl, hum, _⟩ := hBu
        have i0' : (0 : Int) ≤ (i : Int) := Int.natCast_nonneg _
        have i1' : (i : Int) < (pf.length : Int) := by omega
        have Hl := hide hl
        clear hc hl hum
        by_cases h32 : l.length = 32
        · have q6 : ((l.length : Int) != 32) = false := by rw [h32]; decide
          have H32 := hide h32
          clear h32
          go_wp2
          go_roundg (pf.length - (i + 1))
          case measure => have := unhide Hgk; omega
          case rel =>
            refine ⟨i + 1, by go_num, rfl, by omega, fun x hx => ?_, rfl⟩
            rw [List.take_add_one, unhide Hl] at hx
            rcases List.mem_append.1 hx with hx | hx
            · exact unhide Hall x hx
            · simp at hx; rw [hx]; exact unhide H32
        · have q6 : ((l.length : Int) != 32) = true := by simp; omega
          have eA := unhide HA2 (fun q => h32 (q l (List.mem_of_getElem? (unhide Hl))))
          subst eA
          clear h32 HA1 HA2
          go_wp2
          go_ret2
          exact ⟨_, rfl, ⟨hasB_nil _, _, _, rfl⟩, Below.refl _ _⟩
      · obtain rfl : i = pf.length := by omega
        have h6 := unhide Hall
        rw [List.take_length] at h6
        have eA := unhide HA1 h6
        have hcl := unhide Hcome h6
        have Hcl := hide hcl
        subst eA
        clear h6 hcl HA1 HA2 Hcome Hall
        go_wp2_with fail
        refine (unhide Hcl).mono ?_
        rintro e w2 ⟨v2, rfl, hB2, hb2⟩
        obtain ⟨x, y, hv⟩ : ∃ x y, v2 = .slice x C.length y := by obtain ⟨x, y, e, _⟩ := id hB2.has; exact ⟨_, _, e⟩
        subst hv
        have HB := hide hB2.has
        have Hb := hide hb2
        clear hB2 hb2 Hcl
        go_wp2
        go_ret2
        exact ⟨_, rfl, ⟨unhide HB, _, _, rfl⟩, unhide Hb⟩
  · have eA : rebuildA leaf a n pf = (32, []) := by
      unfold rebuildA
      rw [if_neg (by omega), if_pos (.inl (by simpa only [Int.toNat_natCast] using h5))]
    rw [eA]
    have q5 : ((pf.length : Int) != ((stepsF n a n : Nat) : Int)) = true := by simp; omega
    have Hwl := hide hwl
    clear hwl h5 eA
    generalize stepsF n a n = S at *
    obtain ⟨va, vc, rfl, _, _⟩ := hv
    obtain ⟨pa, pc, rfl, _, _⟩ := hp
    go_enter Tryd.func34, Tryd.ntmps34
    go_wp2_with fail
    refine (unhide Hwl).mono ?_
    rintro e w' ⟨rfl, he⟩
    obtain rfl : W = w' := he.symm
    clear he
    go_wp2
    go_ret2
    exact ⟨_, rfl, ⟨hasB_nil _, _, _, rfl⟩, Below.refl _ _⟩
end Go.Proofs.YtoojchjfmnbdpabDoor
