import Derived.Test.YtoojchjfmnbdpabDoorDTk
import Derived.Test.YtoojchjfmnbdpabDoorDTg
import Derived.Test.YtoojchjfmnbdpabDoorDTm
namespace Go.Proofs.YtoojchjfmnbdpabDoor
open Go.RowKit
attribute [local go_sem ↓] Go.wp_at_zero Go.wp_at_succ

theorem proveA_in {ks : List (List Nat)} {i : Nat} (hi : i < ks.length) (hn : ks.length ≤ 65536) : proveA ks (i : Int) = (0, wayF 65536 ks i) := by
  unfold proveA
  rw [if_neg (by omega), if_neg (by omega), Int.toNat_natCast]
theorem proveA_end (ks : List (List Nat)) (hn : ks.length ≤ 65536) : proveA ks (ks.length : Int) = (32, []) := by
  unfold proveA
  rw [if_neg (by omega), if_pos (by omega)]
theorem rootA_in {ks : List (List Nat)} (hn : ks.length ≤ 65536) : rootA ks = (0, rootF 65536 ks) := by
  unfold rootA
  rw [if_neg (by omega)]
theorem rebuildA_way {ks : List (List Nat)} {i : Nat} {leaf : List Nat} (hi : ks[i]? = some leaf) (hn : ks.length ≤ 65536) : rebuildA leaf (i : Int) (ks.length : Int) (wayF 65536 ks i) = (0, rootF 65536 ks) := by
  have hil := (List.getElem?_eq_some_iff.1 hi).1
  unfold rebuildA
  rw [if_neg (by omega)]
  simp only [Int.toNat_natCast]
  rw [if_neg (by
    rintro (q | q)
    · exact q (way_steps 65536 ks.length ks i hn (Nat.le_refl _))
    · exact q (fun l hl => (wayF_byt _ _ _ l hl).2)), come_way 65536 ks.length ks i leaf hn (Nat.le_refl _) hi]
set_option maxRecDepth 100000 in
set_option maxHeartbeats 4000000 in
theorem opens_any {W : World} (hS : HasS W) (hK : HasK W) {v : Value} {ls : List (List Nat)} (h : HasBB W v ls) (hl : BytB ls) (hn : ls.length ≤ 5864062014634 ∧ ∀ l ∈ ls, l.length ≤ 140737488351232) :
    Calls Tryd.prog 4 #[v] W fun e W' => e = .returned (.bool true) ∧ Below W.heap.size W W' := by
  obtain ⟨n1, n2⟩ := id hn
  have hbn : ∀ l ∈ ls, Byt l ∧ l.length ≤ 140737488351232 := fun l hl' => ⟨hl l hl', n2 l hl'⟩
  have Hh := hide h
  obtain ⟨va, vc, rfl, hvm, _⟩ := h
  have hvc : vc ≤ 9223372036854775807 := by have := hvm.2.1; unfold maxLen at this; omega
  have hvc2 := hvm.1
  clear hvm
  go_enter Tryd.func4, Tryd.ntmps4
  have bB : Below W.heap.size W (W.alloc (.cells #[.slice none 0 0] 28)) := (Below.refl _ _).alloc (Nat.le_refl _) _
  have hbb := hasBB_one (W := W) (hasB_nil W) 28
  have f1 := root_any (hK.up bB) (hS.up bB) hbb (fun l hl' => by rw [List.mem_singleton.1 hl']; exact ⟨fun x hx => (by cases hx), by decide⟩)
  rw [rootA_one] at f1
  have F1 := hide f1
  have BB := hide bB
  clear f1 hbb bB
  go_wp2_with fail
  refine (unhide F1).mono ?_
  rintro e w2 ⟨v2, rfl, ⟨hB2, a2, c2, hv2⟩, hb2⟩
  have hb02 : Below W.heap.size W w2 := (unhide BB).trans (hb2.mono (unhide BB).size)
  subst hv2
  clear F1 BB hb2
  go_wp2_with fail
  refine (num_any w2 0).mono ?_
  rintro e w' ⟨rfl, he⟩
  obtain rfl : w2 = w' := he.symm
  clear he
  go_wp2_with fail
  refine (xhex_any hB2 (sha_byt _) (by rw [sha_len]; decide)).mono ?_
  rintro e w3 ⟨rfl, hb3⟩
  have hb03 := hb02.trans (hb3.mono hb02.size)
  rw [le_sha]
  have hof : ofN leH = ⟨#[54, 101, 51, 52, 48, 98, 57, 99, 102, 102, 98, 51, 55, 97, 57, 56, 57, 99, 97, 53, 52, 52, 101, 54, 98, 98, 55, 56, 48, 97, 50, 99, 55, 56, 57, 48, 49, 100, 51, 102, 98, 51, 51, 55, 51, 56, 55, 54, 56, 53, 49, 49, 97, 51, 48, 54, 49, 55, 97, 102, 97, 48, 49, 100]⟩ := rfl
  rw [hof]
  clear hof hb3 hB2 hb02
  by_cases hbig : 300 < ls.length
  · have q3 : decide (300 < (ls.length : Int)) = true := decide_eq_true (by omega)
    have h300 : (300 : Int) ≤ (vc : Int) := by omega
    obtain ⟨ks, hkd⟩ : ∃ ks, ls.take 300 = ks := ⟨_, rfl⟩
    have hks : ks.length = 300 := by rw [← hkd, List.length_take]; omega
    have hk6 : ks.length ≤ 65536 := by omega
    have hkb : ∀ l ∈ ks, Byt l ∧ l.length ≤ 140737488351232 := fun l hl' => hbn l (List.mem_of_mem_take (by rw [hkd]; exact hl'))
    have hk0 := (unhide Hh).take 300 (by omega)
    rw [hkd] at hk0
    have Hk := hide hk0
    clear hk0 hkd
    have hr := root_any (hK.up hb03) (hS.up hb03) ((unhide Hk).up hb03) hkb
    rw [rootA_in hk6] at hr
    have hRl := rootF_len 65536 ks
    have hRb := rootF_byt 65536 ks
    have q7 : (((rootF 65536 ks).length : Int) != 32) = false := by rw [hRl]; decide
    have HRl := hide hRl
    clear hRl
    have hway : ∀ (i : Nat) (leaf : List Nat), ks[i]? = some leaf → rebuildA leaf (i : Int) (300) (wayF 65536 ks i) = (0, rootF 65536 ks) := fun i leaf hi => by
      have := rebuildA_way hi hk6
      rwa [hks] at this
    have Hway := hide hway
    clear hway
    generalize rootF 65536 ks = R at *
    go_wp2_with fail
    refine hr.mono ?_
    rintro e w4 ⟨v4, rfl, ⟨hB4, a4, c4, hv4⟩, hb4⟩
    have hb04 := hb03.trans (hb4.mono hb03.size)
    subst hv4
    clear hr hb4 hb03
    go_wp2_with fail
    refine (num_any w4 0).mono ?_
    rintro e w' ⟨rfl, he⟩
    obtain rfl : w4 = w' := he.symm
    clear he
    have HRb := hide hRb
    have Hkb := hide hkb
    have Hks := hide hks
    clear hkb hks
    go_wp2
    go_loopg [7] 300 (fun gk v7 wr => ∃ (i : Nat), v7 = .int .i64 (i : Int) ∧ gk = 300 - i ∧ i ≤ 300 ∧ Hid (HasB wr (.slice a4 R.length c4) R) ∧ Hid (Below W.heap.size W wr))
    case atStart => exact ⟨0, rfl, rfl, by omega, hB4, hb04⟩
    case round =>
      clear hB4 hb04
      obtain ⟨i, rfl, hgk, hk, HB, Hb⟩ := hrel
      have Hgk := hide hgk
      clear hgk
      have hb0 := unhide Hb
      by_cases hlt : i < 300
      · obtain ⟨a', c', e', hm', h3'⟩ := id ((unhide Hk).up hb0)
        rw [unhide Hks] at e' hm' h3'
        injection e' with e1 e2 e3
        subst e1 e3
        obtain ⟨g, off, rfl, hg, hcl⟩ := h3' (by omega)
        obtain ⟨leaf, hlf⟩ : ∃ x, ks[i]? = some x := ⟨_, List.getElem?_eq_getElem (by rw [unhide Hks]; exact hlt)⟩
        obtain ⟨u, hu, hBu⟩ := hcl i leaf hlf
        obtain ⟨g1, g2⟩ := unhide Hkb leaf (List.mem_of_getElem? hlf)
        have hpr := prove_any (z := (i : Int)) (hK.up hb0) (hS.up hb0) ((unhide Hk).up hb0) (unhide Hkb)
        rw [proveA_in (by rw [unhide Hks]; exact hlt) hk6] at hpr
        have hwr := unhide Hway i leaf hlf
        have hws := way_steps 65536 300 ks i hk6 (by rw [unhide Hks]; omega)
        rw [unhide Hks] at hws
        have hst := xsteps_any 300 (W := W) (a := i) (c := 300) (Nat.le_refl _) (by omega) (by omega)
        have hst' := fun w => xsteps_any 300 (W := w) (a := i) (c := 300) (Nat.le_refl _) (by omega) (by omega)
        rw [← hws] at hst'
        have hwb := fun l hl' => (wayF_byt 65536 ks i l hl').1
        have Hpr := hide hpr
        have Hst := hide hst'
        have Hwb := hide hwb
        have Hwr := hide hwr
        have Hu := hide hu
        have HBu := hide hBu
        clear hpr hst hst' hws hwb hwr hcl h3' hu hm' e2
        generalize wayF 65536 ks i = way at *
        have i0' : (0 : Int) ≤ (i : Int) := Int.natCast_nonneg _
        have i1' : (i : Int) < 300 := by omega
        go_wp2_with fail
        refine (unhide Hpr).mono ?_
        rintro e w5 ⟨v5, rfl, ⟨hP5, a5, n5, c5, hv5⟩, hb5⟩
        obtain ⟨a5', c5', e5, _, _⟩ := id hP5
        subst e5
        clear hv5 a5 n5 c5
        have hb05 := hb0.trans (hb5.mono hb0.size)
        have HB5 := hide ((unhide HB).up hb5)
        have hBu5 := hBu.up hb5
        have cu := (hb5.cell (p := ⟨g, off + i, none⟩) hg).trans (unhide Hu)
        obtain ⟨ua, uc, e9, _, _⟩ := id hBu
        subst e9
        have hrb := rebuild_any (z := (i : Int)) (c := 300) (hK.up hb05) (hS.up hb05) hBu5 g1 g2 hP5 (unhide Hwb)
        rw [unhide Hwr] at hrb
        have Hrb := hide hrb
        have Hb5 := hide hb05
        have HP5 := hide hP5
        clear hrb hb05 hb5 Hpr HB hBu hBu5 hP5 Hb hb0
        go_wp2_with fail
        refine (unhide Hrb).mono ?_
        rintro e w6 ⟨v6, rfl, ⟨hB6, a6, c6, hv6⟩, hb6⟩
        subst hv6
        have HB6 := hide ((unhide HB5).up hb6)
        have Hb06 : Hid (Below W.heap.size W w6) := (unhide Hb5).trans (hb6.mono (unhide Hb5).size)
        clear Hrb hb6 HB5 Hb5 HP5 cu
        go_wp2_with fail
        refine (num_any w6 0).mono ?_
        rintro e w' ⟨rfl, he⟩
        obtain rfl : w6 = w' := he.symm
        clear he
        go_wp2_with fail
        refine (num_any w6 0).mono ?_
        rintro e w' ⟨rfl, he⟩
        obtain rfl : w6 = w' := he.symm
        clear he
        go_wp2_with fail
        refine (same_any hB6 (unhide HB6) (unhide HRb) (unhide HRb)).mono ?_
        rintro e w' ⟨rfl, he⟩
        obtain rfl : w6 = w' := he.symm
        clear he
        rw [show decide (R = R) = true by simp]
        go_wp2_with fail
        refine (unhide Hst w6).mono ?_
        rintro e w' ⟨rfl, he⟩
        obtain rfl : w6 = w' := he.symm
        clear he
        have q9 : (((way.length : Nat) : Int) != ((way.length : Nat) : Int)) = false := by simp
        go_wp2
        go_roundg (300 - (i + 1))
        case measure => have := unhide Hgk; omega
        case rel => exact ⟨i + 1, by go_num, rfl, by omega, HB6, Hb06⟩
      · obtain rfl : i = 300 := by omega
        have hpr := prove_any (z := 300) (hK.up hb0) (hS.up hb0) ((unhide Hk).up hb0) (unhide Hkb)
        have hpe := proveA_end ks hk6
        rw [unhide Hks] at hpe
        rw [show proveA ks (300) = (32, []) from hpe] at hpr
        have Hpr := hide hpr
        have Hb0 := hide hb0
        clear hpr hpe Hb hb0 HB Hway
        go_wp2_with fail
        refine (unhide Hpr).mono ?_
        rintro e w5 ⟨v5, rfl, ⟨hP5, a5, n5, c5, hv5⟩, hb5⟩
        obtain ⟨a5', c5', e5, _, _⟩ := id hP5
        subst e5
        have Hb5 : Hid (Below W.heap.size W w5) := (unhide Hb0).trans (hb5.mono (unhide Hb0).size)
        clear hv5 a5 n5 c5 hP5 hb5 Hpr
        go_wp2_with fail
        refine (num_any w5 32).mono ?_
        rintro e w' ⟨rfl, he⟩
        obtain rfl : w5 = w' := he.symm
        clear he
        go_wp2
        go_ret
        exact ⟨rfl, unhide Hb5⟩
  · have q3 : decide (300 < (ls.length : Int)) = false := decide_eq_false (by omega)
    obtain ⟨ks, hkd⟩ : ∃ ks, ks = ls := ⟨_, rfl⟩
    have hks : ks.length = ls.length := by rw [hkd]
    have hk6 : ks.length ≤ 65536 := by omega
    have hkb : ∀ l ∈ ks, Byt l ∧ l.length ≤ 140737488351232 := fun l hl' => hbn l (by rw [← hkd]; exact hl')
    have hk0 : HasBB W (.slice va ls.length vc) ks := by rw [hkd]; exact unhide Hh
    have Hk := hide hk0
    clear hk0 hkd
    have hr := root_any (hK.up hb03) (hS.up hb03) ((unhide Hk).up hb03) hkb
    rw [rootA_in hk6] at hr
    have hRl := rootF_len 65536 ks
    have hRb := rootF_byt 65536 ks
    have q7 : (((rootF 65536 ks).length : Int) != 32) = false := by rw [hRl]; decide
    have HRl := hide hRl
    clear hRl
    have hway : ∀ (i : Nat) (leaf : List Nat), ks[i]? = some leaf → rebuildA leaf (i : Int) ((ls.length : Int)) (wayF 65536 ks i) = (0, rootF 65536 ks) := fun i leaf hi => by
      have := rebuildA_way hi hk6
      rwa [hks] at this
    have Hway := hide hway
    clear hway
    generalize rootF 65536 ks = R at *
    go_wp2_with fail
    refine hr.mono ?_
    rintro e w4 ⟨v4, rfl, ⟨hB4, a4, c4, hv4⟩, hb4⟩
    have hb04 := hb03.trans (hb4.mono hb03.size)
    subst hv4
    clear hr hb4 hb03
    go_wp2_with fail
    refine (num_any w4 0).mono ?_
    rintro e w' ⟨rfl, he⟩
    obtain rfl : w4 = w' := he.symm
    clear he
    have HRb := hide hRb
    have Hkb := hide hkb
    have Hks := hide hks
    clear hkb hks
    go_wp2
    go_loopg [7] ls.length (fun gk v7 wr => ∃ (i : Nat), v7 = .int .i64 (i : Int) ∧ gk = ls.length - i ∧ i ≤ ls.length ∧ Hid (HasB wr (.slice a4 R.length c4) R) ∧ Hid (Below W.heap.size W wr))
    case atStart => exact ⟨0, rfl, rfl, by omega, hB4, hb04⟩
    case round =>
      clear hB4 hb04
      obtain ⟨i, rfl, hgk, hk, HB, Hb⟩ := hrel
      have Hgk := hide hgk
      clear hgk
      have hb0 := unhide Hb
      by_cases hlt : i < ls.length
      · obtain ⟨a', c', e', hm', h3'⟩ := id ((unhide Hk).up hb0)
        rw [unhide Hks] at e' hm' h3'
        injection e' with e1 e2 e3
        subst e1 e3
        obtain ⟨g, off, rfl, hg, hcl⟩ := h3' (by omega)
        obtain ⟨leaf, hlf⟩ : ∃ x, ks[i]? = some x := ⟨_, List.getElem?_eq_getElem (by rw [unhide Hks]; exact hlt)⟩
        obtain ⟨u, hu, hBu⟩ := hcl i leaf hlf
        obtain ⟨g1, g2⟩ := unhide Hkb leaf (List.mem_of_getElem? hlf)
        have hpr := prove_any (z := (i : Int)) (hK.up hb0) (hS.up hb0) ((unhide Hk).up hb0) (unhide Hkb)
        rw [proveA_in (by rw [unhide Hks]; exact hlt) hk6] at hpr
        have hwr := unhide Hway i leaf hlf
        have hws := way_steps 65536 ls.length ks i hk6 (by rw [unhide Hks]; omega)
        rw [unhide Hks] at hws
        have hst := xsteps_any ls.length (W := W) (a := i) (c := ls.length) (Nat.le_refl _) (by omega) (by omega)
        have hst' := fun w => xsteps_any ls.length (W := w) (a := i) (c := ls.length) (Nat.le_refl _) (by omega) (by omega)
        rw [← hws] at hst'
        have hwb := fun l hl' => (wayF_byt 65536 ks i l hl').1
        have Hpr := hide hpr
        have Hst := hide hst'
        have Hwb := hide hwb
        have Hwr := hide hwr
        have Hu := hide hu
        have HBu := hide hBu
        clear hpr hst hst' hws hwb hwr hcl h3' hu hm' e2
        generalize wayF 65536 ks i = way at *
        have i0' : (0 : Int) ≤ (i : Int) := Int.natCast_nonneg _
        have i1' : (i : Int) < (ls.length : Int) := by omega
        go_wp2_with fail
        refine (unhide Hpr).mono ?_
        rintro e w5 ⟨v5, rfl, ⟨hP5, a5, n5, c5, hv5⟩, hb5⟩
        obtain ⟨a5', c5', e5, _, _⟩ := id hP5
        subst e5
        clear hv5 a5 n5 c5
        have hb05 := hb0.trans (hb5.mono hb0.size)
        have HB5 := hide ((unhide HB).up hb5)
        have hBu5 := hBu.up hb5
        have cu := (hb5.cell (p := ⟨g, off + i, none⟩) hg).trans (unhide Hu)
        obtain ⟨ua, uc, e9, _, _⟩ := id hBu
        subst e9
        have hrb := rebuild_any (z := (i : Int)) (c := (ls.length : Int)) (hK.up hb05) (hS.up hb05) hBu5 g1 g2 hP5 (unhide Hwb)
        rw [unhide Hwr] at hrb
        have Hrb := hide hrb
        have Hb5 := hide hb05
        have HP5 := hide hP5
        clear hrb hb05 hb5 Hpr HB hBu hBu5 hP5 Hb hb0
        go_wp2_with fail
        refine (unhide Hrb).mono ?_
        rintro e w6 ⟨v6, rfl, ⟨hB6, a6, c6, hv6⟩, hb6⟩
        subst hv6
        have HB6 := hide ((unhide HB5).up hb6)
        have Hb06 : Hid (Below W.heap.size W w6) := (unhide Hb5).trans (hb6.mono (unhide Hb5).size)
        clear Hrb hb6 HB5 Hb5 HP5 cu
        go_wp2_with fail
        refine (num_any w6 0).mono ?_
        rintro e w' ⟨rfl, he⟩
        obtain rfl : w6 = w' := he.symm
        clear he
        go_wp2_with fail
        refine (num_any w6 0).mono ?_
        rintro e w' ⟨rfl, he⟩
        obtain rfl : w6 = w' := he.symm
        clear he
        go_wp2_with fail
        refine (same_any hB6 (unhide HB6) (unhide HRb) (unhide HRb)).mono ?_
        rintro e w' ⟨rfl, he⟩
        obtain rfl : w6 = w' := he.symm
        clear he
        rw [show decide (R = R) = true by simp]
        go_wp2_with fail
        refine (unhide Hst w6).mono ?_
        rintro e w' ⟨rfl, he⟩
        obtain rfl : w6 = w' := he.symm
        clear he
        have q9 : (((way.length : Nat) : Int) != ((way.length : Nat) : Int)) = false := by simp
        go_wp2
        go_roundg (ls.length - (i + 1))
        case measure => have := unhide Hgk; omega
        case rel => exact ⟨i + 1, by go_num, rfl, by omega, HB6, Hb06⟩
      · obtain rfl : i = ls.length := by omega
        have hpr := prove_any (z := (ls.length : Int)) (hK.up hb0) (hS.up hb0) ((unhide Hk).up hb0) (unhide Hkb)
        have hpe := proveA_end ks hk6
        rw [unhide Hks] at hpe
        rw [show proveA ks ((ls.length : Int)) = (32, []) from hpe] at hpr
        have Hpr := hide hpr
        have Hb0 := hide hb0
        clear hpr hpe Hb hb0 HB Hway
        go_wp2_with fail
        refine (unhide Hpr).mono ?_
        rintro e w5 ⟨v5, rfl, ⟨hP5, a5, n5, c5, hv5⟩, hb5⟩
        obtain ⟨a5', c5', e5, _, _⟩ := id hP5
        subst e5
        have Hb5 : Hid (Below W.heap.size W w5) := (unhide Hb0).trans (hb5.mono (unhide Hb0).size)
        clear hv5 a5 n5 c5 hP5 hb5 Hpr
        go_wp2_with fail
        refine (num_any w5 32).mono ?_
        rintro e w' ⟨rfl, he⟩
        obtain rfl : w5 = w' := he.symm
        clear he
        go_wp2
        go_ret
        exact ⟨rfl, unhide Hb5⟩
end Go.Proofs.YtoojchjfmnbdpabDoor
