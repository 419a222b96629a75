import Derived.Test.YtoojchjfmnbdpaaDPz
namespace Go.Proofs.Ytoojchjfmnbdpaa
open Go.RowKit
attribute [local go_sem ↓] Go.wp_at_zero Go.wp_at_succ

theorem HasTs.up {W w : World} {v : Value} {ts : List Turn3} (h : HasTs W v ts) (hb : Below W.heap.size W w) : HasTs w v ts := by
  obtain ⟨a, c, rfl, hm, hw, h3⟩ := h
  refine ⟨a, c, rfl, hm, hw, fun hp => ?_⟩
  obtain ⟨b, off, rfl, h4, h5⟩ := h3 hp
  refine ⟨b, off, rfl, Nat.lt_of_lt_of_le h4 hb.size, fun i o ho => ?_⟩
  obtain ⟨g1, g2, g3⟩ := h5 i o ho
  exact ⟨(hb.cell (p := ⟨b, _, none⟩) h4).trans g1, (hb.cell (p := ⟨b, _, none⟩) h4).trans g2, (hb.cell (p := ⟨b, _, none⟩) h4).trans g3⟩
theorem partsA_lit : partsA lit9 = (0, [7] :: []) := by rfl
theorem frameA_len (ls : List (List Nat)) : (frameA ls).2.length ≤ 67108864 := by
  unfold frameA
  split
  · rename_i h
    show (frameL ls).length ≤ _
    rw [frameL_len]
    exact h.2
  · simp
theorem pow_step (n : Nat) (h : n < 20) : 67108864 * 2 ^ n ≤ 35184372088832 := by
  have := Nat.pow_le_pow_right (n := 2) (by decide) (show n ≤ 19 by omega)
  have e : (2 : Nat) ^ 19 = 524288 := by decide
  omega
theorem pow_lim (n : Nat) (h : n ≤ 20) : 67108864 * 2 ^ n ≤ 140737488351232 := by
  have := Nat.pow_le_pow_right (n := 2) (by decide) h
  have e : (2 : Nat) ^ 20 = 1048576 := by decide
  omega
set_option maxRecDepth 100000 in
set_option maxHeartbeats 4000000 in
theorem partsLaw_any {W : World} {v u z : Value} {ls : List (List Nat)} {ts : List Turn3} {raw : List Nat} (h : HasBB W v ls) (hl : BytB ls) (hn : ls.length ≤ 5864062014634 ∧ ∀ l ∈ ls, l.length ≤ 140737488351232) (ht : HasTs W u ts) (hr : HasB W z raw) (hrb : Byt raw) (hrn : raw.length ≤ 140737488351232) :
    Calls Try.prog 3 #[v, u, z] W fun e W' => e = .returned (.bool true) ∧ Below W.heap.size W W' := by
  have n3 : ls.length ≤ 65536 → fsize ls ≤ 9223372036854775000 := fun hh => fsize_few hn.2 hh
  have Hh := hide h
  have Ht := hide ht
  have Hr := hide hr
  obtain ⟨va, vc, rfl, _, _⟩ := h
  obtain ⟨ra, rc, rfl, _, _⟩ := hr
  obtain ⟨ta, tc, rfl, htm, _, _⟩ := ht
  have htm1 := htm.1
  have htm2 : tc ≤ 9223372036854775807 := by have := htm.2; unfold maxLen at this; omega
  clear htm
  have b1 : Below W.heap.size W (W.alloc (.cells #[.int .u8 1, .int .u8 0, .int .u8 0, .int .u8 0, .int .u8 1, .int .u8 0, .int .u8 0, .int .u8 0, .int .u8 7] 5)) := (Below.refl _ _).alloc (Nat.le_refl _) _
  have h9 : HasB (W.alloc (.cells #[.int .u8 1, .int .u8 0, .int .u8 0, .int .u8 0, .int .u8 1, .int .u8 0, .int .u8 0, .int .u8 0, .int .u8 7] 5)) (.slice (some ⟨W.heap.size, 0, none⟩) 9 9) lit9 := hasB_lit (l := lit9) (t := 5) (fr := (0, 0)) (heap_new _ _) 9 9 rfl (by decide)
  have hp9 := parts_any h9 (by unfold Byt lit9; decide)
  rw [partsA_lit] at hp9
  have HP9 := hide hp9
  have HB1 := hide b1
  clear h9 hp9 b1
  go_enter Try.func3, Try.ntmps3
  go_wp2_with fail
  refine (unhide HP9).mono ?_
  rintro e w2 ⟨v2, rfl, ⟨us2, hO2⟩, hb2⟩
  have hb02 : Below W.heap.size W w2 := (unhide HB1).trans (hb2.mono (unhide HB1).size)
  have hH2 := hO2.has
  obtain ⟨a2, c2, rfl, hm2, hc2⟩ := hH2
  obtain ⟨g2, off2, rfl, hg2, hcell2⟩ := hc2 (by simp)
  obtain ⟨u2, hu2, hB2⟩ := hcell2 0 [7] rfl
  rw [Nat.add_zero] at hu2
  clear HP9 HB1 hb2 hO2 hc2 hcell2 hm2
  go_wp2_with fail
  refine (num_any w2 0).mono ?_
  rintro e w' ⟨rfl, he⟩
  obtain rfl : w2 = w' := he.symm
  clear he
  have b3 : Below w2.heap.size w2 (w2.alloc (.cells #[.int .u8 7] 5)) := (Below.refl _ _).alloc (Nat.le_refl _) _
  have hs7 := same_any (hB2.up b3) (hasB_one1 w2 7) (by unfold Byt; decide) (by unfold Byt; decide)
  have hb03 := hb02.trans (b3.mono hb02.size)
  have HS7 := hide hs7
  have hvs : ∃ x y z, u2 = .slice x y z := by obtain ⟨x, y, e, _⟩ := hB2; exact ⟨_, _, _, e⟩
  obtain ⟨x2, y2, z2, rfl⟩ := hvs
  clear hs7 hB2
  go_wp2_with fail
  refine (unhide HS7).mono ?_
  rintro e w' ⟨rfl, he⟩
  obtain rfl : w2.alloc (.cells #[.int .u8 7] 5) = w' := he.symm
  clear he HS7 b3 hu2
  generalize w2.alloc (.cells #[.int .u8 7] 5) = w3 at *
  go_wp2_with fail
  refine (parted_any ((unhide Hr).up hb03) hrb hrn).mono ?_
  rintro e w4 ⟨rfl, hb4⟩
  have hb04 := hb03.trans (hb4.mono hb03.size)
  clear hb4 hb03 hb02
  go_wp2_with fail
  refine (xframe_all ((unhide Hh).up hb04) n3).mono ?_
  rintro e w5 ⟨v5, a5, c5, rfl, hB5, hv5, hb5⟩
  have hb05 := hb04.trans (hb5.mono hb04.size)
  subst hv5
  clear hb5 hb04
  have hFb := frameA_byt hl
  have hFl := frameA_len ls
  generalize (frameA ls).1 = zf at *
  generalize (frameA ls).2 = L0 at *
  go_wp2_with fail
  refine (parted_any hB5 hFb (by omega)).mono ?_
  rintro e w6 ⟨rfl, hb6⟩
  have HB0 : Hid (HasB w6 (.slice a5 L0.length c5) L0) := hB5.up hb6
  have Hb0 : Hid (Below W.heap.size W w6) := hb05.trans (hb6.mono hb05.size)
  clear hb6 hb05 hB5
  go_wp2
  go_loopg [9, 11] ts.length (fun gk v9 v11 wr => ∃ (i : Nat) (L : List Nat), v11 = .int .i64 (i : Int) ∧ gk = ts.length - i ∧ i ≤ ts.length ∧ i ≤ 20 ∧ Hid (HasB wr v9 L) ∧ Hid (Byt L ∧ L.length ≤ 67108864 * 2 ^ i) ∧ Hid (Below W.heap.size W wr))
  case atStart => exact ⟨0, L0, rfl, rfl, by omega, by omega, HB0, ⟨hFb, by simpa using hFl⟩, Hb0⟩
  case round =>
    clear HB0 Hb0 hFb hFl
    obtain ⟨i, L, rfl, hgk, hk, h20, HL, HLb, HB⟩ := hrel
    have Hgk := hide hgk
    clear hgk
    have hvs : ∃ x y, u9 = .slice x L.length y := by obtain ⟨x, y, e, _⟩ := unhide HL; exact ⟨_, _, e⟩
    obtain ⟨x9, y9, rfl⟩ := hvs
    have i0' : (0 : Int) ≤ (i : Int) := Int.natCast_nonneg _
    by_cases hlt : i < ts.length
    · have i1' : (i : Int) < (ts.length : Int) := by omega
      by_cases hl20 : i < 20
      · have i2' : decide ((i : Int) < 20) = true := decide_eq_true (by omega)
        obtain ⟨a', c', e', _, hwf, h3'⟩ := (unhide Ht).up (unhide HB)
        injection e' with ea eb ec
        subst ea ec
        obtain ⟨b, off, rfl, hbw, hcs⟩ := h3' (by omega)
        obtain ⟨o, ho⟩ : ∃ x, ts[i]? = some x := ⟨_, List.getElem?_eq_getElem hlt⟩
        obtain ⟨g1, g2, g3⟩ := hcs i o ho
        have hlim := pow_step i hl20
        have htu := turned_any (k := o.kind) (z0 := o.place) (y := o.value) (unhide HL) (unhide HLb).1 (by have := (unhide HLb).2; omega)
        have Htu := hide htu
        clear hcs ho htu hlim h3' hwf eb
        go_wp2_with fail
        refine (unhide Htu).mono ?_
        rintro e w7 ⟨v7, L7, rfl, hB7, hb7, hl7, hbe7⟩
        have hb07 : Below W.heap.size W w7 := (unhide HB).trans (hbe7.mono (unhide HB).size)
        have hL7 : L7.length ≤ 67108864 * 2 ^ (i + 1) := by have := (unhide HLb).2; rw [Nat.pow_succ]; omega
        have hpt := parted_any hB7 hb7 (by have := pow_lim (i + 1) (by omega); omega)
        have hvs : ∃ x y, v7 = .slice x L7.length y := by obtain ⟨x, y, e, _⟩ := id hB7; exact ⟨_, _, e⟩
        obtain ⟨x7, y7, rfl⟩ := hvs
        have Hpt := hide hpt
        have HB7 := hide hB7
        have HL7 : Hid (Byt L7 ∧ L7.length ≤ 67108864 * 2 ^ (i + 1)) := ⟨hb7, hL7⟩
        have Hb07 := hide hb07
        clear hpt hB7 hb7 hl7 hbe7 hL7 hb07 Htu g1 g2 g3 HL HLb HB
        go_wp2_with fail
        refine (unhide Hpt).mono ?_
        rintro e w8 ⟨rfl, hb8⟩
        have HB8 := hide ((unhide HB7).up hb8)
        have Hb8 : Hid (Below W.heap.size W w8) := (unhide Hb07).trans (hb8.mono (unhide Hb07).size)
        clear hb8 Hpt HB7 Hb07
        go_wp2
        go_roundg (ts.length - (i + 1))
        case measure => have := unhide Hgk; omega
        case rel => exact ⟨i + 1, L7, by go_num, rfl, by omega, by omega, HB8, HL7, Hb8⟩
      · have i2' : decide ((i : Int) < 20) = false := decide_eq_false (by omega)
        go_wp2
        go_ret
        exact ⟨rfl, unhide HB⟩
    · obtain rfl : i = ts.length := by omega
      go_wp2
      go_ret
      exact ⟨rfl, unhide HB⟩
end Go.Proofs.Ytoojchjfmnbdpaa
