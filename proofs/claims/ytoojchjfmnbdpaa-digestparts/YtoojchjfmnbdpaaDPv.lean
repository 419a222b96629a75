import Derived.Test.YtoojchjfmnbdpaaDPy
import Derived.Test.YtoojchjfmnbdpaaDGm
namespace Go.Proofs.Ytoojchjfmnbdpaa
open Go.RowKit
attribute [local go_sem ↓] Go.wp_at_zero Go.wp_at_succ

theorem partsA_byt {l : List Nat} (h : Byt l) : ∀ p ∈ (partsA l).2, Byt p := by
  unfold partsA
  split
  · intro p hp; cases hp
  · split
    · intro p hp; cases hp
    · rename_i ps hps
      exact (frame_parts h hps).2.2
set_option maxRecDepth 100000 in
set_option maxHeartbeats 4000000 in
theorem parted_any {W : World} {v : Value} {l : List Nat} (h : HasB W v l) (hl : Byt l) (hn : l.length ≤ 140737488351232) :
    Calls Try.prog 8 #[v] W fun e W' => e = .returned (.bool true) ∧ Below W.heap.size W W' := by
  obtain ⟨i0, hi, hz0, hz1, hz2⟩ := info_parts Try.infoByte
  have hro := roomy_any h hn
  have Hh := hide h
  obtain ⟨va, vc, rfl, _, _⟩ := h
  go_enter Try.func8, Try.ntmps8
  go_wp2_with fail
  refine hro.mono ?_
  rintro e w1 ⟨rfl, hR1, hb01⟩
  clear hro
  go_wp2_with fail
  refine (parts_any (hR1.has (by omega)) hl).mono ?_
  rintro e w2 ⟨v2, rfl, ⟨us2, hO2⟩, hb2⟩
  have hR2 := hR1.up hb2
  have hb02 := hb01.trans (hb2.mono hb01.size)
  have hA2 := hO2.has
  have hvs : ∃ x y z, v2 = .slice x y z := by obtain ⟨x, y, e, _⟩ := id hA2; exact ⟨_, _, _, e⟩
  obtain ⟨x2, y2, z2, rfl⟩ := hvs
  clear hb2 hO2 hR1
  go_wp2_with fail
  refine (xparts_any ((unhide Hh).up hb02) hl hn).mono ?_
  rintro e w3 ⟨v3, rfl, ⟨us3, hO3⟩, hb3⟩
  have hR3 := hR2.up hb3
  have hA3 := hA2.up hb3
  have hb03 := hb02.trans (hb3.mono hb02.size)
  have hB3 := hO3.has
  have hvs : ∃ x y z, v3 = .slice x y z := by obtain ⟨x, y, e, _⟩ := id hB3; exact ⟨_, _, _, e⟩
  obtain ⟨x3, y3, z3, rfl⟩ := hvs
  have hPb := partsA_byt hl
  clear hb3 hO3 hR2 hA2
  generalize (partsA l).1 = z0 at *
  generalize (partsA l).2 = L0 at *
  have q1 : (z0 != z0) = false := by simp
  go_wp2_with fail
  refine (sameAll_any hA3 hB3 hPb hPb).mono ?_
  rintro e w4 ⟨rfl, m4, rfl⟩
  rw [show decide (L0 = L0) = true by simp]
  have hR4 : Room (w3.drewN m4) W.heap.size l := hR3
  have hb04 : Below W.heap.size W (w3.drewN m4) := below_drewN hb03 m4
  clear hR3 hb03 hA3 hB3 hPb
  generalize w3.drewN m4 = w4 at *
  go_wp2_with fail
  refine (num_any w4 z0).mono ?_
  rintro e w' ⟨rfl, he⟩
  obtain rfl : w4 = w' := he.symm
  clear he
  go_wp2_with fail
  refine (kept_same hR4 ((unhide Hh).up hb04) hl hn).mono ?_
  rintro e w' ⟨rfl, he⟩
  obtain rfl : w4 = w' := he.symm
  clear he Hh
  by_cases hp : 0 < l.length
  · have q3 : decide (0 < (l.length : Int)) = true := decide_eq_true (by omega)
    obtain ⟨J, hJ⟩ : ∃ J, J = l.length - 1 := ⟨_, rfl⟩
    obtain ⟨x, hx⟩ : ∃ x, l[J]? = some x := ⟨_, List.getElem?_eq_getElem (by omega)⟩
    have hxb := hl.at hx
    have hcell : w4.cell? ⟨W.heap.size, J, none⟩ = some (.int .u8 (x : Int)) := hR4.cell (by rw [List.getElem?_append_left (by omega)]; exact hx)
    have hfr := row_frozen J hR4
    have hxor : bits .xor .u8 (x : Int) 1 = ((x ^^^ 1 : Nat) : Int) := u8_xor_nat x 1 hxb (by decide)
    have hxl : x ^^^ 1 < 256 := Nat.xor_lt_two_pow (n := 8) hxb (by decide)
    have eJ : (l.length : Int) - 1 = (J : Int) := by omega
    have j0' : (0 : Int) ≤ (J : Int) := Int.natCast_nonneg _
    have j1' : (J : Int) < (l.length : Int) := by omega
    have hset := set_row (i := J) hR4 (x ^^^ 1)
    rw [List.set_append, if_pos (by omega)] at hset
    have HRX : Hid (Room (w4.setCell ⟨W.heap.size, J, none⟩ (.int .u8 ((x ^^^ 1 : Nat) : Int))) W.heap.size (l.set J (x ^^^ 1))) := hset
    have hbX := below_set hb04 (Nat.le_refl W.heap.size) J (.int .u8 ((x ^^^ 1 : Nat) : Int))
    have HMX : Hid (Byt (l.set J (x ^^^ 1)) ∧ (l.set J (x ^^^ 1)).length = l.length) := ⟨fun y hy => by
      rcases List.mem_or_eq_of_mem_set hy with hy | rfl
      · exact hl y hy
      · exact hxl, by simp⟩
    have HbX := hide hbX
    have Hl0 := hide hl
    clear hset hbX hx hJ hR4 hb04 hl
    generalize x ^^^ 1 = x' at *
    generalize l.set J x' = mX at *
    have hRX := unhide HRX
    have hbX := unhide HbX
    have hMX := (unhide HMX).1
    have hmX := (unhide HMX).2
    clear HRX HbX HMX Hl0
    have hsX : (w4.setCell ⟨W.heap.size, J, none⟩ (.int .u8 (x' : Int))).heap.size = w4.heap.size := World.size_setCell _ _ _
    have how : ((w4.setCell ⟨W.heap.size, J, none⟩ (.int .u8 (x' : Int))).alloc (.cells #[] 5)).ownsRow w4.heap.size 5 1 (.slice (some ⟨w4.heap.size, 0, none⟩) 0 0) 0 [] := by
      rw [← hsX]
      exact ⟨rfl, .inr ⟨(w4.setCell ⟨W.heap.size, J, none⟩ (.int .u8 (x' : Int))).heap.size, 0, #[], rfl, Nat.le_refl _, heap_new _ _, Nat.le_refl _, Nat.zero_le _, rfl, rfl⟩⟩
    have hbel : Below (w4.setCell ⟨W.heap.size, J, none⟩ (.int .u8 (x' : Int))).heap.size (w4.setCell ⟨W.heap.size, J, none⟩ (.int .u8 (x' : Int))) ((w4.setCell ⟨W.heap.size, J, none⟩ (.int .u8 (x' : Int))).alloc (.cells #[] 5)) := (Below.refl _ _).alloc (Nat.le_refl _) _
    have hsrc : ∀ j u, (nb mX)[j]? = some u → ((w4.setCell ⟨W.heap.size, J, none⟩ (.int .u8 (x' : Int))).alloc (.cells #[] 5)).cell? ((⟨W.heap.size, 0, none⟩ : Addr).add j) = some u := by
      intro j u hu
      rw [nb_at] at hu
      obtain ⟨b, hb', rfl⟩ := Option.map_eq_some_iff.1 hu
      rw [Go.WideShapes.add_plain, Nat.zero_add]
      exact (hRX.up hbel).cell (by rw [List.getElem?_append_left (List.getElem?_eq_some_iff.1 hb').1]; exact hb')
    have HRX := hide hRX
    have HbX := hide hbX
    have HmX := hide hmX
    clear hRX hbX hmX
    go_wp2_with (at_builtin; refine wpList_append_own_at _ rfl _ _ 24 rfl w4.heap.size 5 i0 (.int .u8 0) 1 1 Try.underlying24 hi hz0 hz1 hz2 rfl (by decide) _ _ _ rfl how ⟨W.heap.size, 0, none⟩ l.length (l.length + 6) (nb mX) rfl (by rw [nb_len, unhide HmX]; omega) hsrc (nb_one _) (by unfold maxLen; omega) (by omega) (by have := hbel.size; omega) ?_; intro v9 w9 hown4 hgrow4 _ hat4; have Hown := hide hown4; have Hgrow : Hid (((w4.setCell ⟨W.heap.size, J, none⟩ (.int .u8 (x' : Int))).alloc (.cells #[] 5)).grownBy w9 (some w4.heap.size)) := hgrow4; clear hown4 hgrow4 hat4)
    have hB4 : Below (w4.setCell ⟨W.heap.size, J, none⟩ (.int .u8 (x' : Int))).heap.size (w4.setCell ⟨W.heap.size, J, none⟩ (.int .u8 (x' : Int))) w9 := hbel.trans ⟨(unhide Hgrow).os, (unhide Hgrow).tape, (unhide Hgrow).output, (unhide Hgrow).size, fun b hb => (unhide Hgrow).block b (by have := hbel.size; omega) (fun e => by have e' : b = w4.heap.size := Option.some.inj e; omega)⟩
    have hmX := unhide HmX
    have hC4 : HasB w9 v9 mX := by
      refine Bytes.has (base := w4.heap.size) ?_
      have hown := unhide Hown
      unfold Bytes
      rw [hmX]
      simpa using hown
    have hR4 := (unhide HRX).up hB4
    have hb04 : Below W.heap.size W w9 := (unhide HbX).trans (hB4.mono (unhide HbX).size)
    have hH4 := hR4.has (by omega)
    rw [hmX] at hH4
    have hvs : ∃ x y, v9 = .slice x l.length y := by obtain ⟨x, y, e, _⟩ := id hC4; exact ⟨x, y, by rw [e, hmX]⟩
    obtain ⟨x4, y4, rfl⟩ := hvs
    clear how hbel hsrc Hown Hgrow hB4 HRX HbX hsX
    go_wp2_with fail
    refine (parts_any hH4 hMX).mono ?_
    rintro e w5 ⟨v5, rfl, ⟨us5, hO5⟩, hb5⟩
    have hR5 := hR4.up hb5
    have hC5 := hC4.up hb5
    have hb05 := hb04.trans (hb5.mono hb04.size)
    have hA5 := hO5.has
    have hvs : ∃ x y z, v5 = .slice x y z := by obtain ⟨x, y, e, _⟩ := id hA5; exact ⟨_, _, _, e⟩
    obtain ⟨x5, y5, z5, rfl⟩ := hvs
    clear hb5 hO5 hR4 hC4 hH4
    go_wp2_with fail
    refine (xparts_any hC5 hMX (by omega)).mono ?_
    rintro e w6 ⟨v6, rfl, ⟨us6, hO6⟩, hb6⟩
    have hR6 := hR5.up hb6
    have hC6 := hC5.up hb6
    have hA6 := hA5.up hb6
    have hb06 := hb05.trans (hb6.mono hb05.size)
    have hB6 := hO6.has
    have hvs : ∃ x y z, v6 = .slice x y z := by obtain ⟨x, y, e, _⟩ := id hB6; exact ⟨_, _, _, e⟩
    obtain ⟨x6, y6, z6, rfl⟩ := hvs
    have hPb := partsA_byt hMX
    clear hb6 hO6 hR5 hC5 hA5
    generalize (partsA mX).1 = zz at *
    generalize (partsA mX).2 = LL at *
    have q2 : (zz == zz) = true := by simp
    go_wp2_with fail
    refine (sameAll_any hA6 hB6 hPb hPb).mono ?_
    rintro e w7 ⟨rfl, m7, rfl⟩
    rw [show decide (LL = LL) = true by simp]
    have hR7 : Room (w6.drewN m7) W.heap.size mX := hR6
    have hC7 : HasB (w6.drewN m7) _ mX := hC6.drew m7
    have hb07 : Below W.heap.size W (w6.drewN m7) := below_drewN hb06 m7
    clear hR6 hC6 hb06 hA6 hB6 hPb
    generalize w6.drewN m7 = w7 at *
    go_wp2_with fail
    refine (num_any w7 zz).mono ?_
    rintro e w' ⟨rfl, he⟩
    obtain rfl : w7 = w' := he.symm
    clear he
    have hkX := kept_same hR7 hC7 hMX (by omega)
    rw [hmX] at hkX
    go_wp2_with fail
    refine hkX.mono ?_
    rintro e w' ⟨rfl, he⟩
    obtain rfl : w7 = w' := he.symm
    go_wp2
    go_ret
    exact ⟨rfl, hb07⟩
  · have q3 : decide (0 < (l.length : Int)) = false := decide_eq_false (by omega)
    obtain ⟨mX, hmm⟩ : ∃ mX, l = mX := ⟨_, rfl⟩
    have hRX := hR4
    have hMX := hl
    have hmX : mX.length = l.length := by rw [hmm]
    rw [hmm] at hRX hMX
    have hbX := hb04
    clear hR4 hb04 hl hmm
    have how : (w4.alloc (.cells #[] 5)).ownsRow w4.heap.size 5 1 (.slice (some ⟨w4.heap.size, 0, none⟩) 0 0) 0 [] := ⟨rfl, .inr ⟨w4.heap.size, 0, #[], rfl, Nat.le_refl _, heap_new _ _, Nat.le_refl _, Nat.zero_le _, rfl, rfl⟩⟩
    have hbel : Below w4.heap.size w4 (w4.alloc (.cells #[] 5)) := (Below.refl _ _).alloc (Nat.le_refl _) _
    have hsrc : ∀ j u, (nb mX)[j]? = some u → (w4.alloc (.cells #[] 5)).cell? ((⟨W.heap.size, 0, none⟩ : Addr).add j) = some u := by
      intro j u hu
      rw [nb_at] at hu
      obtain ⟨b, hb', rfl⟩ := Option.map_eq_some_iff.1 hu
      rw [Go.WideShapes.add_plain, Nat.zero_add]
      exact (hRX.up hbel).cell (by rw [List.getElem?_append_left (List.getElem?_eq_some_iff.1 hb').1]; exact hb')
    have HRX := hide hRX
    have HbX := hide hbX
    have HmX := hide hmX
    clear hRX hbX hmX
    go_wp2_with (at_builtin; refine wpList_append_own_at _ rfl _ _ 24 rfl w4.heap.size 5 i0 (.int .u8 0) 1 1 Try.underlying24 hi hz0 hz1 hz2 rfl (by decide) _ _ _ rfl how ⟨W.heap.size, 0, none⟩ l.length (l.length + 6) (nb mX) rfl (by rw [nb_len, unhide HmX]; omega) hsrc (nb_one _) (by unfold maxLen; omega) (by omega) hbel.size ?_; intro v9 w9 hown4 hgrow4 _ hat4; have Hown := hide hown4; have Hgrow : Hid ((w4.alloc (.cells #[] 5)).grownBy w9 (some w4.heap.size)) := hgrow4; clear hown4 hgrow4 hat4)
    have hB4 : Below w4.heap.size w4 w9 := hbel.trans ⟨(unhide Hgrow).os, (unhide Hgrow).tape, (unhide Hgrow).output, (unhide Hgrow).size, fun b hb => (unhide Hgrow).block b (by have := hbel.size; omega) (fun e => by have e' : b = w4.heap.size := Option.some.inj e; omega)⟩
    have hmX := unhide HmX
    have hC4 : HasB w9 v9 mX := by
      refine Bytes.has (base := w4.heap.size) ?_
      have hown := unhide Hown
      unfold Bytes
      rw [hmX]
      simpa using hown
    have hR4 := (unhide HRX).up hB4
    have hb04 : Below W.heap.size W w9 := (unhide HbX).trans (hB4.mono (unhide HbX).size)
    have hH4 := hR4.has (by omega)
    rw [hmX] at hH4
    have hvs : ∃ x y, v9 = .slice x l.length y := by obtain ⟨x, y, e, _⟩ := id hC4; exact ⟨x, y, by rw [e, hmX]⟩
    obtain ⟨x4, y4, rfl⟩ := hvs
    clear how hbel hsrc Hown Hgrow hB4 HRX HbX
    go_wp2_with fail
    refine (parts_any hH4 hMX).mono ?_
    rintro e w5 ⟨v5, rfl, ⟨us5, hO5⟩, hb5⟩
    have hR5 := hR4.up hb5
    have hC5 := hC4.up hb5
    have hb05 := hb04.trans (hb5.mono hb04.size)
    have hA5 := hO5.has
    have hvs : ∃ x y z, v5 = .slice x y z := by obtain ⟨x, y, e, _⟩ := id hA5; exact ⟨_, _, _, e⟩
    obtain ⟨x5, y5, z5, rfl⟩ := hvs
    clear hb5 hO5 hR4 hC4 hH4
    go_wp2_with fail
    refine (xparts_any hC5 hMX (by omega)).mono ?_
    rintro e w6 ⟨v6, rfl, ⟨us6, hO6⟩, hb6⟩
    have hR6 := hR5.up hb6
    have hC6 := hC5.up hb6
    have hA6 := hA5.up hb6
    have hb06 := hb05.trans (hb6.mono hb05.size)
    have hB6 := hO6.has
    have hvs : ∃ x y z, v6 = .slice x y z := by obtain ⟨x, y, e, _⟩ := id hB6; exact ⟨_, _, _, e⟩
    obtain ⟨x6, y6, z6, rfl⟩ := hvs
    have hPb := partsA_byt hMX
    clear hb6 hO6 hR5 hC5 hA5
    generalize (partsA mX).1 = zz at *
    generalize (partsA mX).2 = LL at *
    have q2 : (zz == zz) = true := by simp
    go_wp2_with fail
    refine (sameAll_any hA6 hB6 hPb hPb).mono ?_
    rintro e w7 ⟨rfl, m7, rfl⟩
    rw [show decide (LL = LL) = true by simp]
    have hR7 : Room (w6.drewN m7) W.heap.size mX := hR6
    have hC7 : HasB (w6.drewN m7) _ mX := hC6.drew m7
    have hb07 : Below W.heap.size W (w6.drewN m7) := below_drewN hb06 m7
    clear hR6 hC6 hb06 hA6 hB6 hPb
    generalize w6.drewN m7 = w7 at *
    go_wp2_with fail
    refine (num_any w7 zz).mono ?_
    rintro e w' ⟨rfl, he⟩
    obtain rfl : w7 = w' := he.symm
    clear he
    have hkX := kept_same hR7 hC7 hMX (by omega)
    rw [hmX] at hkX
    go_wp2_with fail
    refine hkX.mono ?_
    rintro e w' ⟨rfl, he⟩
    obtain rfl : w7 = w' := he.symm
    go_wp2
    go_ret
    exact ⟨rfl, hb07⟩
end Go.Proofs.Ytoojchjfmnbdpaa
