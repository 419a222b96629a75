import Derived.Test.YtbkkbcfejhckgaaDoorWLg
namespace Go.Proofs.YtbkkbcfejhckgaaDoor
open Go.RowKit
attribute [local go_sem ↓] Go.wp_at_zero Go.wp_at_succ

theorem hasR_lit {W : World} {g : Nat} {t : TypeId} {fr : Nat × Nat} {n : Nat} {v : Int} (h : W.heap[g]? = some (.cells #[.int .i64 (n : Int), .int .i64 0, .int .i64 v, .string .empty, .slice none 0 0] t fr)) (c : Nat) : HasR W (.slice (some ⟨g, 0, none⟩) 1 c) [⟨n, 0, v, .empty, none, 0⟩] := by
  refine ⟨_, _, rfl, by simp, fun _ => ⟨g, 0, rfl, (Array.getElem?_eq_some_iff.1 h).1, fun i r hr => ?_⟩⟩
  match i, hr with
  | 0, hr =>
    obtain rfl : _ = r := by simpa using hr
    refine ⟨?_, ?_, ?_, ?_, ?_⟩ <;> exact cell_of_row _ _ _ _ _ _ h
theorem vN_len5 {n : Nat} (h : n ≤ 536870911) : (vN (8 * n)).length ≤ 5 := by
  have := (vint_len 4 (8 * n) (by omega)).2
  rw [← byB_vN, byB_len] at this
  exact this
theorem vN_len10 {u : Nat} (h : u < 18446744073709551616) : (vN u).length ≤ 10 := by
  have := (vint_ten h).2
  rw [← byB_vN, byB_len] at this
  exact this
/-- What the two Splits make of the two varints. -/
theorem one_of {A B : List Nat} {n u : Nat} (hA : Enc A (8 * n)) (hB : Enc B u) (hAl : A.length ≤ 10) (hBl : B.length ≤ 10) (hn : 1 ≤ n ∧ n ≤ 536870911) (hu : u < 18446744073709551616) (st : Bool) :
    OneOk (sOf (A ++ B)) st ∧ oneR (sOf (A ++ B)) st = if st = true ∧ 1 < A.length ∧ lastN A = 0 then .inr (0, 22) else if st = true ∧ 1 < B.length ∧ lastN B = 0 then .inr (A.length, 22) else .inl (n, u) := by
  have hby : ∀ x ∈ A ++ B, x < 256 := fun x hx => (List.mem_append.1 hx).elim (enc_byt hA x) (enc_byt hB x)
  have e1 := enc_at (a := []) (b := B) (st := st) (l := A) (u := 8 * n) hby hA hAl (by omega)
  have e2 := enc_at (a := A) (b := []) (st := st) (l := B) (u := u) (by rw [List.append_nil]; exact hby) hB hBl hu
  rw [List.append_nil] at e2
  replace e1 : vAt (sOf (A ++ B)) st 0 = if st = true ∧ 1 < A.length ∧ lastN A = 0 then .inr 22 else .inl (8 * n, A.length) := by simpa using e1
  have hsz : (sOf (A ++ B)).size = A.length + B.length := by rw [sOf_size, List.length_append]
  generalize sOf (A ++ B) = s at *
  by_cases c1 : st = true ∧ 1 < A.length ∧ lastN A = 0
  · rw [if_pos c1] at e1 ⊢
    exact ⟨fun t k1 h => (by rw [e1] at h; cases h), oneR_a e1⟩
  · rw [if_neg c1] at e1 ⊢
    by_cases c2 : st = true ∧ 1 < B.length ∧ lastN B = 0
    · rw [if_pos c2] at e2 ⊢
      refine ⟨fun t k1 h => ?_, oneR_b e1 e2⟩
      rw [e1] at h
      obtain ⟨rfl, rfl⟩ := Prod.mk.inj (Sum.inl.inj h)
      exact ⟨⟨by omega, by omega, by omega⟩, fun u' k2 h2 => by rw [e2] at h2; cases h2⟩
    · rw [if_neg c2] at e2 ⊢
      refine ⟨fun t k1 h => ?_, ?_⟩
      · rw [e1] at h
        obtain ⟨rfl, rfl⟩ := Prod.mk.inj (Sum.inl.inj h)
        refine ⟨⟨by omega, by omega, by omega⟩, fun u' k2 h2 => ?_⟩
        rw [e2] at h2
        obtain ⟨rfl, rfl⟩ := Prod.mk.inj (Sum.inl.inj h2)
        exact hsz.symm
      · rw [oneR_c e1 e2, Nat.mul_div_cancel_left n (by decide)]
set_option maxRecDepth 100000 in
set_option maxHeartbeats 8000000 in
theorem wireLonger_any (hadd : AddNil) {W : World} {nm v mo ms : Int} (hF : HasF W) (hnm : -9223372036854775808 ≤ nm ∧ nm ≤ 9223372036854775807) (hv : -9223372036854775808 ≤ v ∧ v ≤ 9223372036854775807) (hmo : -9223372036854775808 ≤ mo ∧ mo ≤ 9223372036854775807) (hms : -9223372036854775808 ≤ ms ∧ ms ≤ 9223372036854775807) :
    Calls Tryd.prog 3 #[.int .i64 nm, .int .i64 v, .int .i64 mo, .int .i64 ms] W fun e W' => e = .returned (.bool true) ∧ Below W.heap.size W W' := by
  obtain ⟨i0, hi, hz0, hz1, hz2⟩ := info_parts Tryd.infoByte
  obtain ⟨n, hn⟩ : ∃ n : Nat, withinF nm 1 536870911 = (n : Int) := ⟨(withinF nm 1 536870911).toNat, by unfold withinF; omega⟩
  have hn1 : 1 ≤ n ∧ n ≤ 536870911 := by unfold withinF at hn; omega
  obtain ⟨m1, hm1⟩ : ∃ n : Nat, withinF mo 0 9 = (n : Int) := ⟨(withinF mo 0 9).toNat, by unfold withinF; omega⟩
  have hm1b : m1 ≤ 9 := by unfold withinF at hm1; omega
  obtain ⟨m2, hm2⟩ : ∃ n : Nat, withinF ms 0 9 = (n : Int) := ⟨(withinF ms 0 9).toNat, by unfold withinF; omega⟩
  have hm2b : m2 ≤ 9 := by unfold withinF at hm2; omega
  have w1c := within_any W nm 1 536870911 hnm (.inl ⟨rfl, rfl⟩)
  rw [hn] at w1c
  have w2c : ∀ X, Calls Tryd.prog 4 #[.int .i64 mo, .int .i64 0, .int .i64 9] X fun e w => e = .returned (.int .i64 (m1 : Int)) ∧ w = X := fun X => by rw [← hm1]; exact within_any X mo 0 9 hmo (.inr ⟨rfl, rfl⟩)
  have w3c : ∀ X, Calls Tryd.prog 4 #[.int .i64 ms, .int .i64 0, .int .i64 9] X fun e w => e = .returned (.int .i64 (m2 : Int)) ∧ w = X := fun X => by rw [← hm2]; exact within_any X ms 0 9 hms (.inr ⟨rfl, rfl⟩)
  obtain ⟨u, hu⟩ : ∃ u : Nat, IntKind.u64.wrap v = (u : Int) := ⟨(IntKind.u64.wrap v).toNat, by rw [wrapu_eq]; omega⟩
  have hu2 : u < 18446744073709551616 := by rw [wrapu_eq] at hu; omega
  have hwu : wrap64 (u : Int) = v := by rw [wrapu_eq] at hu; rw [wrap64_eq]; omega
  obtain ⟨eT, lT⟩ := enc_vN (8 * n)
  obtain ⟨eX, lX⟩ := enc_vN u
  have hT5 := vN_len5 hn1.2
  have hX10 := vN_len10 hu2
  have htg : ∀ X, Calls Tryd.prog 5 #[.int .i64 (n : Int), .int .i64 0] X fun e W' => ∃ v', e = .returned (.tuple #[v', .int .i64 0]) ∧ Bytes X.heap.size W' v' (byB (vN (8 * n))) ∧ Below X.heap.size X W' := fun X => by
    have := tagW_any X n 0 hn1 (by decide)
    rw [Nat.add_zero, ← byB_vN] at this
    exact this
  have hvr : ∀ X, Calls Tryd.prog 6 #[.int .i64 v] X fun e W' => ∃ v', e = .returned v' ∧ Bytes X.heap.size W' v' (byB (vN u)) ∧ Below X.heap.size X W' := fun X => by
    have := varint_any X v u hu hu2
    rw [← byB_vN] at this
    exact this
  generalize vN (8 * n) = T at *
  generalize vN u = Z at *
  obtain ⟨eA, lA, oA⟩ := long_enc m1 eT (by omega)
  obtain ⟨eB, lB, oB⟩ := long_enc m2 eX hX10
  have pT := enc_pos eT
  have pX := enc_pos eX
  have hone := fun st => one_of eA eB lA lB hn1 hu2 st
  have hlong1 : ∀ (X : World) (a : Value), HasB X a (byB T) → Calls Tryd.prog 8 #[a, .int .i64 (m1 : Int)] X fun e W' => ∃ v', e = .returned v' ∧ Bytes X.heap.size W' v' (byB (longN m1 T)) ∧ Below X.heap.size X W' := fun X a h => long_any h eT (by omega) hm1b
  have hlong2 : ∀ (X : World) (a : Value), HasB X a (byB Z) → Calls Tryd.prog 8 #[a, .int .i64 (m2 : Int)] X fun e W' => ∃ v', e = .returned v' ∧ Bytes X.heap.size W' v' (byB (longN m2 Z)) ∧ Below X.heap.size X W' := fun X a h => long_any h eX hX10 hm2b
  have pA := enc_pos eA
  have pB := enc_pos eB
  have bA := enc_byt eA
  have bB := enc_byt eB
  generalize longN m1 T = A at *
  generalize longN m2 Z = B at *
  have Hone := hide hone
  have Htg := hide htg
  have Hvr := hide hvr
  have Hl1 := hide hlong1
  have Hl2 := hide hlong2
  have HoA := hide oA
  have HoB := hide oB
  have HlT := hide lT
  have HlX := hide lX
  have Hw1 := hide w1c
  have Hw2 := hide w2c
  have Hw3 := hide w3c
  have HF' := hide hF
  have Hadd := hide hadd
  have HbA := hide bA
  have HbB := hide bB
  have Hwu := hide hwu
  clear hone htg hvr hlong1 hlong2 oA oB lT lX w1c w2c w3c hF hadd hn hm1 hm2 hu hu2 hwu eT eX eA eB bA bB hnm hmo hms
  go_enter Tryd.func3, Tryd.ntmps3
  go_wp2_with fail
  refine (unhide Hw1).mono ?_
  rintro e w0 ⟨rfl, hw0⟩
  obtain rfl : W = w0 := hw0.symm
  clear hw0
  go_wp2_with fail
  refine (unhide Htg W).mono ?_
  rintro e w1 ⟨vT, rfl, hyT, hb1⟩
  have HT1 := hide hyT.has
  obtain ⟨gT, cT, rfl⟩ := bytes_at hyT (by rw [byB_len]; omega)
  rw [byB_len] at HT1 ⊢
  have Hb1 := hide hb1
  clear hyT hb1
  go_wp2_with fail
  refine (unhide Hvr w1).mono ?_
  rintro e w2 ⟨vX, rfl, hyX, hb2⟩
  have HX2 := hide hyX.has
  obtain ⟨gX, cX, rfl⟩ := bytes_at hyX (by rw [byB_len]; omega)
  rw [byB_len] at HX2 ⊢
  have HT2 := hide ((unhide HT1).up hb2)
  have Hb2 : Hid (Below W.heap.size W w2) := (unhide Hb1).trans (hb2.mono (unhide Hb1).size)
  clear hyX hb2 HT1 Hb1
  go_wp2_with fail
  refine (known_any (unhide Hadd) ((unhide HF').up (unhide Hb2))).mono ?_
  rintro e w3 ⟨rfl, hb3⟩
  have HT3 := hide ((unhide HT2).up hb3)
  have HX3 := hide ((unhide HX2).up hb3)
  have Hb3 : Hid (Below W.heap.size W w3) := (unhide Hb2).trans (hb3.mono (unhide Hb2).size)
  clear hb3 HT2 HX2 Hb2
  have d1 : decide ((T.length : Int) < 1) = false := by simp; omega
  have d2 : decide ((Z.length : Int) < 1) = false := by simp; omega
  have d3 : decide ((5 : Int) < (T.length : Int)) = false := by simp; omega
  have d4 : decide ((10 : Int) < (Z.length : Int)) = false := by simp; omega
  go_wp2_with fail
  refine (unhide Hw2 w3).mono ?_
  rintro e w0 ⟨rfl, hw0⟩
  obtain rfl : w3 = w0 := hw0.symm
  clear hw0
  go_wp2_with fail
  refine (unhide Hl1 w3 _ (unhide HT3)).mono ?_
  rintro e w4 ⟨vA, rfl, hyA, hb4⟩
  have HA4 := hide hyA.has
  obtain ⟨gA, cA, rfl⟩ := bytes_at hyA (by rw [byB_len]; omega)
  rw [byB_len] at HA4 ⊢
  have HX4 := hide ((unhide HX3).up hb4)
  have Hb4 : Hid (Below W.heap.size W w4) := (unhide Hb3).trans (hb4.mono (unhide Hb3).size)
  clear hyA hb4 HT3 HX3 Hb3
  go_wp2_with fail
  refine (unhide Hw3 w4).mono ?_
  rintro e w0 ⟨rfl, hw0⟩
  obtain rfl : w4 = w0 := hw0.symm
  clear hw0
  go_wp2_with fail
  refine (unhide Hl2 w4 _ (unhide HX4)).mono ?_
  rintro e w5 ⟨vB, rfl, hyB, hb5⟩
  have HB5 := hide hyB.has
  obtain ⟨gB, cB, rfl⟩ := bytes_at hyB (by rw [byB_len]; omega)
  rw [byB_len] at HB5 ⊢
  have HA5 := hide ((unhide HA4).up hb5)
  have Hb5 : Hid (Below W.heap.size W w5) := (unhide Hb4).trans (hb5.mono (unhide Hb4).size)
  clear hyB hb5 HA4 HX4 Hb4
  have htw := twin_any (unhide HA5) (by rw [byB_len]; omega)
  rw [byB_len] at htw
  have Htw := hide htw
  clear htw
  go_wp2_with fail
  refine (unhide Htw).mono ?_
  rintro e w6 ⟨rfl, hy6, hb6⟩
  have HB6 := hide ((unhide HB5).up hb6)
  have HA6 := hide ((unhide HA5).up hb6)
  have Hb6 : Hid (Below W.heap.size W w6) := (unhide Hb5).trans (hb6.mono (unhide Hb5).size)
  have hy6' : w6.ownsRow w5.heap.size 5 1 (.slice (some ⟨w5.heap.size, 0, none⟩) A.length A.length) A.length (ib (byB A)) := by
    have := hy6
    unfold Bytes at this
    rw [byB_len] at this
    exact this
  have Hy6 := hide hy6'
  have h56 : w5.heap.size ≤ w6.heap.size := hb6.size
  have hW5 : W.heap.size ≤ w5.heap.size := (unhide Hb5).size
  have HsB : Hid (∀ j x, (ib (byB B))[j]? = some x → w6.cell? ((⟨gB, 0, none⟩ : Addr).add j) = some x) := fun j x hj => by
    obtain ⟨a, c, e, _, h3⟩ := unhide HB6
    obtain ⟨g, off, q, hg, hc⟩ := h3 (by rw [byB_len]; omega)
    rw [q] at e
    injection e with e
    injection e with e
    injection e with e1 e2
    subst e1 e2
    rw [ib_at] at hj
    obtain ⟨y, hy, rfl⟩ := Option.map_eq_some_iff.1 hj
    rw [Go.WideShapes.add_plain]
    exact hc j y hy
  have O1 : Hid (A.length + B.length ≤ maxLen) := by show _ ≤ _; unfold maxLen; omega
  have O2 : Hid ((A.length + B.length) * 1 ≤ 140737488355328) := by show _ ≤ _; omega
  have hibB : (ib (byB B)).length = B.length * 1 := by rw [ib_len, byB_len, Nat.mul_one]
  have HibB := hide hibB
  clear hy6 hy6' hb6 Htw HA5 HB5 Hb5 hibB
  go_wp2_with (at_builtin; refine wpList_append_own_at _ rfl _ _ 23 rfl w5.heap.size 5 i0 (.int .u8 0) 1 1 Tryd.underlying23 hi hz0 hz1 hz2 rfl (by decide) _ _ _ rfl (unhide Hy6) ⟨gB, 0, none⟩ B.length cB (ib (byB B)) rfl (unhide HibB) (unhide HsB) (ib_one _) (unhide O1) (unhide O2) h56 ?_; intro v7 w7 hown7 hgrow7 _ hat7; have Hown := hide hown7; have Hx7 : Hid (Ext w6 (.slice (some ⟨w5.heap.size, 0, none⟩) A.length A.length) w7 v7) := Ext.grown0 hgrow7 hat7; clear hown7 hgrow7 hat7)
  have hall : Bytes w5.heap.size w7 v7 (byB (A ++ B)) := by
    have := unhide Hown
    unfold Bytes
    rw [byB_app, List.length_append, byB_len, byB_len]
    simpa [ib] using this
  have HAB7 := hide hall.has
  have Hb7 : Hid (Below W.heap.size W w7) := (unhide Hb6).trans (((unhide Hx7).below h56 (fun b e => by have e2 : w5.heap.size = b := Option.some.inj e; omega)).mono hW5)
  have bAB : ∀ x ∈ A ++ B, x < 256 := fun x hx => (List.mem_append.1 hx).elim (unhide HbA x) (unhide HbB x)
  have hABl : (A ++ B).length ≤ 20 ∧ 0 < (A ++ B).length := by rw [List.length_append]; omega
  obtain ⟨ho1, hr1⟩ := unhide Hone false
  obtain ⟨ho2, hr2⟩ := unhide Hone true
  rw [if_neg (by simp), if_neg (by simp)] at hr1
  have htw := twin_any (unhide HAB7) (by rw [byB_len]; omega)
  rw [byB_len] at htw
  have hs1 : ∀ (X : World) (y : Value), HasB X y (byB (A ++ B)) → Calls Tryd.prog 10 #[y, .bool false] X fun e W' => (∃ q, e = .returned (.tuple #[q, .int .i64 0, .int .i64 0]) ∧ HasR W' q [⟨n, 0, v, .empty, none, 0⟩]) ∧ Below X.heap.size X W' := fun X y hy => by
    have := split_one (unhide Hadd) (st := false) hy bAB (by omega) hABl.2 ho1
    rw [hr1] at this
    rw [← unhide Hwu]
    exact this
  have hs2 : ∀ (X : World) (y : Value), HasB X y (byB (A ++ B)) → Calls Tryd.prog 10 #[y, .bool true] X fun e W' => SplitA W' e (if true = true ∧ 1 < A.length ∧ lastN A = 0 then .inr (0, 22) else if true = true ∧ 1 < B.length ∧ lastN B = 0 then .inr (A.length, 22) else .inl (n, u)) ∧ Below X.heap.size X W' := fun X y hy => by
    have := split_one (unhide Hadd) (st := true) hy bAB (by omega) hABl.2 ho2
    rw [hr2] at this
    exact this
  have Htw := hide htw
  have Hs1 := hide hs1
  have Hs2 := hide hs2
  clear htw hs1 hs2 ho1 ho2 hr1 hr2 hall Hown Hx7 Hb6 Hy6 HsB O1 O2 HA6 HB6 bAB Hone
  generalize (A ++ B).length = abl at *
  refine (unhide Htw).mono ?_
  rintro e w8 ⟨rfl, hy8, hb8⟩
  have HAB8 := hide ((unhide HAB7).up hb8)
  have Hy8 := hide hy8.has
  have Hb8 : Hid (Below W.heap.size W w8) := (unhide Hb7).trans (hb8.mono (unhide Hb7).size)
  clear hy8 hb8 HAB7 Hb7 Htw
  go_wp2_with fail
  refine (unhide Hs1 w8 _ (unhide Hy8)).mono ?_
  rintro e w9 ⟨⟨q9, rfl, hR9⟩, hb9⟩
  have HAB9 := hide ((unhide HAB8).up hb9)
  have Hb9 : Hid (Below W.heap.size W w9) := (unhide Hb8).trans (hb9.mono (unhide Hb8).size)
  have HR9 := hide hR9
  obtain ⟨qa, qc, rfl, -⟩ := id hR9
  have hbL : Below w9.heap.size w9 (w9.alloc (.cells #[.int .i64 (n : Int), .int .i64 0, .int .i64 v, .string .empty, .slice none 0 0] 36)) := (Below.refl _ _).alloc (Nat.le_refl _) _
  have hsR := sameR_flat (hR9.up hbL) (hasR_lit (heap_alloc_new w9 (.cells #[.int .i64 (n : Int), .int .i64 0, .int .i64 v, .string .empty, .slice none 0 0] 36)) 1)
  have HsR := hide hsR
  have HbL := hide hbL
  clear hb9 HAB8 Hb8 Hy8 Hs1 hR9 hsR hbL
  go_wp2_with fail
  refine (unhide HsR).mono ?_
  rintro e w10 ⟨rfl, hb10⟩
  have hb910 : Below w9.heap.size w9 w10 := (unhide HbL).trans (hb10.mono (unhide HbL).size)
  have HAB10 := hide ((unhide HAB9).up hb910)
  have HR10 := hide ((unhide HR9).up hb910)
  have Hb10 : Hid (Below W.heap.size W w10) := (unhide Hb9).trans (hb910.mono (unhide Hb9).size)
  clear hb10 hb910 HAB9 HR9 Hb9 HsR HbL
  go_wp2_with fail
  refine (unhide Hs2 w10 _ (unhide HAB10)).mono ?_
  rintro e w11 ⟨hq, hb11⟩
  have Hb11 : Hid (Below W.heap.size W w11) := (unhide Hb10).trans (hb11.mono (unhide Hb10).size)
  have HR11 := hide ((unhide HR10).up hb11)
  clear hb11 HAB10 HR10 Hb10 Hs2
  by_cases c1 : 1 < A.length ∧ lastN A = 0
  · rw [if_pos (by simpa using c1)] at hq
    obtain ⟨-, rfl⟩ := hq
    have hlt : T.length < A.length := by
      rcases unhide HoA with q | q
      · exfalso; rw [q] at c1; exact unhide HlT c1.1 c1.2
      · exact q.1
    have dA : decide (T.length < A.length) = true := by simp; omega
    clear c1
    go_wp2
    go_ret
    exact ⟨rfl, unhide Hb11⟩
  · rw [if_neg (fun q => c1 q.2)] at hq
    have hAT : A.length = T.length := by
      rcases unhide HoA with q | q
      · rw [q]
      · exact absurd ⟨by omega, q.2⟩ c1
    have dA : decide (T.length < A.length) = false := by simp; omega
    have HAT := hide hAT
    clear c1 hAT
    by_cases c2 : 1 < B.length ∧ lastN B = 0
    · rw [if_pos (by simpa using c2)] at hq
      obtain ⟨-, rfl⟩ := hq
      have hlt : Z.length < B.length := by
        rcases unhide HoB with q | q
        · exfalso; rw [q] at c2; exact unhide HlX c2.1 c2.2
        · exact q.1
      have dB : decide (Z.length < B.length) = true := by simp; omega
      have dl : ((A.length : Int) == (A.length : Int)) = true := by simp
      clear c2
      go_wp2
      go_ret
      exact ⟨rfl, unhide Hb11⟩
    · rw [if_neg (fun q => c2 q.2)] at hq
      obtain ⟨q11, rfl, hR⟩ := hq
      have hBX : B.length = Z.length := by
        rcases unhide HoB with q | q
        · rw [q]
        · exact absurd ⟨by omega, q.2⟩ c2
      have dB : decide (Z.length < B.length) = false := by simp; omega
      rw [unhide Hwu] at hR
      obtain ⟨qa2, qc2, rfl, -⟩ := id hR
      have hsR := sameR_flat hR (unhide HR11)
      have HsR := hide hsR
      clear c2 hBX hR hsR
      go_wp2_with fail
      refine (unhide HsR).mono ?_
      rintro e w12 ⟨rfl, hb12⟩
      have Hb12 : Hid (Below W.heap.size W w12) := (unhide Hb11).trans (hb12.mono (unhide Hb11).size)
      clear hb12
      go_wp2
      go_ret
      exact ⟨rfl, unhide Hb12⟩
end Go.Proofs.YtbkkbcfejhckgaaDoor
