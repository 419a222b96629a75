import Derived.Test.YtcmjlpfofcaekaaDoorJB

namespace Go.Proofs.YtcmjlpfofcaekaaDoor
open Go.RowKit
attribute [local go_sem ↓] Go.wp_at_zero Go.wp_at_succ

theorem strN_extract (s : ByteArray) (a b : Nat) : strN (s.extract a b) = ((strN s).drop a).take (b - a) := by
  unfold strN
  rw [Lib.extract_data]
  simp [List.map_take, List.map_drop]
/-- From a place on nothing wants an escape. -/
def Plain (l : List Nat) (fr i : Nat) : Prop := jAll (l.take i) = jAll (l.take fr) ++ (l.drop fr).take (i - fr)
theorem Plain.step {l : List Nat} {fr i x : Nat} (h : Plain l fr i) (hf : fr ≤ i) (hx : l[i]? = some x) (hj : jesc x = [x]) : Plain l fr (i + 1) := by
  unfold Plain at *
  rw [jAll_step hx, h, hj, List.append_assoc]
  congr 1
  rw [show i + 1 - fr = (i - fr) + 1 by omega, List.take_add_one]
  congr 1
  rw [List.getElem?_drop, show fr + (i - fr) = i by omega, hx]
  rfl
theorem Plain.new (l : List Nat) (i : Nat) : Plain l i i := by
  unfold Plain
  rw [Nat.sub_self, List.take_zero, List.append_nil]
theorem jesc_self {x : Nat} (h : ¬ x < 32) (h1 : ¬ x = 34) (h2 : ¬ x = 92) : jesc x = [x] := by
  unfold jesc
  rw [if_neg (fun q => q.elim h1 h2), if_neg (by omega), if_neg (by omega), if_neg (by omega), if_neg (by omega), if_neg (by omega), if_neg h]
set_option maxRecDepth 100000 in
set_option maxHeartbeats 2000000 in
theorem jquoted_any (W : World) (s : ByteArray) (hs : s.size ≤ 67108864) :
    Calls Tryd.prog 8 #[.string s] W fun e w => e = .returned (.string (ofN (34 :: jAll (strN s) ++ [34]))) ∧ Below W.heap.size W w := by
  have hslen := strN_len s
  have hsb := strN_byt s
  have Hsl := hide hslen
  have Hsb := hide hsb
  clear hslen hsb
  have hbk : (W.alloc (.cells #[.pointer none, .slice none 0 0] 35)).heap[W.heap.size]? = some (.cells #[.pointer none, .slice none 0 0] 35 (0, 0)) := heap_new _ _
  have HG := hide (bgrow_any W.heap.size W.heap.size (s.size + 2) _ (Nat.le_refl _) hbk (by rw [World.size_alloc]; omega) (by omega))
  have HB0 : Hid (Below W.heap.size W (W.alloc (.cells #[.pointer none, .slice none 0 0] 35))) := (Below.refl _ _).alloc (Nat.le_refl _) _
  clear hbk
  have e2 : ((s.size + 2 : Nat) : Int) = (s.size : Int) + 2 := by omega
  rw [e2] at HG
  clear e2
  go_enter Tryd.func8, Tryd.ntmps8
  go_wp2_with fail
  refine (unhide HG).mono ?_
  rintro e w1 ⟨rfl, h1, hb1⟩
  have H1 : Hid (BL W.heap.size W.heap.size [] w1) := h1
  have HB1 := hide ((unhide HB0).trans hb1)
  clear h1 hb1 HG HB0
  go_wp2_with fail
  refine (putB (unhide H1) (by simp) (unhide HB1).size 34).mono ?_
  rintro e w2 ⟨rfl, h2, hb2⟩
  have H2 : Hid (BL W.heap.size W.heap.size [34] w2) := h2
  have HB2 := hide ((unhide HB1).trans hb2)
  clear h2 hb2 H1 HB1
  go_wp2
  go_loopg [4, 5, 6, 14] s.size (fun gk v4 _ _ v14 wr => ∃ (fr i : Nat) (L : List Nat), v4 = .int .i64 (fr : Int) ∧ v14 = .int .i64 (i : Int) ∧ gk = s.size - i ∧ i ≤ s.size ∧ fr ≤ i ∧ L.length ≤ 6 * fr + 1 ∧ Hid (BL W.heap.size W.heap.size L wr) ∧ Hid (L = 34 :: jAll ((strN s).take fr)) ∧ Hid (Plain (strN s) fr i) ∧ Hid (Below W.heap.size W wr))
  case atStart => exact ⟨0, 0, [34], rfl, rfl, rfl, by omega, by omega, by simp, H2, rfl, Plain.new _ _, HB2⟩
  case round =>
    obtain ⟨fr, i, L, rfl, rfl, hgk, hi, hfr, hll, HL, HE, HP, HB⟩ := hrel
    have Hgk := hide hgk
    clear hgk H2 HB2
    have hsz2 : W.heap.size ≤ wr.heap.size := (unhide HB).size
    have fr0 : (0 : Int) ≤ (fr : Int) := Int.natCast_nonneg _
    have i0 : (0 : Int) ≤ (i : Int) := Int.natCast_nonneg _
    have fi : (fr : Int) ≤ (i : Int) := by omega
    by_cases hlt : i < s.size
    · obtain ⟨x, hx, hx2, gx⟩ := strN_ex s i hlt
      have i1 : (i : Int) < (s.size : Int) := by omega
      by_cases hce : x < 32 ∨ x = 34 ∨ x = 92
      · have hfl : ((x : Int) < 32 ∨ ¬ (x : Int) < 32 ∧ ((x : Int) = 34 ∨ ¬ (x : Int) = 34 ∧ (x : Int) = 92)) := by omega
        have HX := hide hx
        have HCE := hide hce
        have Hgx := gx
        have hex : (s.extract fr i).size ≤ 1099511627776 := by rw [← strN_len, strN_extract, List.length_take]; have := unhide Hsl; omega
        have Hex := hide hex
        clear hx hce hex
        have GO : True := trivial
        rcases hfl with f1 | ⟨f1, f2 | ⟨f2, f3⟩⟩
        all_goals (
          first
            | (have g1 : decide ((x : Int) < 32) = true := by simpa using f1)
            | (have g1 : decide ((x : Int) < 32) = false := by simpa using f1)
          try (first
            | (have g2 : ((x : Int) == 34) = true := by simpa using f2)
            | (have g2 : ((x : Int) == 34) = false := by simpa using f2))
          try (have g3 : ((x : Int) == 92) = true := by simpa using f3)
          clear f1
          try clear f2
          try clear f3)
        all_goals (
          go_wp2_with fail
          refine (putS (unhide HL) (by omega) hsz2 (s.extract fr i) (unhide Hex)).mono ?_
          rintro e w3 ⟨rfl, h3, hb3⟩
          have H3 := hide h3
          have HB3 := hide ((unhide HB).trans hb3)
          have hsz3 : W.heap.size ≤ w3.heap.size := (unhide HB3).size
          have Hln : Hid ((L ++ strN (s.extract fr i)).length ≤ 1000000000) := by
            show _ ≤ _
            rw [List.length_append, strN_extract, List.length_take]
            omega
          clear h3 hb3 HB
          go_wp2_with fail
          refine (putEsc_any (unhide H3) (unhide Hln) hsz3 x hx2 (unhide HCE)).mono ?_
          rintro e w4 ⟨rfl, h4, hb4⟩
          have HB4 := hide ((unhide HB3).trans hb4)
          have HE4 : Hid (L ++ strN (s.extract fr i) ++ jesc x = 34 :: jAll ((strN s).take (i + 1))) := by
            show _ = _
            rw [jAll_step (unhide HX), show jAll ((strN s).take i) = _ from unhide HP, strN_extract, unhide HE]
            simp only [List.cons_append, List.append_assoc]
          have H4 : Hid (BL W.heap.size W.heap.size (34 :: jAll ((strN s).take (i + 1))) w4) := by rw [← unhide HE4]; exact h4
          have hl4 : (34 :: jAll ((strN s).take (i + 1))).length ≤ 6 * (i + 1) + 1 := by
            have := jAll_len ((strN s).take (i + 1))
            rw [List.length_take] at this
            rw [List.length_cons]
            omega
          have Hl4 := hide hl4
          clear h4 hb4 H3 HB3 HE4 hl4
          go_wp2
          go_roundg (s.size - (i + 1))
          case measure => have := unhide Hgk; omega
          case rel => exact ⟨i + 1, i + 1, _, by go_num, by go_num, rfl, by omega, by omega, unhide Hl4, H4, rfl, Plain.new _ _, HB4⟩)
      · have hj := jesc_self (x := x) (by omega) (by omega) (by omega)
        have HP2 : Hid (Plain (strN s) fr (i + 1)) := (unhide HP).step hfr hx hj
        have g1 : decide ((x : Int) < 32) = false := by simp; omega
        have g2 : ((x : Int) == 34) = false := by simp; omega
        have g3 : ((x : Int) == 92) = false := by simp; omega
        clear hce hj hx HP
        go_wp2
        go_roundg (s.size - (i + 1))
        case measure => have := unhide Hgk; omega
        case rel => exact ⟨fr, i + 1, L, rfl, by go_num, rfl, by omega, by omega, hll, HL, HE, HP2, HB⟩
    · obtain rfl : i = s.size := by omega
      have hex : (s.extract fr s.size).size ≤ 1099511627776 := by rw [← strN_len, strN_extract, List.length_take]; have := unhide Hsl; omega
      have Hex := hide hex
      clear hex
      go_wp2_with fail
      refine (putS (unhide HL) (by omega) hsz2 (s.extract fr s.size) (unhide Hex)).mono ?_
      rintro e w3 ⟨rfl, h3, hb3⟩
      have HB3 := hide ((unhide HB).trans hb3)
      have hsz3 : W.heap.size ≤ w3.heap.size := (unhide HB3).size
      have hE3 : L ++ strN (s.extract fr s.size) = 34 :: jAll (strN s) := by
        have h1 := unhide HP
        unfold Plain at h1
        rw [show (strN s).take s.size = strN s by rw [← unhide Hsl, List.take_length]] at h1
        rw [h1, strN_extract, unhide HE]
        rfl
      rw [hE3] at h3
      have H3 := hide h3
      have hl3 : (34 :: jAll (strN s)).length ≤ 1000000000 := by
        have := jAll_len (strN s)
        rw [unhide Hsl] at this
        rw [List.length_cons]
        omega
      have Hl3 := hide hl3
      clear h3 hb3 HB hE3 hl3 HL HE HP
      go_wp2_with fail
      refine (putB (unhide H3) (Nat.le_trans (unhide Hl3) (by decide)) hsz3 34).mono ?_
      rintro e w4 ⟨rfl, h4, hb4⟩
      have HB4 := hide ((unhide HB3).trans hb4)
      have hsz4 : W.heap.size ≤ w4.heap.size := (unhide HB4).size
      have hby : Byt (34 :: jAll (strN s) ++ [34]) := by
        intro y hy
        rw [List.mem_append, List.mem_cons, List.mem_singleton] at hy
        rcases hy with (rfl | hy) | rfl
        · decide
        · exact jAll_byt (unhide Hsb) y hy
        · decide
      have HS : Hid (Calls Tryd.prog 16 #[.pointer (some ⟨W.heap.size, 0, none⟩)] w4 fun e w' => e = .returned (.string (ofN (34 :: jAll (strN s) ++ [34]))) ∧ Below W.heap.size w4 w') := hide (bstring_any W.heap.size W.heap.size ((34 :: jAll (strN s) ++ [34]).map UInt8.ofNat) w4 (by rw [← nb_bytes hby]; exact h4.is) hsz4)
      clear h4 hb4 H3 HB3 hby
      go_wp2_with fail
      refine (unhide HS).mono ?_
      rintro e w5 ⟨rfl, hb5⟩
      have Hend := hide ((unhide HB4).trans hb5)
      clear hb5 HS
      go_wp2
      go_ret
      exact ⟨rfl, unhide Hend⟩
end Go.Proofs.YtcmjlpfofcaekaaDoor
