import Derived.Test.YtgbadnbhgpnppaaDoorWJi
import Derived.Test.YtgbadnbhgpnppaaDoorWJj
import Derived.Test.YtgbadnbhgpnppaaDoorWJk
import Derived.Test.YtgbadnbhgpnppaaDoorWHM
import Derived.Test.YtgbadnbhgpnppaaDoorWX
namespace Go.Proofs.YtgbadnbhgpnppaaDoor
open Go.ChangeShapes Go.WideShapes Go.ChangeAt Go.RowKit
attribute [local go_sem ↓] Go.wp_at_zero Go.wp_at_succ

mutual
theorem toT_lg : ∀ r : Ri, lgR (toT r) ≤ 20 * blR r
  | .mk nb kd x t li => by
    have := toTL_lg li
    rw [toT, lgR, blR]
    omega
theorem toTL_lg : ∀ rs : List Ri, lgL (toTL rs) ≤ 20 * blL rs
  | [] => by rw [toTL, lgL]; omega
  | r :: rs => by
    have h1 := toT_lg r
    have h2 := toTL_lg rs
    rw [toTL, lgL, blL]
    omega
end
theorem HasRi.rk_wf {W : World} {v : Value} {rs : List Ri} (h : HasRi W v rs) : fkL rs = 0 → WfL (toTL rs) := by
  induction h with
  | nil a c => exact fun _ => .nil
  | row g off n c rs us hn hm hg hw hc hi ih =>
    intro hf
    refine .mk _ (fun i nb kd x tx li ht => ?_) (fun i t ht => ?_)
    · obtain ⟨⟨nb', kd', x', tx', li'⟩, hr, e⟩ := toTL_get rs i _ ht
      have h1 := (fk_right (fk_at hf hr) (hw i nb' kd' x' tx' li' hr).2.2).1
      rw [toT] at e
      injection e with e1 e2 e3 e4 e5
      subst e1 e2 e3 e4 e5
      exact h1
    · obtain ⟨⟨nb', kd', x', tx', li'⟩, hr, e⟩ := toTL_get rs i _ ht
      have h1 := (fk_right (fk_at hf hr) (hw i nb' kd' x' tx' li' hr).2.2).2.1
      rw [e, toT]
      exact ih i _ hr h1
theorem enc_bound {W : World} {v : Value} {rs : List Ri} (h : HasRi W v rs) (hb : blL rs ≤ 1048576) (hf : fkL rs = 0) : (encL (toTL rs)).length ≤ 1099511627000 := by
  have h1 := toTL_lg rs
  have h2 := enc_lg _ (toTL rs) (Nat.le_refl _) (h.rk_wf hf) (by omega)
  omega
/-- What the reference's Join says. -/
def XjnA (w0 : World) (rs : List Ri) (e : Ending) (W' : World) : Prop := ((jc rs = 0 ∧ ∃ a c, e = .returned (.tuple #[.slice a (encL (toTL rs)).length c, .int .i64 0]) ∧ HasB W' (.slice a (encL (toTL rs)).length c) (byB (encL (toTL rs)))) ∨ (jc rs ≠ 0 ∧ e = .returned (.tuple #[.slice none 0 0, .int .i64 ((jc rs : Nat) : Int)]))) ∧ Below w0.heap.size w0 W'
set_option maxRecDepth 100000 in
set_option maxHeartbeats 8000000 in
theorem xjoin_ri {W : World} {v : Value} {rs : List Ri} (h : HasRi W v rs) (hb : blL rs ≤ 1048576) (w0 : World) (hB0 : Below W.heap.size W w0) : Calls Tryd.prog 9 #[v] w0 (XjnA w0 rs) := by
  have Hcnt := hide (xcount_ri h hb w0 hB0)
  have Hwr := hide (xwrong_ri h)
  have HB0 := hide hB0
  have hk := kcL_bl rs
  have hk2 : ¬ 1048576 < kcL rs := by omega
  have e1 : jc rs = if 63 < dpL rs then 4 else if fkL rs ≠ 0 then fkL rs else if 1048576 < (encL (toTL rs)).length then 5 else 0 := by
    unfold jc
    rw [if_neg hk2, dk_dpL]
    by_cases q : 63 < dpL rs
    · rw [decide_eq_true q, if_pos rfl, if_pos q]
    · rw [decide_eq_false q, if_neg (by decide), if_neg q]
  unfold CntA at Hcnt
  obtain ⟨Kc, hKc⟩ : ∃ Kc, kcL rs = Kc := ⟨_, rfl⟩
  obtain ⟨dd, hdd⟩ : ∃ dd, dpL rs = dd := ⟨_, rfl⟩
  rw [hKc] at hk hk2 Hcnt
  rw [hdd] at hk e1 Hcnt
  have q1 : decide ((1048576 : Int) < (Kc : Int)) = false := decide_eq_false (by omega)
  by_cases h4 : 63 < dd
  · rw [if_pos h4] at e1
    have q2 : decide ((63 : Int) < (dd : Int)) = true := decide_eq_true (by omega)
    unfold XjnA
    rw [e1]
    clear h hb hB0 hKc hdd hk e1
    go_enter Tryd.func9, Tryd.ntmps9
    go_wp2_with fail
    refine (unhide Hcnt).mono ?_
    rintro e w1 ⟨rfl, hb1⟩
    go_wp2
    go_ret2
    exact ⟨.inr ⟨by decide, rfl⟩, hb1⟩
  · rw [if_neg h4] at e1
    have q2 : decide ((63 : Int) < (dd : Int)) = false := decide_eq_false (by omega)
    by_cases hf : fkL rs = 0
    · rw [if_neg (by simpa using hf)] at e1
      have hel := enc_bound h hb hf
      have Hj := hide (xjoined_ri h hf)
      rw [hf] at Hwr
      obtain ⟨ys, hys⟩ : ∃ ys, encL (toTL rs) = ys := ⟨_, rfl⟩
      unfold XjnA
      rw [hys] at e1 hel Hj ⊢
      have He1 := hide e1
      clear h hb hB0 hKc hdd hk e1 hys
      go_enter Tryd.func9, Tryd.ntmps9
      go_wp2_with fail
      refine (unhide Hcnt).mono ?_
      rintro e w1 ⟨rfl, hb1⟩
      have Hb1 := hide hb1
      have HBW1 := hide ((unhide HB0).trans (hb1.mono (unhide HB0).size))
      clear hb1 Hcnt
      go_wp2_with fail
      refine (unhide Hwr w1 (unhide HBW1)).mono ?_
      rintro e w2 ⟨rfl, hb2⟩
      have Hb2 := hide ((unhide Hb1).trans (hb2.mono (unhide Hb1).size))
      have HBW2 := hide ((unhide HBW1).trans (hb2.mono (unhide HBW1).size))
      have hz2 := (unhide Hb2).size
      clear hb2 Hwr Hb1 HBW1
      have Hj2 := hide (unhide Hj w2.heap.size w2 (.slice none 0 0) [] (unhide HBW2) (unhide HBW2).size (bytes_nil _ _) (Nat.le_refl _) (by simp; omega))
      clear Hj
      go_wp2_with fail
      refine (unhide Hj2).mono ?_
      rintro e w3 ⟨u', cs, rfl, hB3, hE3, hX⟩
      have HB3 := hide ((unhide Hb2).trans (hE3.fresh.mono hz2))
      rw [List.nil_append] at hB3
      obtain ⟨ca, cc, rfl⟩ := row_form hB3
      have HH3 := hide hB3.has
      have hX1 := hX.all
      have hX2 := hX.big
      simp only [List.length_nil, Nat.zero_add] at hX1 hX2
      clear hB3 hE3 hX Hj2
      by_cases h5 : 1048576 < ys.length
      · have q5 : decide ((1048576 : Int) < (cs.length : Int)) = true := decide_eq_true (by have := hX2 h5; omega)
        have q6 : 1048576 < cs.length := hX2 h5
        have e5 : jc rs = 5 := by rw [unhide He1, if_pos h5]
        have E5 := hide e5
        clear hX1 hX2 e5
        go_wp2
        go_ret2
        exact ⟨.inr ⟨by rw [unhide E5]; decide, by rw [unhide E5]; rfl⟩, unhide HB3⟩
      · have e5 : jc rs = 0 := by rw [unhide He1, if_neg h5]
        have hcs := hX1 (by omega)
        subst hcs
        rw [byB_length]
        have q5 : decide ((1048576 : Int) < (ys.length : Int)) = false := decide_eq_false (by omega)
        have q6 : ¬ 1048576 < ys.length := h5
        have HH4 : Hid (HasB w3 (.slice ca ys.length cc) (byB ys)) := by have q := unhide HH3; rw [byB_length] at q; exact q
        have E5 := hide e5
        clear hX1 hX2 e5 HH3
        go_wp2
        go_ret2
        exact ⟨.inl ⟨unhide E5, ca, cc, rfl, unhide HH4⟩, unhide HB3⟩
    · rw [if_pos (by simpa using hf)] at e1
      obtain ⟨D, hD⟩ : ∃ D, fkL rs = D := ⟨_, rfl⟩
      unfold XjnA
      rw [e1]
      rw [hD] at Hwr hf ⊢
      have q5 : ((D : Int) != 0) = true := by simpa using hf
      clear h hb hB0 hKc hdd hk e1 hD
      go_enter Tryd.func9, Tryd.ntmps9
      go_wp2_with fail
      refine (unhide Hcnt).mono ?_
      rintro e w1 ⟨rfl, hb1⟩
      have Hb1 := hide hb1
      have HBW1 := hide ((unhide HB0).trans (hb1.mono (unhide HB0).size))
      clear hb1 Hcnt
      go_wp2_with fail
      refine (unhide Hwr w1 (unhide HBW1)).mono ?_
      rintro e w2 ⟨rfl, hb2⟩
      have Hb2 := hide ((unhide Hb1).trans (hb2.mono (unhide Hb1).size))
      clear hb2 Hwr
      go_wp2
      go_ret2
      exact ⟨.inr ⟨hf, rfl⟩, unhide Hb2⟩
#print axioms xjoin_ri
end Go.Proofs.YtgbadnbhgpnppaaDoor
namespace Go.Proofs.YtgbadnbhgpnppaaDoor
open Go.ChangeShapes Go.WideShapes Go.ChangeAt Go.RowKit
attribute [local go_sem ↓] Go.wp_at_zero Go.wp_at_succ

/-- Lists of records that came in. -/
def HasRL (W : World) (v : Value) (ls : List (List Ri)) : Prop := ∃ a c, v = .slice a ls.length c ∧ ls.length ≤ maxLen ∧ (0 < ls.length → ∃ g off, a = some ⟨g, off, none⟩ ∧ g < W.heap.size ∧ ∀ (i : Nat) (l : List Ri), ls[i]? = some l → ∃ u, W.cell? ⟨g, off + i, none⟩ = some u ∧ HasRi W u l)
theorem bulk_mem {H : Type} {d : DataW H} : ∀ {l : List (DataW H)}, d ∈ l → Rows.uptoBulk d ≤ Rows.uptoBulkAll l
  | [], h => by simp at h
  | e :: l, h => by
    rw [Rows.uptoBulkAll]
    rcases List.mem_cons.1 h with rfl | h
    · omega
    · have := bulk_mem h
      omega
theorem open_hasRL {H : Type} {enc : TypeId × Value → H} {W : World} {base fuel len cap : Nat} {spare : Nat → Bool} {held : Bool} {a : Option Addr} {x : DataW H × List MemPlace}
    (hf : DataW.trod enc Tryd.prog W base spare held fuel 22 (Value.slice a len cap).cells.toList = some x) :
    ∃ ls, HasRL W (.slice a len cap) ls ∧ ∀ l ∈ ls, blL l ≤ Rows.uptoBulk x.1 := by
  rcases Go.Deep.open_slice1 Tryd.underlying22 cellsRecsW hf with ⟨hcs, rfl⟩ | ⟨y, n, c, m, fu, V, D, Pl, hcs, _, hl, hm, hmm, rfl, hx⟩
  · simp [Value.cells] at hcs
    obtain ⟨rfl, rfl, rfl⟩ := hcs
    exact ⟨[], ⟨none, 0, rfl, Nat.zero_le _, fun h => by simp at h⟩, fun l hl => by simp at hl⟩
  · simp [Value.cells] at hcs
    obtain ⟨rfl, rfl, rfl⟩ := hcs
    have hlm : len ≤ m := by rw [hmm]; split <;> omega
    have each : ∀ i, ∃ l, i < len → W.cell? (y.add i) = some (V i) ∧ HasRi W (V i) l ∧ blL l ≤ Rows.uptoBulk (D i) := fun i => by
      by_cases hi : i < len
      · obtain ⟨h1, h2⟩ := hx i (by omega)
        obtain ⟨l, g1, g2⟩ := open_hasRi _ _ _ h2
        exact ⟨l, fun _ => ⟨h1, g1, g2⟩⟩
      · exact ⟨[], fun h => absurd h hi⟩
    obtain ⟨L, hL⟩ := Classical.axiomOfChoice each
    have hlen : ((List.range len).map L).length = len := by simp
    refine ⟨(List.range len).map L, ⟨some y, cap, by rw [hlen], by rw [hlen]; omega, fun hp => ?_⟩, fun l hl' => ?_⟩
    · rw [hlen] at hp
      obtain ⟨b, off, spot⟩ := y
      have hspot : spot = none := by simpa [Addr.add] using World.cell?_spot (hL 0 hp).1
      subst hspot
      refine ⟨b, off, rfl, World.block_lt_of_cell? W _ (hL 0 hp).1, fun i l hl' => ?_⟩
      rw [List.getElem?_map] at hl'
      obtain ⟨j, hj, rfl⟩ := Option.map_eq_some_iff.1 hl'
      obtain ⟨hi, rfl⟩ : i < len ∧ i = j := by
        have hi := (List.getElem?_eq_some_iff.1 hj).1
        rw [List.length_range] at hi
        rw [List.getElem?_range hi] at hj
        exact ⟨hi, Option.some.inj hj⟩
      obtain ⟨h1, h2, _⟩ := hL i hi
      exact ⟨V i, by rw [← Go.WideShapes.add_plain]; exact h1, h2⟩
    · obtain ⟨i, hi, rfl⟩ := List.mem_map.1 hl'
      have h3 := (hL i (List.mem_range.1 hi)).2.2
      have h4 : Rows.uptoBulk (D i) ≤ Rows.uptoBulkAll ((List.range len).map D) := bulk_mem (List.mem_map.2 ⟨i, hi, rfl⟩)
      simp only [Rows.uptoBulk]
      omega
set_option maxRecDepth 100000 in
set_option maxHeartbeats 8000000 in
/-- The law. -/
theorem wireJoins_row {W : World} {v : Value} {ls : List (List Ri)} (hF : HasF W) (h : HasRL W v ls) (hn : ∀ l ∈ ls, blL l ≤ 1048576) :
    Calls Tryd.prog 3 #[v] W fun e W' => e = .returned (.bool true) ∧ Below W.heap.size W W' := by
  have Hkn := hide (known_any (fun _ _ _ _ _ _ _ r h => add_nil r h) hF)
  obtain ⟨a, c, rfl, hmx, h3⟩ := h
  unfold maxLen at hmx
  have H3 := hide h3
  have Hn := hide hn
  clear h3 hF hn
  go_enter Tryd.func3, Tryd.ntmps3
  go_wp2_with fail
  refine (unhide Hkn).mono ?_
  rintro e W1 ⟨rfl, hb1⟩
  have Hb1 := hide hb1
  clear hb1 Hkn
  go_wp2
  go_loopg [3] ls.length (fun gk v3 wr => ∃ i : Nat, v3 = .int .i64 (i : Int) ∧ gk = ls.length - i ∧ i ≤ ls.length ∧ Hid (Below W.heap.size W wr))
  case atStart => exact ⟨0, rfl, rfl, Nat.zero_le _, Hb1⟩
  case round =>
    obtain ⟨i, rfl, hgk, hin, HB⟩ := hrel
    have Hgk := hide hgk
    clear hgk Hb1
    by_cases hlt : i < ls.length
    · obtain ⟨g, off, rfl, hg, hc⟩ := unhide H3 (by omega)
      obtain ⟨rs, hli⟩ : ∃ l, ls[i]? = some l := ⟨_, List.getElem?_eq_getElem hlt⟩
      obtain ⟨u, hu, hRi⟩ := hc i rs hli
      have hbl := unhide Hn rs (List.mem_of_getElem? hli)
      obtain ⟨ua, uc, rfl⟩ := hRi.form
      have Hcl : Hid (∀ w : World, Below W.heap.size W w → w.cell? ⟨g, off + i, none⟩ = some (.slice ua rs.length uc)) := fun w hw => (hw.cell (p := ⟨g, off + i, none⟩) hg).trans hu
      have c1 := unhide Hcl wr (unhide HB)
      have Hlent := hide (lent_any hRi hbl wr (unhide HB))
      have Heb := hide (fun hf => enc_bound hRi hbl hf)
      have Hxj := hide (fun w0 hB => xjoin_ri hRi hbl w0 hB)
      have HRi := hide hRi
      have hi0 : (0 : Int) ≤ (i : Int) := Int.natCast_nonneg _
      have hi1 : (i : Int) < (ls.length : Int) := by omega
      clear hc hli hu hRi hbl
      go_wp2_with fail
      refine (unhide Hlent).mono ?_
      rintro e w2 ⟨lg, rfl, hT2, hb2⟩
      have HB2 := hide ((unhide HB).trans (hb2.mono (unhide HB).size))
      have HT2 := hide hT2
      have Hj := hide (join_rk hT2 (unhide Heb))
      clear hT2 hb2 Hlent c1
      go_wp2_with fail
      refine (unhide Hj).mono ?_
      rintro e w3 ⟨hres, hb3⟩
      have HB3 := hide ((unhide HB2).trans (hb3.mono (unhide HB2).size))
      have HT3 := hide ((unhide HT2).mono (Q := fun _ => True) (fun g hg hp => ⟨trivial, hb3.block g hg⟩) hb3.size)
      have c3 := unhide Hcl w3 (unhide HB3)
      have Hx3 := hide (unhide Hxj w3 (unhide HB3))
      clear hb3 Hj HT2 Hxj
      rcases hres with ⟨hj0, jg, jcp, rfl, hJ3⟩ | ⟨hj0, rfl⟩
      · have HJ3 := hide hJ3.has
        have HH0 := hide hj0
        clear hJ3 hj0
        go_wp2_with fail
        refine (unhide Hx3).mono ?_
        rintro e w4 ⟨hres2, hb4⟩
        rcases hres2 with ⟨_, ca, cc, rfl, hC4⟩ | ⟨hj1, _⟩
        · have HB4 := hide ((unhide HB3).trans (hb4.mono (unhide HB3).size))
          have HT4 := hide ((unhide HT3).mono (Q := fun _ => True) (fun g hg hp => ⟨trivial, hb4.block g hg⟩) hb4.size)
          have Hsame := hide (same_any ((unhide HJ3).up hb4) hC4)
          clear hb4 hC4 Hx3 HT3 HJ3 c3
          go_wp2_with fail
          refine (unhide Hsame).mono ?_
          rintro e w5 ⟨rfl, hb5⟩
          have HB5 := hide ((unhide HB4).trans (hb5.mono (unhide HB4).size))
          have HT5 := hide ((unhide HT4).mono (Q := fun _ => True) (fun g hg hp => ⟨trivial, hb5.block g hg⟩) hb5.size)
          have Hback := hide (back_rk (unhide HT5) _ ((unhide HRi).up (unhide HB5)) w5 (Below.refl _ _))
          have c5 := unhide Hcl w5 (unhide HB5)
          clear hb5 Hsame HT4 HB4
          go_wp2_with fail
          refine (unhide Hback).mono ?_
          rintro e w6 ⟨rfl, hb6⟩
          have HB6 := hide ((unhide HB5).trans (hb6.mono (unhide HB5).size))
          clear hb6 Hback HB5 c5 HT5
          go_wp2
          go_roundg (ls.length - (i + 1))
          case measure => have := unhide Hgk; omega
          case rel => exact ⟨i + 1, by go_num, rfl, by omega, HB6⟩
        · exact absurd (unhide HH0) hj1
      · have HH0 := hide hj0
        obtain ⟨jv, hjv⟩ : ∃ jv, jc rs = jv := ⟨_, rfl⟩
        rw [hjv]
        have Hjv := hide hjv
        clear hj0 hjv
        go_wp2_with fail
        refine (unhide Hx3).mono ?_
        rintro e w4 ⟨hres2, hb4⟩
        rcases hres2 with ⟨hj1, _⟩ | ⟨_, he4⟩
        · exact absurd hj1 (unhide HH0)
        · rw [unhide Hjv] at he4
          subst he4
          have HB4 := hide ((unhide HB3).trans (hb4.mono (unhide HB3).size))
          have HT4 := hide ((unhide HT3).mono (Q := fun _ => True) (fun g hg hp => ⟨trivial, hb4.block g hg⟩) hb4.size)
          have hsm := same_any (W := w4) (bytes_nil 0 w4).has (bytes_nil 0 w4).has
          have Hsame : Hid (Calls Tryd.prog 10 #[.slice none 0 0, .slice none 0 0] w4 fun o W' => o = .returned (.bool true) ∧ Below w4.heap.size w4 W') := hsm
          have q9 : ((jv : Int) != (jv : Int)) = false := by simp
          clear hb4 Hx3 HT3 c3 hsm
          go_wp2_with fail
          refine (unhide Hsame).mono ?_
          rintro e w5 ⟨rfl, hb5⟩
          have HB5 := hide ((unhide HB4).trans (hb5.mono (unhide HB4).size))
          have HT5 := hide ((unhide HT4).mono (Q := fun _ => True) (fun g hg hp => ⟨trivial, hb5.block g hg⟩) hb5.size)
          have Hback := hide (back_rk (unhide HT5) _ ((unhide HRi).up (unhide HB5)) w5 (Below.refl _ _))
          have c5 := unhide Hcl w5 (unhide HB5)
          clear hb5 Hsame HT4 HB4
          go_wp2_with fail
          refine (unhide Hback).mono ?_
          rintro e w6 ⟨rfl, hb6⟩
          have HB6 := hide ((unhide HB5).trans (hb6.mono (unhide HB5).size))
          clear hb6 Hback HB5 c5 HT5
          go_wp2
          go_roundg (ls.length - (i + 1))
          case measure => have := unhide Hgk; omega
          case rel => exact ⟨i + 1, by go_num, rfl, by omega, HB6⟩
    · obtain rfl : i = ls.length := by omega
      go_wp2
      go_ret
      exact ⟨rfl, unhide HB⟩
#print axioms wireJoins_row
end Go.Proofs.YtgbadnbhgpnppaaDoor
