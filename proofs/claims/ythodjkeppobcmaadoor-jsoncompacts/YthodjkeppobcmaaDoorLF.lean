import Derived.Test.YthodjkeppobcmaaDoorLE
import Derived.Outline

namespace Go.Proofs.YthodjkeppobcmaaDoor
open Go.RowKit Go.Lib
attribute [local go_sem ↓] Go.wp_at_zero Go.wp_at_succ

theorem Tx.other {V : World} {t r : Nat} {s : ByteArray} {a er pl : Nat} {w w' : World} (h : Tx V t s a er pl w) (hg : w.grownBy w' (some r)) (hr : r ≠ t) (hv : V.heap.size ≤ r) : Tx V t s a er pl w' :=
  ⟨(hg.block t (Array.getElem?_eq_some_iff.1 h.blk).1 (by simpa using hr.symm)).trans h.blk, ⟨hg.os.trans h.gr.os, hg.tape.trans h.gr.tape, hg.output.trans h.gr.output, Nat.le_trans h.gr.size hg.size, fun k hk hn => (hg.block k (Nat.lt_of_lt_of_le hk h.gr.size) (by simp; omega)).trans (h.gr.block k hk hn)⟩, h.le⟩
/-- What the loop keeps. -/
structure TL (W2 : World) (v : Value) (xs : List Nat) (w : World) : Prop where
  bl : Below W2.heap.size W2 w
  by_ : Bytes W2.heap.size w v xs
  ok : Byt xs
theorem TL.step {W2 : World} {v v' : Value} {xs ys : List Nat} {w w' : World} (h : TL W2 v xs w) (he : Ext w v w' v') (hy : Bytes W2.heap.size w' v' ys) (ho : Byt ys) : TL W2 v' ys w' := ⟨h.bl.trans (ext_below he h.by_ h.bl.size), hy, ho⟩
theorem own_ne {base b : Nat} {W : World} {v : Value} {xs : List Nat} (h : Bytes base W v xs) (hb : b < base) : v.ownBlock = none ∨ v.ownBlock ≠ some b := by
  cases e : v.ownBlock with
  | none => exact .inl rfl
  | some k =>
    refine .inr (fun q => ?_)
    have := (World.ownsRow.lt h k e).1
    cases q
    omega
set_option maxRecDepth 100000 in
set_option maxHeartbeats 4000000 in
theorem text_any {V : World} {t : Nat} {s : ByteArray} {a pl : Nat} {W : World} (h : Tx V t s a 0 pl W) (hs : s.size ≤ 67108864) (ha : a < s.size) : Calls Tryd.prog 33 #[.pointer (some ⟨t, 0, none⟩)] W (TxR V t s a pl (strE (strN s) a)) := by
  obtain ⟨i0, hi, hz0, hz1, hz2⟩ := info_parts Tryd.infoByte
  have ht := (Array.getElem?_eq_some_iff.1 h.blk).1
  obtain ⟨W2, hW2⟩ : ∃ W2, (W.alloc (.cells #[.int .i64 0, .int .i64 0, .int .i64 0, .string ⟨#[]⟩, .slice none 0 0, .slice none 0 0] 43)).alloc (.cells #[.int .i64 3, .int .i64 (a : Int), .int .i64 0, .string ⟨#[]⟩, .slice none 0 0, .slice none 0 0] 43) = W2 := ⟨_, rfl⟩
  have hb2 : Below W.heap.size W W2 := by rw [← hW2]; exact ((Below.refl _ _).alloc (Nat.le_refl _) _).alloc (by rw [World.size_alloc]; omega) _
  have hs2 : W2.heap.size = W.heap.size + 2 := by rw [← hW2, World.size_alloc, World.size_alloc]
  have hrb : W2.heap[W.heap.size]? = some (.cells (ndC 0 0 0 ⟨#[]⟩ (.slice none 0 0) (.slice none 0 0)) 43 (0, 0)) := by
    rw [← hW2, Below.heap_alloc _ _ _ (by rw [World.size_alloc]; omega)]
    exact heap_new _ _
  have hnb : W2.heap[W.heap.size + 1]? = some (.cells (ndC 3 a 0 ⟨#[]⟩ (.slice none 0 0) (.slice none 0 0)) 43 (0, 0)) := by
    have := heap_new (W.alloc (.cells #[.int .i64 0, .int .i64 0, .int .i64 0, .string ⟨#[]⟩, .slice none 0 0, .slice none 0 0] 43)) (.cells #[.int .i64 3, .int .i64 (a : Int), .int .i64 0, .string ⟨#[]⟩, .slice none 0 0, .slice none 0 0] 43)
    rw [World.size_alloc, hW2] at this
    exact this
  have hvs := h.gr.size
  obtain ⟨r, hr⟩ : ∃ r, W.heap.size = r := ⟨_, rfl⟩
  obtain ⟨n, hn⟩ : ∃ n, r + 1 = n := ⟨_, rfl⟩
  have HX2 := hide (h.up hb2)
  rw [hr] at hrb hnb
  rw [hn] at hnb
  have HRb := hide hrb
  have HNb := hide hnb
  have HLt : Hid (r < W2.heap.size ∧ n < W2.heap.size ∧ t < W2.heap.size) := by show _ ∧ _; omega
  have HNe : Hid (r ≠ t ∧ n ≠ t ∧ V.heap.size ≤ r ∧ n ≠ r ∧ V.heap.size ≤ n) := by show _ ∧ _; omega
  obtain ⟨-, c1, -, -, -⟩ := h.cells
  have HL := hide (strN_len s)
  obtain ⟨R, hR⟩ : ∃ R, strE (strN s) a = R := ⟨_, rfl⟩
  have HR0 := hide hR
  have HT0 : Hid (TL W2 (.slice none 0 0) [] W2) := ⟨Below.refl _ _, bytes_nil _ _, fun _ h => by cases h⟩
  have HW2 := hide hW2
  have Hr0 := hide hr
  have Hn0 := hide hn
  rw [hR]
  clear h hb2 hrb hnb hR hvs hs2 hW2 hr hn
  go_enter Tryd.func33, Tryd.ntmps33
  go_upto_block 0 with fail
  rw [unhide HW2, unhide Hr0, unhide Hn0]
  go_cut [4, 5, 6, 7] (fun v4 v5 _ _ wx => ∃ (k : Nat), v5 = .int .i64 (k : Int) ∧ 1 ≤ k ∧ k ≤ s.size ∧ Hid (Below W2.heap.size W2 wx) ∧ Hid ((R = none ∧ ¬ bt (strN s) k = 34) ∨ (R = some (k + 1) ∧ bt (strN s) k = 34 ∧ ∃ xs, TL W2 v4 xs wx)))
  case first =>
    go_wp2_with fail
    go_loopg [4, 5, 6, 7] (s.size + 1 - (a + 1)) (fun gk v4 v5 _ _ wr => ∃ (k : Nat) (xs : List Nat), v5 = .int .i64 (k : Int) ∧ gk = s.size + 1 - k ∧ 1 ≤ k ∧ k ≤ s.size ∧ xs.length ≤ 4 * k ∧ Hid (TL W2 v4 xs wr) ∧ Hid (R = strS (strN s) k))
    case atStart => exact ⟨a + 1, [], by go_num, rfl, by omega, by omega, by simp, HT0, (unhide HR0).symm⟩
    case round =>
      obtain ⟨k, xs, rfl, hgk, hk1, hk, hxl, HT, Hu⟩ := hrel
      have Hgk := hide hgk
      have k0 : (0 : Int) ≤ (k : Int) := Int.natCast_nonneg _
      obtain ⟨va, vc, rfl⟩ := slice_of (unhide HT).by_
      have cs := ((unhide HX2).up (unhide HT).bl).cells.1
      clear hgk HT0 HR0 c1 HW2 Hr0 Hn0
      by_cases hlt : k < s.size
      · obtain ⟨gx, hx⟩ := bt_str s k hlt
        have i1 : (k : Int) < (s.size : Int) := by omega
        have hll : k < (strN s).length := by rw [unhide HL]; exact hlt
        obtain ⟨x, hxe⟩ : ∃ x, bt (strN s) k = x := ⟨_, rfl⟩
        have Hxe := hide hxe
        rw [hxe] at gx hx
        by_cases h2 : x = 34
        · have Hr : Hid (R = some (k + 1) ∧ bt (strN s) k = 34) := ⟨(unhide Hu).trans (strS_fin hll (by omega)), by omega⟩
          have d2 : ((x : Int) == 34) = true := by simp; omega
          clear hx hxe hll h2 Hu
          go_wp2
          go_meet
          exact ⟨k, rfl, hk1, hk, (unhide HT).bl, .inr ⟨(unhide Hr).1, (unhide Hr).2, xs, unhide HT⟩⟩
        have d2 : ((x : Int) == 34) = false := by simp; omega
        by_cases h1 : x < 32
        · have Hr : Hid (R = none ∧ ¬ bt (strN s) k = 34) := ⟨(unhide Hu).trans (strS_low hll (by omega)), by omega⟩
          have d1 : decide ((x : Int) < 32) = true := by simp; omega
          clear hx hxe h1 hll h2 Hu
          go_wp2
          go_meet
          exact ⟨k, rfl, hk1, hk, (unhide HT).bl, .inl (unhide Hr)⟩
        have d1 : decide ((x : Int) < 32) = false := by simp; omega
        by_cases h3 : x = 92
        · have hs3 := strS_esc hll (hxe.trans h3)
          have d3 : ((x : Int) == 92) = true := by simp; omega
          have HC := hide (tescape_any cs hs (unhide HT).by_ (unhide HT).bl.size (by omega) k hk)
          have hin := escS_in (strN s) k
          have hK : escK (strN s) k = if escS (strN s) k = 0 then 0 else k + escS (strN s) k := rfl
          obtain ⟨z, hz⟩ : ∃ z, escS (strN s) k = z := ⟨_, rfl⟩
          obtain ⟨K, hKe⟩ : ∃ K, escK (strN s) k = K := ⟨_, rfl⟩
          rw [hz] at hs3 hin hK
          rw [hKe] at HC hK
          rw [unhide HL] at hin
          have Hn34 : Hid (¬ bt (strN s) k = 34) := by show ¬ _; omega
          have Hs3 := hide ((unhide Hu).trans hs3)
          have HK := hide hK
          have Hin := hide hin
          clear hx hxe h1 hll h2 h3 hz hs3 Hu hK hKe hin
          go_wp2_with fail
          refine (unhide HC).mono ?_
          rintro e w2 ⟨v2, ys, rfl, hy1, hy2, hy3, hy4⟩
          have HT2 := hide ((unhide HT).step hy4 hy3 (Byt.append (unhide HT).ok hy2))
          have hyl : (xs ++ ys).length ≤ xs.length + 4 := by rw [List.length_append]; omega
          by_cases h4 : z = 0
          · have Hr : Hid (R = none ∧ ¬ bt (strN s) k = 34) := ⟨(unhide Hs3).trans (if_pos h4), unhide Hn34⟩
            have hK0 : K = 0 := (unhide HK).trans (if_pos h4)
            subst hK0
            obtain ⟨va2, vc2, rfl⟩ := slice_of hy3
            obtain ⟨n2, hn2⟩ : ∃ n2, (xs ++ ys).length = n2 := ⟨_, rfl⟩
            rw [hn2]
            clear hy1 hy2 hy3 hy4 HC Hs3 HK Hin hyl hn2 h4
            go_wp2
            go_meet
            exact ⟨k, rfl, hk1, hk, (unhide HT2).bl, .inl (unhide Hr)⟩
          · have Hr : Hid (R = strS (strN s) (k + z)) := (unhide Hs3).trans (if_neg h4)
            have hKz : K = k + z := (unhide HK).trans (if_neg h4)
            have hin := unhide Hin h4
            subst hKz
            obtain ⟨va2, vc2, rfl⟩ := slice_of hy3
            obtain ⟨n2, hn2⟩ : ∃ n2, (xs ++ ys).length = n2 := ⟨_, rfl⟩
            rw [hn2] at HT2 ⊢
            have HL2 : Hid ((xs ++ ys).length ≤ 4 * (k + z)) := by show _ ≤ _; omega
            have Hh4 := hide h4
            have d4 : (((k + z : Nat) : Int) == 0) = false := by simp; omega
            clear hy1 hy2 hy3 hy4 HC Hs3 HK Hin hyl hn2 h4
            go_wp2
            go_roundg (s.size + 1 - (k + z))
            case measure => have := unhide Hgk; have := unhide Hh4; omega
            case rel => exact ⟨k + z, xs ++ ys, by go_num, rfl, by omega, hin, unhide HL2, HT2, Hr⟩
        have d3 : ((x : Int) == 92) = false := by simp; omega
        have Hr : Hid (R = strS (strN s) (k + 1)) := (unhide Hu).trans (strS_more hll (by omega) (by omega) (by omega))
        have o1 : xs.length + 1 ≤ maxLen := by unfold maxLen; omega
        have o2 : (xs.length + 1) * 1 ≤ 140737488355328 := by omega
        have hbz := (unhide HT).bl.size
        have HBy : Hid (Byt [x]) := fun y hy => by simp at hy; omega
        have HY := hide (unhide HT).by_
        clear hx hxe h1 hll h2 h3 Hu
        go_wp2_with (at_builtin; refine wpList_append_own_at _ rfl _ _ 31 rfl W2.heap.size 5 i0 (.int .u8 0) 1 1 Tryd.underlying31 hi hz0 hz1 hz2 rfl (by decide) _ _ _ rfl ((unhide HY).alloc _) ⟨wr.heap.size, 0, none⟩ 1 1 [.int .u8 (x : Int)] rfl rfl (cells_lit _ _ _) (by simp [Value.oneCell']) o1 o2 (by rw [World.size_alloc]; omega) ?_; intro v4 w4 hown4 hgrow4 _ hat4; have HP := hide (putE_lit (ys := [x]) hown4 rfl (by simp [nb]) hgrow4 hat4); clear hown4 hgrow4 hat4)
        go_roundg (s.size + 1 - (k + 1))
        case measure => have := unhide Hgk; omega
        case rel =>
          obtain ⟨v', e', hb', hx'⟩ := unhide HP
          cases e'
          exact ⟨k + 1, xs ++ [x], by go_num, rfl, by omega, by omega, by simp; omega, (unhide HT).step hx' hb' (Byt.append (unhide HT).ok (unhide HBy)), Hr⟩
      · have Hr : Hid (R = none ∧ ¬ bt (strN s) k = 34) := ⟨(unhide Hu).trans (strS_end (by rw [unhide HL]; exact hlt)), by rw [bt_end (by rw [unhide HL]; omega)]; omega⟩
        have i1 : decide ((k : Int) < (s.size : Int)) = false := by simp; omega
        clear Hu
        go_wp2
        go_meet
        exact ⟨k, rfl, hk1, hk, (unhide HT).bl, .inl (unhide Hr)⟩
  case rest =>
  obtain ⟨k, rfl, hk1, hk, HBl, Hd⟩ := hcut
  clear HT0 HR0 c1 HW2 Hr0 Hn0
  have k0 : (0 : Int) ≤ (k : Int) := Int.natCast_nonneg _
  have htx := (unhide HX2).up (unhide HBl)
  obtain ⟨cs, c1, -, -, tf⟩ := htx.cells
  have rb0 := ((unhide HBl).block r (unhide HLt).1).trans (unhide HRb)
  have nb0 := ((unhide HBl).block n (unhide HLt).2.1).trans (unhide HNb)
  have Hrb := hide rb0
  have Hnb := hide nb0
  have Htx := hide htx
  have t1 := tf 1
  clear htx rb0 nb0 tf
  rcases unhide Hd with ⟨hr, h34⟩ | ⟨hr, h34, xs, hT⟩
  · have Hr := hide hr
    have HC := hide (fail_any (unhide Htx).self 125 a)
    have q : (decide ((s.size : Int) ≤ (k : Int)) = true ∧ s.size ≤ k) ∨ (decide ((s.size : Int) ≤ (k : Int)) = false ∧ k < s.size) := by
      by_cases q : k < s.size
      · exact .inr ⟨by simp; omega, q⟩
      · exact .inl ⟨by simp; omega, by omega⟩
    clear hr
    rcases q with ⟨q1, q2⟩ | ⟨q1, q2⟩
    · clear h34
      go_wp2_with fail
      refine (unhide HC).mono ?_
      rintro e w5 ⟨rfl, h5⟩
      simp only [if_true] at h5
      have rb := (h5.gr.block _ (Array.getElem?_eq_some_iff.1 (unhide Hrb)).1 (by simpa using (unhide HNe).1)).trans (unhide Hrb)
      have nb := (h5.gr.block _ (Array.getElem?_eq_some_iff.1 (unhide Hnb)).1 (by simpa using (unhide HNe).2.1)).trans (unhide Hnb)
      unfold ndC at rb nb
      obtain ⟨⟨n0, n1, n2, n3, n4, n5⟩, nf⟩ := cells6 nb
      obtain ⟨⟨r0, r1, r2, r3, r4, r5⟩, rf⟩ := cells6 rb
      have g0 := rf 0
      have g1 := rf 1
      have g2 := rf 2
      have g3 := rf 3
      have g4 := rf 4
      have g5 := rf 5
      obtain ⟨k1, k2⟩ := set6_block rb (.int .i64 3) (.int .i64 (a : Int)) (.int .i64 0) (.string ⟨#[]⟩) (.slice none 0 0) (.slice none 0 0)
      have K1 := hide k1
      have HFin : Hid (Tx V t s a 125 a (set6 w5 r (.int .i64 3) (.int .i64 (a : Int)) (.int .i64 0) (.string ⟨#[]⟩) (.slice none 0 0) (.slice none 0 0))) := (h5.from (unhide Htx).gr).other k2 (unhide HNe).1 (unhide HNe).2.2.1
      unfold set6 at K1 HFin
      clear rf nf rb nb h5 k1 k2 HC
      go_wp2
      refine bodyPost_ret (results_cell_row rfl _ _ r 43 (ndC 3 a 0 ⟨#[]⟩ (.slice none 0 0) (.slice none 0 0)) (0, 0) _ rfl (unhide K1) Tryd.underlying43 rfl sizeNode) rfl ?_
      rw [unhide Hr]
      exact ⟨rfl, unhide HFin⟩
    · obtain ⟨gx, hx⟩ := bt_str s k q2
      have i1 : (k : Int) < (s.size : Int) := by omega
      obtain ⟨x, hxe⟩ : ∃ x, bt (strN s) k = x := ⟨_, rfl⟩
      rw [hxe] at gx h34
      have d2 : ((x : Int) == 34) = false := by simp; omega
      have d2' : ((x : Int) != 34) = true := by simp; omega
      have q3 : ¬ s.size ≤ k := by omega
      clear hx hxe h34
      go_wp2_with fail
      refine (unhide HC).mono ?_
      rintro e w5 ⟨rfl, h5⟩
      simp only [if_true] at h5
      have rb := (h5.gr.block _ (Array.getElem?_eq_some_iff.1 (unhide Hrb)).1 (by simpa using (unhide HNe).1)).trans (unhide Hrb)
      have nb := (h5.gr.block _ (Array.getElem?_eq_some_iff.1 (unhide Hnb)).1 (by simpa using (unhide HNe).2.1)).trans (unhide Hnb)
      unfold ndC at rb nb
      obtain ⟨⟨n0, n1, n2, n3, n4, n5⟩, nf⟩ := cells6 nb
      obtain ⟨⟨r0, r1, r2, r3, r4, r5⟩, rf⟩ := cells6 rb
      have g0 := rf 0
      have g1 := rf 1
      have g2 := rf 2
      have g3 := rf 3
      have g4 := rf 4
      have g5 := rf 5
      obtain ⟨k1, k2⟩ := set6_block rb (.int .i64 3) (.int .i64 (a : Int)) (.int .i64 0) (.string ⟨#[]⟩) (.slice none 0 0) (.slice none 0 0)
      have K1 := hide k1
      have HFin : Hid (Tx V t s a 125 a (set6 w5 r (.int .i64 3) (.int .i64 (a : Int)) (.int .i64 0) (.string ⟨#[]⟩) (.slice none 0 0) (.slice none 0 0))) := (h5.from (unhide Htx).gr).other k2 (unhide HNe).1 (unhide HNe).2.2.1
      unfold set6 at K1 HFin
      clear rf nf rb nb h5 k1 k2 HC
      go_wp2
      refine bodyPost_ret (results_cell_row rfl _ _ r 43 (ndC 3 a 0 ⟨#[]⟩ (.slice none 0 0) (.slice none 0 0)) (0, 0) _ rfl (unhide K1) Tryd.underlying43 rfl sizeNode) rfl ?_
      rw [unhide Hr]
      exact ⟨rfl, unhide HFin⟩
  · have Hr := hide hr
    have hlt : k < s.size := bt_in h34 (by omega)
    obtain ⟨gx, hx⟩ := bt_str s k hlt
    have i1 : (k : Int) < (s.size : Int) := by omega
    have q1 : decide ((s.size : Int) ≤ (k : Int)) = false := by simp; omega
    have q3 : ¬ s.size ≤ k := by omega
    rw [h34] at gx
    obtain ⟨va, vc, rfl⟩ := slice_of hT.by_
    have HT := hide hT
    clear hr hx h34 hT
    have htx := unhide Htx
    have rb := unhide Hrb
    have nb := unhide Hnb
    unfold ndC at rb nb
    obtain ⟨⟨n0, n1, n2, n3, n4, n5⟩, nf⟩ := cells6 nb
    obtain ⟨⟨r0, r1, r2, r3, r4, r5⟩, rf⟩ := cells6 rb
    have g0 := rf 0
    have g1 := rf 1
    have g2 := rf 2
    have g3 := rf 3
    have g4 := rf 4
    have g5 := rf 5
    have f2 := nf 2
    have f3 := nf 3
    have ne1 : ¬ n = t := (unhide HNe).2.1
    have ne2 : ¬ r = t := (unhide HNe).1
    have ne3 : ¬ n = r := (unhide HNe).2.2.2.1
    have h6 := htx.at (k + 1) (by omega)
    have e1 : ((k + 1 : Nat) : Int) = (k : Int) + 1 := by omega
    rw [e1] at h6
    obtain ⟨m1, m2⟩ := set_block (j := 1) htx.blk (.int .i64 ((k : Int) + 1))
    have nb1 := (m2.block n (Array.getElem?_eq_some_iff.1 nb).1 (by simpa using ne1)).trans nb
    have rb1 := (m2.block r (Array.getElem?_eq_some_iff.1 rb).1 (by simpa using ne2)).trans rb
    obtain ⟨m3, m4⟩ := set_block (j := 2) nb1 (.int .i64 ((k : Int) + 1))
    obtain ⟨m5, m6⟩ := set_block (j := 3) m3 (.string (ofN xs))
    have hby := (unhide HT).by_
    have hby1 : Bytes W2.heap.size ((wc.setCell ⟨t, 1, none⟩ (.int .i64 ((k : Int) + 1))).setCell ⟨n, 2, none⟩ (.int .i64 ((k : Int) + 1))) (.slice va xs.length vc) xs := (hby.kept m2 (own_ne hby (unhide HLt).2.2)).kept m4 (own_ne hby (unhide HLt).2.1)
    have hcv := conv_any hby1.has (unhide HT).ok
    have rb2 := (m4.block r (Array.getElem?_eq_some_iff.1 rb1).1 (by simpa using (Ne.symm ne3))).trans rb1
    have rb3 := (m6.block r (Array.getElem?_eq_some_iff.1 rb2).1 (by simpa using (Ne.symm ne3))).trans rb2
    obtain ⟨k1, k2⟩ := set6_block rb3 (.int .i64 3) (.int .i64 (a : Int)) (.int .i64 ((k : Int) + 1)) (.string (ofN xs)) (.slice none 0 0) (.slice none 0 0)
    have K1 := hide k1
    have hfin := ((h6.other m4 ne1 (unhide HNe).2.2.2.2).other m6 ne1 (unhide HNe).2.2.2.2).other k2 ne2 (unhide HNe).2.2.1
    have HFin := hide hfin
    unfold set6 at K1 HFin
    clear rf nf rb nb k1 k2 h6 e1 m1 m2 nb1 rb1 m3 m4 m5 m6 hby hby1 rb2 rb3 hfin htx
    go_wp2
    refine bodyPost_ret (results_cell_row rfl _ _ r 43 #[.int .i64 3, .int .i64 (a : Int), .int .i64 ((k : Int) + 1), .string (ofN xs), .slice none 0 0, .slice none 0 0] (0, 0) _ rfl (unhide K1) Tryd.underlying43 rfl sizeNode) rfl ?_
    rw [unhide Hr]
    exact ⟨⟨_, rfl⟩, unhide HFin⟩
end Go.Proofs.YthodjkeppobcmaaDoor
