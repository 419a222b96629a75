import Derived.Test.YtphccijiniolcaaDoorWHJ
namespace Go.Proofs.YtphccijiniolcaaDoor
open Go.RowKit
attribute [local go_sem ↓] Go.wp_at_zero Go.wp_at_succ

/-- Where tame's loop stands. -/
structure LTm (w0 wr : World) (nb kd x : Int) (t : ByteArray) (ia : Option Addr) (il ic m : Nat) (ya : Option Addr) (i yc : Nat) (acc : List Rt) : Prop where
  bel : Below w0.heap.size w0 wr
  sz : w0.heap.size + 3 ≤ wr.heap.size
  r : wr.heap[w0.heap.size]? = some (.cells #[.int .i64 nb, .int .i64 kd, .int .i64 x, .string t, .slice ia il ic] 45 (0, 0))
  res : wr.heap[w0.heap.size + 1]? = some (.cells #[.int .i64 0, .int .i64 0, .int .i64 0, .string ⟨#[]⟩, .slice none 0 0] 45 (0, 0))
  c : wr.heap[w0.heap.size + 1 + 1]? = some (.cells #[.int .i64 (m : Int), .int .i64 3, .int .i64 0, .string ⟨#[]⟩, .slice ya i yc] 45 (0, 0))
  len : acc.length = i
  own : OwnL wr (w0.heap.size + 3) (PW (w0.heap.size + 3) (.slice ya i yc)) (.slice ya i yc) acc
theorem LTm.first {w0 : World} {nb kd x : Int} {t : ByteArray} {ia : Option Addr} {il ic m : Nat} : LTm w0 (((w0.alloc (.cells #[.int .i64 nb, .int .i64 kd, .int .i64 x, .string t, .slice ia il ic] 45)).alloc (.cells #[.int .i64 0, .int .i64 0, .int .i64 0, .string ⟨#[]⟩, .slice none 0 0] 45)).alloc (.cells #[.int .i64 (m : Int), .int .i64 3, .int .i64 0, .string ⟨#[]⟩, .slice none 0 0] 45)) nb kd x t ia il ic m none 0 0 [] := by
  refine ⟨below3 _ _ _ _, by simp only [World.size_alloc]; omega, ?_, heap_mid _ _ _ _ _ _, ?_, rfl, OwnL.nil _ _ _⟩
  · have h1 := heap_alloc_new w0 (.cells #[.int .i64 nb, .int .i64 kd, .int .i64 x, .string t, .slice ia il ic] 45)
    refine (Below.heap_alloc _ _ _ (by simp only [World.size_alloc]; omega)).trans ((Below.heap_alloc _ _ _ (by simp only [World.size_alloc]; omega)).trans h1)
  · have e : ((w0.alloc (.cells #[.int .i64 nb, .int .i64 kd, .int .i64 x, .string t, .slice ia il ic] 45)).alloc (.cells #[.int .i64 0, .int .i64 0, .int .i64 0, .string ⟨#[]⟩, .slice none 0 0] 45)).heap.size = w0.heap.size + 1 + 1 := by simp only [World.size_alloc]
    rw [← e]
    exact heap_alloc_new _ _
theorem LTm.far {w0 wr w3 w4 : World} {nb kd x : Int} {t : ByteArray} {ia : Option Addr} {il ic m : Nat} {ya : Option Addr} {i yc : Nat} {acc : List Rt} (h : LTm w0 wr nb kd x t ia il ic m ya i yc acc) (hB : Below wr.heap.size wr w3) (hg : w3.grownBy w4 (Value.slice ya i yc).ownBlock) : ∀ q, q < w0.heap.size + 3 → w4.heap[q]? = wr.heap[q]? := fun q hq => by
  have hz := h.sz
  refine (hg.block q (Nat.lt_of_lt_of_le (by omega) hB.size) (fun e => ?_)).trans (hB.block q (by omega))
  obtain ⟨us, _, hr, _⟩ := h.own
  have := (hr.lt q e.symm).1
  omega
/-- A record more. -/
theorem LTm.step {w0 wr w3 w4 : World} {nb kd x : Int} {t : ByteArray} {ia : Option Addr} {il ic m : Nat} {ya : Option Addr} {i yc : Nat} {acc : List Rt} {us : List Value} {tn tk : Nat} {tx : Int} {tt : ByteArray} {tl : List Rt} {y : Value} {za : Option Addr} {zc : Nat}
    (h : LTm w0 wr nb kd x t ia il ic m ya i yc acc) (l1 : acc.length = us.length) (l2 : wr.ownsRow (w0.heap.size + 3) 45 5 (.slice ya i yc) acc.length (rowC acc us)) (l3 : ∀ (i' : Nat) (t : Rt) (z : Value), acc[i']? = some t → us[i']? = some z → HasRt wr (PW (w0.heap.size + 3) (.slice ya i yc)) z t.inner)
    (hB : Below wr.heap.size wr w3) (hli : HasRt w3 (fun g => wr.heap.size ≤ g) y tl)
    (hown : w4.ownsRow (w0.heap.size + 3) 45 5 (.slice za (i + 1) zc) (i + 1) (rowC acc us ++ [.int .i64 (tn : Int), .int .i64 (tk : Int), .int .i64 tx, .string tt, y])) (hg : w3.grownBy w4 (Value.slice ya i yc).ownBlock) (hat : (Value.slice za (i + 1) zc).ownBlock = (Value.slice ya i yc).ownBlock ∨ (Value.slice za (i + 1) zc).ownBlock = some w3.heap.size) :
    LTm w0 (w4.setCell ⟨w0.heap.size + 1 + 1, 4, none⟩ (.slice za (i + 1) zc)) nb kd x t ia il ic m za (i + 1) zc (acc ++ [.mk tn tk tx tt tl]) := by
  have hz := h.sz
  have hfar := h.far hB hg
  have hzz := Nat.le_trans hB.size hg.size
  have hO : OwnL w4 (w0.heap.size + 3) (PW (w0.heap.size + 3) (.slice za (i + 1) zc)) (.slice za (i + 1) zc) (acc ++ [.mk tn tk tx tt tl]) := own_push2 (u := .slice ya i yc) l1 l3 h.len hown hB hg hat (fun q hq => (l2.lt q hq).2) (by omega) hli
  refine ⟨?_, by rw [World.size_setCell]; omega, ?_, ?_, ?_, by rw [List.length_append, h.len]; rfl, ?_⟩
  · refine h.bel.trans ⟨hg.os.trans hB.os, hg.tape.trans hB.tape, hg.output.trans hB.output, by rw [World.size_setCell]; exact hzz, fun q hq => ?_⟩
    rw [heap_setCell_other w4 ⟨w0.heap.size + 1 + 1, 4, none⟩ q _ (by show q ≠ w0.heap.size + 1 + 1; omega)]
    exact hfar q (by omega)
  · rw [heap_setCell_other w4 ⟨w0.heap.size + 1 + 1, 4, none⟩ _ _ (by show w0.heap.size ≠ w0.heap.size + 1 + 1; omega)]
    exact (hfar _ (by omega)).trans h.r
  · rw [heap_setCell_other w4 ⟨w0.heap.size + 1 + 1, 4, none⟩ _ _ (by show w0.heap.size + 1 ≠ w0.heap.size + 1 + 1; omega)]
    exact (hfar _ (by omega)).trans h.res
  · exact heap_setCell_same w4 (w0.heap.size + 1 + 1) 4 _ _ _ ((hfar _ (by omega)).trans h.c)
  · refine hO.mono (fun q _ hq => ?_) (fun g _ hp => ⟨hp, ?_⟩) (by rw [World.size_setCell]; exact Nat.le_refl _)
    · refine heap_setCell_other w4 ⟨w0.heap.size + 1 + 1, 4, none⟩ q _ ?_
      have := (hown.lt q hq).1
      show q ≠ w0.heap.size + 1 + 1
      omega
    · refine heap_setCell_other w4 ⟨w0.heap.size + 1 + 1, 4, none⟩ g _ ?_
      have := hp.1
      show g ≠ w0.heap.size + 1 + 1
      omega
theorem heap_set5 (w : World) (g : Nat) (a b c d e : Value) (q : Nat) (hq : q ≠ g) : (((((w.setCell ⟨g, 0, none⟩ a).setCell ⟨g, 1, none⟩ b).setCell ⟨g, 2, none⟩ c).setCell ⟨g, 3, none⟩ d).setCell ⟨g, 4, none⟩ e).heap[q]? = w.heap[q]? := by
  rw [heap_setCell_other _ ⟨g, 4, none⟩ q _ hq, heap_setCell_other _ ⟨g, 3, none⟩ q _ hq, heap_setCell_other _ ⟨g, 2, none⟩ q _ hq, heap_setCell_other _ ⟨g, 1, none⟩ q _ hq, heap_setCell_other _ ⟨g, 0, none⟩ q _ hq]
theorem LTm.fin {w0 wr : World} {nb kd x : Int} {t : ByteArray} {ia : Option Addr} {il ic m : Nat} {ya : Option Addr} {i yc : Nat} {acc : List Rt} (h : LTm w0 wr nb kd x t ia il ic m ya i yc acc) :
    (((((wr.setCell ⟨w0.heap.size + 1, 0, none⟩ (.int .i64 (m : Int))).setCell ⟨w0.heap.size + 1, 1, none⟩ (.int .i64 3)).setCell ⟨w0.heap.size + 1, 2, none⟩ (.int .i64 0)).setCell ⟨w0.heap.size + 1, 3, none⟩ (.string ⟨#[]⟩)).setCell ⟨w0.heap.size + 1, 4, none⟩ (.slice ya i yc)).heap[w0.heap.size + 1]? = some (.cells #[.int .i64 (m : Int), .int .i64 3, .int .i64 0, .string ⟨#[]⟩, .slice ya i yc] 45 (0, 0)) ∧ HasRt (((((wr.setCell ⟨w0.heap.size + 1, 0, none⟩ (.int .i64 (m : Int))).setCell ⟨w0.heap.size + 1, 1, none⟩ (.int .i64 3)).setCell ⟨w0.heap.size + 1, 2, none⟩ (.int .i64 0)).setCell ⟨w0.heap.size + 1, 3, none⟩ (.string ⟨#[]⟩)).setCell ⟨w0.heap.size + 1, 4, none⟩ (.slice ya i yc)) (fun g => w0.heap.size ≤ g) (.slice ya i yc) acc ∧ Below w0.heap.size w0 (((((wr.setCell ⟨w0.heap.size + 1, 0, none⟩ (.int .i64 (m : Int))).setCell ⟨w0.heap.size + 1, 1, none⟩ (.int .i64 3)).setCell ⟨w0.heap.size + 1, 2, none⟩ (.int .i64 0)).setCell ⟨w0.heap.size + 1, 3, none⟩ (.string ⟨#[]⟩)).setCell ⟨w0.heap.size + 1, 4, none⟩ (.slice ya i yc)) := by
  have hz := h.sz
  have hs : (((((wr.setCell ⟨w0.heap.size + 1, 0, none⟩ (.int .i64 (m : Int))).setCell ⟨w0.heap.size + 1, 1, none⟩ (.int .i64 3)).setCell ⟨w0.heap.size + 1, 2, none⟩ (.int .i64 0)).setCell ⟨w0.heap.size + 1, 3, none⟩ (.string ⟨#[]⟩)).setCell ⟨w0.heap.size + 1, 4, none⟩ (.slice ya i yc)).heap.size = wr.heap.size := by simp only [World.size_setCell]
  refine ⟨?_, ?_, ?_⟩
  · exact heap_setCell_same _ _ 4 _ _ _ (heap_setCell_same _ _ 3 _ _ _ (heap_setCell_same _ _ 2 _ _ _ (heap_setCell_same _ _ 1 _ _ _ (heap_setCell_same _ _ 0 _ _ _ h.res))))
  · refine HasRt.mono (W := wr) (P := fun g => w0.heap.size + 3 ≤ g) (fun g _ hp => ?_) (by omega) (h.own.done (fun g _ hp => hp.1) (fun g _ q2 _ => q2))
    replace hp : w0.heap.size + 3 ≤ g := hp
    exact ⟨by omega, heap_set5 _ _ _ _ _ _ _ g (by omega)⟩
  · refine h.bel.trans ⟨?_, ?_, ?_, by omega, fun q hq => heap_set5 _ _ _ _ _ _ _ q (by omega)⟩
    · rw [(frame_set _ _ _).1, (frame_set _ _ _).1, (frame_set _ _ _).1, (frame_set _ _ _).1, (frame_set _ _ _).1]
    · rw [(frame_set _ _ _).2.1, (frame_set _ _ _).2.1, (frame_set _ _ _).2.1, (frame_set _ _ _).2.1, (frame_set _ _ _).2.1]
    · rw [(frame_set _ _ _).2.2, (frame_set _ _ _).2.2, (frame_set _ _ _).2.2, (frame_set _ _ _).2.2, (frame_set _ _ _).2.2]
/-- tame is right for each record of a list that came in. -/
def TmQ (W : World) (v : Value) (rs : List Ri) : Prop := ∀ (i : Nat) (nb kd x : Int) (t : ByteArray) (li : List Ri) (g off c : Nat) (ia : Option Addr) (ic : Nat), v = .slice (some ⟨g, off, none⟩) rs.length c → rs[i]? = some (.mk nb kd x t li) → W.cell? ⟨g, off + i * 5 + 4, none⟩ = some (.slice ia li.length ic) → ∀ (d : Nat), d ≤ 60 → ∀ w0, Below W.heap.size W w0 →
  Calls Tryd.prog 45 #[.agg #[.int .i64 nb, .int .i64 kd, .int .i64 x, .string t, .slice ia li.length ic], .int .i64 ((d : Int) + 1)] w0 (TmA w0 (tmR d (.mk nb kd x t li)))
set_option maxRecDepth 100000 in
set_option maxHeartbeats 8000000 in
theorem tame4 {W w0 : World} {nb kd x : Int} {t : ByteArray} {li : List Ri} {ia : Option Addr} {ic d : Nat} (hw : RngI nb ∧ RngI kd ∧ RngI x) (hk : kd % 5 = 4) (hli : HasRi W (.slice ia li.length ic) li) (hQ : TmQ W (.slice ia li.length ic) li) (hd : d ≤ 60) (hlen : li.length ≤ 1048576) (hB0 : Below W.heap.size W w0) {ts : List Rt} (hdts : (d = 0 ∧ ts = []) ∨ (∃ e, d = e + 1 ∧ ts = tmL e li)) :
    Calls Tryd.prog 45 #[.agg #[.int .i64 nb, .int .i64 kd, .int .i64 x, .string t, .slice ia li.length ic], .int .i64 ((d : Int) + 1)] w0 (TmA w0 (.mk (numN nb) 3 0 .empty ts)) := by
  obtain ⟨i0, hi0', hz0, hz1, hz2⟩ := info_parts Tryd.infoRec
  have h1 := fun V : World => within_k V hw.2.1
  rw [hk] at h1
  have h2 := fun V : World => within_n V hw.1
  rw [← numN_eq] at h2
  have H1 := hide h1
  have H2 := hide h2
  obtain ⟨m, hm⟩ : ∃ m, numN nb = m := ⟨_, rfl⟩
  rw [hm] at H2 ⊢
  obtain ⟨mo, hmo⟩ : ∃ mo : Int, (d : Int) + 1 = mo := ⟨_, rfl⟩
  rw [hmo]
  have hmb : 1 ≤ mo ∧ mo ≤ 61 := by omega
  have Hts := hide hdts
  have Hmo := hide hmo
  have Hli := hide hli
  have HQ := hide hQ
  have HB0 := hide hB0
  have Hd := hide hd
  have HLT : Hid (LTm w0 (((w0.alloc (.cells #[.int .i64 nb, .int .i64 kd, .int .i64 x, .string t, .slice ia li.length ic] 45)).alloc (.cells #[.int .i64 0, .int .i64 0, .int .i64 0, .string ⟨#[]⟩, .slice none 0 0] 45)).alloc (.cells #[.int .i64 (m : Int), .int .i64 3, .int .i64 0, .string ⟨#[]⟩, .slice none 0 0] 45)) nb kd x t ia li.length ic m none 0 0 (ts.take 0)) := LTm.first
  clear h1 h2 hm hk hw hdts hli hQ hB0 hd hmo
  go_enter Tryd.func45, Tryd.ntmps45
  go_wp2_with fail
  refine (unhide H1 _).mono ?_
  rintro e w1 ⟨rfl, hw1⟩
  subst hw1
  go_wp2_with fail
  refine (unhide H2 _).mono ?_
  rintro e w1 ⟨rfl, hw1⟩
  subst hw1
  go_wp2
  generalize ((w0.alloc (.cells #[.int .i64 nb, .int .i64 kd, .int .i64 x, .string t, .slice ia li.length ic] 45)).alloc (.cells #[.int .i64 0, .int .i64 0, .int .i64 0, .string ⟨#[]⟩, .slice none 0 0] 45)).alloc (.cells #[.int .i64 (m : Int), .int .i64 3, .int .i64 0, .string ⟨#[]⟩, .slice none 0 0] 45) = V at *
  go_loopg [7] ts.length (fun gk v7 wr => ∃ (i : Nat) (ya : Option Addr) (yc : Nat), v7 = .int .i64 (i : Int) ∧ gk = ts.length - i ∧ i ≤ ts.length ∧ Hid (LTm w0 wr nb kd x t ia li.length ic m ya i yc (ts.take i)))
  case atStart => exact ⟨0, none, 0, rfl, rfl, Nat.zero_le _, HLT⟩
  case round =>
    clear HLT
    obtain ⟨i, ya, yc, rfl, hgk, hin, HL⟩ := hrel
    have Hgk := hide hgk
    clear hgk
    obtain ⟨r0, r1, r2, r3, r4, rf0, rf1, rf2, rf3, rf4⟩ := cells5_of (unhide HL).r
    obtain ⟨k0, k1, k2, k3, k4, kf0, kf1, kf2, kf3, kf4⟩ := cells5_of (unhide HL).c
    have hsz := (unhide HL).sz
    obtain ⟨s0, s1, s2, s3, s4, sf0, sf1, sf2, sf3, sf4⟩ := cells5_of (unhide HL).res
    by_cases hlt : i < ts.length
    · obtain ⟨e, he, hte⟩ : ∃ e, d = e + 1 ∧ ts = tmL e li := by
        rcases unhide Hts with ⟨h0, rfl⟩ | h
        · simp at hlt
        · exact h
      have hli' : i < li.length := by rw [hte, tmL_len] at hlt; exact hlt
      obtain ⟨r, hr⟩ : ∃ r, li[i]? = some r := ⟨_, List.getElem?_eq_getElem hli'⟩
      obtain ⟨nb', kd', x', t', lj⟩ := r
      obtain ⟨g, off, c1, ja, jc, ev, hg, hw', q0, q1, q2, q3, q4, hin2⟩ := (unhide Hli).rec' hr
      obtain ⟨rfl, rfl⟩ : ia = some ⟨g, off, none⟩ ∧ ic = c1 := by injection ev with x1 x2 x3; exact ⟨x1, x3⟩
      have hBW : Below W.heap.size W wr := (unhide HB0).trans ((unhide HL).bel.mono (unhide HB0).size)
      have d0 := (hBW.cell (p := ⟨g, off + i * 5, none⟩) hg).trans q0
      have d1 := (hBW.cell (p := ⟨g, off + i * 5 + 1, none⟩) hg).trans q1
      have d2 := (hBW.cell (p := ⟨g, off + i * 5 + 2, none⟩) hg).trans q2
      have d3 := (hBW.cell (p := ⟨g, off + i * 5 + 3, none⟩) hg).trans q3
      have d4 := (hBW.cell (p := ⟨g, off + i * 5 + 4, none⟩) hg).trans q4
      have hcall := unhide HQ i nb' kd' x' t' lj g off ic ja jc rfl hr q4 e (by have := unhide Hd; omega) wr hBW
      have hmo1 : mo - 1 = (e : Int) + 1 := by have := unhide Hmo; omega
      obtain ⟨mp, hmp⟩ : ∃ mp : Int, (e : Int) + 1 = mp := ⟨_, rfl⟩
      rw [hmp] at hcall hmo1
      have hgt : 1 < mo := by have := unhide Hmo; omega
      have htg := tmL_get e li i _ hr
      rw [← hte] at htg
      obtain ⟨q, hq⟩ : ∃ q, tmR e (.mk nb' kd' x' t' lj) = q := ⟨_, rfl⟩
      rw [hq] at hcall htg
      obtain ⟨tn, tk, tx, tt, tl⟩ := q
      have Hnx : Hid (ts.take (i + 1) = ts.take i ++ [.mk tn tk tx tt tl]) := by show _ = _; rw [List.take_add_one, htg]; rfl
      have Hcall := hide hcall
      have hi0 : (0 : Int) ≤ (i : Int) := Int.natCast_nonneg _
      have hi1 : (i : Int) < (li.length : Int) := by omega
      have hmpb : mp ≤ 60 ∧ 0 ≤ mp := by omega
      clear q0 q1 q2 q3 q4 hr ev hin2 hBW hcall hte htg hq hmp he hw' s0 s1 s2 s3 s4 sf0 sf1 sf2 sf3 sf4
      go_wp2_with fail
      refine (unhide Hcall).mono ?_
      rintro e9 w2 ⟨xa, xl, xc, he9, hxl, hT2, hb2⟩
      replace he9 : e9 = .returned (.agg #[.int .i64 (tn : Int), .int .i64 (tk : Int), .int .i64 tx, .string tt, .slice xa xl xc]) := he9
      subst he9
      have hzb := hb2.size
      have hcw : w0.heap.size + 1 + 1 < w2.heap.size := by omega
      have gf4 : ∀ o, (w2.alloc o).cell? ⟨w0.heap.size + 1 + 1, 4, none⟩ = some (.slice ya i yc) := fun o => (World.cell?_alloc_lt _ _ _ hcw).trans ((hb2.cell (p := ⟨w0.heap.size + 1 + 1, 4, none⟩) (by show w0.heap.size + 1 + 1 < wr.heap.size; omega)).trans k4)
      have HY : Hid (Below wr.heap.size wr ((w2.alloc (.cells #[.int .i64 (tn : Int), .int .i64 (tk : Int), .int .i64 tx, .string tt, .slice xa xl xc] 45)).alloc (.cells #[.int .i64 (tn : Int), .int .i64 (tk : Int), .int .i64 tx, .string tt, .slice xa xl xc] 45))) := by
        have a1 := hb2.alloc hb2.size (.cells #[.int .i64 (tn : Int), .int .i64 (tk : Int), .int .i64 tx, .string tt, .slice xa xl xc] 45)
        exact a1.alloc a1.size _
      have HT3 : Hid (HasRt ((w2.alloc (.cells #[.int .i64 (tn : Int), .int .i64 (tk : Int), .int .i64 tx, .string tt, .slice xa xl xc] 45)).alloc (.cells #[.int .i64 (tn : Int), .int .i64 (tk : Int), .int .i64 tx, .string tt, .slice xa xl xc] 45)) (fun g => wr.heap.size ≤ g) (.slice xa xl xc) tl) := hT2.mono (fun g hg hp => ⟨hp, (Below.heap_alloc _ _ g (by rw [World.size_alloc]; omega)).trans (Below.heap_alloc _ _ g hg)⟩) (by simp only [World.size_alloc]; omega)
      obtain ⟨us, l1, l2, l3⟩ := (unhide HL).own
      have Hl2 := hide l2
      have hl2' := l2
      rw [(unhide HL).len] at hl2'
      have HL2 := hide hl2'
      have L1 := hide l1
      have L3 := hide l3
      have O1 : Hid (i + 1 ≤ maxLen) := by show _ ≤ _; unfold maxLen; omega
      have O2 : Hid ((i + 1) * 64 ≤ 140737488355328) := by show _ ≤ _; omega
      have O3 : Hid (w0.heap.size + 3 ≤ ((w2.alloc (.cells #[.int .i64 (tn : Int), .int .i64 (tk : Int), .int .i64 tx, .string tt, .slice xa xl xc] 45)).alloc (.cells #[.int .i64 (tn : Int), .int .i64 (tk : Int), .int .i64 tx, .string tt, .slice xa xl xc] 45)).heap.size) := by show _ ≤ _; simp only [World.size_alloc]; omega
      clear hT2 hb2 Hcall l1 l2 l3 hl2' k0 k1 k2 k3 k4 kf0 kf1 kf2 kf3 kf4 r0 r1 r2 r3 r4 rf0 rf1 rf2 rf3 rf4 d0 d1 d2 d3 d4 hxl
      go_wp2_with (at_builtin; refine wpList_append_own_at _ rfl _ _ 25 rfl (w0.heap.size + 3) 45 i0 (.agg #[.int .i64 0, .int .i64 0, .int .i64 0, .string .empty, .slice none 0 0]) 5 64 Tryd.underlying25 hi0' hz0 hz1 hz2 rfl (by decide) _ _ _ rfl (row_keep (unhide HL2) (fun q hq _ => (unhide HY).block q hq)) ⟨w2.heap.size + 1, 0, none⟩ 1 1 [.int .i64 (tn : Int), .int .i64 (tk : Int), .int .i64 tx, .string tt, .slice xa xl xc] rfl rfl (World.news_of_block (cs := #[.int .i64 (tn : Int), .int .i64 (tk : Int), .int .i64 tx, .string tt, .slice xa xl xc]) (t := 45) (fr := (0, 0)) (by rw [← World.size_alloc w2 (.cells #[.int .i64 (tn : Int), .int .i64 (tk : Int), .int .i64 tx, .string tt, .slice xa xl xc] 45)]; exact heap_alloc_new _ _)) (by simp [Value.oneCell']) (unhide O1) (unhide O2) (unhide O3) ?_; intro v4 w4 hown4 hgrow4 hdrop4 hat4; clear hdrop4; obtain ⟨za, zc, rfl⟩ := row_form hown4; have hC4 := ((unhide HL).far (unhide HY) hgrow4 (w0.heap.size + 1 + 1) (by omega)).trans (unhide HL).c; obtain ⟨y0, y1, y2, y3, y4, yf0, yf1, yf2, yf3, yf4⟩ := cells5_of hC4; have Hown4 := hide hown4; have Hgr4 := hide hgrow4; have Hat4 := hide hat4; clear hown4 hgrow4 hat4 hC4)
      go_roundg (ts.length - (i + 1))
      case measure => have := unhide Hgk; omega
      case rel =>
        refine ⟨i + 1, za, zc, by go_num, rfl, by omega, ?_⟩
        show LTm _ _ _ _ _ _ _ _ _ _ _ _ _ _
        rw [unhide Hnx]
        exact (unhide HL).step (unhide L1) (unhide Hl2) (unhide L3) (unhide HY) (unhide HT3) (unhide Hown4) (unhide Hgr4) (unhide Hat4)
    · obtain rfl : i = ts.length := by omega
      have HE : Hid (LTm w0 wr nb kd x t ia li.length ic m ya ts.length yc ts) := by
        have q := unhide HL
        rw [List.take_length] at q
        exact q
      clear HL hlt
      by_cases hl2 : ts.length < li.length
      · obtain rfl : mo = 1 := by
          have h1 := unhide Hmo
          rcases unhide Hts with ⟨h0, _⟩ | ⟨e, _, hte⟩
          · omega
          · rw [hte, tmL_len] at hl2; omega
        clear hmb
        go_wp2
        obtain ⟨z1, z2, z3⟩ := (unhide HE).fin
        refine bodyPost_ret (results_cell_row rfl _ _ (w0.heap.size + 1) 45 #[.int .i64 (m : Int), .int .i64 3, .int .i64 0, .string ⟨#[]⟩, .slice ya ts.length yc] (0, 0) _ rfl z1 Tryd.underlying45 rfl sizeRec) rfl ?_
        exact ⟨ya, ts.length, yc, rfl, rfl, z2, z3⟩
      · clear hmb
        go_wp2
        obtain ⟨z1, z2, z3⟩ := (unhide HE).fin
        refine bodyPost_ret (results_cell_row rfl _ _ (w0.heap.size + 1) 45 #[.int .i64 (m : Int), .int .i64 3, .int .i64 0, .string ⟨#[]⟩, .slice ya ts.length yc] (0, 0) _ rfl z1 Tryd.underlying45 rfl sizeRec) rfl ?_
        exact ⟨ya, ts.length, yc, rfl, rfl, z2, z3⟩
#print axioms tame4
end Go.Proofs.YtphccijiniolcaaDoor
namespace Go.Proofs.YtphccijiniolcaaDoor
open Go.RowKit
attribute [local go_sem ↓] Go.wp_at_zero Go.wp_at_succ

theorem bl_mem {r : Ri} : ∀ {rs : List Ri} {i : Nat}, rs[i]? = some r → blR r ≤ blL rs
  | [], i, h => by simp at h
  | q :: rs, 0, h => by simp at h; subst h; rw [blL]; omega
  | q :: rs, i + 1, h => by
    rw [List.getElem?_cons_succ] at h
    have := bl_mem h
    rw [blL]
    omega
theorem blR_pos (r : Ri) : 1 ≤ blR r := by cases r; rw [blR]; omega
theorem bl_len : ∀ rs : List Ri, rs.length ≤ blL rs
  | [] => Nat.le_refl _
  | r :: rs => by
    have := bl_len rs
    have := blR_pos r
    rw [blL, List.length_cons]
    omega
theorem k5 (kd : Int) : kd % 5 = 0 ∨ kd % 5 = 1 ∨ kd % 5 = 2 ∨ kd % 5 = 3 ∨ kd % 5 = 4 := by omega
theorem tmR_k {d : Nat} {nb kd x : Int} {t : ByteArray} {li : List Ri} {k : Nat} (hk : kd % 5 = (k : Int)) : ∃ ys, tmR d (.mk nb kd x t li) = tmB (numN nb) k x t ys ∧ ((d = 0 ∧ ys = []) ∨ (∃ e, d = e + 1 ∧ ys = tmL e li)) := by
  have hk' : (kd % 5).toNat = k := by omega
  match d with
  | 0 => exact ⟨[], by rw [tmR, hk'], .inl ⟨rfl, rfl⟩⟩
  | e + 1 => exact ⟨tmL e li, by rw [tmR, hk'], .inr ⟨e, rfl, rfl⟩⟩
/-- tame, for all records that came in. -/
theorem tame_all {W : World} {v : Value} {rs : List Ri} (h : HasRi W v rs) : blL rs ≤ 1048576 → TmQ W v rs := by
  induction h with
  | nil a c =>
    intro _ i nb kd x t li g off c' ia ic _ hr
    simp at hr
  | row g off n c rs us hn hm hg hw hc hi ih =>
    intro hb i nb kd x t li g' off' c' ia ic ev hr hcell d hd w0 hB0
    obtain ⟨rfl, rfl⟩ : g = g' ∧ off = off' := by
      injection ev with e1 _ _
      injection e1 with e1
      injection e1 with e1 e2
      exact ⟨e1, e2⟩
    have hu : us i = .slice ia li.length ic := by
      have q := hc i _ hr 4 (us i) rfl
      rw [hcell] at q
      exact (Option.some.inj q).symm
    have hbr := bl_mem hr
    rw [blR] at hbr
    have hll := bl_len li
    have hQ := ih i _ hr (by show blL li ≤ _; omega)
    have hI := hi i _ hr
    rw [hu] at hQ hI
    have hrg := hw i nb kd x t li hr
    rcases k5 kd with hk | hk | hk | hk | hk
    · obtain ⟨ys, e, _⟩ := tmR_k (d := d) (nb := nb) (x := x) (t := t) (li := li) (k := 0) hk
      rw [e]
      exact tame0 ys hrg hk
    · obtain ⟨ys, e, _⟩ := tmR_k (d := d) (nb := nb) (x := x) (t := t) (li := li) (k := 1) hk
      rw [e]
      exact tame1 ys hrg hk
    · obtain ⟨ys, e, _⟩ := tmR_k (d := d) (nb := nb) (x := x) (t := t) (li := li) (k := 2) hk
      rw [e]
      exact tame2 ys hrg hk
    · obtain ⟨ys, e, _⟩ := tmR_k (d := d) (nb := nb) (x := x) (t := t) (li := li) (k := 3) hk
      rw [e]
      exact tame3 ys hrg hk
    · obtain ⟨ys, e, hy⟩ := tmR_k (d := d) (nb := nb) (x := x) (t := t) (li := li) (k := 4) hk
      rw [e]
      exact tame4 hrg hk hI hQ hd (by omega) hB0 hy
set_option maxRecDepth 100000 in
set_option maxHeartbeats 8000000 in
theorem tames_cap {W : World} {v : Value} {rs : List Ri} (h : HasRi W v rs) (hb : blL rs ≤ 1048576) (w0 : World) (hB0 : Below W.heap.size W w0) :
    Calls Tryd.prog 16 #[v] w0 fun e W' => ∃ a c, e = .returned (.slice a (tmL 59 rs).length c) ∧ HasRt W' (fun g => w0.heap.size ≤ g) (.slice a (tmL 59 rs).length c) (tmL 59 rs) ∧ Below w0.heap.size w0 W' ∧ ((tmL 59 rs).length ≤ c ∧ c ≤ maxLen ∧ ((a = none ∧ c = 0) ∨ ∃ g, a = some ⟨g, 0, none⟩)) := by
  obtain ⟨i0, hi0', hz0, hz1, hz2⟩ := info_parts Tryd.infoRec
  have HQ := hide (tame_all h hb)
  have Hh := hide h
  have HB0 := hide hB0
  obtain ⟨va, vc, rfl⟩ := h.form
  have hlen := bl_len rs
  obtain ⟨ts, hts⟩ : ∃ ts, tmL 59 rs = ts := ⟨_, rfl⟩
  have htl : ts.length = rs.length := by rw [← hts, tmL_len]
  have Hts := hide hts
  have Htl := hide htl
  rw [hts]
  have hn : rs.length ≤ 1048576 := by omega
  have H0 : Hid (OwnL w0 w0.heap.size (PW w0.heap.size (.slice none 0 0)) (.slice none 0 0) (ts.take 0)) := OwnL.nil _ _ _
  clear h hB0 hts htl hb hlen
  go_enter Tryd.func16, Tryd.ntmps16
  go_wp2
  go_loopg [3, 4] rs.length (fun gk v3 v4 wr => ∃ (i : Nat) (ya : Option Addr) (yc : Nat), v3 = .slice ya i yc ∧ v4 = .int .i64 (i : Int) ∧ gk = rs.length - i ∧ i ≤ rs.length ∧ Hid (OwnL wr w0.heap.size (PW w0.heap.size (.slice ya i yc)) (.slice ya i yc) (ts.take i)) ∧ Hid (Below w0.heap.size w0 wr))
  case atStart => exact ⟨0, none, 0, rfl, rfl, rfl, Nat.zero_le _, H0, Below.refl _ _⟩
  case round =>
    obtain ⟨i, ya, yc, rfl, rfl, hgk, hin, HO, HB⟩ := hrel
    have Hgk := hide hgk
    clear hgk H0
    by_cases hlt : i < rs.length
    · obtain ⟨r, hr⟩ : ∃ r, rs[i]? = some r := ⟨_, List.getElem?_eq_getElem hlt⟩
      obtain ⟨nb', kd', x', t', lj⟩ := r
      obtain ⟨g, off, c1, ja, jc, ev, hg, hw', q0, q1, q2, q3, q4, hin2⟩ := (unhide Hh).rec' hr
      obtain ⟨rfl, rfl⟩ : va = some ⟨g, off, none⟩ ∧ vc = c1 := by injection ev with x1 x2 x3; exact ⟨x1, x3⟩
      have hBW : Below W.heap.size W wr := (unhide HB0).trans ((unhide HB).mono (unhide HB0).size)
      have d0 := (hBW.cell (p := ⟨g, off + i * 5, none⟩) hg).trans q0
      have d1 := (hBW.cell (p := ⟨g, off + i * 5 + 1, none⟩) hg).trans q1
      have d2 := (hBW.cell (p := ⟨g, off + i * 5 + 2, none⟩) hg).trans q2
      have d3 := (hBW.cell (p := ⟨g, off + i * 5 + 3, none⟩) hg).trans q3
      have d4 := (hBW.cell (p := ⟨g, off + i * 5 + 4, none⟩) hg).trans q4
      have hcall := unhide HQ i nb' kd' x' t' lj g off vc ja jc rfl hr q4 59 (by decide) wr hBW
      rw [show ((59 : Nat) : Int) + 1 = 60 from rfl] at hcall
      have htg := tmL_get 59 rs i _ hr
      rw [unhide Hts] at htg
      obtain ⟨q, hq⟩ : ∃ q, tmR 59 (.mk nb' kd' x' t' lj) = q := ⟨_, rfl⟩
      rw [hq] at hcall htg
      obtain ⟨tn, tk, tx, tt, tl⟩ := q
      have Hnx : Hid (ts.take (i + 1) = ts.take i ++ [.mk tn tk tx tt tl]) := by show _ = _; rw [List.take_add_one, htg]; rfl
      have Hcall := hide hcall
      have hi0 : (0 : Int) ≤ (i : Int) := Int.natCast_nonneg _
      have hi1 : (i : Int) < (rs.length : Int) := by omega
      clear q0 q1 q2 q3 q4 hr ev hin2 hBW hcall htg hq hw'
      go_wp2_with fail
      refine (unhide Hcall).mono ?_
      rintro e9 w2 ⟨xa, xl, xc, he9, hxl, hT2, hb2⟩
      replace he9 : e9 = .returned (.agg #[.int .i64 (tn : Int), .int .i64 (tk : Int), .int .i64 tx, .string tt, .slice xa xl xc]) := he9
      subst he9
      have hzb := hb2.size
      have hws : w0.heap.size ≤ wr.heap.size := (unhide HB).size
      have HY : Hid (Below wr.heap.size wr ((w2.alloc (.cells #[.int .i64 (tn : Int), .int .i64 (tk : Int), .int .i64 tx, .string tt, .slice xa xl xc] 45)).alloc (.cells #[.int .i64 (tn : Int), .int .i64 (tk : Int), .int .i64 tx, .string tt, .slice xa xl xc] 45))) := by
        have a1 := hb2.alloc hb2.size (.cells #[.int .i64 (tn : Int), .int .i64 (tk : Int), .int .i64 tx, .string tt, .slice xa xl xc] 45)
        exact a1.alloc a1.size _
      have HT3 : Hid (HasRt ((w2.alloc (.cells #[.int .i64 (tn : Int), .int .i64 (tk : Int), .int .i64 tx, .string tt, .slice xa xl xc] 45)).alloc (.cells #[.int .i64 (tn : Int), .int .i64 (tk : Int), .int .i64 tx, .string tt, .slice xa xl xc] 45)) (fun g => wr.heap.size ≤ g) (.slice xa xl xc) tl) := hT2.mono (fun g hg hp => ⟨hp, (Below.heap_alloc _ _ g (by rw [World.size_alloc]; omega)).trans (Below.heap_alloc _ _ g hg)⟩) (by simp only [World.size_alloc]; omega)
      obtain ⟨us, l1, l2, l3⟩ := unhide HO
      have htk : (ts.take i).length = i := by rw [List.length_take, unhide Htl]; omega
      rw [htk] at l2
      have HL2 := hide l2
      have L1 := hide l1
      have L3 := hide l3
      have Htk := hide htk
      have O1 : Hid (i + 1 ≤ maxLen) := by show _ ≤ _; unfold maxLen; omega
      have O2 : Hid ((i + 1) * 64 ≤ 140737488355328) := by show _ ≤ _; omega
      have O3 : Hid (w0.heap.size ≤ ((w2.alloc (.cells #[.int .i64 (tn : Int), .int .i64 (tk : Int), .int .i64 tx, .string tt, .slice xa xl xc] 45)).alloc (.cells #[.int .i64 (tn : Int), .int .i64 (tk : Int), .int .i64 tx, .string tt, .slice xa xl xc] 45)).heap.size) := by show _ ≤ _; simp only [World.size_alloc]; omega
      clear hT2 hb2 Hcall l1 l2 l3 htk d0 d1 d2 d3 d4 hxl HO
      go_wp2_with (at_builtin; refine wpList_append_own_at _ rfl _ _ 25 rfl w0.heap.size 45 i0 (.agg #[.int .i64 0, .int .i64 0, .int .i64 0, .string .empty, .slice none 0 0]) 5 64 Tryd.underlying25 hi0' hz0 hz1 hz2 rfl (by decide) _ _ _ rfl (row_keep (unhide HL2) (fun q hq _ => (unhide HY).block q hq)) ⟨w2.heap.size + 1, 0, none⟩ 1 1 [.int .i64 (tn : Int), .int .i64 (tk : Int), .int .i64 tx, .string tt, .slice xa xl xc] rfl rfl (World.news_of_block (cs := #[.int .i64 (tn : Int), .int .i64 (tk : Int), .int .i64 tx, .string tt, .slice xa xl xc]) (t := 45) (fr := (0, 0)) (by rw [← World.size_alloc w2 (.cells #[.int .i64 (tn : Int), .int .i64 (tk : Int), .int .i64 tx, .string tt, .slice xa xl xc] 45)]; exact heap_alloc_new _ _)) (by simp [Value.oneCell']) (unhide O1) (unhide O2) (unhide O3) ?_; intro v4 w4 hown4 hgrow4 hdrop4 hat4; clear hdrop4; obtain ⟨za, zc, rfl⟩ := row_form hown4; have Hown4 := hide hown4; have Hgr4 := hide hgrow4; have Hat4 := hide hat4; clear hown4 hgrow4 hat4)
      go_roundg (rs.length - (i + 1))
      case measure => have := unhide Hgk; omega
      case rel =>
        have hown := own_push2 (unhide L1) (unhide L3) (unhide Htk) (unhide Hown4) (unhide HY) (unhide Hgr4) (unhide Hat4) (fun q hq => ((unhide HL2).lt q hq).2) hws (unhide HT3)
        rw [← unhide Hnx] at hown
        exact ⟨i + 1, za, zc, rfl, by go_num, rfl, by omega, hown, (unhide HB).trans ⟨(unhide Hgr4).os.trans (unhide HY).os, (unhide Hgr4).tape.trans (unhide HY).tape, (unhide Hgr4).output.trans (unhide HY).output, Nat.le_trans (unhide HY).size (unhide Hgr4).size, fun q hq => ((unhide Hgr4).block q (Nat.lt_of_lt_of_le (Nat.lt_of_lt_of_le hq hws) (unhide HY).size) (fun e => by have := ((unhide HL2).lt q e.symm).1; omega)).trans ((unhide HY).block q (Nat.lt_of_lt_of_le hq hws))⟩⟩
    · obtain rfl : i = rs.length := by omega
      have hO := unhide HO
      rw [List.take_of_length_le (by rw [unhide Htl]; exact Nat.le_refl _)] at hO
      have Hd := hide (hO.done (Q := fun g => w0.heap.size ≤ g) (fun g _ hp => hp.1) (fun g _ q2 _ => q2))
      have Hcap : Hid (rs.length ≤ yc ∧ yc ≤ maxLen ∧ ((ya = none ∧ yc = 0) ∨ ∃ g, ya = some ⟨g, 0, none⟩)) := by
        obtain ⟨us, _, hrow, _⟩ := hO
        obtain ⟨_, ⟨e, h0⟩ | ⟨g, c, cur, e, _, _, h4, h5, _⟩⟩ := hrow
        · injection e with e1 e2 e3
          exact ⟨by omega, by rw [e3]; exact Nat.zero_le _, .inl ⟨e1, e3⟩⟩
        · injection e with e1 e2 e3
          rw [unhide Htl] at h4
          exact ⟨by omega, by omega, .inr ⟨g, e1⟩⟩
      clear hO HO
      go_wp2
      go_ret
      refine ⟨ya, yc, by rw [unhide Htl]; rfl, by rw [unhide Htl]; exact unhide Hd, unhide HB, by rw [unhide Htl]; exact unhide Hcap⟩
theorem tames_any {W : World} {v : Value} {rs : List Ri} (h : HasRi W v rs) (hb : blL rs ≤ 1048576) (w0 : World) (hB0 : Below W.heap.size W w0) :
    Calls Tryd.prog 16 #[v] w0 fun e W' => ∃ a c, e = .returned (.slice a (tmL 59 rs).length c) ∧ HasRt W' (fun g => w0.heap.size ≤ g) (.slice a (tmL 59 rs).length c) (tmL 59 rs) ∧ Below w0.heap.size w0 W' := (tames_cap h hb w0 hB0).mono fun _ _ ⟨a, c, h1, h2, h3, _⟩ => ⟨a, c, h1, h2, h3⟩
#print axioms tames_any
end Go.Proofs.YtphccijiniolcaaDoor
