import Derived.Test.YtaadpiimcaabkaaGreatDoorJ27

namespace Go.Proofs.YtaadpiimcaabkaaGreatDoor
open Go.RowKit
attribute [local go_sem ↓] Go.wp_at_zero Go.wp_at_succ

set_option maxRecDepth 100000 in
set_option maxHeartbeats 2000000 in
theorem inner_any (f : Nat) (ih : MemC f) {W w : World} {B bb dd ll : Nat} {L : List Nat} {n : Nat} (h : Pn W B bb dd L n w) (hP : HasP W) (hF : HasF W) (hd : W.heap.size ≤ dd) (hlb : ll ≠ bb) (hld : ll ≠ dd) (hn : n + 2 + f ≤ 500) (hll : w.heap[ll]? = some (.cells #[fLine bb dd] 85 (0, 0))) {vm ve : Value} {ms : List Ms} {es : List En} {cm ce : List Value} (hm : Rl W vm ms.length cm) (hms : MsL W cm ms) (he : Rl W ve es.length ce) (hes : EsL W ce es)
    (hmo : ∀ m ∈ ms, OkM f m) (heo : ∀ e ∈ es, OkE e) (hl : L.length + (innL f n ms es).length ≤ 1099511627776) :
    Calls Tryz.prog 45 #[.agg (penV bb dd ll), vm, ve] w (PnQ W B bb dd (L ++ innL f n ms es) n w) := by
  obtain ⟨am, cm', rfl, hnm, hvm⟩ := hm
  obtain ⟨ae, ce', rfl, hne, hve⟩ := he
  have hbV : Below w.heap.size w (w.alloc (.cells (penV bb dd ll) 89)) := (Below.refl _ _).alloc (Nat.le_refl _) _
  have k1 := heap_new w (.cells (penV bb dd ll) 89)
  have hlt0 := h.bi.lt.2
  have hdl := (Array.getElem?_eq_some_iff.1 h.dp).1
  obtain ⟨V, hV0⟩ : ∃ V, w.alloc (.cells (penV bb dd ll) 89) = V := ⟨_, rfl⟩
  rw [hV0] at hbV k1
  have HP0 := hide (h.below hbV)
  have HK0 := hide (Kp.refl bb V)
  have HJV := hide k1
  have HLV := hide ((hbV.block _ (Array.getElem?_eq_some_iff.1 hll).1).trans hll)
  have HKV := hide (show Kp bb w V from Kp.below hbV)
  have Hpb := hide (show w.heap.size ≠ bb by omega)
  have Hpd := hide (show w.heap.size ≠ dd by omega)
  have Hvms := hide hvm
  have Hves := hide hve
  have Hms := hide hms
  have Hes := hide hes
  have Hmo := hide hmo
  have Heo := hide heo
  have Hl := hide hl
  have HPP := hide hP
  have HFF := hide hF
  have Hd := hide hd
  have Hlb := hide hlb
  have Hld := hide hld
  have Hn := hide hn
  unfold penV fLine fBlock fWhole at hV0
  unfold penV fLine fBlock fWhole
  clear h hP hF hd hlb hld hn hll hvm hve hms hes hmo heo hl hbV k1 hlt0 hdl
  go_enter Tryz.func45, Tryz.ntmps45
  go_wp2_with fail
  clear hV0
  go_loopg [7, 12] ms.length (fun gk _ v12 wr => ∃ (i : Nat), v12 = .int .i64 (i : Int) ∧ gk = ms.length - i ∧ i ≤ ms.length ∧ Hid (Pn W B bb dd (L ++ (ms.take i).flatMap (fun m => blkL n sMessage m.nm (memL f (n + 1) m))) n wr) ∧ Hid (Kp bb V wr))
  case atStart => exact ⟨0, rfl, rfl, by omega, by rw [List.take_zero, List.flatMap_nil, List.append_nil]; exact HP0, HK0⟩
  case round =>
    obtain ⟨i, rfl, hgk, hi, HP2, HK2⟩ := hrel
    have Hgk := hide hgk
    clear hgk HP0 HK0
    by_cases hlt : i < ms.length
    · obtain ⟨g, o, rfl, hg, hc⟩ := unhide Hvms (by omega)
      have hr := List.getElem?_eq_getElem hlt
      have hmem := List.getElem_mem hlt
      obtain ⟨m, hmm⟩ : ∃ m, ms[i] = m := ⟨_, rfl⟩
      rw [hmm] at hr hmem
      obtain ⟨vf, vo, vm, ve, vr, vg, nm, fs, os, ms2, es2, rs, gs, cm2, ce2, hsl, hV⟩ := (unhide Hms).at i m hr
      have hnm2 : m.nm = nm := by rw [hV.is]; rfl
      obtain ⟨avf, cvf, rfl⟩ : ∃ a c, vf = .slice a fs.length c := (by obtain ⟨a, c, h, _⟩ := hV.hf; exact ⟨a, c, h⟩)
      obtain ⟨avo, cvo, rfl⟩ : ∃ a c, vo = .slice a os.length c := (by obtain ⟨a, c, h, _⟩ := hV.ho; exact ⟨a, c, h⟩)
      obtain ⟨avm, cvm, rfl⟩ : ∃ a c, vm = .slice a ms2.length c := (by obtain ⟨a, c, h, _⟩ := hV.hm; exact ⟨a, c, h⟩)
      obtain ⟨ave, cve, rfl⟩ : ∃ a c, ve = .slice a es2.length c := (by obtain ⟨a, c, h, _⟩ := hV.he; exact ⟨a, c, h⟩)
      obtain ⟨avr, cvr, rfl⟩ : ∃ a c, vr = .slice a rs.length c := (by obtain ⟨a, c, h, _⟩ := hV.hr; exact ⟨a, c, h⟩)
      obtain ⟨avg, cvg, rfl⟩ : ∃ a c, vg = .slice a gs.length c := (by obtain ⟨a, c, h, _⟩ := hV.hg; exact ⟨a, c, h⟩)
      have x0 := ((unhide HP2).bel.cell (p := ⟨g, o + (i * 7 + 0), none⟩) hg).trans (hc _ _ (show cm[i * 7 + 0]? = _ from (by have e := congrArg (fun t => t[0]?) hsl; simpa [List.getElem?_take, List.getElem?_drop] using e)))
      rw [Nat.add_zero] at x0
      have x1 := ((unhide HP2).bel.cell (p := ⟨g, o + (i * 7 + 1), none⟩) hg).trans (hc _ _ (show cm[i * 7 + 1]? = _ from (by have e := congrArg (fun t => t[1]?) hsl; simpa [List.getElem?_take, List.getElem?_drop] using e)))
      rw [← Nat.add_assoc] at x1
      have x2 := ((unhide HP2).bel.cell (p := ⟨g, o + (i * 7 + 2), none⟩) hg).trans (hc _ _ (show cm[i * 7 + 2]? = _ from (by have e := congrArg (fun t => t[2]?) hsl; simpa [List.getElem?_take, List.getElem?_drop] using e)))
      rw [← Nat.add_assoc] at x2
      have x3 := ((unhide HP2).bel.cell (p := ⟨g, o + (i * 7 + 3), none⟩) hg).trans (hc _ _ (show cm[i * 7 + 3]? = _ from (by have e := congrArg (fun t => t[3]?) hsl; simpa [List.getElem?_take, List.getElem?_drop] using e)))
      rw [← Nat.add_assoc] at x3
      have x4 := ((unhide HP2).bel.cell (p := ⟨g, o + (i * 7 + 4), none⟩) hg).trans (hc _ _ (show cm[i * 7 + 4]? = _ from (by have e := congrArg (fun t => t[4]?) hsl; simpa [List.getElem?_take, List.getElem?_drop] using e)))
      rw [← Nat.add_assoc] at x4
      have x5 := ((unhide HP2).bel.cell (p := ⟨g, o + (i * 7 + 5), none⟩) hg).trans (hc _ _ (show cm[i * 7 + 5]? = _ from (by have e := congrArg (fun t => t[5]?) hsl; simpa [List.getElem?_take, List.getElem?_drop] using e)))
      rw [← Nat.add_assoc] at x5
      have x6 := ((unhide HP2).bel.cell (p := ⟨g, o + (i * 7 + 6), none⟩) hg).trans (hc _ _ (show cm[i * 7 + 6]? = _ from (by have e := congrArg (fun t => t[6]?) hsl; simpa [List.getElem?_take, List.getElem?_drop] using e)))
      rw [← Nat.add_assoc] at x6
      have hfl : (ms.take (i + 1)).flatMap (fun m => blkL n sMessage m.nm (memL f (n + 1) m)) = (ms.take i).flatMap (fun m => blkL n sMessage m.nm (memL f (n + 1) m)) ++ (fun m => blkL n sMessage m.nm (memL f (n + 1) m)) m := by
        obtain ⟨hi3, rfl⟩ := List.getElem?_eq_some_iff.1 hr
        rw [List.take_succ_eq_append_getElem hi3, List.flatMap_append]
        simp
      have hlen : (L ++ (ms.take i).flatMap (fun m => blkL n sMessage m.nm (memL f (n + 1) m))).length + (blkL n sMessage m.nm (memL f (n + 1) m)).length ≤ 1099511627776 := by
        have e2 : ms.flatMap (fun m => blkL n sMessage m.nm (memL f (n + 1) m)) = (ms.take (i + 1)).flatMap (fun m => blkL n sMessage m.nm (memL f (n + 1) m)) ++ (ms.drop (i + 1)).flatMap (fun m => blkL n sMessage m.nm (memL f (n + 1) m)) := by rw [← List.flatMap_append, List.take_append_drop]
        have h1 := congrArg List.length e2
        rw [hfl, List.length_append, List.length_append] at h1
        have h2 := unhide Hl
        unfold innL at h2
        rw [List.length_append] at h2
        simp only [List.length_append] at h1 h2 ⊢
        omega
      have hbl : (blkL n sMessage m.nm (memL f (n + 1) m)).length = (lineL n [sMessage, ⟨#[32]⟩, m.nm, ⟨#[32, 123]⟩]).length + (memL f (n + 1) m).length + (lineL n [⟨#[125]⟩]).length := by
        unfold blkL
        rw [List.length_append, List.length_append]
      have hn0 := heap_new wr (.cells #[.string nm, .slice avf fs.length cvf, .slice avo os.length cvo, .slice avm ms2.length cvm, .slice ave es2.length cve, .slice avr rs.length cvr, .slice avg gs.length cvg] 46)
      have hb0 : Below wr.heap.size wr (wr.alloc (.cells #[.string nm, .slice avf fs.length cvf, .slice avo os.length cvo, .slice avm ms2.length cvm, .slice ave es2.length cve, .slice avr rs.length cvr, .slice avg gs.length cvg] 46)) := (Below.refl _ _).alloc (Nat.le_refl _) _
      obtain ⟨X, hX⟩ : ∃ X, wr.alloc (.cells #[.string nm, .slice avf fs.length cvf, .slice avo os.length cvo, .slice avm ms2.length cvm, .slice ave es2.length cve, .slice avr rs.length cvr, .slice avg gs.length cvg] 46) = X := ⟨_, rfl⟩
      rw [hX] at hn0 hb0
      have hpX := (unhide HP2).below hb0
      have hkX := (unhide HK2).trans (Kp.below hb0)
      have HJX := hide (hkX _ _ _ _ (unhide Hpb) (unhide HJV) (by decide))
      have HLX := hide (hkX _ _ _ _ (unhide Hlb) (unhide HLV) (by decide))
      have HNX := hide hn0
      have Hwb := hide (show wr.heap.size ≠ bb by have := (unhide HP2).bi.lt.2; omega)
      have Hwd := hide (show wr.heap.size ≠ dd by have := (Array.getElem?_eq_some_iff.1 (unhide HP2).dp).1; omega)
      have Hlen := hide (hbl ▸ hlen)
      have p1 : X.cell? ⟨w.heap.size, 1, none⟩ = some (.func (.func 84) #[] #[.pointer (some ⟨ll, 0, none⟩), .pointer (some ⟨dd, 0, none⟩)]) := cell_of_row _ _ _ _ _ _ (unhide HJX)
      have n0 : X.cell? ⟨wr.heap.size, 0, none⟩ = some (.string nm) := cell_of_row _ _ _ _ _ _ hn0
      have Hbl := hide (block_any (I := (memL f (n + 1) m)) (a := sMessage) (b := m.nm) (f := ⟨88, #[], #[.pointer (some ⟨w.heap.size, 0, none⟩), .pointer (some ⟨wr.heap.size, 0, none⟩)]⟩) hpX (unhide Hd) (by have := unhide Hn; omega) (unhide HLX) (unhide Hlb) (unhide Hld) (fun vs w => by kernel_rfl) (by have := unhide Hlen; omega) (fun w3 hp3 hq3 => (inner_1 (hq3 _ _ _ _ (unhide Hpb) (unhide Hpd) (unhide HJX) (by decide)) (hq3 _ _ _ _ (unhide Hwb) (unhide Hwd) (unhide HNX) (by decide)) (by
          have := ih W w3 B bb dd ll _ (n + 1) m _ _ _ _ _ _ nm fs os ms2 es2 rs gs cm2 ce2 hp3 (unhide HPP) (unhide HFF) (unhide Hd) (unhide Hlb) (unhide Hld) (by have := unhide Hn; omega) (hq3 _ _ _ _ (unhide Hlb) (unhide Hld) (unhide HLX) (by decide)) hV (unhide Hmo m hmem) (by have := unhide Hlen; rw [List.length_append]; omega)
          exact this))))
      have Hfl := hide hfl
      have Hbk : Hid ((fun m => blkL n sMessage m.nm (memL f (n + 1) m)) m = lineL n [⟨#[109, 101, 115, 115, 97, 103, 101]⟩, ⟨#[32]⟩, nm, ⟨#[32, 123]⟩] ++ (memL f (n + 1) m) ++ lineL n [⟨#[125]⟩]) := by show blkL n sMessage m.nm (memL f (n + 1) m) = _; unfold blkL sMessage; rw [hnm2]
      have HKX := hide hkX
      have i0 : (0 : Int) ≤ (i : Int) := Int.natCast_nonneg _
      have i1 : (i : Int) < (ms.length : Int) := by omega
      have Hlt := hide hlt
      unfold Fv.val sMessage at Hbl
      simp only at Hbl
      rw [hnm2] at Hbl
      clear hc hr hmem hmm hfl hlen hbl hn0 hb0 hpX hkX hlt hsl hV hnm2
      go_wp2_with fail
      refine (unhide Hbl).mono ?_
      rintro e' w5 ⟨rfl, hp5, hk5⟩
      have HP5 := hide (show Pn W B bb dd (L ++ (ms.take (i + 1)).flatMap (fun m => blkL n sMessage m.nm (memL f (n + 1) m))) n w5 by rw [unhide Hfl, unhide Hbk, ← List.append_assoc]; exact hp5)
      have HK5 := hide ((unhide HKX).trans hk5)
      clear hp5 hk5 Hbl HP2 HK2 HKX Hfl Hbk
      go_wp2
      go_roundg (ms.length - (i + 1))
      case measure => have := unhide Hgk; have := unhide Hlt; omega
      case rel => exact ⟨i + 1, by go_num, rfl, unhide Hlt, HP5, HK5⟩
    · obtain rfl : i = ms.length := by omega
      have hP9 := unhide HP2
      rw [List.take_length] at hP9
      have HPe := hide hP9
      have HKe := hide (unhide HK2)
      clear hP9 HP2 HK2 Hgk
      go_wp2
      go_loopg [9, 25] es.length (fun gk _ v25 wr => ∃ (i : Nat), v25 = .int .i64 (i : Int) ∧ gk = es.length - i ∧ i ≤ es.length ∧ Hid (Pn W B bb dd (L ++ ms.flatMap (fun m => blkL n sMessage m.nm (memL f (n + 1) m)) ++ (es.take i).flatMap (enL n)) n wr) ∧ Hid (Kp bb V wr))
      case atStart => exact ⟨0, rfl, rfl, by omega, by rw [List.take_zero, List.flatMap_nil, List.append_nil]; exact HPe, HKe⟩
      case round =>
        obtain ⟨i, rfl, hgk, hi, HP2, HK2⟩ := hrel
        have Hgk := hide hgk
        clear hgk HPe HKe
        by_cases hlt : i < es.length
        · obtain ⟨g, o, rfl, hg, hc⟩ := unhide Hves (by omega)
          have hr := List.getElem?_eq_getElem hlt
          have hmem := List.getElem_mem hlt
          obtain ⟨m, hmm⟩ : ∃ m, es[i] = m := ⟨_, rfl⟩
          rw [hmm] at hr hmem
          obtain ⟨vv, vr, vg, hsl, hvv, hvr, hvg⟩ := (unhide Hes).at i m hr
          obtain ⟨avv, cvv, rfl⟩ : ∃ a c, vv = .slice a m.vals.length c := (by obtain ⟨a, c, h, _⟩ := hvv; exact ⟨a, c, h⟩)
          obtain ⟨avr, cvr, rfl⟩ : ∃ a c, vr = .slice a m.res.length c := (by obtain ⟨a, c, h, _⟩ := hvr; exact ⟨a, c, h⟩)
          obtain ⟨avg, cvg, rfl⟩ : ∃ a c, vg = .slice a m.gone.length c := (by obtain ⟨a, c, h, _⟩ := hvg; exact ⟨a, c, h⟩)
          have x0 := ((unhide HP2).bel.cell (p := ⟨g, o + (i * 4 + 0), none⟩) hg).trans (hc _ _ (show ce[i * 4 + 0]? = _ from (by have e := congrArg (fun t => t[0]?) hsl; simpa [List.getElem?_take, List.getElem?_drop] using e)))
          rw [Nat.add_zero] at x0
          have x1 := ((unhide HP2).bel.cell (p := ⟨g, o + (i * 4 + 1), none⟩) hg).trans (hc _ _ (show ce[i * 4 + 1]? = _ from (by have e := congrArg (fun t => t[1]?) hsl; simpa [List.getElem?_take, List.getElem?_drop] using e)))
          rw [← Nat.add_assoc] at x1
          have x2 := ((unhide HP2).bel.cell (p := ⟨g, o + (i * 4 + 2), none⟩) hg).trans (hc _ _ (show ce[i * 4 + 2]? = _ from (by have e := congrArg (fun t => t[2]?) hsl; simpa [List.getElem?_take, List.getElem?_drop] using e)))
          rw [← Nat.add_assoc] at x2
          have x3 := ((unhide HP2).bel.cell (p := ⟨g, o + (i * 4 + 3), none⟩) hg).trans (hc _ _ (show ce[i * 4 + 3]? = _ from (by have e := congrArg (fun t => t[3]?) hsl; simpa [List.getElem?_take, List.getElem?_drop] using e)))
          rw [← Nat.add_assoc] at x3
          have hfl : (es.take (i + 1)).flatMap (enL n) = (es.take i).flatMap (enL n) ++ (enL n) m := by
            obtain ⟨hi3, rfl⟩ := List.getElem?_eq_some_iff.1 hr
            rw [List.take_succ_eq_append_getElem hi3, List.flatMap_append]
            simp
          have hlen : (L ++ ms.flatMap (fun m => blkL n sMessage m.nm (memL f (n + 1) m)) ++ (es.take i).flatMap (enL n)).length + (blkL n sEnum m.name (valsL (n + 1) m)).length ≤ 1099511627776 := by
            have e2 : es.flatMap (enL n) = (es.take (i + 1)).flatMap (enL n) ++ (es.drop (i + 1)).flatMap (enL n) := by rw [← List.flatMap_append, List.take_append_drop]
            have h1 := congrArg List.length e2
            rw [hfl, List.length_append, List.length_append] at h1
            have h2 := unhide Hl
            unfold innL at h2
            rw [List.length_append] at h2
            simp only [List.length_append] at h1 h2 ⊢
            have h3 : (enL n m).length = (blkL n sEnum m.name (valsL (n + 1) m)).length := rfl
            omega
          have hbl : (blkL n sEnum m.name (valsL (n + 1) m)).length = (lineL n [sEnum, ⟨#[32]⟩, m.name, ⟨#[32, 123]⟩]).length + (valsL (n + 1) m).length + (lineL n [⟨#[125]⟩]).length := by
            unfold blkL
            rw [List.length_append, List.length_append]
          have hn0 := heap_new wr (.cells #[.string m.name, .slice avv m.vals.length cvv, .slice avr m.res.length cvr, .slice avg m.gone.length cvg] 67)
          have hb0 : Below wr.heap.size wr (wr.alloc (.cells #[.string m.name, .slice avv m.vals.length cvv, .slice avr m.res.length cvr, .slice avg m.gone.length cvg] 67)) := (Below.refl _ _).alloc (Nat.le_refl _) _
          obtain ⟨X, hX⟩ : ∃ X, wr.alloc (.cells #[.string m.name, .slice avv m.vals.length cvv, .slice avr m.res.length cvr, .slice avg m.gone.length cvg] 67) = X := ⟨_, rfl⟩
          rw [hX] at hn0 hb0
          have hpX := (unhide HP2).below hb0
          have hkX := (unhide HK2).trans (Kp.below hb0)
          have HJX := hide (hkX _ _ _ _ (unhide Hpb) (unhide HJV) (by decide))
          have HLX := hide (hkX _ _ _ _ (unhide Hlb) (unhide HLV) (by decide))
          have HNX := hide hn0
          have Hwb := hide (show wr.heap.size ≠ bb by have := (unhide HP2).bi.lt.2; omega)
          have Hwd := hide (show wr.heap.size ≠ dd by have := (Array.getElem?_eq_some_iff.1 (unhide HP2).dp).1; omega)
          have Hlen := hide (hbl ▸ hlen)
          have p1 : X.cell? ⟨w.heap.size, 1, none⟩ = some (.func (.func 84) #[] #[.pointer (some ⟨ll, 0, none⟩), .pointer (some ⟨dd, 0, none⟩)]) := cell_of_row _ _ _ _ _ _ (unhide HJX)
          have n0 : X.cell? ⟨wr.heap.size, 0, none⟩ = some (.string m.name) := cell_of_row _ _ _ _ _ _ hn0
          have Hbl := hide (block_any (I := (valsL (n + 1) m)) (a := sEnum) (b := m.name) (f := ⟨90, #[], #[.pointer (some ⟨w.heap.size, 0, none⟩), .pointer (some ⟨wr.heap.size, 0, none⟩)]⟩) hpX (unhide Hd) (by have := unhide Hn; omega) (unhide HLX) (unhide Hlb) (unhide Hld) (fun vs w => by kernel_rfl) (by have := unhide Hlen; omega) (fun w3 hp3 hq3 => (inner_2 hp3 (unhide HPP) (unhide HFF) hvv hvr hvg (unhide Heo m hmem) (hq3 _ _ _ _ (unhide Hpb) (unhide Hpd) (unhide HJX) (by decide)) (hq3 _ _ _ _ (unhide Hwb) (unhide Hwd) (unhide HNX) (by decide)) (by have := unhide Hlen; rw [List.length_append]; omega))))
          have Hfl := hide hfl
          have Hbk : Hid ((enL n) m = lineL n [⟨#[101, 110, 117, 109]⟩, ⟨#[32]⟩, m.name, ⟨#[32, 123]⟩] ++ (valsL (n + 1) m) ++ lineL n [⟨#[125]⟩]) := rfl
          have HKX := hide hkX
          have i0 : (0 : Int) ≤ (i : Int) := Int.natCast_nonneg _
          have i1 : (i : Int) < (es.length : Int) := by omega
          have Hlt := hide hlt
          unfold Fv.val sEnum at Hbl
          simp only at Hbl
          clear hc hr hmem hmm hfl hlen hbl hn0 hb0 hpX hkX hlt hsl hvv hvr hvg
          go_wp2_with fail
          refine (unhide Hbl).mono ?_
          rintro e' w5 ⟨rfl, hp5, hk5⟩
          have HP5 := hide (show Pn W B bb dd (L ++ ms.flatMap (fun m => blkL n sMessage m.nm (memL f (n + 1) m)) ++ (es.take (i + 1)).flatMap (enL n)) n w5 by rw [unhide Hfl, unhide Hbk, ← List.append_assoc]; exact hp5)
          have HK5 := hide ((unhide HKX).trans hk5)
          clear hp5 hk5 Hbl HP2 HK2 HKX Hfl Hbk
          go_wp2
          go_roundg (es.length - (i + 1))
          case measure => have := unhide Hgk; have := unhide Hlt; omega
          case rel => exact ⟨i + 1, by go_num, rfl, unhide Hlt, HP5, HK5⟩
        · obtain rfl : i = es.length := by omega
          have hP8 := unhide HP2
          rw [List.take_length, List.append_assoc] at hP8
          have HE := hide (show PnQ W B bb dd (L ++ innL f n ms es) n w (.returned (.tuple #[])) wr from ⟨rfl, hP8, (unhide HKV).trans (unhide HK2)⟩)
          clear hP8 HP2 HK2
          go_wp2
          refine bodyPost_ret (results_none rfl _ _ _) rfl ?_
          exact unhide HE
end Go.Proofs.YtaadpiimcaabkaaGreatDoor
