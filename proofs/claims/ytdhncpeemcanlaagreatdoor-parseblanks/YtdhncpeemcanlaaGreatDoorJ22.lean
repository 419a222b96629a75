import Derived.Test.YtdhncpeemcanlaaGreatDoorJ21

namespace Go.Proofs.YtdhncpeemcanlaaGreatDoor
open Go.RowKit Go.Shelf
attribute [local go_sem ↓] Go.wp_at_zero Go.wp_at_succ

set_option maxRecDepth 100000 in
set_option maxHeartbeats 8000000 in
theorem mapOrField_any {lb b : Nat} {V W : World} {s : PSt} (hv : Env V W b) (h : Rd lb W b s) (hs : Sm s) (hn : s.ts.length ≤ 16384) (hp : 0 < s.ts.length) : Calls Tryz.prog 117 #[.pointer (some ⟨b, 0, none⟩)] W (PR lb b W Fd.val (mapOrFieldF s)) := by
  have hlow := h.low
  have hb2 : Below W.heap.size W (W.alloc (.cells #[.int .i64 0, .string ⟨#[]⟩, .string ⟨#[]⟩, .string ⟨#[]⟩, .int .i64 0, .int .i64 0] 47)) := (Below.refl _ _).alloc (Nat.le_refl _) _
  have hM : Mw lb b W.heap.size V W s s (W.alloc (.cells #[.int .i64 0, .string ⟨#[]⟩, .string ⟨#[]⟩, .string ⟨#[]⟩, .int .i64 0, .int .i64 0] 47)) := ⟨h.up hb2, hv.step (below_grown b hb2), heap_new _ _, below_grown b hb2, ⟨hlow.2, rfl, hlow.1⟩, .refl _⟩
  have hc := hide (ahead_any (n := 1) hM.rd (by omega))
  have HM := hide hM
  have HS := hide hs
  clear h hv hs hb2 hM
  have hI : Hid (∀ w, Calls Tryz.prog 86 #[(s.ahead 1).val, .int .i64 4, .string ⟨#[60]⟩] w fun e w' => e = .returned (.bool (pisB (s.ahead 1) 4 ⟨#[60]⟩)) ∧ Below w.heap.size w w') := fun w => is_any w (s.ahead 1) 4 _
  have Hvl : Hid (∃ p q r, (s.ahead 1).val = .agg #[p, q, r]) := ⟨_, _, _, rfl⟩
  obtain ⟨p, q, r, hvl⟩ := unhide Hvl
  rw [hvl] at hI hc
  clear Hvl hvl
  go_enter Tryz.func117, Tryz.ntmps117
  go_wp2_with fail
  refine (unhide hc).mono ?_
  rintro e w1 ⟨rfl, hb1⟩
  have HM1 := hide ((unhide HM).up hb1)
  clear hb1 hc HM
  go_wp2_with fail
  refine (unhide hI w1).mono ?_
  rintro e w2 ⟨rfl, hb2⟩
  have HM2 := hide ((unhide HM1).up hb2)
  clear hb2 hI HM1
  cases hpi : pisB (s.ahead 1) 4 ⟨#[60]⟩ with
  | false =>
    have HEq0 : Hid (mapOrFieldF s = plainF 0 s) := by show _ = _; unfold mapOrFieldF; rw [if_neg (by rw [hpi]; simp)]
    have HC := hide (plain_any 0 (unhide HM2).env (unhide HM2).rd (unhide HS) hn)
    clear hpi
    go_wp2_with fail
    refine (unhide HC).mono ?_
    intro e w3 hw
    rcases hw.split with ⟨y, hr, rfl, hg⟩ | ⟨d2, s3, hr, rfl, h3, hg⟩
    · refine ⟨rfl, ?_⟩
      rw [unhide HEq0, hr]
      exact ⟨rfl, (unhide HM2).gr.trans hg⟩
    · obtain ⟨c9, k9, t9, n9, m9, o9⟩ := d2
      have hlw := (unhide HM2).lw
      have hMd : Mw lb b W.heap.size V W s3 s3 w3 := ⟨h3, (unhide HM2).env.step hg, (hg.block W.heap.size (Array.getElem?_eq_some_iff.1 (unhide HM2).rs).1 (by simp; omega)).trans (unhide HM2).rs, (unhide HM2).gr.trans hg, hlw, .refl _⟩
      have hEq : mapOrFieldF s = .ok (⟨c9, k9, t9, n9, m9, o9⟩, s3) := (unhide HEq0).trans hr
      unfold Fd.val Fd.arr
      simp only
      clear hw hr hg h3 HC HEq0 HM2
      obtain ⟨d1, d2⟩ := hMd.done ⟨c9, k9, t9, n9, m9, o9⟩ hEq
      obtain ⟨⟨v0, v1, v2, v3, v4, v5⟩, vf⟩ := cells6 hMd.rs
      have e0 := vf 0
      have e1 := vf 1
      have e2 := vf 2
      have e3 := vf 3
      have e4 := vf 4
      have e5 := vf 5
      have D1 := hide d1
      have D2 := hide d2
      unfold set6 Fd.val Fd.arr at D1
      unfold set6 at D2
      simp only at D1 D2
      clear d1 d2 vf hEq hMd
      go_wp2
      exact bodyPost_ret (results_cell_row rfl _ _ W.heap.size 47 #[.int .i64 c9, .string k9, .string t9, .string n9, .int .i64 m9, .int .i64 o9] (0, 0) _ rfl (unhide D2) Tryz.underlying47 rfl sizeFld) rfl (unhide D1)
  | true =>
    have HEq0 : Hid (mapOrFieldF s = mapF s) := by show _ = _; unfold mapOrFieldF; rw [if_pos hpi]
    clear hpi
    go_wp2_with fail
    refine (begun_any (unhide HM2).rd).mono ?_
    rintro e w3 ⟨rfl, h3, hg3⟩
    have HM3 : Hid (Mw lb b W.heap.size V W s s.begun w3) := (unhide HM2).step h3 hg3 ⟨0, rfl, rfl, rfl⟩
    clear h3 hg3 HM2
    go_wp2_with fail
    refine (next_any (unhide HM3).rd hp).mono ?_
    intro e w4 hw
    rcases hw.split with ⟨y, hr, rfl, hg⟩ | ⟨_, s4, hr, rfl, h4, hg⟩
    · refine ⟨rfl, ?_⟩
      rw [unhide HEq0]
      unfold mapF
      rw [hr]
      exact ⟨rfl, (unhide HM3).gr.trans hg⟩
    · have HM4 : Hid (Mw lb b W.heap.size V W s s4 w4) := (unhide HM3).step h4 hg ⟨1, by rw [next_ok hr, List.drop_one], next_op hr⟩
      have Hr4 := hide hr
      clear hw hr hg h4 HM3
      go_wp2_with fail
      refine (needSign_any (unhide HM4).rd _).mono ?_
      intro e w5 hw
      rcases hw.split with ⟨y, hr, rfl, hg⟩ | ⟨_, s5, hr, rfl, h5, hg⟩
      · refine ⟨rfl, ?_⟩
        rw [unhide HEq0]
        unfold mapF
        rw [unhide Hr4]
        simp only
        rw [hr]
        exact ⟨rfl, (unhide HM4).gr.trans hg⟩
      · have HM5 := hide ((unhide HM4).step h5 hg (suf_needSign hr))
        have Hr5 := hide hr
        clear hw hr hg h5 HM4
        have hl5 := (unhide HM5).sf.len
        go_wp2_with fail
        refine (dotted_any true (unhide HM5).rd ((unhide HM5).sf.sm (unhide HS)) (by omega)).mono ?_
        intro e w6 hw
        rcases hw.split with ⟨y, hr, rfl, hg⟩ | ⟨kx, s6, hr, rfl, h6, hg⟩
        · refine ⟨rfl, ?_⟩
          rw [unhide HEq0]
          unfold mapF
          rw [unhide Hr4]
          simp only
          rw [unhide Hr5]
          simp only
          rw [hr]
          exact ⟨rfl, (unhide HM5).gr.trans hg⟩
        · have hM6 := (unhide HM5).step h6 hg (suf_dotted hr)
          have Hr6 := hide hr
          have hsz6 : W.heap.size < w6.heap.size := (Array.getElem?_eq_some_iff.1 hM6.rs).1
          have HM7 := hide (hM6.up ((Below.refl _ w6).alloc (Nat.le_refl _) (.cells #[.int .i64 4, .string kx, .string ⟨#[]⟩, .string ⟨#[]⟩, .int .i64 0, .int .i64 0] 47)))
          have hbl := hM6.lw
          have HD7 : Hid ((w6.alloc (.cells #[.int .i64 4, .string kx, .string ⟨#[]⟩, .string ⟨#[]⟩, .int .i64 0, .int .i64 0] 47)).heap[w6.heap.size]? = some (.cells #[.int .i64 4, .string kx, .string ⟨#[]⟩, .string ⟨#[]⟩, .int .i64 0, .int .i64 0] 47 (0, 0))) := heap_new _ _
          clear hw hr hg h6 HM5 hM6 hl5
          go_wp2_with fail
          refine (needSign_any (unhide HM7).rd _).mono ?_
          intro e w8 hw
          rcases hw.split with ⟨y, hr, rfl, hg⟩ | ⟨_, s8, hr, rfl, h8, hg⟩
          · refine ⟨rfl, ?_⟩
            rw [unhide HEq0]
            unfold mapF
            rw [unhide Hr4]
            simp only
            rw [unhide Hr5]
            simp only
            rw [unhide Hr6]
            simp only
            rw [hr]
            exact ⟨rfl, (unhide HM7).gr.trans hg⟩
          · have HM8 := hide ((unhide HM7).step h8 hg (suf_needSign hr))
            have HD8 := hide ((hg.block w6.heap.size (Array.getElem?_eq_some_iff.1 (unhide HD7)).1 (by simp; omega)).trans (unhide HD7))
            have Hr8 := hide hr
            clear hw hr hg h8 HM7 HD7
            have hl8 := (unhide HM8).sf.len
            go_wp2_with fail
            refine (dotted_any true (unhide HM8).rd ((unhide HM8).sf.sm (unhide HS)) (by omega)).mono ?_
            intro e w9 hw
            rcases hw.split with ⟨y, hr, rfl, hg⟩ | ⟨tx, s9, hr, rfl, h9, hg⟩
            · refine ⟨rfl, ?_⟩
              rw [unhide HEq0]
              unfold mapF
              rw [unhide Hr4]
              simp only
              rw [unhide Hr5]
              simp only
              rw [unhide Hr6]
              simp only
              rw [unhide Hr8]
              simp only
              rw [hr]
              exact ⟨rfl, (unhide HM8).gr.trans hg⟩
            · have hM9 := (unhide HM8).step h9 hg (suf_dotted hr)
              have hD9 := (hg.block w6.heap.size (Array.getElem?_eq_some_iff.1 (unhide HD8)).1 (by simp; omega)).trans (unhide HD8)
              obtain ⟨⟨y0, y1, y2, y3, y4, y5⟩, yf⟩ := cells6 hD9
              have f2 := yf 2
              obtain ⟨q1, g1⟩ := set_block (j := 2) hD9 (.string tx)
              simp only [List.set_cons_succ, List.set_cons_zero] at q1
              have HM10 := hide (hM9.new g1 hsz6)
              have HD10 := hide q1
              have Hr9 := hide hr
              clear hw hr hg h9 HM8 HD8 hM9 hD9 yf q1 g1 hl8
              go_wp2_with fail
              refine (needSign_any (unhide HM10).rd _).mono ?_
              intro e w11 hw
              rcases hw.split with ⟨y, hr, rfl, hg⟩ | ⟨_, s11, hr, rfl, h11, hg⟩
              · refine ⟨rfl, ?_⟩
                rw [unhide HEq0]
                unfold mapF
                rw [unhide Hr4]
                simp only
                rw [unhide Hr5]
                simp only
                rw [unhide Hr6]
                simp only
                rw [unhide Hr8]
                simp only
                rw [unhide Hr9]
                simp only
                rw [hr]
                exact ⟨rfl, (unhide HM10).gr.trans hg⟩
              · have hM11 := (unhide HM10).step h11 hg (suf_needSign hr)
                have hD11 := (hg.block w6.heap.size (Array.getElem?_eq_some_iff.1 (unhide HD10)).1 (by simp; omega)).trans (unhide HD10)
                obtain ⟨⟨u0, u1, u2, u3, u4, u5⟩, _⟩ := cells6 hD11
                have HEq1 : Hid (mapOrFieldF s = nnF ⟨4, kx, tx, ⟨#[]⟩, 0, 0⟩ s11) := by
                  show _ = _
                  rw [unhide HEq0]
                  unfold mapF
                  rw [unhide Hr4]
                  simp only
                  rw [unhide Hr5]
                  simp only
                  rw [unhide Hr6]
                  simp only
                  rw [unhide Hr8]
                  simp only
                  rw [unhide Hr9]
                  simp only
                  rw [hr]
                have HM11 := hide hM11
                have HC := hide (nn_any ⟨4, kx, tx, ⟨#[]⟩, 0, 0⟩ hM11.env hM11.rd (hM11.sf.sm (unhide HS)))
                unfold Fd.val Fd.arr at HC
                simp only at HC
                clear hw hr hg h11 HM10 HD10 hM11 hD11 y0 y1 y2 y3 y4 y5 f2
                go_wp2_with fail
                refine (unhide HC).mono ?_
                intro e w12 hw
                rcases hw.split with ⟨y, hr, rfl, hg⟩ | ⟨d2, s12, hr, rfl, h12, hg⟩
                · refine ⟨rfl, ?_⟩
                  rw [unhide HEq1, hr]
                  exact ⟨rfl, (unhide HM11).gr.trans hg⟩
                · obtain ⟨c9, k9, t9, n9, m9, o9⟩ := d2
                  have hlw := (unhide HM11).lw
                  have hMd : Mw lb b W.heap.size V W s12 s12 w12 := ⟨h12, (unhide HM11).env.step hg, (hg.block W.heap.size (Array.getElem?_eq_some_iff.1 (unhide HM11).rs).1 (by simp; omega)).trans (unhide HM11).rs, (unhide HM11).gr.trans hg, hlw, .refl _⟩
                  have hEq : mapOrFieldF s = .ok (⟨c9, k9, t9, n9, m9, o9⟩, s12) := (unhide HEq1).trans hr
                  simp only
                  clear hw hr hg h12 HC HEq1 HEq0 HM11 u0 u1 u2 u3 u4 u5
                  obtain ⟨d1, d2⟩ := hMd.done ⟨c9, k9, t9, n9, m9, o9⟩ hEq
                  obtain ⟨⟨v0, v1, v2, v3, v4, v5⟩, vf⟩ := cells6 hMd.rs
                  have e0 := vf 0
                  have e1 := vf 1
                  have e2 := vf 2
                  have e3 := vf 3
                  have e4 := vf 4
                  have e5 := vf 5
                  have D1 := hide d1
                  have D2 := hide d2
                  unfold set6 Fd.val Fd.arr at D1
                  unfold set6 at D2
                  simp only at D1 D2
                  clear d1 d2 vf hEq hMd
                  go_wp2
                  exact bodyPost_ret (results_cell_row rfl _ _ W.heap.size 47 #[.int .i64 c9, .string k9, .string t9, .string n9, .int .i64 m9, .int .i64 o9] (0, 0) _ rfl (unhide D2) Tryz.underlying47 rfl sizeFld) rfl (unhide D1)
end Go.Proofs.YtdhncpeemcanlaaGreatDoor

namespace Go.Proofs.YtdhncpeemcanlaaGreatDoor
open Go.RowKit Go.Shelf
attribute [local go_sem ↓] Go.wp_at_zero Go.wp_at_succ

noncomputable def importedF (s : PSt) : Except (Int × Int) (ByteArray × PSt) := match pnextF s.begun with
  | .error e => .error e
  | .ok (_, s1) => if (pisB s1.here 1 ⟨#[112, 117, 98, 108, 105, 99]⟩ || pisB s1.here 1 ⟨#[119, 101, 97, 107]⟩) = true then .error (52, s1.here.spot) else match meaningF importF s1 with
    | .error e => .error e
    | .ok (x, s2) => match pneedSignF ⟨#[59]⟩ s2 with
      | .error e => .error e
      | .ok (_, s3) => .ok (x, s3)
set_option maxRecDepth 100000 in
set_option maxHeartbeats 8000000 in
theorem imported_any {lb b : Nat} {V W : World} {s : PSt} (hv : Env V W b) (h : Rd lb W b s) (hp : 0 < s.ts.length) : Calls Tryz.prog 69 #[.pointer (some ⟨b, 0, none⟩)] W (PR lb b W Value.string (importedF s)) := by
  have hc := hide (begun_any h)
  have Hv := hide hv
  clear h hv
  go_enter Tryz.func69, Tryz.ntmps69
  go_wp2_with fail
  refine (unhide hc).mono ?_
  rintro e w1 ⟨rfl, h1, hg1⟩
  have HN := hide (next_any h1 hp)
  have Hg1 := hide hg1
  clear h1 hg1 hc
  go_wp2_with fail
  refine (unhide HN).mono ?_
  intro e w2 hw
  rcases hw.split with ⟨y, hr, rfl, hg⟩ | ⟨_, s2, hr, rfl, h2, hg⟩
  · refine ⟨rfl, ?_⟩
    unfold importedF
    rw [hr]
    exact ⟨rfl, (unhide Hg1).trans hg⟩
  · have Hr2 := hide hr
    have H2 := hide h2
    have HG2 := hide ((unhide Hg1).trans hg)
    clear hw hr hg h2 HN Hg1
    have hI : Hid (∀ w x, Calls Tryz.prog 86 #[s2.here.val, .int .i64 1, .string x] w fun e w' => e = .returned (.bool (pisB s2.here 1 x)) ∧ Below w.heap.size w w') := fun w x => is_any w s2.here 1 x
    have hH := hide (here_any (unhide H2))
    obtain ⟨t, ht⟩ : ∃ t, s2.here = t := ⟨_, rfl⟩
    have Ht := hide ht
    rw [ht] at hI hH
    obtain ⟨kd, sp, tx⟩ := t
    unfold Tk.val at hI hH
    simp only at hI hH
    clear ht
    go_wp2_with fail
    refine (unhide hH).mono ?_
    rintro e w3 ⟨rfl, hb3⟩
    have hb3' := hb3.alloc hb3.size (.cells #[.int .i64 kd, .int .i64 sp, .string tx] 29)
    have hcl : ∀ w, Below (w3.alloc (.cells #[.int .i64 kd, .int .i64 sp, .string tx] 29)).heap.size (w3.alloc (.cells #[.int .i64 kd, .int .i64 sp, .string tx] 29)) w → w.cell? ⟨w3.heap.size, 0, none⟩ = some (.int .i64 kd) ∧ w.cell? ⟨w3.heap.size, 1, none⟩ = some (.int .i64 sp) ∧ w.cell? ⟨w3.heap.size, 2, none⟩ = some (.string tx) := fun w hb => by
      have e := (hb.block w3.heap.size (by rw [World.size_alloc]; omega)).trans (heap_new w3 (.cells #[.int .i64 kd, .int .i64 sp, .string tx] 29))
      refine ⟨?_, ?_, ?_⟩ <;> rw [cell_of_row _ _ _ _ _ _ e] <;> rfl
    have Hcl := hide hcl
    have H3 := hide ((unhide H2).up hb3')
    have HG3 := hide ((unhide HG2).trans (below_grown b hb3'))
    clear hb3 hb3' hcl hH H2
    go_wp2_with fail
    refine (unhide hI _ _).mono ?_
    rintro e w4 ⟨rfl, hb4⟩
    obtain ⟨x0, x1, x2⟩ := unhide Hcl w4 hb4
    have H4 := hide ((unhide H3).up hb4)
    have HG4 := hide ((unhide HG3).trans (below_grown b hb4))
    clear hb4 H3 Hcl
    have hEq : ∀ f1 f2 : Bool, pisB ⟨kd, sp, tx⟩ 1 ⟨#[112, 117, 98, 108, 105, 99]⟩ = f1 → pisB ⟨kd, sp, tx⟩ 1 ⟨#[119, 101, 97, 107]⟩ = f2 → importedF s = (if (f1 || f2) = true then .error (52, s2.here.spot) else match meaningF importF s2 with | .error e => .error e | .ok (x, s3) => match pneedSignF ⟨#[59]⟩ s3 with | .error e => .error e | .ok (_, s4) => .ok (x, s4)) := fun f1 f2 h1 h2 => by
      unfold importedF
      rw [unhide Hr2]
      simp only
      rw [unhide Ht, h1, h2]
    have HEq := hide hEq
    clear hEq
    cases hp1 : pisB ⟨kd, sp, tx⟩ 1 ⟨#[112, 117, 98, 108, 105, 99]⟩ with
    | true =>
      have HE1 := hide (unhide HEq true _ hp1 rfl)
      clear hp1 HEq
      go_wp2_with fail
      refine (refuse_any (unhide H4)).mono ?_
      rintro e w5 ⟨rfl, hb5⟩
      refine ⟨rfl, ?_⟩
      rw [unhide HE1, Bool.true_or, if_pos rfl]
      exact ⟨rfl, (unhide HG4).trans (below_grown b hb5)⟩
    | false =>
      have Hp1 := hide hp1
      clear hp1
      go_wp2_with fail
      refine (unhide hI _ _).mono ?_
      rintro e w5 ⟨rfl, hb5⟩
      have H5 := hide ((unhide H4).up hb5)
      have HG5 := hide ((unhide HG4).trans (below_grown b hb5))
      clear hb5 H4 HG4 x0 x1 x2
      cases hp2 : pisB ⟨kd, sp, tx⟩ 1 ⟨#[119, 101, 97, 107]⟩ with
      | true =>
        have HE1 := hide (unhide HEq false true (unhide Hp1) hp2)
        clear hp2 HEq
        go_wp2_with fail
        refine (refuse_any (unhide H5)).mono ?_
        rintro e w6 ⟨rfl, hb6⟩
        refine ⟨rfl, ?_⟩
        rw [unhide HE1, Bool.or_true, if_pos rfl]
        exact ⟨rfl, (unhide HG5).trans (below_grown b hb6)⟩
      | false =>
        have HE1 : Hid (importedF s = (match meaningF importF s2 with | .error e => .error e | .ok (x, s3) => match pneedSignF ⟨#[59]⟩ s3 with | .error e => .error e | .ok (_, s4) => .ok (x, s4))) := by
          have := unhide HEq false false (unhide Hp1) hp2
          rw [Bool.or_false, if_neg (by simp)] at this
          exact this
        have HM := hide (meaning_import_any ((unhide Hv).step (unhide HG5)) (unhide H5))
        clear hp2 HEq
        go_wp2_with fail
        refine (unhide HM).mono ?_
        intro e w6 hw
        rcases hw.split with ⟨y, hr, rfl, hg⟩ | ⟨x, s6, hr, rfl, h6, hg⟩
        · refine ⟨rfl, ?_⟩
          rw [unhide HE1, hr]
          exact ⟨rfl, (unhide HG5).trans hg⟩
        · have Hr6 := hide hr
          have HG6 := hide ((unhide HG5).trans hg)
          have HN := hide (needSign_any h6 ⟨#[59]⟩)
          clear hw hr hg h6 HM H5
          go_wp2_with fail
          refine (unhide HN).mono ?_
          intro e w7 hw
          rcases hw.split with ⟨y, hr, rfl, hg⟩ | ⟨_, s7, hr, rfl, h7, hg⟩
          · refine ⟨rfl, ?_⟩
            rw [unhide HE1, unhide Hr6]
            simp only
            rw [hr]
            exact ⟨rfl, (unhide HG6).trans hg⟩
          · have HE : Hid (PR lb b W Value.string (importedF s) (.returned (.string x)) w7) := by
              show PR lb b W Value.string (importedF s) _ _
              rw [unhide HE1, unhide Hr6]
              simp only
              rw [hr]
              exact ⟨rfl, h7, (unhide HG6).trans hg⟩
            clear hw hr hg h7
            go_wp2
            go_ret
            exact unhide HE
end Go.Proofs.YtdhncpeemcanlaaGreatDoor
