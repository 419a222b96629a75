import Derived.Test.YtckpainohfhopaaGreatDoorJ25
import Derived.Test.YtckpainohfhopaaGreatDoorJ00
import Derived.Orders
import Derived.RegionTactic

namespace Go.Proofs.YtckpainohfhopaaGreatDoor
open Go.RowKit Go.Shelf
attribute [local go_sem ↓] Go.wp_at_zero Go.wp_at_succ

set_option maxRecDepth 100000 in
set_option maxHeartbeats 8000000 in
theorem mapOrField_any {lb b : Nat} {V W : World} {s : PSt} (hv : Env V W b) (h : Rd lb W b s) (hs : Sm s) (hn : s.ts.length ≤ 16384) (hp : 0 < s.ts.length) : Calls Tryz.prog 154 #[.pointer (some ⟨b, 0, none⟩)] W (PR lb b W Fd.val (mapOrFieldF s)) := by
  have hlow := h.low
  have hb2 : Below W.heap.size W (W.alloc (.cells #[.int .i64 0, .string ⟨#[]⟩, .string ⟨#[]⟩, .string ⟨#[]⟩, .int .i64 0, .int .i64 0] 45)) := (Below.refl _ _).alloc (Nat.le_refl _) _
  have hM : Mw lb b W.heap.size V W s s (W.alloc (.cells #[.int .i64 0, .string ⟨#[]⟩, .string ⟨#[]⟩, .string ⟨#[]⟩, .int .i64 0, .int .i64 0] 45)) := ⟨h.up hb2, hv.step (below_grown b hb2), heap_new _ _, below_grown b hb2, ⟨hlow.2, rfl, hlow.1⟩, .refl _⟩
  have hc := hide (ahead_any (n := 1) hM.rd (by omega))
  have HM := hide hM
  have HS := hide hs
  clear h hv hs hb2 hM
  have hI : Hid (∀ w, Calls Tryz.prog 119 #[(s.ahead 1).val, .int .i64 4, .string ⟨#[60]⟩] w fun e w' => e = .returned (.bool (pisB (s.ahead 1) 4 ⟨#[60]⟩)) ∧ Below w.heap.size w w') := fun w => is_any w (s.ahead 1) 4 _
  have Hvl : Hid (∃ p q r, (s.ahead 1).val = .agg #[p, q, r]) := ⟨_, _, _, rfl⟩
  obtain ⟨p, q, r, hvl⟩ := unhide Hvl
  rw [hvl] at hI hc
  clear Hvl hvl
  go_enter Tryz.func154, Tryz.ntmps154
  go_wp2_with fail
  refine (unhide hc).mono ?_
  rintro e w1 ⟨rfl, hb1⟩
  have HM1 := hide ((unhide HM).up hb1)
  clear hb1 hc HM
  go_wp2_with fail
  refine (unhide hI w1).mono ?_
  rintro e w2 ⟨rfl, hb2⟩
  have HM2 := hide ((unhide HM1).up hb2)
  clear hb2 hI HM1
  cases hpi : pisB (s.ahead 1) 4 ⟨#[60]⟩ with
  | false =>
    have HEq0 : Hid (mapOrFieldF s = plainF 0 s) := by show _ = _; unfold mapOrFieldF; rw [if_neg (by rw [hpi]; simp)]
    have HC := hide (plain_any 0 (unhide HM2).env (unhide HM2).rd (unhide HS) hn)
    clear hpi
    go_wp2_with fail
    refine (unhide HC).mono ?_
    intro e w3 hw
    rcases hw.split with ⟨y, hr, rfl, hg⟩ | ⟨d2, s3, hr, rfl, h3, hg⟩
    · refine ⟨rfl, ?_⟩
      rw [unhide HEq0, hr]
      exact ⟨rfl, (unhide HM2).gr.trans hg⟩
    · obtain ⟨c9, k9, t9, n9, m9, o9⟩ := d2
      have hlw := (unhide HM2).lw
      have hMd : Mw lb b W.heap.size V W s3 s3 w3 := ⟨h3, (unhide HM2).env.step hg, (hg.block W.heap.size (Array.getElem?_eq_some_iff.1 (unhide HM2).rs).1 (by simp; omega)).trans (unhide HM2).rs, (unhide HM2).gr.trans hg, hlw, .refl _⟩
      have hEq : mapOrFieldF s = .ok (⟨c9, k9, t9, n9, m9, o9⟩, s3) := (unhide HEq0).trans hr
      unfold Fd.val Fd.arr
      simp only
      clear hw hr hg h3 HC HEq0 HM2
      obtain ⟨d1, d2⟩ := hMd.done ⟨c9, k9, t9, n9, m9, o9⟩ hEq
      obtain ⟨⟨v0, v1, v2, v3, v4, v5⟩, vf⟩ := cells6 hMd.rs
      have e0 := vf 0
      have e1 := vf 1
      have e2 := vf 2
      have e3 := vf 3
      have e4 := vf 4
      have e5 := vf 5
      have D1 := hide d1
      have D2 := hide d2
      unfold set6 Fd.val Fd.arr at D1
      unfold set6 at D2
      simp only at D1 D2
      clear d1 d2 vf hEq hMd
      go_wp2
      exact bodyPost_ret (results_cell_row rfl _ _ W.heap.size 45 #[.int .i64 c9, .string k9, .string t9, .string n9, .int .i64 m9, .int .i64 o9] (0, 0) _ rfl (unhide D2) Tryz.underlying45 rfl sizeFld) rfl (unhide D1)
  | true =>
    have HEq0 : Hid (mapOrFieldF s = mapF s) := by show _ = _; unfold mapOrFieldF; rw [if_pos hpi]
    clear hpi
    go_wp2_with fail
    refine (begun_any (unhide HM2).rd).mono ?_
    rintro e w3 ⟨rfl, h3, hg3⟩
    have HM3 : Hid (Mw lb b W.heap.size V W s s.begun w3) := (unhide HM2).step h3 hg3 ⟨0, rfl, rfl, rfl⟩
    clear h3 hg3 HM2
    go_wp2_with fail
    refine (next_any (unhide HM3).rd hp).mono ?_
    intro e w4 hw
    rcases hw.split with ⟨y, hr, rfl, hg⟩ | ⟨_, s4, hr, rfl, h4, hg⟩
    · refine ⟨rfl, ?_⟩
      rw [unhide HEq0]
      unfold mapF
      rw [hr]
      exact ⟨rfl, (unhide HM3).gr.trans hg⟩
    · have HM4 : Hid (Mw lb b W.heap.size V W s s4 w4) := (unhide HM3).step h4 hg ⟨1, by rw [next_ok hr, List.drop_one], next_op hr⟩
      have Hr4 := hide hr
      clear hw hr hg h4 HM3
      go_wp2_with fail
      refine (needSign_any (unhide HM4).rd _).mono ?_
      intro e w5 hw
      rcases hw.split with ⟨y, hr, rfl, hg⟩ | ⟨_, s5, hr, rfl, h5, hg⟩
      · refine ⟨rfl, ?_⟩
        rw [unhide HEq0]
        unfold mapF
        rw [unhide Hr4]
        simp only
        rw [hr]
        exact ⟨rfl, (unhide HM4).gr.trans hg⟩
      · have HM5 := hide ((unhide HM4).step h5 hg (suf_needSign hr))
        have Hr5 := hide hr
        clear hw hr hg h5 HM4
        have hl5 := (unhide HM5).sf.len
        go_wp2_with fail
        refine (dotted_any true (unhide HM5).rd ((unhide HM5).sf.sm (unhide HS)) (by omega)).mono ?_
        intro e w6 hw
        rcases hw.split with ⟨y, hr, rfl, hg⟩ | ⟨kx, s6, hr, rfl, h6, hg⟩
        · refine ⟨rfl, ?_⟩
          rw [unhide HEq0]
          unfold mapF
          rw [unhide Hr4]
          simp only
          rw [unhide Hr5]
          simp only
          rw [hr]
          exact ⟨rfl, (unhide HM5).gr.trans hg⟩
        · have hM6 := (unhide HM5).step h6 hg (suf_dotted hr)
          have Hr6 := hide hr
          have hsz6 : W.heap.size < w6.heap.size := (Array.getElem?_eq_some_iff.1 hM6.rs).1
          have HM7 := hide (hM6.up ((Below.refl _ w6).alloc (Nat.le_refl _) (.cells #[.int .i64 4, .string kx, .string ⟨#[]⟩, .string ⟨#[]⟩, .int .i64 0, .int .i64 0] 45)))
          have hbl := hM6.lw
          have HD7 : Hid ((w6.alloc (.cells #[.int .i64 4, .string kx, .string ⟨#[]⟩, .string ⟨#[]⟩, .int .i64 0, .int .i64 0] 45)).heap[w6.heap.size]? = some (.cells #[.int .i64 4, .string kx, .string ⟨#[]⟩, .string ⟨#[]⟩, .int .i64 0, .int .i64 0] 45 (0, 0))) := heap_new _ _
          clear hw hr hg h6 HM5 hM6 hl5
          go_wp2_with fail
          refine (needSign_any (unhide HM7).rd _).mono ?_
          intro e w8 hw
          rcases hw.split with ⟨y, hr, rfl, hg⟩ | ⟨_, s8, hr, rfl, h8, hg⟩
          · refine ⟨rfl, ?_⟩
            rw [unhide HEq0]
            unfold mapF
            rw [unhide Hr4]
            simp only
            rw [unhide Hr5]
            simp only
            rw [unhide Hr6]
            simp only
            rw [hr]
            exact ⟨rfl, (unhide HM7).gr.trans hg⟩
          · have HM8 := hide ((unhide HM7).step h8 hg (suf_needSign hr))
            have HD8 := hide ((hg.block w6.heap.size (Array.getElem?_eq_some_iff.1 (unhide HD7)).1 (by simp; omega)).trans (unhide HD7))
            have Hr8 := hide hr
            clear hw hr hg h8 HM7 HD7
            have hl8 := (unhide HM8).sf.len
            go_wp2_with fail
            refine (dotted_any true (unhide HM8).rd ((unhide HM8).sf.sm (unhide HS)) (by omega)).mono ?_
            intro e w9 hw
            rcases hw.split with ⟨y, hr, rfl, hg⟩ | ⟨tx, s9, hr, rfl, h9, hg⟩
            · refine ⟨rfl, ?_⟩
              rw [unhide HEq0]
              unfold mapF
              rw [unhide Hr4]
              simp only
              rw [unhide Hr5]
              simp only
              rw [unhide Hr6]
              simp only
              rw [unhide Hr8]
              simp only
              rw [hr]
              exact ⟨rfl, (unhide HM8).gr.trans hg⟩
            · have hM9 := (unhide HM8).step h9 hg (suf_dotted hr)
              have hD9 := (hg.block w6.heap.size (Array.getElem?_eq_some_iff.1 (unhide HD8)).1 (by simp; omega)).trans (unhide HD8)
              obtain ⟨⟨y0, y1, y2, y3, y4, y5⟩, yf⟩ := cells6 hD9
              have f2 := yf 2
              obtain ⟨q1, g1⟩ := set_block (j := 2) hD9 (.string tx)
              simp only [List.set_cons_succ, List.set_cons_zero] at q1
              have HM10 := hide (hM9.new g1 hsz6)
              have HD10 := hide q1
              have Hr9 := hide hr
              clear hw hr hg h9 HM8 HD8 hM9 hD9 yf q1 g1 hl8
              go_wp2_with fail
              refine (needSign_any (unhide HM10).rd _).mono ?_
              intro e w11 hw
              rcases hw.split with ⟨y, hr, rfl, hg⟩ | ⟨_, s11, hr, rfl, h11, hg⟩
              · refine ⟨rfl, ?_⟩
                rw [unhide HEq0]
                unfold mapF
                rw [unhide Hr4]
                simp only
                rw [unhide Hr5]
                simp only
                rw [unhide Hr6]
                simp only
                rw [unhide Hr8]
                simp only
                rw [unhide Hr9]
                simp only
                rw [hr]
                exact ⟨rfl, (unhide HM10).gr.trans hg⟩
              · have hM11 := (unhide HM10).step h11 hg (suf_needSign hr)
                have hD11 := (hg.block w6.heap.size (Array.getElem?_eq_some_iff.1 (unhide HD10)).1 (by simp; omega)).trans (unhide HD10)
                obtain ⟨⟨u0, u1, u2, u3, u4, u5⟩, _⟩ := cells6 hD11
                have HEq1 : Hid (mapOrFieldF s = nnF ⟨4, kx, tx, ⟨#[]⟩, 0, 0⟩ s11) := by
                  show _ = _
                  rw [unhide HEq0]
                  unfold mapF
                  rw [unhide Hr4]
                  simp only
                  rw [unhide Hr5]
                  simp only
                  rw [unhide Hr6]
                  simp only
                  rw [unhide Hr8]
                  simp only
                  rw [unhide Hr9]
                  simp only
                  rw [hr]
                have HM11 := hide hM11
                have HC := hide (nn_any ⟨4, kx, tx, ⟨#[]⟩, 0, 0⟩ hM11.env hM11.rd (hM11.sf.sm (unhide HS)))
                unfold Fd.val Fd.arr at HC
                simp only at HC
                clear hw hr hg h11 HM10 HD10 hM11 hD11 y0 y1 y2 y3 y4 y5 f2
                go_wp2_with fail
                refine (unhide HC).mono ?_
                intro e w12 hw
                rcases hw.split with ⟨y, hr, rfl, hg⟩ | ⟨d2, s12, hr, rfl, h12, hg⟩
                · refine ⟨rfl, ?_⟩
                  rw [unhide HEq1, hr]
                  exact ⟨rfl, (unhide HM11).gr.trans hg⟩
                · obtain ⟨c9, k9, t9, n9, m9, o9⟩ := d2
                  have hlw := (unhide HM11).lw
                  have hMd : Mw lb b W.heap.size V W s12 s12 w12 := ⟨h12, (unhide HM11).env.step hg, (hg.block W.heap.size (Array.getElem?_eq_some_iff.1 (unhide HM11).rs).1 (by simp; omega)).trans (unhide HM11).rs, (unhide HM11).gr.trans hg, hlw, .refl _⟩
                  have hEq : mapOrFieldF s = .ok (⟨c9, k9, t9, n9, m9, o9⟩, s12) := (unhide HEq1).trans hr
                  simp only
                  clear hw hr hg h12 HC HEq1 HEq0 HM11 u0 u1 u2 u3 u4 u5
                  obtain ⟨d1, d2⟩ := hMd.done ⟨c9, k9, t9, n9, m9, o9⟩ hEq
                  obtain ⟨⟨v0, v1, v2, v3, v4, v5⟩, vf⟩ := cells6 hMd.rs
                  have e0 := vf 0
                  have e1 := vf 1
                  have e2 := vf 2
                  have e3 := vf 3
                  have e4 := vf 4
                  have e5 := vf 5
                  have D1 := hide d1
                  have D2 := hide d2
                  unfold set6 Fd.val Fd.arr at D1
                  unfold set6 at D2
                  simp only at D1 D2
                  clear d1 d2 vf hEq hMd
                  go_wp2
                  exact bodyPost_ret (results_cell_row rfl _ _ W.heap.size 45 #[.int .i64 c9, .string k9, .string t9, .string n9, .int .i64 m9, .int .i64 o9] (0, 0) _ rfl (unhide D2) Tryz.underlying45 rfl sizeFld) rfl (unhide D1)
end Go.Proofs.YtckpainohfhopaaGreatDoor

namespace Go.Proofs.YtckpainohfhopaaGreatDoor
open Go.RowKit Go.Shelf
attribute [local go_sem ↓] Go.wp_at_zero Go.wp_at_succ

noncomputable def importedF (s : PSt) : Except (Int × Int) (ByteArray × PSt) := match pnextF s.begun with
  | .error e => .error e
  | .ok (_, s1) => if (pisB s1.here 1 ⟨#[112, 117, 98, 108, 105, 99]⟩ || pisB s1.here 1 ⟨#[119, 101, 97, 107]⟩) = true then .error (52, s1.here.spot) else match meaningF importF s1 with
    | .error e => .error e
    | .ok (x, s2) => match pneedSignF ⟨#[59]⟩ s2 with
      | .error e => .error e
      | .ok (_, s3) => .ok (x, s3)
set_option maxRecDepth 100000 in
set_option maxHeartbeats 8000000 in
theorem imported_any {lb b : Nat} {V W : World} {s : PSt} (hv : Env V W b) (h : Rd lb W b s) (hp : 0 < s.ts.length) : Calls Tryz.prog 101 #[.pointer (some ⟨b, 0, none⟩)] W (PR lb b W Value.string (importedF s)) := by
  have hc := hide (begun_any h)
  have Hv := hide hv
  clear h hv
  go_enter Tryz.func101, Tryz.ntmps101
  go_wp2_with fail
  refine (unhide hc).mono ?_
  rintro e w1 ⟨rfl, h1, hg1⟩
  have HN := hide (next_any h1 hp)
  have Hg1 := hide hg1
  clear h1 hg1 hc
  go_wp2_with fail
  refine (unhide HN).mono ?_
  intro e w2 hw
  rcases hw.split with ⟨y, hr, rfl, hg⟩ | ⟨_, s2, hr, rfl, h2, hg⟩
  · refine ⟨rfl, ?_⟩
    unfold importedF
    rw [hr]
    exact ⟨rfl, (unhide Hg1).trans hg⟩
  · have Hr2 := hide hr
    have H2 := hide h2
    have HG2 := hide ((unhide Hg1).trans hg)
    clear hw hr hg h2 HN Hg1
    have hI : Hid (∀ w x, Calls Tryz.prog 119 #[s2.here.val, .int .i64 1, .string x] w fun e w' => e = .returned (.bool (pisB s2.here 1 x)) ∧ Below w.heap.size w w') := fun w x => is_any w s2.here 1 x
    have hH := hide (here_any (unhide H2))
    obtain ⟨t, ht⟩ : ∃ t, s2.here = t := ⟨_, rfl⟩
    have Ht := hide ht
    rw [ht] at hI hH
    obtain ⟨kd, sp, tx⟩ := t
    unfold Tk.val at hI hH
    simp only at hI hH
    clear ht
    go_wp2_with fail
    refine (unhide hH).mono ?_
    rintro e w3 ⟨rfl, hb3⟩
    have hb3' := hb3.alloc hb3.size (.cells #[.int .i64 kd, .int .i64 sp, .string tx] 38)
    have hcl : ∀ w, Below (w3.alloc (.cells #[.int .i64 kd, .int .i64 sp, .string tx] 38)).heap.size (w3.alloc (.cells #[.int .i64 kd, .int .i64 sp, .string tx] 38)) w → w.cell? ⟨w3.heap.size, 0, none⟩ = some (.int .i64 kd) ∧ w.cell? ⟨w3.heap.size, 1, none⟩ = some (.int .i64 sp) ∧ w.cell? ⟨w3.heap.size, 2, none⟩ = some (.string tx) := fun w hb => by
      have e := (hb.block w3.heap.size (by rw [World.size_alloc]; omega)).trans (heap_new w3 (.cells #[.int .i64 kd, .int .i64 sp, .string tx] 38))
      refine ⟨?_, ?_, ?_⟩ <;> rw [cell_of_row _ _ _ _ _ _ e] <;> rfl
    have Hcl := hide hcl
    have H3 := hide ((unhide H2).up hb3')
    have HG3 := hide ((unhide HG2).trans (below_grown b hb3'))
    clear hb3 hb3' hcl hH H2
    go_wp2_with fail
    refine (unhide hI _ _).mono ?_
    rintro e w4 ⟨rfl, hb4⟩
    obtain ⟨x0, x1, x2⟩ := unhide Hcl w4 hb4
    have H4 := hide ((unhide H3).up hb4)
    have HG4 := hide ((unhide HG3).trans (below_grown b hb4))
    clear hb4 H3 Hcl
    have hEq : ∀ f1 f2 : Bool, pisB ⟨kd, sp, tx⟩ 1 ⟨#[112, 117, 98, 108, 105, 99]⟩ = f1 → pisB ⟨kd, sp, tx⟩ 1 ⟨#[119, 101, 97, 107]⟩ = f2 → importedF s = (if (f1 || f2) = true then .error (52, s2.here.spot) else match meaningF importF s2 with | .error e => .error e | .ok (x, s3) => match pneedSignF ⟨#[59]⟩ s3 with | .error e => .error e | .ok (_, s4) => .ok (x, s4)) := fun f1 f2 h1 h2 => by
      unfold importedF
      rw [unhide Hr2]
      simp only
      rw [unhide Ht, h1, h2]
    have HEq := hide hEq
    clear hEq
    cases hp1 : pisB ⟨kd, sp, tx⟩ 1 ⟨#[112, 117, 98, 108, 105, 99]⟩ with
    | true =>
      have HE1 := hide (unhide HEq true _ hp1 rfl)
      clear hp1 HEq
      go_wp2_with fail
      refine (refuse_any (unhide H4)).mono ?_
      rintro e w5 ⟨rfl, hb5⟩
      refine ⟨rfl, ?_⟩
      rw [unhide HE1, Bool.true_or, if_pos rfl]
      exact ⟨rfl, (unhide HG4).trans (below_grown b hb5)⟩
    | false =>
      have Hp1 := hide hp1
      clear hp1
      go_wp2_with fail
      refine (unhide hI _ _).mono ?_
      rintro e w5 ⟨rfl, hb5⟩
      have H5 := hide ((unhide H4).up hb5)
      have HG5 := hide ((unhide HG4).trans (below_grown b hb5))
      clear hb5 H4 HG4 x0 x1 x2
      cases hp2 : pisB ⟨kd, sp, tx⟩ 1 ⟨#[119, 101, 97, 107]⟩ with
      | true =>
        have HE1 := hide (unhide HEq false true (unhide Hp1) hp2)
        clear hp2 HEq
        go_wp2_with fail
        refine (refuse_any (unhide H5)).mono ?_
        rintro e w6 ⟨rfl, hb6⟩
        refine ⟨rfl, ?_⟩
        rw [unhide HE1, Bool.or_true, if_pos rfl]
        exact ⟨rfl, (unhide HG5).trans (below_grown b hb6)⟩
      | false =>
        have HE1 : Hid (importedF s = (match meaningF importF s2 with | .error e => .error e | .ok (x, s3) => match pneedSignF ⟨#[59]⟩ s3 with | .error e => .error e | .ok (_, s4) => .ok (x, s4))) := by
          have := unhide HEq false false (unhide Hp1) hp2
          rw [Bool.or_false, if_neg (by simp)] at this
          exact this
        have HM := hide (meaning_import_any ((unhide Hv).step (unhide HG5)) (unhide H5))
        clear hp2 HEq
        go_wp2_with fail
        refine (unhide HM).mono ?_
        intro e w6 hw
        rcases hw.split with ⟨y, hr, rfl, hg⟩ | ⟨x, s6, hr, rfl, h6, hg⟩
        · refine ⟨rfl, ?_⟩
          rw [unhide HE1, hr]
          exact ⟨rfl, (unhide HG5).trans hg⟩
        · have Hr6 := hide hr
          have HG6 := hide ((unhide HG5).trans hg)
          have HN := hide (needSign_any h6 ⟨#[59]⟩)
          clear hw hr hg h6 HM H5
          go_wp2_with fail
          refine (unhide HN).mono ?_
          intro e w7 hw
          rcases hw.split with ⟨y, hr, rfl, hg⟩ | ⟨_, s7, hr, rfl, h7, hg⟩
          · refine ⟨rfl, ?_⟩
            rw [unhide HE1, unhide Hr6]
            simp only
            rw [hr]
            exact ⟨rfl, (unhide HG6).trans hg⟩
          · have HE : Hid (PR lb b W Value.string (importedF s) (.returned (.string x)) w7) := by
              show PR lb b W Value.string (importedF s) _ _
              rw [unhide HE1, unhide Hr6]
              simp only
              rw [hr]
              exact ⟨rfl, h7, (unhide HG6).trans hg⟩
            clear hw hr hg h7
            go_wp2
            go_ret
            exact unhide HE
end Go.Proofs.YtckpainohfhopaaGreatDoor

namespace Go.Proofs.YtckpainohfhopaaGreatDoor
open Go.RowKit

section
variable {P : Program} {ops : Array Oper} {Q : Exit → Act → World → Prop} {md : Region.Mode}
theorem ready_lt {d : Array Bool} {i : Nat} (h : i ∈ Region.ready md ops d) : ∃ hi : i < d.size, d[i] = false := by
  have h1 := (mem_ready.1 h).1
  rcases Nat.lt_or_ge i d.size with hi | hi
  · refine ⟨hi, ?_⟩
    simpa [hi] using h1
  · simp [Array.getElem?_eq_none hi] at h1
/-- Every order, by what holds of the done ones. -/
theorem wpAny_inv (I : Array Bool → Act → World → Prop) (step : ∀ d a w i, I d a w → i ∈ Region.ready md ops d → wpOp P ops Q i (fun a' w' => I (d.setIfInBounds i true) a' w') a w) (fin : ∀ d a w, I d a w → Region.ready md ops d = [] → Q .normal a w) :
    ∀ (n : Nat) (d : Array Bool) (a : Act) (w : World), I d a w → d.count false ≤ n → wpAny P md ops Q n d a w
  | 0, d, a, w, hI, hn => by
    have hr : Region.ready md ops d = [] := by
      apply List.eq_nil_iff_forall_not_mem.2
      intro i hi
      obtain ⟨h1, h2⟩ := ready_lt hi
      have h3 : 0 < d.count false := Array.count_pos_iff.2 (by rw [← h2]; exact Array.getElem_mem h1)
      omega
    exact ⟨hr, fin d a w hI hr⟩
  | n + 1, d, a, w, hI, hn => by
    refine ⟨fun hr => fin d a w hI hr, fun i hi => ?_⟩
    refine wpOp_mono (fun a' w' h' => wpAny_inv I step fin n _ a' w' h' ?_) (step d a w i hI hi)
    obtain ⟨h1, h2⟩ := ready_lt hi
    have h3 : 0 < d.count false := Array.count_pos_iff.2 (by rw [← h2]; exact Array.getElem_mem h1)
    rw [Array.setIfInBounds_def, dif_pos h1, Array.count_set h1, h2]
    simp
    omega
theorem getD_keep {α : Type} {d : Array α} {i j : Nat} {x z : α} (h : i ≠ j) : (d.setIfInBounds i x).getD j z = d.getD j z := by
  simp [Array.getD_eq_getD_getElem?, h]
theorem getD_new {α : Type} {d : Array α} {i : Nat} {x z : α} (h : i < d.size) : (d.setIfInBounds i x).getD i z = x := by
  simp [h]
theorem done_of {d : Array Bool} {i : Nat} {o : Oper} (hsz : i < d.size) (hr : Region.ready md ops d = []) (ho : ops[i]? = some o) (hdeps : ∀ e ∈ o.after, Region.binds md e = true → d.getD e.on false = true) : d.getD i false = true := by
  by_cases h : d.getD i true = false
  · have : i ∈ Region.ready md ops d := mem_ready.2 ⟨h, o, ho, hdeps⟩
    rw [hr] at this
    cases this
  · simp [hsz] at h ⊢
    exact h
/-- What the i-th operation waits for. -/
def Waits (ops : Array Oper) (i k : Nat) : Prop := ∃ o, ops[i]? = some o ∧ ∃ e ∈ o.after, Region.binds .any e = true ∧ e.on = k
/-- The same, to be reckoned. -/
def waitsB (ops : Array Oper) (i k : Nat) : Bool := match ops[i]? with
  | some o => o.after.any fun e => Region.binds .any e && e.on == k
  | none => false
theorem waits_of {i k : Nat} (h : waitsB ops i k = true) : Waits ops i k := by
  unfold waitsB at h
  cases ho : ops[i]? with
  | none => rw [ho] at h; cases h
  | some o =>
    rw [ho] at h
    simp only [Array.any_eq_true] at h
    obtain ⟨j, hj, h2⟩ := h
    rw [Bool.and_eq_true] at h2
    exact ⟨o, ho, o.after[j], Array.getElem_mem hj, h2.1, eq_of_beq h2.2⟩
def backB (ops : Array Oper) (n : Nat) : Bool := (List.range n).all fun i => match ops[i]? with
  | some o => o.after.all fun e => decide (e.on < i)
  | none => true
theorem back_of {n : Nat} (hn : ops.size = n) (h : backB ops n = true) : ∀ (i : Nat) (o : Oper), ops[i]? = some o → ∀ e ∈ o.after, e.on < i := by
  intro i o ho e he
  have hi : i < n := by rw [← hn]; exact (Array.getElem?_eq_some_iff.1 ho).1
  have h1 := List.all_eq_true.1 h i (List.mem_range.2 hi)
  rw [ho] at h1
  simp only [Array.all_eq_true] at h1
  obtain ⟨j, hj, rfl⟩ := Array.getElem_of_mem he
  exact of_decide_eq_true (h1 j hj)
/-- All that comes ahead of z waits, in the end, behind nothing but what z waits for. -/
def endB (ops : Array Oper) (z : Nat) : Bool := (List.range z).all fun i => waitsB ops z i || (List.range z).any fun j => waitsB ops z j && waitsB ops j i
theorem end_of {z : Nat} (h : endB ops z = true) : ∀ D : Nat → Prop, (∀ k j, D k → Waits ops k j → D j) → (∀ j, Waits ops z j → D j) → ∀ i, i < z → D i := by
  intro D hcl hD i hi
  have h1 := List.all_eq_true.1 h i (List.mem_range.2 hi)
  rw [Bool.or_eq_true] at h1
  rcases h1 with h1 | h1
  · exact hD i (waits_of h1)
  · obtain ⟨j, _, h2⟩ := List.any_eq_true.1 h1
    rw [Bool.and_eq_true] at h2
    exact hcl j i (hD j (waits_of h2.1)) (waits_of h2.2)
/-- A region that draws its order: quiet operations, a call, what makes a row of its answer, an append, and at the end a store that waits for all. Phi tells the world by phases. -/
theorem region_app {id z N c : Nat} (hmx : P.follows .mixedOrders = true) (s : Nat → Nat) (val : Nat → Value) (Φ : Nat → Value → World → Prop) (tm0 : Array Value) (w0 : World)
    (hn : ops.size = z + 1) (hN : tm0.size = N) (hinj : ∀ i j, i < z → j < z → s i = s j → i = j) (hs : ∀ i, i < z → s i < N) (hback : backB ops (z + 1) = true)
    (hc : c + 2 < z) (w1 : waitsB ops (c + 1) c = true) (w2 : waitsB ops (c + 2) (c + 1) = true) (hz : endB ops z = true) (h0 : Φ 0 undef w0.drew)
    (quiet : ∀ k tm w, k < z → (k < c ∨ c + 2 < k) → tm.size = N → (∀ j, (∀ i, i < z → s i ≠ j) → tm.getD j undef = tm0.getD j undef) → (∀ j, (j < c ∨ c + 2 < j) → waitsB ops k j = true → tm.getD (s j) undef = val j) → (∃ ph x, Φ ph x w) →
      wpOp P ops Q k (fun a' w' => a' = ⟨tm.setIfInBounds (s k) (val k), []⟩ ∧ w' = w) ⟨tm, []⟩ w)
    (call : ∀ tm w, tm.size = N → (∀ j, (∀ i, i < z → s i ≠ j) → tm.getD j undef = tm0.getD j undef) → (∀ j, (j < c ∨ c + 2 < j) → waitsB ops c j = true → tm.getD (s j) undef = val j) → Φ 0 undef w → wpOp P ops Q c (fun a' w' => ∃ x, a' = ⟨tm.setIfInBounds (s c) x, []⟩ ∧ Φ 1 x w') ⟨tm, []⟩ w)
    (bs : ∀ tm w x, tm.size = N → tm.getD (s c) undef = x → Φ 1 x w → wpOp P ops Q (c + 1) (fun a' w' => ∃ y, a' = ⟨tm.setIfInBounds (s (c + 1)) y, []⟩ ∧ Φ 2 y w') ⟨tm, []⟩ w)
    (ap : ∀ tm w y, tm.size = N → (∀ j, (j < c ∨ c + 2 < j) → waitsB ops (c + 2) j = true → tm.getD (s j) undef = val j) → tm.getD (s (c + 1)) undef = y → Φ 2 y w → wpOp P ops Q (c + 2) (fun a' w' => ∃ y', a' = ⟨tm.setIfInBounds (s (c + 2)) y', []⟩ ∧ Φ 3 y' w') ⟨tm, []⟩ w)
    (last : ∀ tm w y, tm.size = N → (∀ j, (∀ i, i < z → s i ≠ j) → tm.getD j undef = tm0.getD j undef) → (∀ j, j < z → (j < c ∨ c + 2 < j) → tm.getD (s j) undef = val j) → tm.getD (s (c + 2)) undef = y → Φ 3 y w → wpOp P ops Q z (fun a' w' => Q .normal a' w') ⟨tm, []⟩ w) :
    (Code.region id ops true).wp P Q ⟨tm0, []⟩ w0 := by
  have hb := back_of hn hback
  have W1 := waits_of w1
  have W2 := waits_of w2
  refine wp_region_any hmx (wpAny_inv (md := .any) (fun d a w => d.size = z + 1 ∧ (∀ k j, d.getD k false = true → Waits ops k j → d.getD j false = true) ∧ ((d.getD z false = false ∧ ∃ tm, a = ⟨tm, []⟩ ∧ tm.size = N ∧ (∀ j, (∀ i, i < z → s i ≠ j) → tm.getD j undef = tm0.getD j undef) ∧ (∀ k, k < z → (k < c ∨ c + 2 < k) → d.getD k false = true → tm.getD (s k) undef = val k) ∧
      ((d.getD c false = false ∧ Φ 0 undef w) ∨ (d.getD c false = true ∧ d.getD (c + 1) false = false ∧ Φ 1 (tm.getD (s c) undef) w) ∨ (d.getD (c + 1) false = true ∧ d.getD (c + 2) false = false ∧ Φ 2 (tm.getD (s (c + 1)) undef) w) ∨ (d.getD (c + 2) false = true ∧ Φ 3 (tm.getD (s (c + 2)) undef) w))) ∨
      (d.getD z false = true ∧ Q .normal a w))) ?_ ?_ _ _ _ _ ?_ ?_)
  · rintro d a w i ⟨hd, hcl, hcase⟩ hr
    obtain ⟨hi, hnd⟩ := ready_lt hr
    obtain ⟨_, o, ho, hall⟩ := mem_ready.1 hr
    have hnd' : d.getD i false = false := by simp [hi, hnd]
    have hw : ∀ k, Waits ops i k → d.getD k false = true := by
      rintro k ⟨o', ho', e, he, hb, rfl⟩
      rw [ho] at ho'
      obtain rfl := Option.some.inj ho'
      exact hall e he hb
    have hcl' : ∀ k j, (d.setIfInBounds i true).getD k false = true → Waits ops k j → (d.setIfInBounds i true).getD j false = true := by
      intro k j hk hj
      by_cases e : j = i
      · subst e
        exact getD_new hi
      · rw [getD_keep (Ne.symm e)]
        by_cases e2 : k = i
        · subst e2
          exact hw j hj
        · rw [getD_keep (Ne.symm e2)] at hk
          exact hcl k j hk hj
    have hsz' : (d.setIfInBounds i true).size = z + 1 := by rw [Array.size_setIfInBounds]; exact hd
    rcases hcase with ⟨hdz, tm, rfl, h1, h2, h3, h4⟩ | ⟨hdz, hq⟩
    rotate_left
    · exfalso
      have hiz : i < z := by
        rcases Nat.lt_or_ge i z with q | q
        · exact q
        · obtain rfl : i = z := by omega
          rw [hdz] at hnd'; cases hnd'
      have := end_of hz (fun k => d.getD k false = true) hcl (fun j hj => hcl _ _ hdz hj) i hiz
      rw [this] at hnd'; cases hnd'
    by_cases hiz : i = z
    · subst hiz
      have hdone := end_of hz (fun k => d.getD k false = true) hcl hw
      have h5 : Φ 3 (tm.getD (s (c + 2)) undef) w := by
        rcases h4 with ⟨q, _⟩ | ⟨_, q, _⟩ | ⟨_, q, _⟩ | ⟨_, q⟩
        · rw [hdone c (by omega)] at q; cases q
        · rw [hdone (c + 1) (by omega)] at q; cases q
        · rw [hdone (c + 2) (by omega)] at q; cases q
        · exact q
      refine wpOp_mono ?_ (last tm w _ h1 h2 (fun j hj hq => h3 j hj hq (hdone j hj)) rfl h5)
      intro a' w' hq
      exact ⟨hsz', hcl', .inr ⟨getD_new hi, hq⟩⟩
    · have hilt : i < z := by omega
      have hz' : (d.setIfInBounds i true).getD z false = false := by rw [getD_keep hiz]; exact hdz
      have hun : ∀ x : Value, ∀ j, (∀ i, i < z → s i ≠ j) → (tm.setIfInBounds (s i) x).getD j undef = tm0.getD j undef := fun x j hj => by rw [getD_keep (hj i hilt)]; exact h2 j hj
      have hsame : ∀ (x : Value) k, k < z → k ≠ i → (tm.setIfInBounds (s i) x).getD (s k) undef = tm.getD (s k) undef := fun x k hk hne => getD_keep (fun q => hne (hinj i k hilt hk q).symm)
      by_cases hqt : i < c ∨ c + 2 < i
      · refine wpOp_mono ?_ (quiet i tm w hilt hqt h1 h2 (fun j hjq hj => h3 j (by have := hb i o ho; obtain ⟨o', ho', e, he, _, rfl⟩ := waits_of hj; rw [ho] at ho'; obtain rfl := Option.some.inj ho'; have := this e he; omega) hjq (hw j (waits_of hj))) (by rcases h4 with ⟨_, q⟩ | ⟨_, _, q⟩ | ⟨_, _, q⟩ | ⟨_, q⟩ <;> exact ⟨_, _, q⟩))
        rintro a' w' ⟨rfl, rfl⟩
        refine ⟨hsz', hcl', .inl ⟨hz', _, rfl, by rw [Array.size_setIfInBounds]; exact h1, hun _, fun k hk hkq hdk => ?_, ?_⟩⟩
        · by_cases e : k = i
          · subst e
            exact getD_new (by rw [h1]; exact hs k hk)
          · rw [getD_keep (Ne.symm e)] at hdk
            rw [hsame _ k hk e]
            exact h3 k hk hkq hdk
        · rw [getD_keep (show i ≠ c by omega), getD_keep (show i ≠ c + 1 by omega), getD_keep (show i ≠ c + 2 by omega), hsame _ c (by omega) (by omega), hsame _ (c + 1) (by omega) (by omega), hsame _ (c + 2) (by omega) (by omega)]
          exact h4
      · have h3' : ∀ x : Value, ∀ k, k < z → (k < c ∨ c + 2 < k) → (d.setIfInBounds i true).getD k false = true → (tm.setIfInBounds (s i) x).getD (s k) undef = val k := fun x k hk hkq hdk => by
          rw [getD_keep (show i ≠ k by omega)] at hdk
          rw [hsame _ k hk (by omega)]
          exact h3 k hk hkq hdk
        have hdep : ∀ j, (j < c ∨ c + 2 < j) → waitsB ops i j = true → tm.getD (s j) undef = val j := fun j hjq hj => h3 j (by have := hb i o ho; obtain ⟨o', ho', e, he, _, rfl⟩ := waits_of hj; rw [ho] at ho'; obtain rfl := Option.some.inj ho'; have := this e he; omega) hjq (hw j (waits_of hj))
        rcases (show i = c ∨ i = c + 1 ∨ i = c + 2 by omega) with rfl | rfl | rfl
        · rcases h4 with ⟨_, q⟩ | ⟨q, _⟩ | ⟨q, _⟩ | ⟨q, _⟩
          · refine wpOp_mono ?_ (call tm w h1 h2 hdep q)
            rintro a' w' ⟨x, rfl, hx⟩
            refine ⟨hsz', hcl', .inl ⟨hz', _, rfl, by rw [Array.size_setIfInBounds]; exact h1, hun _, h3' x, .inr (.inl ⟨getD_new hi, ?_, ?_⟩)⟩⟩
            · rw [getD_keep (by omega)]
              apply Bool.eq_false_iff.2
              intro q2
              rw [hcl _ _ q2 W1] at hnd'; cases hnd'
            · rw [getD_new (by rw [h1]; exact hs _ hilt)]
              exact hx
          · rw [q] at hnd'; cases hnd'
          · rw [hcl _ _ q W1] at hnd'; cases hnd'
          · rw [hcl _ _ (hcl _ _ q W2) W1] at hnd'; cases hnd'
        · rcases h4 with ⟨q, _⟩ | ⟨_, _, q⟩ | ⟨q, _⟩ | ⟨q, _⟩
          · rw [hw _ W1] at q; cases q
          · refine wpOp_mono ?_ (bs tm w _ h1 rfl q)
            rintro a' w' ⟨x, rfl, hx⟩
            refine ⟨hsz', hcl', .inl ⟨hz', _, rfl, by rw [Array.size_setIfInBounds]; exact h1, hun _, h3' x, .inr (.inr (.inl ⟨getD_new hi, ?_, ?_⟩))⟩⟩
            · rw [getD_keep (by omega)]
              apply Bool.eq_false_iff.2
              intro q2
              rw [hcl _ _ q2 W2] at hnd'; cases hnd'
            · rw [getD_new (by rw [h1]; exact hs _ hilt)]
              exact hx
          · rw [q] at hnd'; cases hnd'
          · rw [hcl _ _ q W2] at hnd'; cases hnd'
        · rcases h4 with ⟨q, _⟩ | ⟨_, q, _⟩ | ⟨_, _, q⟩ | ⟨q, _⟩
          · rw [hcl _ _ (hw _ W2) W1] at q; cases q
          · rw [hw _ W2] at q; cases q
          · refine wpOp_mono ?_ (ap tm w _ h1 hdep rfl q)
            rintro a' w' ⟨x, rfl, hx⟩
            refine ⟨hsz', hcl', .inl ⟨hz', _, rfl, by rw [Array.size_setIfInBounds]; exact h1, hun _, h3' x, .inr (.inr (.inr ⟨getD_new hi, ?_⟩))⟩⟩
            rw [getD_new (by rw [h1]; exact hs _ hilt)]
            exact hx
          · rw [q] at hnd'; cases hnd'
  · rintro d a w ⟨hd, hcl, ⟨hdz, _⟩ | ⟨_, hq⟩⟩ hr
    · exfalso
      have hall : ∀ m i, i < m → i < z + 1 → d.getD i false = true := by
        intro m
        induction m with
        | zero => intro i hi; omega
        | succ m ih =>
          intro i hi hin
          obtain ⟨o, ho⟩ : ∃ o, ops[i]? = some o := ⟨_, Array.getElem?_eq_getElem (by omega)⟩
          exact done_of (by omega) hr ho fun e he _ => ih e.on (by have := hb i o ho e he; omega) (by have := hb i o ho e he; omega)
      rw [hall (z + 1) z (by omega) (by omega)] at hdz; cases hdz
    · exact hq
  · have hrep : ∀ k, (Array.replicate ops.size false).getD k false = false := fun k => by
      simp [Array.getD_eq_getD_getElem?, Array.getElem?_replicate]
      split <;> simp
    refine ⟨by simp [hn], fun k j hk _ => (by rw [hrep k] at hk; cases hk), .inl ⟨hrep z, tm0, rfl, hN, fun _ _ => rfl, fun k _ _ hk => (by rw [hrep k] at hk; cases hk), .inl ⟨hrep c, h0⟩⟩⟩
  · simp
theorem op_run {i : Nat} {o : Oper} {a : Act} {w w' : World} {K : Act → World → Prop} {v : Value} (ho : ops[i]? = some o) (hg : o.guard = none) (hr : (execOp a.eval o).run P w = .ok (.value v) w') (hK : K (a.put o.dst v) w') : wpOp P ops Q i K a w := by
  refine wpOp_step ho (fun K' hK' => ?_)
  have hw : Region.wanted o (yielded ops a.tmps) = true := by simp [Region.wanted, hg]
  rw [if_pos hw]
  unfold Oper.wp
  rw [hr]
  exact hK' _ _ hK
theorem op_skip {i : Nat} {o : Oper} {a : Act} {w w' : World} {K : Act → World → Prop} (ho : ops[i]? = some o) (hg : o.guard = none) (hr : (execOp a.eval o).run P w = .ok .skip w') (hK : K (a.put o.dst undef) w') : wpOp P ops Q i K a w := by
  refine wpOp_step ho (fun K' hK' => ?_)
  have hw : Region.wanted o (yielded ops a.tmps) = true := by simp [Region.wanted, hg]
  rw [if_pos hw]
  unfold Oper.wp
  rw [hr]
  exact hK' _ _ hK
/-- A call that may throw. -/
theorem op_callP {i : Nat} {o : Oper} {a : Act} {w : World} {K : Act → World → Prop} (ho : ops[i]? = some o) (hg : o.guard = none) (f : FuncId) (hfn : ∀ vs, (callFunc f vs).run P w = .ok (.enter f vs) w) (args : Array Operand) (tys : Array TypeId)
    (hop : o.op = .call { callee := .value (.func f), args := args, argTypes := tys }) (vs : Array Value) (hv : args.map a.eval = vs) {R : Ending → World → Prop} (hc : Calls P f vs w R) (hK : ∀ e w', R e w' → (∃ v, e = .returned v ∧ K (a.put o.dst v) w') ∨ ∃ ch, e = .panicked ch ∧ Q (.panic ch) a w') : wpOp P ops Q i K a w := by
  refine wpOp_step ho (fun K' hK' => ?_)
  have hw : Region.wanted o (yielded ops a.tmps) = true := by simp [Region.wanted, hg]
  rw [if_pos hw]
  have h2 : Oper.wp P o a w K' Q = o.upon P a K' Q (.ok (.enter f vs) w) := by
    unfold Oper.wp
    simp [execOp, hop, resolve, invoke, ← hv, Act.eval, Deferred.ofValue, hfn]
  rw [h2, Oper.upon_enter]
  refine hc.mono ?_
  intro e w' hr
  rcases hK e w' hr with ⟨v, rfl, hk⟩ | ⟨ch, rfl, hq⟩
  · exact hK' _ _ hk
  · exact hq
theorem run_v {S : Sem Value} {w w' : World} {v : Value} (h : S.run P w = .ok v w') : ((do pure (Next.value (← S))) : Sem Next).run P w = .ok (.value v) w' := by
  simp [h]
theorem op_load {i : Nat} {o : Oper} {a : Act} {w w' : World} {K : Act → World → Prop} {v vx : Value} (ho : ops[i]? = some o) (hg : o.guard = none) (t : TypeId) (x : Operand) (hop : o.op = .load t x) (ex : a.eval x = vx) (hr : (Instr.loadAt t vx).run P w = .ok v w') (hK : K (a.put o.dst v) w') : wpOp P ops Q i K a w :=
  op_run ho hg (by simp only [execOp, hop, ex, Sem.run_pure, Sem.run_bind, hr, Result.andThen_ok]) hK
end
end Go.Proofs.YtckpainohfhopaaGreatDoor
