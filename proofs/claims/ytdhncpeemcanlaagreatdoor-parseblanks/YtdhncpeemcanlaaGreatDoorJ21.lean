import Derived.Test.YtdhncpeemcanlaaGreatDoorJ20

namespace Go.Proofs.YtdhncpeemcanlaaGreatDoor
open Go.RowKit Go.Shelf
attribute [local go_sem ↓] Go.wp_at_zero Go.wp_at_succ

def PSt.begun (s : PSt) : PSt := { s with bg := true }
noncomputable def plainF (o : Int) (s : PSt) : Except (Int × Int) (Fd × PSt) := fieldF ⟨1, ⟨#[]⟩, ⟨#[]⟩, ⟨#[]⟩, 0, o⟩ s.begun
noncomputable def labelledF (c : Int) (s : PSt) : Except (Int × Int) (Fd × PSt) := match pnextF s.begun with
  | .error e => .error e
  | .ok (_, s1) => if pisB s1.here 1 ⟨#[103, 114, 111, 117, 112]⟩ = true then .error (52, s1.here.spot) else fieldF ⟨c, ⟨#[]⟩, ⟨#[]⟩, ⟨#[]⟩, 0, 0⟩ s1
noncomputable def goneF (s : PSt) : Except (Int × Int) (ByteArray × PSt) := meaningF nameFaultF s.begun
theorem begun_any {lb b : Nat} {W : World} {s : PSt} (h : Rd lb W b s) : Calls Tryz.prog 88 #[.pointer (some ⟨b, 0, none⟩)] W fun e w => e = .returned (.tuple #[]) ∧ Rd lb w b s.begun ∧ W.grownBy w (some b) := begin_any h
set_option maxRecDepth 100000 in
theorem gone_any {lb b : Nat} {V W : World} {s : PSt} (hv : Env V W b) (h : Rd lb W b s) : Calls Tryz.prog 129 #[.pointer (some ⟨b, 0, none⟩)] W (PR lb b W Value.string (goneF s)) := by
  have hc := hide (begun_any h)
  have Hv := hide hv
  clear h hv
  go_enter Tryz.func129, Tryz.ntmps129
  go_wp2_with fail
  refine (unhide hc).mono ?_
  rintro e w1 ⟨rfl, h1, hg⟩
  have HC := hide (meaning_name_any ((unhide Hv).step hg) h1)
  have Hg := hide hg
  clear h1 hg hc
  go_wp2_with fail
  refine (unhide HC).mono ?_
  intro e w2 hw
  have HW : Hid (PR lb b W Value.string (goneF s) e w2) := hw.pre (unhide Hg)
  rcases hw.shape with ⟨y, rfl⟩ | ⟨a, rfl⟩
  · exact ⟨rfl, unhide HW⟩
  · clear hw HC
    go_wp2
    go_ret
    exact unhide HW
set_option maxRecDepth 100000 in
set_option maxHeartbeats 4000000 in
theorem plain_any {lb b : Nat} {V W : World} {s : PSt} (o : Int) (hv : Env V W b) (h : Rd lb W b s) (hs : Sm s) (hn : s.ts.length ≤ 16384) : Calls Tryz.prog 94 #[.pointer (some ⟨b, 0, none⟩), .int .i64 o] W (PR lb b W Fd.val (plainF o s)) := by
  have hlow := h.low
  have hb2 : Below W.heap.size W (W.alloc (.cells #[.int .i64 0, .string ⟨#[]⟩, .string ⟨#[]⟩, .string ⟨#[]⟩, .int .i64 0, .int .i64 0] 47)) := (Below.refl _ _).alloc (Nat.le_refl _) _
  have hx2 : (W.alloc (.cells #[.int .i64 0, .string ⟨#[]⟩, .string ⟨#[]⟩, .string ⟨#[]⟩, .int .i64 0, .int .i64 0] 47)).heap[W.heap.size]? = some (.cells #[.int .i64 0, .string ⟨#[]⟩, .string ⟨#[]⟩, .string ⟨#[]⟩, .int .i64 0, .int .i64 0] 47 (0, 0)) := heap_new _ _
  have hc := hide (begun_any (h.up hb2))
  have Hg0 := hide (below_grown b hb2)
  have Hv := hide (hv.step (below_grown b hb2))
  have HX2 := hide hx2
  have HS := hide hs
  clear hx2 hb2 h hv hs
  have HEq : Hid (plainF o s = fieldF ⟨1, ⟨#[]⟩, ⟨#[]⟩, ⟨#[]⟩, 0, o⟩ s.begun) := rfl
  go_enter Tryz.func94, Tryz.ntmps94
  go_wp2_with fail
  refine (unhide hc).mono ?_
  rintro e w1 ⟨rfl, h1, hg1⟩
  have HC := hide (field_p_any ⟨1, ⟨#[]⟩, ⟨#[]⟩, ⟨#[]⟩, 0, o⟩ ((unhide Hv).step hg1) h1 (unhide HS) hn)
  have Q2 := hide ((hg1.block W.heap.size (Array.getElem?_eq_some_iff.1 (unhide HX2)).1 (by simp; omega)).trans (unhide HX2))
  have HG1 := hide ((unhide Hg0).trans hg1)
  unfold Fd.val Fd.arr at HC
  simp only at HC
  clear h1 hg1 hc HX2 Hg0 Hv
  go_wp2_with fail
  refine (unhide HC).mono ?_
  intro e w2 hw
  rcases hw.split with ⟨y, hr, rfl, hg⟩ | ⟨d2, s2, hr, rfl, h2, hg⟩
  · refine ⟨rfl, ?_⟩
    rw [unhide HEq, hr]
    exact ⟨rfl, (unhide HG1).trans hg⟩
  · obtain ⟨c9, k9, t9, n9, m9, o9⟩ := d2
    unfold Fd.val Fd.arr
    simp only
    have p2 := (hg.block W.heap.size (Array.getElem?_eq_some_iff.1 (unhide Q2)).1 (by simp; omega)).trans (unhide Q2)
    obtain ⟨⟨v0, v1, v2, v3, v4, v5⟩, vf⟩ := cells6 p2
    have e0 := vf 0
    have e1 := vf 1
    have e2 := vf 2
    have e3 := vf 3
    have e4 := vf 4
    have e5 := vf 5
    obtain ⟨r1, r2⟩ := set6_block p2 (.int .i64 c9) (.string k9) (.string t9) (.string n9) (.int .i64 m9) (.int .i64 o9)
    have HE : Hid (PR lb b W Fd.val (plainF o s) (.returned (.agg #[.int .i64 c9, .string k9, .string t9, .string n9, .int .i64 m9, .int .i64 o9])) (set6 w2 W.heap.size (.int .i64 c9) (.string k9) (.string t9) (.string n9) (.int .i64 m9) (.int .i64 o9))) := by
      show PR lb b W Fd.val (plainF o s) _ _
      rw [unhide HEq, hr]
      exact ⟨rfl, rd_new h2 r2 (by omega), grown_new ((unhide HG1).trans hg) r2 (Nat.le_refl _)⟩
    have R1 := hide r1
    unfold set6 at HE R1
    clear hw hr hg h2 p2 vf r1 r2 Q2 HG1 HEq
    go_wp2
    exact bodyPost_ret (results_cell_row rfl _ _ W.heap.size 47 #[.int .i64 c9, .string k9, .string t9, .string n9, .int .i64 m9, .int .i64 o9] (0, 0) _ rfl (unhide R1) Tryz.underlying47 rfl sizeFld) rfl (unhide HE)
set_option maxRecDepth 100000 in
set_option maxHeartbeats 4000000 in
theorem labelled_any {lb b : Nat} {V W : World} {s : PSt} (c : Int) (hv : Env V W b) (h : Rd lb W b s) (hs : Sm s) (hn : s.ts.length ≤ 16384) (hp : 0 < s.ts.length) : Calls Tryz.prog 114 #[.pointer (some ⟨b, 0, none⟩), .int .i64 c] W (PR lb b W Fd.val (labelledF c s)) := by
  have hlow := h.low
  have hb2 : Below W.heap.size W (W.alloc (.cells #[.int .i64 0, .string ⟨#[]⟩, .string ⟨#[]⟩, .string ⟨#[]⟩, .int .i64 0, .int .i64 0] 47)) := (Below.refl _ _).alloc (Nat.le_refl _) _
  have hx2 : (W.alloc (.cells #[.int .i64 0, .string ⟨#[]⟩, .string ⟨#[]⟩, .string ⟨#[]⟩, .int .i64 0, .int .i64 0] 47)).heap[W.heap.size]? = some (.cells #[.int .i64 0, .string ⟨#[]⟩, .string ⟨#[]⟩, .string ⟨#[]⟩, .int .i64 0, .int .i64 0] 47 (0, 0)) := heap_new _ _
  have hc := hide (begun_any (h.up hb2))
  have Hg0 := hide (below_grown b hb2)
  have Hv := hide (hv.step (below_grown b hb2))
  have HX2 := hide hx2
  have HS := hide hs
  clear hx2 hb2 h hv hs
  go_enter Tryz.func114, Tryz.ntmps114
  go_wp2_with fail
  refine (unhide hc).mono ?_
  rintro e w1 ⟨rfl, h1, hg1⟩
  have HN := hide (next_any h1 hp)
  have Hg1 := hide hg1
  clear h1 hg1 hc
  go_wp2_with fail
  refine (unhide HN).mono ?_
  intro e w3 hw
  rcases hw.split with ⟨y, hr, rfl, hg⟩ | ⟨_, s3, hr, rfl, h3, hg⟩
  · refine ⟨rfl, ?_⟩
    unfold labelledF
    rw [hr]
    exact ⟨rfl, ((unhide Hg0).trans (unhide Hg1)).trans hg⟩
  · have hsuf : Suf s s3 := ⟨1, by rw [next_ok hr, List.drop_one]; rfl, next_op (s := s.begun) hr⟩
    have Hr := hide hr
    have H3 := hide h3
    have hv3 := ((unhide Hv).step (unhide Hg1)).step hg
    have Hv3 := hide hv3
    have HG3 := hide (((unhide Hg0).trans (unhide Hg1)).trans hg)
    have HX3 := hide (((unhide Hg1).trans hg).block W.heap.size (Array.getElem?_eq_some_iff.1 (unhide HX2)).1 (by simp; omega) |>.trans (unhide HX2))
    have hsl := hsuf.len
    have Hsm := hide (hsuf.sm (unhide HS))
    clear hw hr hg h3 hv3 hsuf HN Hg1 Hg0 HX2 Hv
    go_wp2_with fail
    refine (here_any (unhide H3)).mono ?_
    rintro e w4 ⟨rfl, hb4⟩
    have H4 := hide ((unhide H3).up hb4)
    have HG4 := hide ((unhide HG3).trans (below_grown b hb4))
    have Hv4 := hide ((unhide Hv3).step (below_grown b hb4))
    have HX4 := hide ((hb4.block W.heap.size (Array.getElem?_eq_some_iff.1 (unhide HX3)).1).trans (unhide HX3))
    have hI : Hid (∀ w, Calls Tryz.prog 86 #[s3.here.val, .int .i64 1, .string ⟨#[103, 114, 111, 117, 112]⟩] w fun e w' => e = .returned (.bool (pisB s3.here 1 ⟨#[103, 114, 111, 117, 112]⟩)) ∧ Below w.heap.size w w') := fun w => is_any w s3.here 1 _
    have Hvl : Hid (∃ p q r, s3.here.val = .agg #[p, q, r]) := ⟨_, _, _, rfl⟩
    obtain ⟨p, q, r, hvl⟩ := unhide Hvl
    rw [hvl] at hI ⊢
    clear hb4 Hvl hvl H3 HG3 Hv3 HX3
    go_wp2_with fail
    refine (unhide hI w4).mono ?_
    rintro e w5 ⟨rfl, hb5⟩
    have H5 := hide ((unhide H4).up hb5)
    have HG1 := hide ((unhide HG4).trans (below_grown b hb5))
    have Hv5 := hide ((unhide Hv4).step (below_grown b hb5))
    have Q2 := hide ((hb5.block W.heap.size (Array.getElem?_eq_some_iff.1 (unhide HX4)).1).trans (unhide HX4))
    clear hb5 hI H4 HG4 Hv4 HX4
    cases hpi : pisB s3.here 1 ⟨#[103, 114, 111, 117, 112]⟩ with
    | true =>
      have Hp := hide hpi
      clear hpi
      go_wp2_with fail
      refine (refuse_any (unhide H5)).mono ?_
      rintro e w6 ⟨rfl, hb6⟩
      refine ⟨rfl, ?_⟩
      unfold labelledF
      rw [unhide Hr]
      simp only
      rw [if_pos (unhide Hp)]
      exact ⟨rfl, (unhide HG1).trans (below_grown b hb6)⟩
    | false =>
      have HEq : Hid (labelledF c s = fieldF ⟨c, ⟨#[]⟩, ⟨#[]⟩, ⟨#[]⟩, 0, 0⟩ s3) := by
        show _ = _
        unfold labelledF
        rw [unhide Hr]
        simp only
        rw [if_neg (by rw [hpi]; simp)]
      have HC := hide (field_p_any ⟨c, ⟨#[]⟩, ⟨#[]⟩, ⟨#[]⟩, 0, 0⟩ (unhide Hv5) (unhide H5) (unhide Hsm) (by omega))
      unfold Fd.val Fd.arr at HC
      simp only at HC
      clear hpi
      go_wp2_with fail
      refine (unhide HC).mono ?_
      intro e w2 hw
      rcases hw.split with ⟨y, hr, rfl, hg⟩ | ⟨d2, s2, hr, rfl, h2, hg⟩
      · refine ⟨rfl, ?_⟩
        rw [unhide HEq, hr]
        exact ⟨rfl, (unhide HG1).trans hg⟩
      · obtain ⟨c9, k9, t9, n9, m9, o9⟩ := d2
        unfold Fd.val Fd.arr
        simp only
        have p2 := (hg.block W.heap.size (Array.getElem?_eq_some_iff.1 (unhide Q2)).1 (by simp; omega)).trans (unhide Q2)
        obtain ⟨⟨v0, v1, v2, v3, v4, v5⟩, vf⟩ := cells6 p2
        have e0 := vf 0
        have e1 := vf 1
        have e2 := vf 2
        have e3 := vf 3
        have e4 := vf 4
        have e5 := vf 5
        obtain ⟨r1, r2⟩ := set6_block p2 (.int .i64 c9) (.string k9) (.string t9) (.string n9) (.int .i64 m9) (.int .i64 o9)
        have HE : Hid (PR lb b W Fd.val (labelledF c s) (.returned (.agg #[.int .i64 c9, .string k9, .string t9, .string n9, .int .i64 m9, .int .i64 o9])) (set6 w2 W.heap.size (.int .i64 c9) (.string k9) (.string t9) (.string n9) (.int .i64 m9) (.int .i64 o9))) := by
          show PR lb b W Fd.val (labelledF c s) _ _
          rw [unhide HEq, hr]
          exact ⟨rfl, rd_new h2 r2 (by omega), grown_new ((unhide HG1).trans hg) r2 (Nat.le_refl _)⟩
        have R1 := hide r1
        unfold set6 at HE R1
        clear hw hr hg h2 p2 vf r1 r2 Q2 HG1 HEq
        go_wp2
        exact bodyPost_ret (results_cell_row rfl _ _ W.heap.size 47 #[.int .i64 c9, .string k9, .string t9, .string n9, .int .i64 m9, .int .i64 o9] (0, 0) _ rfl (unhide R1) Tryz.underlying47 rfl sizeFld) rfl (unhide HE)
end Go.Proofs.YtdhncpeemcanlaaGreatDoor

namespace Go.Proofs.YtdhncpeemcanlaaGreatDoor
open Go.RowKit Go.Shelf
attribute [local go_sem ↓] Go.wp_at_zero Go.wp_at_succ

noncomputable def valueF (s : PSt) : Except (Int × Int) ((ByteArray × Int) × PSt) := match pnameF s.begun with
  | .error e => .error e
  | .ok (x, s1) => match assignedF (-2147483648) 2147483647 true s1 with
    | .error e => .error e
    | .ok (n, s2) => .ok ((x, n), s2)
def evV (p : ByteArray × Int) : Value := .agg #[.string p.1, .int .i64 p.2]
theorem sizeEv : (Tryz.prog.info? 68).map (·.size) = some 2 := by kernel_rfl
theorem cells2 {w : World} {g : Nat} {a0 a1 : Value} {t : TypeId} (h : w.heap[g]? = some (.cells #[a0, a1] t (0, 0))) : (w.cell? ⟨g, 0, none⟩ = some a0 ∧ w.cell? ⟨g, 1, none⟩ = some a1) ∧ ∀ j, w.frozen? ⟨g, j, none⟩ = false := by
  refine ⟨⟨?_, ?_⟩, fun j => by simp [World.frozen?, h]⟩ <;> rw [cell_of_row _ _ _ _ _ _ h] <;> rfl
def set2 (w : World) (g : Nat) (a0 a1 : Value) : World := (w.setCell ⟨g, 0, none⟩ a0).setCell ⟨g, 1, none⟩ a1
theorem set2_block {w : World} {g : Nat} {b0 b1 : Value} {t : TypeId} (h : w.heap[g]? = some (.cells #[b0, b1] t (0, 0))) (a0 a1 : Value) : (set2 w g a0 a1).heap[g]? = some (.cells #[a0, a1] t (0, 0)) ∧ w.grownBy (set2 w g a0 a1) (some g) := by
  obtain ⟨h0, g0⟩ := set_block (j := 0) h a0
  obtain ⟨h1, g1⟩ := set_block (j := 1) h0 a1
  exact ⟨h1, g0.trans g1⟩
set_option maxRecDepth 100000 in
set_option maxHeartbeats 4000000 in
theorem value_any {lb b : Nat} {V W : World} {s : PSt} (hv : Env V W b) (h : Rd lb W b s) (hs : Sm s) : Calls Tryz.prog 97 #[.pointer (some ⟨b, 0, none⟩)] W (PR lb b W evV (valueF s)) := by
  have hlow := h.low
  have hb2 : Below W.heap.size W (W.alloc (.cells #[.string ⟨#[]⟩, .int .i64 0] 68)) := (Below.refl _ _).alloc (Nat.le_refl _) _
  have hx2 : (W.alloc (.cells #[.string ⟨#[]⟩, .int .i64 0] 68)).heap[W.heap.size]? = some (.cells #[.string ⟨#[]⟩, .int .i64 0] 68 (0, 0)) := heap_new _ _
  have hc := hide (begun_any (h.up hb2))
  have Hg0 := hide (below_grown b hb2)
  have Hv := hide (hv.step (below_grown b hb2))
  have HX2 := hide hx2
  have HS := hide hs
  clear hx2 hb2 h hv hs
  go_enter Tryz.func97, Tryz.ntmps97
  go_wp2_with fail
  refine (unhide hc).mono ?_
  rintro e w1 ⟨rfl, h1, hg1⟩
  have HN := hide (name_any h1 (unhide HS))
  have Hg1 := hide hg1
  clear h1 hg1 hc
  go_wp2_with fail
  refine (unhide HN).mono ?_
  intro e w3 hw
  rcases hw.split with ⟨y, hr, rfl, hg⟩ | ⟨x, s3, hr, rfl, h3, hg⟩
  · refine ⟨rfl, ?_⟩
    unfold valueF
    rw [hr]
    exact ⟨rfl, ((unhide Hg0).trans (unhide Hg1)).trans hg⟩
  · have Hr := hide hr
    have HC := hide (assigned_any (-2147483648) 2147483647 true (((unhide Hv).step (unhide Hg1)).step hg) h3)
    have HG1 := hide (((unhide Hg0).trans (unhide Hg1)).trans hg)
    have Q2 := hide (((unhide Hg1).trans hg).block W.heap.size (Array.getElem?_eq_some_iff.1 (unhide HX2)).1 (by simp; omega) |>.trans (unhide HX2))
    clear hw hr hg h3 HN Hg1 Hg0 HX2 Hv
    go_wp2_with fail
    refine (unhide HC).mono ?_
    intro e w2 hw
    rcases hw.split with ⟨y, hr, rfl, hg⟩ | ⟨n, s2, hr, rfl, h2, hg⟩
    · refine ⟨rfl, ?_⟩
      unfold valueF
      rw [unhide Hr]
      simp only
      rw [hr]
      exact ⟨rfl, (unhide HG1).trans hg⟩
    · have p2 := (hg.block W.heap.size (Array.getElem?_eq_some_iff.1 (unhide Q2)).1 (by simp; omega)).trans (unhide Q2)
      obtain ⟨⟨v0, v1⟩, vf⟩ := cells2 p2
      have e0 := vf 0
      have e1 := vf 1
      obtain ⟨r1, r2⟩ := set2_block p2 (.string x) (.int .i64 n)
      have HE : Hid (PR lb b W evV (valueF s) (.returned (.agg #[.string x, .int .i64 n])) (set2 w2 W.heap.size (.string x) (.int .i64 n))) := by
        show PR lb b W evV (valueF s) _ _
        unfold valueF
        rw [unhide Hr]
        simp only
        rw [hr]
        exact ⟨rfl, rd_new h2 r2 (by omega), grown_new ((unhide HG1).trans hg) r2 (Nat.le_refl _)⟩
      have R1 := hide r1
      unfold set2 at HE R1
      clear hw hr hg h2 p2 vf r1 r2 Q2 HG1 HC Hr
      unfold intV
      go_wp2
      exact bodyPost_ret (results_cell_row rfl _ _ W.heap.size 68 #[.string x, .int .i64 n] (0, 0) _ rfl (unhide R1) Tryz.underlying68 rfl sizeEv) rfl (unhide HE)
end Go.Proofs.YtdhncpeemcanlaaGreatDoor

namespace Go.Proofs.YtdhncpeemcanlaaGreatDoor
open Go.RowKit Go.Shelf
attribute [local go_sem ↓] Go.wp_at_zero Go.wp_at_succ

noncomputable def rowF (lo hi : Int) (mi : Bool) (s : PSt) : Except (Int × Int) ((Int × Int) × PSt) := match numberF lo hi mi s.begun with
  | .error e => .error e
  | .ok (n, s1) => match ptakeF 1 ⟨#[116, 111]⟩ s1 with
    | .error e => .error e
    | .ok (false, s2) => .ok ((n, n), s2)
    | .ok (true, s2) => match ptakeF 1 ⟨#[109, 97, 120]⟩ s2 with
      | .error e => .error e
      | .ok (true, s3) => .ok ((n, hi), s3)
      | .ok (false, s3) => match numberF n hi mi s3 with
        | .error e => .error e
        | .ok (m, s4) => .ok ((n, m), s4)
def rgV (p : Int × Int) : Value := .agg #[.int .i64 p.1, .int .i64 p.2]
theorem sizeRg : (Tryz.prog.info? 84).map (·.size) = some 2 := by kernel_rfl
theorem cells3 {w : World} {g : Nat} {a0 a1 a2 : Value} {t : TypeId} (h : w.heap[g]? = some (.cells #[a0, a1, a2] t (0, 0))) : (w.cell? ⟨g, 0, none⟩ = some a0 ∧ w.cell? ⟨g, 1, none⟩ = some a1 ∧ w.cell? ⟨g, 2, none⟩ = some a2) ∧ ∀ j, w.frozen? ⟨g, j, none⟩ = false := by
  refine ⟨⟨?_, ?_, ?_⟩, fun j => by simp [World.frozen?, h]⟩ <;> rw [cell_of_row _ _ _ _ _ _ h] <;> rfl
/-- What lies beside the reader while a row is read. -/
structure Rw (lb b g : Nat) (V W0 : World) (lo hi : Int) (mi : Bool) (s : PSt) (w : World) : Prop where
  rd : Rd lb w b s
  env : Env V w b
  bx : w.heap[g]? = some (.cells #[.int .i64 lo, .int .i64 hi, .bool mi] 150 (0, 0))
  rs : w.heap[g + 1]? = some (.cells #[.int .i64 0, .int .i64 0] 84 (0, 0))
  gr : W0.grownBy w (some b)
  lw : lb ≤ W0.heap.size ∧ W0.heap.size ≤ g ∧ b < lb
theorem Rw.step {lb b g : Nat} {V W0 w w' : World} {lo hi : Int} {mi : Bool} {s s' : PSt} (h : Rw lb b g V W0 lo hi mi s w) (hr : Rd lb w' b s') (hg : w.grownBy w' (some b)) : Rw lb b g V W0 lo hi mi s' w' :=
  ⟨hr, h.env.step hg, (hg.block g (Array.getElem?_eq_some_iff.1 h.bx).1 (by have := h.lw; simp; omega)).trans h.bx, (hg.block (g + 1) (Array.getElem?_eq_some_iff.1 h.rs).1 (by have := h.lw; simp; omega)).trans h.rs, h.gr.trans hg, h.lw⟩
/-- The answer is stored. -/
theorem Rw.done {lb b g : Nat} {V W0 w : World} {lo hi : Int} {mi : Bool} {s : PSt} (h : Rw lb b g V W0 lo hi mi s w) (p : Int × Int) {r : Except (Int × Int) ((Int × Int) × PSt)} (hr : r = .ok (p, s)) : PR lb b W0 rgV r (.returned (.agg #[.int .i64 p.1, .int .i64 p.2])) (set2 w (g + 1) (.int .i64 p.1) (.int .i64 p.2)) ∧ (set2 w (g + 1) (.int .i64 p.1) (.int .i64 p.2)).heap[g + 1]? = some (.cells #[.int .i64 p.1, .int .i64 p.2] 84 (0, 0)) := by
  obtain ⟨r1, r2⟩ := set2_block h.rs (.int .i64 p.1) (.int .i64 p.2)
  have := h.lw
  subst hr
  exact ⟨⟨rfl, rd_new h.rd r2 (by omega), grown_new h.gr r2 (by omega)⟩, r1⟩
set_option maxRecDepth 100000 in
set_option maxHeartbeats 4000000 in
theorem row_p_any {lb b : Nat} {V W : World} {s : PSt} (lo hi : Int) (mi : Bool) (hv : Env V W b) (h : Rd lb W b s) : Calls Tryz.prog 127 #[.pointer (some ⟨b, 0, none⟩), .agg #[.int .i64 lo, .int .i64 hi, .bool mi]] W (PR lb b W rgV (rowF lo hi mi s)) := by
  have hlow := h.low
  have hb2 : Below W.heap.size W ((W.alloc (.cells #[.int .i64 lo, .int .i64 hi, .bool mi] 150)).alloc (.cells #[.int .i64 0, .int .i64 0] 84)) := ((Below.refl _ _).alloc (Nat.le_refl _) _).alloc (by rw [World.size_alloc]; omega) _
  have hx1 : ((W.alloc (.cells #[.int .i64 lo, .int .i64 hi, .bool mi] 150)).alloc (.cells #[.int .i64 0, .int .i64 0] 84)).heap[W.heap.size]? = some (.cells #[.int .i64 lo, .int .i64 hi, .bool mi] 150 (0, 0)) := (Below.heap_alloc _ _ _ (by rw [World.size_alloc]; omega)).trans (heap_new _ _)
  have hx2 : ((W.alloc (.cells #[.int .i64 lo, .int .i64 hi, .bool mi] 150)).alloc (.cells #[.int .i64 0, .int .i64 0] 84)).heap[W.heap.size + 1]? = some (.cells #[.int .i64 0, .int .i64 0] 84 (0, 0)) := by
    have := heap_new (W.alloc (.cells #[.int .i64 lo, .int .i64 hi, .bool mi] 150)) (.cells #[.int .i64 0, .int .i64 0] 84)
    rw [World.size_alloc] at this
    exact this
  have hR : Rw lb b W.heap.size V W lo hi mi s ((W.alloc (.cells #[.int .i64 lo, .int .i64 hi, .bool mi] 150)).alloc (.cells #[.int .i64 0, .int .i64 0] 84)) := ⟨h.up hb2, hv.step (below_grown b hb2), hx1, hx2, below_grown b hb2, hlow.2, Nat.le_refl _, hlow.1⟩
  have hc := hide (begun_any hR.rd)
  have HR := hide hR
  clear hx1 hx2 hb2 h hv hR
  go_enter Tryz.func127, Tryz.ntmps127
  go_wp2_with fail
  refine (unhide hc).mono ?_
  rintro e w1 ⟨rfl, h1, hg1⟩
  have HR1 := hide ((unhide HR).step h1 hg1)
  obtain ⟨⟨x0, x1, x2⟩, _⟩ := cells3 (unhide HR1).bx
  have HN := hide (rnumber_any lo hi mi (unhide HR1).env (unhide HR1).rd)
  clear h1 hg1 hc HR
  go_wp2_with fail
  refine (unhide HN).mono ?_
  intro e w2 hw
  rcases hw.split with ⟨y, hr, rfl, hg⟩ | ⟨n, s2, hr, rfl, h2, hg⟩
  · refine ⟨rfl, ?_⟩
    unfold rowF
    rw [hr]
    exact ⟨rfl, (unhide HR1).gr.trans hg⟩
  · have HR2 := hide ((unhide HR1).step h2 hg)
    have Hr2 := hide hr
    clear hw hr hg h2 HN HR1 x0 x1 x2
    unfold intV
    go_wp2_with fail
    refine (takeWord_any (unhide HR2).rd _).mono ?_
    intro e w3 hw
    rcases hw.split with ⟨y, hr, rfl, hg⟩ | ⟨f, s3, hr, rfl, h3, hg⟩
    · refine ⟨rfl, ?_⟩
      unfold rowF
      rw [unhide Hr2]
      simp only
      rw [hr]
      exact ⟨rfl, (unhide HR2).gr.trans hg⟩
    · have HR3 := hide ((unhide HR2).step h3 hg)
      have Hr3 := hide hr
      clear hw hr hg h3 HR2
      cases f with
      | false =>
        have hEq : rowF lo hi mi s = .ok ((n, n), s3) := by
          unfold rowF
          rw [unhide Hr2]
          simp only
          rw [unhide Hr3]
        obtain ⟨d1, d2⟩ := (unhide HR3).done (n, n) hEq
        obtain ⟨⟨v0, v1⟩, vf⟩ := cells2 (unhide HR3).rs
        have e0 := vf 0
        have e1 := vf 1
        have D1 := hide d1
        have D2 := hide d2
        unfold set2 at D1 D2
        clear hEq d1 d2 vf
        go_wp2
        exact bodyPost_ret (results_cell_row rfl _ _ (W.heap.size + 1) 84 #[.int .i64 n, .int .i64 n] (0, 0) _ rfl (unhide D2) Tryz.underlying84 rfl sizeRg) rfl (unhide D1)
      | true =>
        go_wp2_with fail
        refine (takeWord_any (unhide HR3).rd _).mono ?_
        intro e w4 hw
        rcases hw.split with ⟨y, hr, rfl, hg⟩ | ⟨f, s4, hr, rfl, h4, hg⟩
        · refine ⟨rfl, ?_⟩
          unfold rowF
          rw [unhide Hr2]
          simp only
          rw [unhide Hr3]
          simp only
          rw [hr]
          exact ⟨rfl, (unhide HR3).gr.trans hg⟩
        · have HR4 := hide ((unhide HR3).step h4 hg)
          have Hr4 := hide hr
          obtain ⟨⟨x0, x1, x2⟩, xf⟩ := cells3 (unhide HR4).bx
          clear hw hr hg h4 HR3
          cases f with
          | true =>
            have hEq : rowF lo hi mi s = .ok ((n, hi), s4) := by
              unfold rowF
              rw [unhide Hr2]
              simp only
              rw [unhide Hr3]
              simp only
              rw [unhide Hr4]
            obtain ⟨d1, d2⟩ := (unhide HR4).done (n, hi) hEq
            obtain ⟨⟨v0, v1⟩, vf⟩ := cells2 (unhide HR4).rs
            have e0 := vf 0
            have e1 := vf 1
            have D1 := hide d1
            have D2 := hide d2
            unfold set2 at D1 D2
            clear hEq d1 d2 vf xf
            go_wp2
            exact bodyPost_ret (results_cell_row rfl _ _ (W.heap.size + 1) 84 #[.int .i64 n, .int .i64 hi] (0, 0) _ rfl (unhide D2) Tryz.underlying84 rfl sizeRg) rfl (unhide D1)
          | false =>
            have f0 := xf 0
            obtain ⟨k1, k2⟩ := set_block (j := 0) (unhide HR4).bx (.int .i64 n)
            simp only [List.set_cons_zero] at k1
            have hlw := (unhide HR4).lw
            have hVb := (unhide HR4).env.lo
            have hR5 : Rw lb b W.heap.size V W n hi mi s4 (w4.setCell ⟨W.heap.size, 0, none⟩ (.int .i64 n)) := ⟨rd_new (unhide HR4).rd k2 (by omega), env_new (unhide HR4).env k2 (by omega), k1, (k2.block (W.heap.size + 1) (Array.getElem?_eq_some_iff.1 (unhide HR4).rs).1 (by simp)).trans (unhide HR4).rs, grown_new (unhide HR4).gr k2 (Nat.le_refl _), hlw⟩
            obtain ⟨⟨z0, z1, z2⟩, _⟩ := cells3 hR5.bx
            have HR5 := hide hR5
            have HN := hide (rnumber_any n hi mi hR5.env hR5.rd)
            clear k1 k2 hR5 xf
            go_wp2_with fail
            refine (unhide HN).mono ?_
            intro e w6 hw
            have hEq : ∀ z, numberF n hi mi s4 = z → rowF lo hi mi s = (match z with | .error e => .error e | .ok (m, s5) => .ok ((n, m), s5)) := fun z hz => by
              unfold rowF
              rw [unhide Hr2]
              simp only
              rw [unhide Hr3]
              simp only
              rw [unhide Hr4]
              simp only
              rw [hz]
            rcases hw.split with ⟨y, hr, rfl, hg⟩ | ⟨m, s6, hr, rfl, h6, hg⟩
            · refine ⟨rfl, ?_⟩
              rw [hEq _ hr]
              exact ⟨rfl, (unhide HR5).gr.trans hg⟩
            · have hR6 := (unhide HR5).step h6 hg
              obtain ⟨d1, d2⟩ := hR6.done (n, m) (hEq _ hr)
              obtain ⟨⟨v0, v1⟩, vf⟩ := cells2 hR6.rs
              have e0 := vf 0
              have e1 := vf 1
              have D1 := hide d1
              have D2 := hide d2
              unfold set2 at D1 D2
              clear hEq d1 d2 vf hw hr hg h6 hR6 z0 z1 z2 x0 x1 x2 HN HR5 HR4
              unfold intV
              go_wp2
              exact bodyPost_ret (results_cell_row rfl _ _ (W.heap.size + 1) 84 #[.int .i64 n, .int .i64 m] (0, 0) _ rfl (unhide D2) Tryz.underlying84 rfl sizeRg) rfl (unhide D1)
end Go.Proofs.YtdhncpeemcanlaaGreatDoor

namespace Go.Proofs.YtdhncpeemcanlaaGreatDoor
open Go.RowKit Go.Shelf
attribute [local go_sem ↓] Go.wp_at_zero Go.wp_at_succ

noncomputable def mapF (s : PSt) : Except (Int × Int) (Fd × PSt) := match pnextF s.begun with
  | .error e => .error e
  | .ok (_, s1) => match pneedSignF ⟨#[60]⟩ s1 with
    | .error e => .error e
    | .ok (_, s2) => match dottedF true s2 with
      | .error e => .error e
      | .ok (k, s3) => match pneedSignF ⟨#[44]⟩ s3 with
        | .error e => .error e
        | .ok (_, s4) => match dottedF true s4 with
          | .error e => .error e
          | .ok (t, s5) => match pneedSignF ⟨#[62]⟩ s5 with
            | .error e => .error e
            | .ok (_, s6) => nnF ⟨4, k, t, ⟨#[]⟩, 0, 0⟩ s6
noncomputable def mapOrFieldF (s : PSt) : Except (Int × Int) (Fd × PSt) := if pisB (s.ahead 1) 4 ⟨#[60]⟩ = true then mapF s else plainF 0 s
theorem suf_needSign {x : ByteArray} {s s1 : PSt} {u : Unit} (h : pneedSignF x s = .ok (u, s1)) : Suf s s1 := by
  unfold pneedSignF at h
  cases ht : ptakeF 4 x s with
  | error e => rw [ht] at h; cases h
  | ok y =>
    obtain ⟨f, s2⟩ := y
    rw [ht] at h
    cases f with
    | false => cases h
    | true =>
      simp only [Except.ok.injEq, Prod.mk.injEq] at h
      rw [← h.2]
      exact suf_take ht
theorem suf_begun {s s1 : PSt} {u : Unit} (h : pnextF s.begun = .ok (u, s1)) : Suf s s1 := ⟨1, by rw [next_ok h, List.drop_one]; rfl, next_op (s := s.begun) h⟩
/-- What lies beside the reader while a map is read: the answer's block. -/
structure Mw (lb b g : Nat) (V W0 : World) (s0 s : PSt) (w : World) : Prop where
  rd : Rd lb w b s
  env : Env V w b
  rs : w.heap[g]? = some (.cells #[.int .i64 0, .string ⟨#[]⟩, .string ⟨#[]⟩, .string ⟨#[]⟩, .int .i64 0, .int .i64 0] 47 (0, 0))
  gr : W0.grownBy w (some b)
  lw : lb ≤ W0.heap.size ∧ W0.heap.size = g ∧ b < lb
  sf : Suf s0 s
theorem Mw.step {lb b g : Nat} {V W0 w w' : World} {s0 s s' : PSt} (h : Mw lb b g V W0 s0 s w) (hr : Rd lb w' b s') (hg : w.grownBy w' (some b)) (hs : Suf s s') : Mw lb b g V W0 s0 s' w' :=
  ⟨hr, h.env.step hg, (hg.block g (Array.getElem?_eq_some_iff.1 h.rs).1 (by have := h.lw; simp; omega)).trans h.rs, h.gr.trans hg, h.lw, h.sf.trans hs⟩
theorem Mw.up {lb b g : Nat} {V W0 w w' : World} {s0 s : PSt} (h : Mw lb b g V W0 s0 s w) (hb : Below w.heap.size w w') : Mw lb b g V W0 s0 s w' := h.step (h.rd.up hb) (below_grown b hb) (.refl _)
theorem Mw.new {lb b g g' : Nat} {V W0 w w' : World} {s0 s : PSt} (h : Mw lb b g V W0 s0 s w) (k : w.grownBy w' (some g')) (hl : g < g') : Mw lb b g V W0 s0 s w' := by
  have := h.lw
  have hV := h.env.lo
  exact ⟨rd_new h.rd k (by omega), env_new h.env k (by omega), (k.block g (Array.getElem?_eq_some_iff.1 h.rs).1 (by simp; omega)).trans h.rs, grown_new h.gr k (by omega), h.lw, h.sf⟩
theorem Mw.done {lb b g : Nat} {V W0 w : World} {s0 s : PSt} (h : Mw lb b g V W0 s0 s w) (d : Fd) {r : Except (Int × Int) (Fd × PSt)} (hr : r = .ok (d, s)) : PR lb b W0 Fd.val r (.returned d.val) (set6 w g (.int .i64 d.card) (.string d.key) (.string d.ty) (.string d.name) (.int .i64 d.num) (.int .i64 d.oneof)) ∧ (set6 w g (.int .i64 d.card) (.string d.key) (.string d.ty) (.string d.name) (.int .i64 d.num) (.int .i64 d.oneof)).heap[g]? = some (.cells #[.int .i64 d.card, .string d.key, .string d.ty, .string d.name, .int .i64 d.num, .int .i64 d.oneof] 47 (0, 0)) := by
  obtain ⟨r1, r2⟩ := set6_block h.rs (.int .i64 d.card) (.string d.key) (.string d.ty) (.string d.name) (.int .i64 d.num) (.int .i64 d.oneof)
  have := h.lw
  subst hr
  exact ⟨⟨rfl, rd_new h.rd r2 (by omega), grown_new h.gr r2 (by omega)⟩, r1⟩
end Go.Proofs.YtdhncpeemcanlaaGreatDoor
