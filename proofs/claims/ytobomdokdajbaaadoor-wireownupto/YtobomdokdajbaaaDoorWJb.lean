import Derived.Test.YtobomdokdajbaaaDoorJ37
import Derived.Test.YtobomdokdajbaaaDoorJ37

namespace Go.Proofs.YtobomdokdajbaaaDoor
open Go.RowKit
attribute [local go_sem ↓] Go.wp_at_zero Go.wp_at_succ

theorem LK.fin {w0 wr : World} {rs : List Ri} {n : Nat} {us : Nat → Value} (h : LK w0 wr rs n n us) (hn : rs.length = n) (hm : n ≤ 1048576) (hw : ∀ (i : Nat) (nb kd x : Int) (t : ByteArray) (li : List Ri), rs[i]? = some (.mk nb kd x t li) → RngI nb ∧ RngI kd ∧ RngI x) :
    HasRk (W5 wr w0.heap.size (n * 5) (.int .i64 91) (.int .i64 0) (.int .i64 0) (.string ⟨#[]⟩) (.slice none 0 0)) (fun q => w0.heap.size ≤ q) (.slice (some ⟨w0.heap.size, 0, none⟩) n (n + 1)) rs ∧ Below w0.heap.size w0 (W5 wr w0.heap.size (n * 5) (.int .i64 91) (.int .i64 0) (.int .i64 0) (.string ⟨#[]⟩) (.slice none 0 0)) := by
  obtain ⟨cur, hb, hs, hc⟩ := h.blk
  have hz := h.sz
  have hb5 := W5_blk (p := n * 5) (a := .int .i64 91) (b := .int .i64 0) (c := .int .i64 0) (d := .string ⟨#[]⟩) (e := .slice none 0 0) hb
  have hat := s5_at (cur := cur) (p := n * 5) (a := .int .i64 91) (b := .int .i64 0) (c := .int .i64 0) (d := .string ⟨#[]⟩) (e := .slice none 0 0) (by omega)
  refine ⟨.row w0.heap.size n rs us (Nat.le_refl _) hn hm (by rw [W5_size]; exact hz) ((cell_of_row _ _ _ _ _ _ hb5).trans hat.1) hw (fun i r hr j x hx => ?_) (fun i r hr => ?_), h.bel.trans (W5_below (Nat.le_refl _))⟩
  · have hi := (List.getElem?_eq_some_iff.1 hr).1
    have hj : j < 5 := by have := (List.getElem?_eq_some_iff.1 hx).1; rw [icells_len] at this; exact this
    refine (cell_of_row _ _ _ _ _ _ hb5).trans ?_
    rw [s5_far (by omega)]
    exact hc i r (by omega) hr j x hx
  · have hi := (List.getElem?_eq_some_iff.1 hr).1
    refine (h.inn i r (by omega) hr).mono (fun g hg hp => ?_) (by rw [W5_size]; exact Nat.le_refl _)
    replace hp : w0.heap.size < g := hp
    exact ⟨by omega, W5_far (by omega)⟩
/-- Records that lie in a block of their own, the inner ones behind it. -/
def TopK (W : World) (g : Nat) (rs : List Ri) : Prop := ∃ (us : Nat → Value) (cur : Array Value), W.heap[g]? = some (.cells cur 35 (0, 0)) ∧ cur.size = (rs.length + 1) * 5 ∧ rs.length ≤ 1048576 ∧ cur[rs.length * 5]? = some (.int .i64 91) ∧ (∀ (i : Nat) (nb kd x : Int) (t : ByteArray) (li : List Ri), rs[i]? = some (.mk nb kd x t li) → RngI nb ∧ RngI kd ∧ RngI x) ∧ (∀ (i : Nat) (r : Ri), rs[i]? = some r → ∀ (j : Nat) (x : Value), (icells r (us i))[j]? = some x → cur[i * 5 + j]? = some x) ∧ ∀ (i : Nat) (r : Ri), rs[i]? = some r → HasRk W (fun q => g < q) (us i) r.inner
theorem LK.top {w0 wr : World} {rs : List Ri} {us : Nat → Value} (h : LK w0 wr rs rs.length rs.length us) (hm : rs.length ≤ 1048576) (hw : ∀ (i : Nat) (nb kd x : Int) (t : ByteArray) (li : List Ri), rs[i]? = some (.mk nb kd x t li) → RngI nb ∧ RngI kd ∧ RngI x) :
    TopK (W5 wr w0.heap.size (rs.length * 5) (.int .i64 91) (.int .i64 0) (.int .i64 0) (.string ⟨#[]⟩) (.slice none 0 0)) w0.heap.size rs := by
  obtain ⟨cur, hb, hs, hc⟩ := h.blk
  have hb5 := W5_blk (p := rs.length * 5) (a := .int .i64 91) (b := .int .i64 0) (c := .int .i64 0) (d := .string ⟨#[]⟩) (e := .slice none 0 0) hb
  have hat := s5_at (cur := cur) (p := rs.length * 5) (a := .int .i64 91) (b := .int .i64 0) (c := .int .i64 0) (d := .string ⟨#[]⟩) (e := .slice none 0 0) (by omega)
  refine ⟨us, _, hb5, by rw [s5_size]; omega, hm, hat.1, hw, fun i r hr j x hx => ?_, fun i r hr => ?_⟩
  · have hi := (List.getElem?_eq_some_iff.1 hr).1
    have hj : j < 5 := by have := (List.getElem?_eq_some_iff.1 hx).1; rw [icells_len] at this; exact this
    rw [s5_far (by omega)]
    exact hc i r (by omega) hr j x hx
  · have hi := (List.getElem?_eq_some_iff.1 hr).1
    refine (h.inn i r (by omega) hr).mono (fun g hg hp => ?_) (by rw [W5_size]; exact Nat.le_refl _)
    replace hp : w0.heap.size < g := hp
    exact ⟨hp, W5_far (by omega)⟩
/-- What lent answers. -/
def LentA (w0 : World) (rs : List Ri) (e : Ending) (W' : World) : Prop := ∃ g, e = .returned (.slice (some ⟨g, 0, none⟩) rs.length (rs.length + 1)) ∧ HasRk W' (fun q => w0.heap.size ≤ q) (.slice (some ⟨g, 0, none⟩) rs.length (rs.length + 1)) rs ∧ Below w0.heap.size w0 W'
def LentB (w0 : World) (rs : List Ri) (e : Ending) (W' : World) : Prop := e = .returned (.slice (some ⟨w0.heap.size, 0, none⟩) rs.length (rs.length + 1)) ∧ TopK W' w0.heap.size rs ∧ HasRk W' (fun q => w0.heap.size ≤ q) (.slice (some ⟨w0.heap.size, 0, none⟩) rs.length (rs.length + 1)) rs ∧ Below w0.heap.size w0 W'
def LentQ (W : World) (v : Value) (rs : List Ri) : Prop := ∀ (i : Nat) (nb kd x : Int) (t : ByteArray) (li : List Ri) (g off c : Nat) (ia : Option Addr) (ic : Nat), v = .slice (some ⟨g, off, none⟩) rs.length c → rs[i]? = some (.mk nb kd x t li) → W.cell? ⟨g, off + i * 5 + 4, none⟩ = some (.slice ia li.length ic) → ∀ w0, Below W.heap.size W w0 →
  Calls Tryd.prog 20 #[.slice ia li.length ic] w0 (LentA w0 li)
set_option maxRecDepth 100000 in
set_option maxHeartbeats 8000000 in
theorem lent_one1 {W : World} {v : Value} {rs : List Ri} (h : HasRi W v rs) (hQ : LentQ W v rs) (hlen : rs.length ≤ 1048576) (w0 : World) (hB0 : Below W.heap.size W w0) : Calls Tryd.prog 20 #[v] w0 (LentB w0 rs) := by
  obtain ⟨i0, hi0', hz0, hz1, hz2⟩ := info_parts Tryd.infoRec
  have HQ := hide hQ
  have Hh := hide h
  have HB0 := hide hB0
  obtain ⟨va, vc, rfl⟩ := h.form
  obtain ⟨n1, hn1⟩ : ∃ n1, rs.length + 1 = n1 := ⟨_, rfl⟩
  have eN : (rs.length : Int) + 1 = (n1 : Int) := by omega
  have hn2 : n1 ≤ 1048577 := by omega
  have Hn1 := hide hn1
  have hlN : (rs.length : Int) < (n1 : Int) := by omega
  have hlN2 : (rs.length : Int) ≤ (n1 : Int) := by omega
  have hnz : ¬ n1 = 0 := by omega
  clear h hQ hB0 hn1
  go_enter Tryd.func20, Tryd.ntmps20
  go_wp2_with (at_make; refine wpList_make_full _ rfl _ _ 33 rfl w0.heap.size 35 i0 (.agg #[.int .i64 0, .int .i64 0, .int .i64 0, .string .empty, .slice none 0 0]) 5 Tryd.underlying33 hi0' hz0 hz1 .i64 .i64 _ _ n1 rfl rfl (by first | rfl | simp) (by first | rfl | simp) (by rw [hz2]; omega) (by unfold maxLen; omega) (Nat.le_refl _) ?_; intro w5 hown5 hgrow5; have HL0 : Hid (LK w0 w5 rs rs.length 0 (fun _ => .slice none 0 0)) := (by
    obtain ⟨h1, ⟨q, _⟩ | ⟨g', cap, cur, e1, h3, h4, h5, h6, h7, h8⟩⟩ := hown5
    · cases q
    · injection e1 with e1 _ e2
      injection e1 with e1
      injection e1 with e1
      subst e1 e2
      exact ⟨⟨hgrow5.os, hgrow5.tape, hgrow5.output, hgrow5.size, fun b hb => hgrow5.block b hb (by simp)⟩, (Array.getElem?_eq_some_iff.1 h4).1, ⟨cur, h4, by have := unhide Hn1; omega, fun j r hj => absurd hj (Nat.not_lt_zero _)⟩, fun j r hj => absurd hj (Nat.not_lt_zero _)⟩); clear hown5 hgrow5)
  go_loopg [4] rs.length (fun gk v4 wr => ∃ (i : Nat) (us : Nat → Value), v4 = .int .i64 (i : Int) ∧ gk = rs.length - i ∧ i ≤ rs.length ∧ Hid (LK w0 wr rs rs.length i us))
  case atStart => exact ⟨0, _, rfl, rfl, Nat.zero_le _, HL0⟩
  case round =>
    clear HL0
    obtain ⟨i, us, rfl, hgk, hin, HL⟩ := hrel
    have Hgk := hide hgk
    clear hgk
    obtain ⟨cur, hblk, hcs, -⟩ := (unhide HL).blk
    have hsz := (unhide HL).sz
    obtain ⟨z0, y0, f0⟩ := cell_blk hblk (i * 5) (by omega)
    obtain ⟨z1, y1, f1⟩ := cell_blk hblk (i * 5 + 1) (by omega)
    obtain ⟨z2, y2, f2⟩ := cell_blk hblk (i * 5 + 2) (by omega)
    obtain ⟨z3, y3, f3⟩ := cell_blk hblk (i * 5 + 3) (by omega)
    obtain ⟨z4, y4, f4⟩ := cell_blk hblk (i * 5 + 4) (by omega)
    by_cases hlt : i < rs.length
    · obtain ⟨r, hr⟩ : ∃ r, rs[i]? = some r := ⟨_, List.getElem?_eq_getElem hlt⟩
      obtain ⟨nb, kd, x, t, lj⟩ := r
      obtain ⟨g, off, c1, ja, jc, ev, hg, hw', q0, q1, q2, q3, q4, hin2⟩ := (unhide Hh).rec' hr
      obtain ⟨rfl, rfl⟩ : va = some ⟨g, off, none⟩ ∧ vc = c1 := by injection ev with x1 x2 x3; exact ⟨x1, x3⟩
      have hBW : Below W.heap.size W wr := (unhide HB0).trans ((unhide HL).bel.mono (unhide HB0).size)
      have d0 := (hBW.cell (p := ⟨g, off + i * 5, none⟩) hg).trans q0
      have d1 := (hBW.cell (p := ⟨g, off + i * 5 + 1, none⟩) hg).trans q1
      have d2 := (hBW.cell (p := ⟨g, off + i * 5 + 2, none⟩) hg).trans q2
      have d3 := (hBW.cell (p := ⟨g, off + i * 5 + 3, none⟩) hg).trans q3
      have d4 := (hBW.cell (p := ⟨g, off + i * 5 + 4, none⟩) hg).trans q4
      have hgn : g ≠ w0.heap.size := by have := (unhide HB0).size; omega
      have hB5 : Below W.heap.size W (W5 wr w0.heap.size (i * 5) (.int .i64 nb) (.int .i64 kd) (.int .i64 x) (.string t) (.slice ja lj.length jc)) := hBW.trans (W5_below (unhide HB0).size)
      have e4 : (((((wr.setCell ⟨w0.heap.size, i * 5, none⟩ (.int .i64 nb)).setCell ⟨w0.heap.size, i * 5 + 1, none⟩ (.int .i64 kd)).setCell ⟨w0.heap.size, i * 5 + 2, none⟩ (.int .i64 x)).setCell ⟨w0.heap.size, i * 5 + 3, none⟩ (.string t)).setCell ⟨w0.heap.size, i * 5 + 4, none⟩ (.slice ja lj.length jc)).cell? ⟨g, off + i * 5 + 4, none⟩ = some (.slice ja lj.length jc) := (hB5.cell (p := ⟨g, off + i * 5 + 4, none⟩) hg).trans q4
      have Hcall := hide (unhide HQ i nb kd x t lj g off vc ja jc rfl hr q4 _ hB5)
      have hi0 : (0 : Int) ≤ (i : Int) := Int.natCast_nonneg _
      have hi1 : (i : Int) < (rs.length : Int) := by omega
      have hi2 : (i : Int) < (n1 : Int) := by omega
      have Hr := hide hr
      have hb5 := W5_blk (p := i * 5) (a := .int .i64 nb) (b := .int .i64 kd) (c := .int .i64 x) (d := .string t) (e := .slice ja lj.length jc) hblk
      have Hb5 := hide hb5
      have Hcs : Hid (cur.size = (rs.length + 1) * 5) := hcs
      clear q0 q1 q2 q3 q4 hr ev hin2 hBW hw' hB5 hblk hb5 hcs
      go_wp2_with fail
      refine (unhide Hcall).mono ?_
      rintro e9 w2 ⟨g2, rfl, hT2, hb2⟩
      rw [W5_size] at hb2
      have hT2' : HasRk w2 (fun q => wr.heap.size ≤ q) (.slice (some ⟨g2, 0, none⟩) lj.length (lj.length + 1)) lj := by
        have q := hT2
        rw [W5_size] at q
        exact q
      obtain ⟨z9, y9, f9⟩ := cell_blk ((hb2.block _ hsz).trans (unhide Hb5)) (i * 5 + 4) (by rw [s5_size]; have := unhide Hcs; omega)
      have HLs := hide ((unhide HL).step hlt (unhide Hr) hb2 hT2')
      clear hT2 hT2' hb2 Hcall d0 d1 d2 d3 d4 y0 y1 y2 y3 y4 f0 f1 f2 f3 f4 e4
      go_wp2
      go_roundg (rs.length - (i + 1))
      case measure => have := unhide Hgk; omega
      case rel => exact ⟨i + 1, _, by go_num, rfl, by omega, HLs⟩
    · obtain rfl : i = rs.length := by omega
      have Hf := hide ((unhide HL).fin rfl hlen (fun i nb kd x t li hr => by
        obtain ⟨g, off, c1, ja, jc, ev, hg, hw', _⟩ := (unhide Hh).rec' hr
        exact hw'))
      have Hg := hide ((unhide HL).top hlen (fun i nb kd x t li hr => by
        obtain ⟨g, off, c1, ja, jc, ev, hg, hw', _⟩ := (unhide Hh).rec' hr
        exact hw'))
      clear hblk hcs hlt
      go_wp2
      go_ret
      have hn1 := unhide Hn1
      subst hn1
      exact ⟨rfl, unhide Hg, (unhide Hf).1, (unhide Hf).2⟩
theorem lent_one {W : World} {v : Value} {rs : List Ri} (h : HasRi W v rs) (hQ : LentQ W v rs) (hlen : rs.length ≤ 1048576) (w0 : World) (hB0 : Below W.heap.size W w0) : Calls Tryd.prog 20 #[v] w0 (LentA w0 rs) := (lent_one1 h hQ hlen w0 hB0).mono fun _ _ ⟨h1, _, h3, h4⟩ => ⟨_, h1, h3, h4⟩
/-- lent, of all records that came in. -/
theorem lent_all {W : World} {v : Value} {rs : List Ri} (h : HasRi W v rs) : blL rs ≤ 1048576 → LentQ W v rs := by
  induction h with
  | nil a c =>
    intro _ i nb kd x t li g off c' ia ic _ hr
    simp at hr
  | row g off n c rs us hn hm hg hw hc hi ih =>
    intro hb i nb kd x t li g' off' c' ia ic ev hr hcell w0 hB0
    obtain ⟨rfl, rfl⟩ : g = g' ∧ off = off' := by
      injection ev with e1 _ _
      injection e1 with e1
      injection e1 with e1 e2
      exact ⟨e1, e2⟩
    have hu : us i = .slice ia li.length ic := by
      have q := hc i _ hr 4 (us i) rfl
      rw [hcell] at q
      exact (Option.some.inj q).symm
    have hbr := bl_mem hr
    rw [blR] at hbr
    have hll := bl_len li
    have hQ := ih i _ hr (by show blL li ≤ _; omega)
    have hI := hi i _ hr
    rw [hu] at hQ hI
    exact lent_one (rs := li) hI hQ (by omega) w0 hB0
theorem lent_any {W : World} {v : Value} {rs : List Ri} (h : HasRi W v rs) (hb : blL rs ≤ 1048576) (w0 : World) (hB0 : Below W.heap.size W w0) : Calls Tryd.prog 20 #[v] w0 (LentA w0 rs) := lent_one h (lent_all h hb) (Nat.le_trans (bl_len rs) hb) w0 hB0
/-- lent, of all records that came in: its first row apart. -/
theorem lent_top {W : World} {v : Value} {rs : List Ri} (h : HasRi W v rs) (hb : blL rs ≤ 1048576) (w0 : World) (hB0 : Below W.heap.size W w0) : Calls Tryd.prog 20 #[v] w0 (LentB w0 rs) := lent_one1 h (lent_all h hb) (Nat.le_trans (bl_len rs) hb) w0 hB0
end Go.Proofs.YtobomdokdajbaaaDoor
