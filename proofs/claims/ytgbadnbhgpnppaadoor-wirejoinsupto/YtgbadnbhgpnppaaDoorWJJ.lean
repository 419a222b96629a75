import Derived.Test.YtgbadnbhgpnppaaDoorWHJ
import Derived.Test.YtgbadnbhgpnppaaDoorWSO
namespace Go.Proofs.YtgbadnbhgpnppaaDoor
open Go.RowKit
attribute [local go_sem ↓] Go.wp_at_zero Go.wp_at_succ

/-- Records of our own with a mark behind each list, in blocks of P. -/
inductive HasRk (W : World) (P : Nat → Prop) : Value → List Ri → Prop
  | row (g n : Nat) (rs : List Ri) (us : Nat → Value) (hP : P g) (hn : rs.length = n) (hm : n ≤ 1048576) (hg : g < W.heap.size) (hk : W.cell? ⟨g, n * 5, none⟩ = some (.int .i64 91)) (hw : ∀ (i : Nat) (nb kd x : Int) (t : ByteArray) (li : List Ri), rs[i]? = some (.mk nb kd x t li) → RngI nb ∧ RngI kd ∧ RngI x) (hc : ∀ (i : Nat) (r : Ri), rs[i]? = some r → ∀ (j : Nat) (x : Value), (icells r (us i))[j]? = some x → W.cell? ⟨g, i * 5 + j, none⟩ = some x) (hi : ∀ (i : Nat) (r : Ri), rs[i]? = some r → HasRk W P (us i) r.inner) : HasRk W P (.slice (some ⟨g, 0, none⟩) n (n + 1)) rs
theorem HasRk.form {W : World} {P : Nat → Prop} {v : Value} {rs : List Ri} (h : HasRk W P v rs) : ∃ g, v = .slice (some ⟨g, 0, none⟩) rs.length (rs.length + 1) := by
  cases h with
  | row g n rs us hP hn hm hg hk hw hc hi => exact ⟨g, by rw [hn]⟩
theorem HasRk.mono {W w : World} {P Q : Nat → Prop} (hP : ∀ g, g < W.heap.size → P g → Q g ∧ w.heap[g]? = W.heap[g]?) (hz : W.heap.size ≤ w.heap.size) {v : Value} {rs : List Ri} (h : HasRk W P v rs) : HasRk w Q v rs := by
  induction h with
  | row g n rs us hp hn hm hg hk hw hc hi ih =>
    refine .row g n rs us (hP g hg hp).1 hn hm (Nat.lt_of_lt_of_le hg hz) ((World.cell?_of_block (a := ⟨g, n * 5, none⟩) (hP g hg hp).2).trans hk) hw (fun i t ht j x hx => ?_) ih
    exact (World.cell?_of_block (a := ⟨g, i * 5 + j, none⟩) (hP g hg hp).2).trans (hc i t ht j x hx)
/-- Five cells of a block. -/
def s5 (cur : Array Value) (p : Nat) (a b c d e : Value) : Array Value := ((((cur.setIfInBounds p a).setIfInBounds (p + 1) b).setIfInBounds (p + 2) c).setIfInBounds (p + 3) d).setIfInBounds (p + 4) e
theorem s5_size (cur : Array Value) (p : Nat) (a b c d e : Value) : (s5 cur p a b c d e).size = cur.size := by simp [s5]
theorem s5_far {cur : Array Value} {p j : Nat} {a b c d e : Value} (h : j < p ∨ p + 5 ≤ j) : (s5 cur p a b c d e)[j]? = cur[j]? := by
  unfold s5
  rw [Array.getElem?_setIfInBounds_ne (by omega), Array.getElem?_setIfInBounds_ne (by omega), Array.getElem?_setIfInBounds_ne (by omega), Array.getElem?_setIfInBounds_ne (by omega), Array.getElem?_setIfInBounds_ne (by omega)]
theorem s5_at {cur : Array Value} {p : Nat} {a b c d e : Value} (h : p + 5 ≤ cur.size) : (s5 cur p a b c d e)[p]? = some a ∧ (s5 cur p a b c d e)[p + 1]? = some b ∧ (s5 cur p a b c d e)[p + 2]? = some c ∧ (s5 cur p a b c d e)[p + 3]? = some d ∧ (s5 cur p a b c d e)[p + 4]? = some e := by
  unfold s5
  refine ⟨?_, ?_, ?_, ?_, ?_⟩
  · rw [Array.getElem?_setIfInBounds_ne (by omega), Array.getElem?_setIfInBounds_ne (by omega), Array.getElem?_setIfInBounds_ne (by omega), Array.getElem?_setIfInBounds_ne (by omega), Array.getElem?_setIfInBounds_self_of_lt (by omega)]
  · rw [Array.getElem?_setIfInBounds_ne (by omega), Array.getElem?_setIfInBounds_ne (by omega), Array.getElem?_setIfInBounds_ne (by omega), Array.getElem?_setIfInBounds_self_of_lt (by simp; omega)]
  · rw [Array.getElem?_setIfInBounds_ne (by omega), Array.getElem?_setIfInBounds_ne (by omega), Array.getElem?_setIfInBounds_self_of_lt (by simp; omega)]
  · rw [Array.getElem?_setIfInBounds_ne (by omega), Array.getElem?_setIfInBounds_self_of_lt (by simp; omega)]
  · rw [Array.getElem?_setIfInBounds_self_of_lt (by simp; omega)]
/-- The world behind a store of five cells. -/
def W5 (w : World) (g p : Nat) (a b c d e : Value) : World := ((((w.setCell ⟨g, p, none⟩ a).setCell ⟨g, p + 1, none⟩ b).setCell ⟨g, p + 2, none⟩ c).setCell ⟨g, p + 3, none⟩ d).setCell ⟨g, p + 4, none⟩ e
theorem W5_blk {w : World} {g p : Nat} {a b c d e : Value} {cur : Array Value} {t : TypeId} (h : w.heap[g]? = some (.cells cur t (0, 0))) : (W5 w g p a b c d e).heap[g]? = some (.cells (s5 cur p a b c d e) t (0, 0)) := heap_setCell_same _ _ _ _ _ _ (heap_setCell_same _ _ _ _ _ _ (heap_setCell_same _ _ _ _ _ _ (heap_setCell_same _ _ _ _ _ _ (heap_setCell_same _ _ _ _ _ _ h))))
theorem W5_far {w : World} {g p q : Nat} {a b c d e : Value} (h : q ≠ g) : (W5 w g p a b c d e).heap[q]? = w.heap[q]? := by
  unfold W5
  rw [heap_setCell_other _ ⟨g, p + 4, none⟩ q _ h, heap_setCell_other _ ⟨g, p + 3, none⟩ q _ h, heap_setCell_other _ ⟨g, p + 2, none⟩ q _ h, heap_setCell_other _ ⟨g, p + 1, none⟩ q _ h, heap_setCell_other _ ⟨g, p, none⟩ q _ h]
theorem W5_size {w : World} {g p : Nat} {a b c d e : Value} : (W5 w g p a b c d e).heap.size = w.heap.size := by unfold W5; simp only [World.size_setCell]
theorem W5_frame {w : World} {g p : Nat} {a b c d e : Value} : (W5 w g p a b c d e).os = w.os ∧ (W5 w g p a b c d e).tape = w.tape ∧ (W5 w g p a b c d e).output = w.output := by
  unfold W5
  refine ⟨?_, ?_, ?_⟩
  · rw [(frame_set _ _ _).1, (frame_set _ _ _).1, (frame_set _ _ _).1, (frame_set _ _ _).1, (frame_set _ _ _).1]
  · rw [(frame_set _ _ _).2.1, (frame_set _ _ _).2.1, (frame_set _ _ _).2.1, (frame_set _ _ _).2.1, (frame_set _ _ _).2.1]
  · rw [(frame_set _ _ _).2.2, (frame_set _ _ _).2.2, (frame_set _ _ _).2.2, (frame_set _ _ _).2.2, (frame_set _ _ _).2.2]
theorem W5_below {w : World} {n g p : Nat} {a b c d e : Value} (h : n ≤ g) : Below n w (W5 w g p a b c d e) := ⟨W5_frame.1, W5_frame.2.1, W5_frame.2.2, by rw [W5_size]; exact Nat.le_refl _, fun q hq => W5_far (by omega)⟩
/-- Where lent's loop stands. -/
structure LK (w0 wr : World) (rs : List Ri) (n i : Nat) (us : Nat → Value) : Prop where
  bel : Below w0.heap.size w0 wr
  sz : w0.heap.size < wr.heap.size
  blk : ∃ cur : Array Value, wr.heap[w0.heap.size]? = some (.cells cur 55 (0, 0)) ∧ cur.size = (n + 1) * 5 ∧ ∀ (j : Nat) (r : Ri), j < i → rs[j]? = some r → ∀ (q : Nat) (x : Value), (icells r (us j))[q]? = some x → cur[j * 5 + q]? = some x
  inn : ∀ (j : Nat) (r : Ri), j < i → rs[j]? = some r → HasRk wr (fun g => w0.heap.size < g) (us j) r.inner
theorem cell_blk {w : World} {g : Nat} {cur : Array Value} {t : TypeId} (h : w.heap[g]? = some (.cells cur t (0, 0))) (p : Nat) (hp : p < cur.size) : ∃ z, w.cell? ⟨g, p, none⟩ = some z ∧ w.frozen? ⟨g, p, none⟩ = false := ⟨cur[p], (cell_of_row _ _ _ _ _ _ h).trans (Array.getElem?_eq_getElem hp), frozen_of_row _ _ _ _ _ h⟩
theorem icells_len (r : Ri) (u : Value) : (icells r u).length = 5 := by cases r; rfl
/-- A record more. -/
theorem LK.step {w0 wr w2 : World} {rs : List Ri} {n i : Nat} {us : Nat → Value} {nb kd x : Int} {t : ByteArray} {li : List Ri} {y u : Value} (h : LK w0 wr rs n i us) (hi : i < n) (hr : rs[i]? = some (.mk nb kd x t li)) (hB : Below wr.heap.size (W5 wr w0.heap.size (i * 5) (.int .i64 nb) (.int .i64 kd) (.int .i64 x) (.string t) y) w2) (hu : HasRk w2 (fun g => wr.heap.size ≤ g) u li) :
    LK w0 (w2.setCell ⟨w0.heap.size, i * 5 + 4, none⟩ u) rs n (i + 1) (fun j => if j = i then u else us j) := by
  obtain ⟨cur, hb, hs, hc⟩ := h.blk
  have hz := h.sz
  have hzB := hB.size
  rw [W5_size] at hzB
  have hb5 := W5_blk (p := i * 5) (a := .int .i64 nb) (b := .int .i64 kd) (c := .int .i64 x) (d := .string t) (e := y) hb
  have hb2 := (hB.block _ hz).trans hb5
  have hb3 := heap_setCell_same w2 w0.heap.size (i * 5 + 4) _ _ u hb2
  have hat := s5_at (cur := cur) (p := i * 5) (a := .int .i64 nb) (b := .int .i64 kd) (c := .int .i64 x) (d := .string t) (e := y) (by omega)
  have hfar : ∀ q, q ≠ w0.heap.size → q < wr.heap.size → (w2.setCell ⟨w0.heap.size, i * 5 + 4, none⟩ u).heap[q]? = wr.heap[q]? := fun q hq hl => (heap_setCell_other w2 ⟨w0.heap.size, i * 5 + 4, none⟩ q u hq).trans ((hB.block q hl).trans (W5_far hq))
  refine ⟨?_, by rw [World.size_setCell]; omega, ⟨_, hb3, by simp [s5_size, hs], ?_⟩, ?_⟩
  · refine h.bel.trans ⟨hB.os.trans W5_frame.1, hB.tape.trans W5_frame.2.1, hB.output.trans W5_frame.2.2, by rw [World.size_setCell]; omega, fun q hq => hfar q (by omega) (by omega)⟩
  · intro j r hj hrj q z hz'
    have hq5 : q < 5 := by have := (List.getElem?_eq_some_iff.1 hz').1; rw [icells_len] at this; exact this
    by_cases hji : j = i
    · subst hji
      rw [hr] at hrj
      obtain rfl := Option.some.inj hrj
      rw [if_pos rfl] at hz'
      match q, hq5, hz' with
      | 0, _, hz' => rw [Array.getElem?_setIfInBounds_ne (by omega), Nat.add_zero, hat.1]; exact hz'
      | 1, _, hz' => rw [Array.getElem?_setIfInBounds_ne (by omega), hat.2.1]; exact hz'
      | 2, _, hz' => rw [Array.getElem?_setIfInBounds_ne (by omega), hat.2.2.1]; exact hz'
      | 3, _, hz' => rw [Array.getElem?_setIfInBounds_ne (by omega), hat.2.2.2.1]; exact hz'
      | 4, _, hz' => rw [Array.getElem?_setIfInBounds_self_of_lt (by rw [s5_size]; omega)]; exact hz'
    · rw [if_neg hji] at hz'
      rw [Array.getElem?_setIfInBounds_ne (by omega), s5_far (by omega)]
      exact hc j r (by omega) hrj q z hz'
  · intro j r hj hrj
    by_cases hji : j = i
    · subst hji
      rw [hr] at hrj
      obtain rfl := Option.some.inj hrj
      show HasRk _ _ (if j = j then u else us j) _
      rw [if_pos rfl]
      refine hu.mono (fun g hg hp => ?_) (by rw [World.size_setCell]; exact Nat.le_refl _)
      replace hp : wr.heap.size ≤ g := hp
      exact ⟨by omega, heap_setCell_other w2 ⟨w0.heap.size, j * 5 + 4, none⟩ g u (by show g ≠ w0.heap.size; omega)⟩
    · show HasRk _ _ (if j = i then u else us j) _
      rw [if_neg hji]
      refine (h.inn j r (by omega) hrj).mono (fun g hg hp => ?_) (by rw [World.size_setCell]; omega)
      replace hp : w0.heap.size < g := hp
      exact ⟨hp, hfar g (by omega) hg⟩
end Go.Proofs.YtgbadnbhgpnppaaDoor
namespace Go.Proofs.YtgbadnbhgpnppaaDoor
open Go.RowKit
attribute [local go_sem ↓] Go.wp_at_zero Go.wp_at_succ

theorem LK.fin {w0 wr : World} {rs : List Ri} {n : Nat} {us : Nat → Value} (h : LK w0 wr rs n n us) (hn : rs.length = n) (hm : n ≤ 1048576) (hw : ∀ (i : Nat) (nb kd x : Int) (t : ByteArray) (li : List Ri), rs[i]? = some (.mk nb kd x t li) → RngI nb ∧ RngI kd ∧ RngI x) :
    HasRk (W5 wr w0.heap.size (n * 5) (.int .i64 91) (.int .i64 0) (.int .i64 0) (.string ⟨#[]⟩) (.slice none 0 0)) (fun q => w0.heap.size ≤ q) (.slice (some ⟨w0.heap.size, 0, none⟩) n (n + 1)) rs ∧ Below w0.heap.size w0 (W5 wr w0.heap.size (n * 5) (.int .i64 91) (.int .i64 0) (.int .i64 0) (.string ⟨#[]⟩) (.slice none 0 0)) := by
  obtain ⟨cur, hb, hs, hc⟩ := h.blk
  have hz := h.sz
  have hb5 := W5_blk (p := n * 5) (a := .int .i64 91) (b := .int .i64 0) (c := .int .i64 0) (d := .string ⟨#[]⟩) (e := .slice none 0 0) hb
  have hat := s5_at (cur := cur) (p := n * 5) (a := .int .i64 91) (b := .int .i64 0) (c := .int .i64 0) (d := .string ⟨#[]⟩) (e := .slice none 0 0) (by omega)
  refine ⟨.row w0.heap.size n rs us (Nat.le_refl _) hn hm (by rw [W5_size]; exact hz) ((cell_of_row _ _ _ _ _ _ hb5).trans hat.1) hw (fun i r hr j x hx => ?_) (fun i r hr => ?_), h.bel.trans (W5_below (Nat.le_refl _))⟩
  · have hi := (List.getElem?_eq_some_iff.1 hr).1
    have hj : j < 5 := by have := (List.getElem?_eq_some_iff.1 hx).1; rw [icells_len] at this; exact this
    refine (cell_of_row _ _ _ _ _ _ hb5).trans ?_
    rw [s5_far (by omega)]
    exact hc i r (by omega) hr j x hx
  · have hi := (List.getElem?_eq_some_iff.1 hr).1
    refine (h.inn i r (by omega) hr).mono (fun g hg hp => ?_) (by rw [W5_size]; exact Nat.le_refl _)
    replace hp : w0.heap.size < g := hp
    exact ⟨by omega, W5_far (by omega)⟩
/-- What lent answers. -/
def LentA (w0 : World) (rs : List Ri) (e : Ending) (W' : World) : Prop := ∃ g, e = .returned (.slice (some ⟨g, 0, none⟩) rs.length (rs.length + 1)) ∧ HasRk W' (fun q => w0.heap.size ≤ q) (.slice (some ⟨g, 0, none⟩) rs.length (rs.length + 1)) rs ∧ Below w0.heap.size w0 W'
def LentQ (W : World) (v : Value) (rs : List Ri) : Prop := ∀ (i : Nat) (nb kd x : Int) (t : ByteArray) (li : List Ri) (g off c : Nat) (ia : Option Addr) (ic : Nat), v = .slice (some ⟨g, off, none⟩) rs.length c → rs[i]? = some (.mk nb kd x t li) → W.cell? ⟨g, off + i * 5 + 4, none⟩ = some (.slice ia li.length ic) → ∀ w0, Below W.heap.size W w0 →
  Calls Tryd.prog 7 #[.slice ia li.length ic] w0 (LentA w0 li)
set_option maxRecDepth 100000 in
set_option maxHeartbeats 8000000 in
theorem lent_one {W : World} {v : Value} {rs : List Ri} (h : HasRi W v rs) (hQ : LentQ W v rs) (hlen : rs.length ≤ 1048576) (w0 : World) (hB0 : Below W.heap.size W w0) : Calls Tryd.prog 7 #[v] w0 (LentA w0 rs) := by
  obtain ⟨i0, hi0', hz0, hz1, hz2⟩ := info_parts Tryd.infoRec
  have HQ := hide hQ
  have Hh := hide h
  have HB0 := hide hB0
  obtain ⟨va, vc, rfl⟩ := h.form
  obtain ⟨n1, hn1⟩ : ∃ n1, rs.length + 1 = n1 := ⟨_, rfl⟩
  have eN : (rs.length : Int) + 1 = (n1 : Int) := by omega
  have hn2 : n1 ≤ 1048577 := by omega
  have Hn1 := hide hn1
  have hlN : (rs.length : Int) < (n1 : Int) := by omega
  have hlN2 : (rs.length : Int) ≤ (n1 : Int) := by omega
  have hnz : ¬ n1 = 0 := by omega
  clear h hQ hB0 hn1
  go_enter Tryd.func7, Tryd.ntmps7
  go_wp2_with (at_make; refine wpList_make_full _ rfl _ _ 24 rfl w0.heap.size 55 i0 (.agg #[.int .i64 0, .int .i64 0, .int .i64 0, .string .empty, .slice none 0 0]) 5 Tryd.underlying24 hi0' hz0 hz1 .i64 .i64 _ _ n1 rfl rfl (by first | rfl | simp) (by first | rfl | simp) (by rw [hz2]; omega) (by unfold maxLen; omega) (Nat.le_refl _) ?_; intro w5 hown5 hgrow5; have HL0 : Hid (LK w0 w5 rs rs.length 0 (fun _ => .slice none 0 0)) := (by
    obtain ⟨h1, ⟨q, _⟩ | ⟨g', cap, cur, e1, h3, h4, h5, h6, h7, h8⟩⟩ := hown5
    · cases q
    · injection e1 with e1 _ e2
      injection e1 with e1
      injection e1 with e1
      subst e1 e2
      exact ⟨⟨hgrow5.os, hgrow5.tape, hgrow5.output, hgrow5.size, fun b hb => hgrow5.block b hb (by simp)⟩, (Array.getElem?_eq_some_iff.1 h4).1, ⟨cur, h4, by have := unhide Hn1; omega, fun j r hj => absurd hj (Nat.not_lt_zero _)⟩, fun j r hj => absurd hj (Nat.not_lt_zero _)⟩); clear hown5 hgrow5)
  go_loopg [4] rs.length (fun gk v4 wr => ∃ (i : Nat) (us : Nat → Value), v4 = .int .i64 (i : Int) ∧ gk = rs.length - i ∧ i ≤ rs.length ∧ Hid (LK w0 wr rs rs.length i us))
  case atStart => exact ⟨0, _, rfl, rfl, Nat.zero_le _, HL0⟩
  case round =>
    clear HL0
    obtain ⟨i, us, rfl, hgk, hin, HL⟩ := hrel
    have Hgk := hide hgk
    clear hgk
    obtain ⟨cur, hblk, hcs, -⟩ := (unhide HL).blk
    have hsz := (unhide HL).sz
    obtain ⟨z0, y0, f0⟩ := cell_blk hblk (i * 5) (by omega)
    obtain ⟨z1, y1, f1⟩ := cell_blk hblk (i * 5 + 1) (by omega)
    obtain ⟨z2, y2, f2⟩ := cell_blk hblk (i * 5 + 2) (by omega)
    obtain ⟨z3, y3, f3⟩ := cell_blk hblk (i * 5 + 3) (by omega)
    obtain ⟨z4, y4, f4⟩ := cell_blk hblk (i * 5 + 4) (by omega)
    by_cases hlt : i < rs.length
    · obtain ⟨r, hr⟩ : ∃ r, rs[i]? = some r := ⟨_, List.getElem?_eq_getElem hlt⟩
      obtain ⟨nb, kd, x, t, lj⟩ := r
      obtain ⟨g, off, c1, ja, jc, ev, hg, hw', q0, q1, q2, q3, q4, hin2⟩ := (unhide Hh).rec' hr
      obtain ⟨rfl, rfl⟩ : va = some ⟨g, off, none⟩ ∧ vc = c1 := by injection ev with x1 x2 x3; exact ⟨x1, x3⟩
      have hBW : Below W.heap.size W wr := (unhide HB0).trans ((unhide HL).bel.mono (unhide HB0).size)
      have d0 := (hBW.cell (p := ⟨g, off + i * 5, none⟩) hg).trans q0
      have d1 := (hBW.cell (p := ⟨g, off + i * 5 + 1, none⟩) hg).trans q1
      have d2 := (hBW.cell (p := ⟨g, off + i * 5 + 2, none⟩) hg).trans q2
      have d3 := (hBW.cell (p := ⟨g, off + i * 5 + 3, none⟩) hg).trans q3
      have d4 := (hBW.cell (p := ⟨g, off + i * 5 + 4, none⟩) hg).trans q4
      have hgn : g ≠ w0.heap.size := by have := (unhide HB0).size; omega
      have hB5 : Below W.heap.size W (W5 wr w0.heap.size (i * 5) (.int .i64 nb) (.int .i64 kd) (.int .i64 x) (.string t) (.slice ja lj.length jc)) := hBW.trans (W5_below (unhide HB0).size)
      have e4 : (((((wr.setCell ⟨w0.heap.size, i * 5, none⟩ (.int .i64 nb)).setCell ⟨w0.heap.size, i * 5 + 1, none⟩ (.int .i64 kd)).setCell ⟨w0.heap.size, i * 5 + 2, none⟩ (.int .i64 x)).setCell ⟨w0.heap.size, i * 5 + 3, none⟩ (.string t)).setCell ⟨w0.heap.size, i * 5 + 4, none⟩ (.slice ja lj.length jc)).cell? ⟨g, off + i * 5 + 4, none⟩ = some (.slice ja lj.length jc) := (hB5.cell (p := ⟨g, off + i * 5 + 4, none⟩) hg).trans q4
      have Hcall := hide (unhide HQ i nb kd x t lj g off vc ja jc rfl hr q4 _ hB5)
      have hi0 : (0 : Int) ≤ (i : Int) := Int.natCast_nonneg _
      have hi1 : (i : Int) < (rs.length : Int) := by omega
      have hi2 : (i : Int) < (n1 : Int) := by omega
      have Hr := hide hr
      have hb5 := W5_blk (p := i * 5) (a := .int .i64 nb) (b := .int .i64 kd) (c := .int .i64 x) (d := .string t) (e := .slice ja lj.length jc) hblk
      have Hb5 := hide hb5
      have Hcs : Hid (cur.size = (rs.length + 1) * 5) := hcs
      clear q0 q1 q2 q3 q4 hr ev hin2 hBW hw' hB5 hblk hb5 hcs
      go_wp2_with fail
      refine (unhide Hcall).mono ?_
      rintro e9 w2 ⟨g2, rfl, hT2, hb2⟩
      rw [W5_size] at hb2
      have hT2' : HasRk w2 (fun q => wr.heap.size ≤ q) (.slice (some ⟨g2, 0, none⟩) lj.length (lj.length + 1)) lj := by
        have q := hT2
        rw [W5_size] at q
        exact q
      obtain ⟨z9, y9, f9⟩ := cell_blk ((hb2.block _ hsz).trans (unhide Hb5)) (i * 5 + 4) (by rw [s5_size]; have := unhide Hcs; omega)
      have HLs := hide ((unhide HL).step hlt (unhide Hr) hb2 hT2')
      clear hT2 hT2' hb2 Hcall d0 d1 d2 d3 d4 y0 y1 y2 y3 y4 f0 f1 f2 f3 f4 e4
      go_wp2
      go_roundg (rs.length - (i + 1))
      case measure => have := unhide Hgk; omega
      case rel => exact ⟨i + 1, _, by go_num, rfl, by omega, HLs⟩
    · obtain rfl : i = rs.length := by omega
      have Hf := hide ((unhide HL).fin rfl hlen (fun i nb kd x t li hr => by
        obtain ⟨g, off, c1, ja, jc, ev, hg, hw', _⟩ := (unhide Hh).rec' hr
        exact hw'))
      clear hblk hcs hlt
      go_wp2
      go_ret
      have hn1 := unhide Hn1
      subst hn1
      exact ⟨w0.heap.size, rfl, (unhide Hf).1, (unhide Hf).2⟩
/-- lent, of all records that came in. -/
theorem lent_all {W : World} {v : Value} {rs : List Ri} (h : HasRi W v rs) : blL rs ≤ 1048576 → LentQ W v rs := by
  induction h with
  | nil a c =>
    intro _ i nb kd x t li g off c' ia ic _ hr
    simp at hr
  | row g off n c rs us hn hm hg hw hc hi ih =>
    intro hb i nb kd x t li g' off' c' ia ic ev hr hcell w0 hB0
    obtain ⟨rfl, rfl⟩ : g = g' ∧ off = off' := by
      injection ev with e1 _ _
      injection e1 with e1
      injection e1 with e1 e2
      exact ⟨e1, e2⟩
    have hu : us i = .slice ia li.length ic := by
      have q := hc i _ hr 4 (us i) rfl
      rw [hcell] at q
      exact (Option.some.inj q).symm
    have hbr := bl_mem hr
    rw [blR] at hbr
    have hll := bl_len li
    have hQ := ih i _ hr (by show blL li ≤ _; omega)
    have hI := hi i _ hr
    rw [hu] at hQ hI
    exact lent_one (rs := li) hI hQ (by omega) w0 hB0
theorem lent_any {W : World} {v : Value} {rs : List Ri} (h : HasRi W v rs) (hb : blL rs ≤ 1048576) (w0 : World) (hB0 : Below W.heap.size W w0) : Calls Tryd.prog 7 #[v] w0 (LentA w0 rs) := lent_one h (lent_all h hb) (Nat.le_trans (bl_len rs) hb) w0 hB0
#print axioms lent_any
end Go.Proofs.YtgbadnbhgpnppaaDoor
