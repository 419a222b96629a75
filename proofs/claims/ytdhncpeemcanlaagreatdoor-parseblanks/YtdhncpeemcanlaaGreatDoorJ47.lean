import Derived.Test.YtdhncpeemcanlaaGreatDoorJ42

namespace Go.Proofs.YtdhncpeemcanlaaGreatDoor
open Go.RowKit
attribute [local go_sem ↓] Go.wp_at_zero Go.wp_at_succ

theorem ext_size (s : ByteArray) (a b : Nat) : (s.extract a b).size ≤ s.size := by
  rw [ByteArray.size_extract]
  omega
theorem tokF_text (s : ByteArray) : ∀ (f k n : Nat) (ts : List Tok), tokF s f k n = .inl ts → ∀ t ∈ ts, t.text.size ≤ s.size := by
  intro f
  induction f with
  | zero => intro k n ts h; cases h
  | succ f ih =>
    intro k n ts h
    rw [tokF] at h
    split at h
    · cases h
    · split at h
      · have := Sum.inl.inj h
        rw [← this]
        intro t ht
        rw [List.mem_singleton] at ht
        subst ht
        exact Nat.zero_le _
      · split at h
        · cases h
        · split at h
          · cases hr : tokF s f (oneF s (passF s s.size k).1).2.1 (n + 1) with
            | inl l =>
              rw [hr] at h
              have := Sum.inl.inj h
              have h2 := ih _ _ l hr
              rw [← this]
              intro t ht
              rcases List.mem_cons.1 ht with rfl | ht
              · exact ext_size _ _ _
              · exact h2 t ht
            | inr e => rw [hr] at h; cases h
          · cases h
theorem tokR_text {s : ByteArray} {ts : List Tok} (h : tokR s = .inl ts) : ∀ t ∈ ts, t.text.size ≤ 65536 := by
  unfold tokR at h
  split at h
  · cases h
  · split at h
    · cases h
    · rename_i h1 _
      intro t ht
      have := tokF_text s _ _ _ ts h t ht
      omega
set_option maxRecDepth 100000 in
set_option maxHeartbeats 1000000 in
theorem parse_any {W : World} (hF : HasF W) (hE : HasE W) (hM : HasM W) (s : ByteArray) : Calls Tryz.prog 6 #[.string s] W (RdP W (parseF s)) := by
  obtain ⟨hb2, hsz, hx1, hx2⟩ := al2 W 0 0
  have HC := hide (tokens_any (hF.up hb2) (hE.up hb2) (hM.up hb2 hM.1) s)
  have HB := hide hb2
  have Hsz := hide hsz
  have HX := hide (show (Al2 W 0 0).heap[W.heap.size]? = _ ∧ (Al2 W 0 0).heap[W.heap.size + 1]? = _ from ⟨hx1, hx2⟩)
  have HEv := hide (show HasF W ∧ HasE W ∧ HasM W from ⟨hF, hE, hM⟩)
  unfold Al2 at HC HB Hsz HX
  clear hb2 hsz hx1 hx2 hF hE hM
  go_enter Tryz.func6, Tryz.ntmps6
  go_wp2_with fail
  refine (unhide HC).mono ?_
  rintro e w1 ⟨hb1, htk⟩
  rw [unhide Hsz] at hb1 htk
  have hB1 : Below W.heap.size W w1 := (unhide HB).trans (hb1.mono (by omega))
  have hsz1 : W.heap.size + 2 ≤ w1.heap.size := by have := hb1.size; have := unhide Hsz; omega
  have k2 := (hb1.block W.heap.size (by omega)).trans (unhide HX).1
  have k3 := (hb1.block (W.heap.size + 1) (by omega)).trans (unhide HX).2
  cases ht : tokR s with
  | inr p =>
    obtain ⟨k, c⟩ := p
    rw [ht] at htk
    obtain ⟨hc, rfl⟩ := htk
    have HF : Hid (parseF s = .error ((c : Int), (k : Int))) := by show _ = _; unfold parseF; rw [ht]
    obtain ⟨q1, q2⟩ := two_done hB1 k2 k3 (.string ⟨#[]⟩) (.slice none 0 0) (.slice none 0 0) (.slice none 0 0) (.int .i64 (c : Int)) (.int .i64 0) (.int .i64 (k : Int)) (.string ⟨#[]⟩)
    have Q1 := hide q1
    have Q2 := hide q2
    unfold set4 at Q1 Q2
    obtain ⟨⟨y0, y1, y2, y3⟩, yf⟩ := cells4 k2
    obtain ⟨⟨z0, z1, z2, z3⟩, zf⟩ := cells4 k3
    have f0 := yf 0
    have f1 := yf 1
    have f2 := yf 2
    have f3 := yf 3
    have g0 := zf 0
    have g1 := zf 1
    have g2 := zf 2
    have g3 := zf 3
    have hcz : ((c : Int) != 0) = true := by simp; omega
    clear hb1 hB1 hsz1 k2 k3 ht q1 q2 yf zf hc HC
    go_wp2
    refine two_ret rfl rfl rfl (unhide Q1).1 (unhide Q1).2.1 rfl rfl ?_
    rw [unhide HF]
    exact ⟨rfl, unhide Q2⟩
  | inl ts =>
    rw [ht] at htk
    obtain ⟨v, rfl, hrow⟩ := htk
    have HF : Hid (parseF s = toksF (ts.map Tok.tk)) := by show _ = _; unfold parseF; rw [ht]
    have hev := unhide HEv
    have htx : ∀ t ∈ ts.map Tok.tk, t.text.size ≤ 140737488355327 := fun t h => by
      obtain ⟨t0, h0, rfl⟩ := List.mem_map.1 h
      have := tokR_text ht t0 h0
      show t0.text.size ≤ _
      omega
    have HT := hide (ptokens_any (hev.1.up hB1) (hev.2.1.up hB1) (hev.2.2.up hB1 hev.2.2.1) (tok_has hrow (Nat.le_refl _) (Nat.le_refl _)) htx (by have := tokR_len ht; simp; omega))
    have HXs := hide (fun e w => rdp_store (W := W) (r := toksF (ts.map Tok.tk)) (e := e) (w := w) hB1 hsz1 k2 k3)
    obtain ⟨va, vn, vc, hv⟩ := row_shape hrow
    subst hv
    clear hb1 hB1 hsz1 k2 k3 ht hrow hev htx HC
    go_wp2_with fail
    refine (unhide HT).mono ?_
    intro e w2 hrd
    obtain ⟨c0, ia, il, ic, ma, ml, mc, ea, el, ec, er, sp, rfl, k2, k3, q2, q3, hfin⟩ := unhide HXs _ _ hrd
    obtain ⟨⟨y0, y1, y2, y3⟩, yf⟩ := cells4 k2
    obtain ⟨⟨z0, z1, z2, z3⟩, zf⟩ := cells4 k3
    have f0 := yf 0
    have f1 := yf 1
    have f2 := yf 2
    have f3 := yf 3
    have g0 := zf 0
    have g1 := zf 1
    have g2 := zf 2
    have g3 := zf 3
    have Q2 := hide q2
    have Q3 := hide q3
    have HE := hide hfin
    unfold set4 at Q2 Q3 HE
    clear hrd yf zf k2 k3 q2 q3 hfin HT HXs
    go_wp2
    refine two_ret rfl rfl rfl (unhide Q2) (unhide Q3) rfl rfl ?_
    rw [unhide HF]
    exact unhide HE
end Go.Proofs.YtdhncpeemcanlaaGreatDoor

namespace Go.Proofs.YtdhncpeemcanlaaGreatDoor
open Go.RowKit
attribute [local go_sem ↓] Go.wp_at_zero Go.wp_at_succ

/-- A row that can be read. -/
def RdR (w : World) (v : Value) (n : Nat) (xs : List Value) : Prop := ∃ a c, v = .slice a n c ∧ n ≤ maxLen ∧ (0 < n → ∃ g, a = some ⟨g, 0, none⟩ ∧ g < w.heap.size ∧ ∀ j x, xs[j]? = some x → w.cell? ⟨g, j, none⟩ = some x)
theorem RowR.rd {P : Nat → Prop} {w : World} {t sz n : Nat} {v : Value} {xs : List Value} (h : RowR P w t sz v n xs) : RdR w v n xs := by
  obtain ⟨⟨h1, ⟨rfl, rfl⟩ | ⟨g, c, cur, rfl, h2, h3, h4, h5, h6, h7⟩⟩, _⟩ := h
  · exact ⟨none, 0, rfl, Nat.zero_le _, fun h => absurd h (by omega)⟩
  · refine ⟨_, c, rfl, Nat.le_trans h4 h5, fun _ => ⟨g, rfl, (Array.getElem?_eq_some_iff.1 h3).1, fun j u hj => ?_⟩⟩
    rw [cell_of_row _ _ _ _ _ _ h3, ← Array.getElem?_toList]
    rw [← h7, List.getElem?_take] at hj
    split at hj
    · exact hj
    · cases hj
theorem RdR.up {w w' : World} {v : Value} {n : Nat} {xs : List Value} (h : RdR w v n xs) (hb : Below w.heap.size w w') : RdR w' v n xs := by
  obtain ⟨a, c, rfl, h1, h2⟩ := h
  refine ⟨a, c, rfl, h1, fun hp => ?_⟩
  obtain ⟨g, rfl, h3, h4⟩ := h2 hp
  exact ⟨g, rfl, Nat.lt_of_lt_of_le h3 hb.size, fun j x hx => (hb.cell (p := ⟨g, j, none⟩) h3).trans (h4 j x hx)⟩
/-- The same. -/
def SameP (W : World) (e : Ending) (w : World) : Prop := e = .returned (.bool true) ∧ Below W.heap.size W w
theorem strC_at (l : List ByteArray) (i : Nat) (t : ByteArray) (h : l[i]? = some t) : (strC l)[i]? = some (.string t) := by
  unfold strC
  rw [List.getElem?_map, h]
  rfl
theorem evC_at : ∀ (l : List (ByteArray × Int)) (i : Nat) (p : ByteArray × Int), l[i]? = some p → (evC l)[i * 2]? = some (.string p.1) ∧ (evC l)[i * 2 + 1]? = some (.int .i64 p.2)
  | [], i, t, h => by simp at h
  | x :: r, 0, t, h => by
    obtain rfl : x = t := by simpa using h
    exact ⟨rfl, rfl⟩
  | x :: r, i + 1, t, h => by
    have := evC_at r i t (by simpa using h)
    rw [show (i + 1) * 2 = i * 2 + 2 by omega]
    exact this
theorem rgC_at : ∀ (l : List (Int × Int)) (i : Nat) (p : Int × Int), l[i]? = some p → (rgC l)[i * 2]? = some (.int .i64 p.1) ∧ (rgC l)[i * 2 + 1]? = some (.int .i64 p.2)
  | [], i, t, h => by simp at h
  | x :: r, 0, t, h => by
    obtain rfl : x = t := by simpa using h
    exact ⟨rfl, rfl⟩
  | x :: r, i + 1, t, h => by
    have := rgC_at r i t (by simpa using h)
    rw [show (i + 1) * 2 = i * 2 + 2 by omega]
    exact this
theorem fldC_at : ∀ (l : List Fd) (i : Nat) (d : Fd), l[i]? = some d → ∀ j v, d.arr[j]? = some v → (fldC l)[i * 6 + j]? = some v
  | [], i, t, h => by simp at h
  | x :: r, 0, t, h => by
    obtain rfl : x = t := by simpa using h
    intro j v hv
    have hj : j < 6 := by
      have := (Array.getElem?_eq_some_iff.1 hv).1
      simpa [Fd.arr] using this
    show (x.arr.toList ++ _)[0 * 6 + j]? = _
    rw [List.getElem?_append_left (by simp [Fd.arr]; omega), Nat.zero_mul, Nat.zero_add, Array.getElem?_toList]
    exact hv
  | x :: r, i + 1, t, h => by
    intro j v hv
    have := fldC_at r i t (by simpa using h) j v hv
    rw [show (i + 1) * 6 + j = 6 + (i * 6 + j) by omega]
    show (x.arr.toList ++ fldC r)[6 + (i * 6 + j)]? = _
    rw [List.getElem?_append_right (by simp [Fd.arr])]
    simpa [Fd.arr] using this
set_option maxRecDepth 100000 in
set_option maxHeartbeats 2000000 in
theorem sameTexts_any {W : World} {v u : Value} {l : List ByteArray} (h : RdR W v l.length (strC l)) (h' : RdR W u l.length (strC l)) : Calls Tryz.prog 12 #[v, u] W (SameP W) := by
  obtain ⟨a, c, rfl, hc, h3⟩ := h
  obtain ⟨a', c', rfl, hc', h3'⟩ := h'
  have H3 := hide h3
  have H3' := hide h3'
  clear h3 h3'
  unfold maxLen at hc hc'
  have hll : ((l.length : Int) != (l.length : Int)) = false := by simp
  go_enter Tryz.func12, Tryz.ntmps12
  go_wp2
  go_loopg [5] l.length (fun gk v5 wr => ∃ (i m : Nat), v5 = .int .i64 (i : Int) ∧ gk = l.length - i ∧ i ≤ l.length ∧ wr = W.drewN m)
  case atStart => exact ⟨0, 0, rfl, rfl, by omega, rfl⟩
  case round =>
    obtain ⟨i, m, rfl, hgk, hi, rfl⟩ := hrel
    have Hgk := hide hgk
    clear hgk
    by_cases hlt : i < l.length
    · obtain ⟨t, ht⟩ : ∃ t, l[i]? = some t := ⟨_, List.getElem?_eq_getElem hlt⟩
      obtain ⟨g, rfl, hg, hx⟩ := unhide H3 (by omega)
      obtain ⟨g', rfl, hg', hx'⟩ := unhide H3' (by omega)
      have x1 := hx _ _ (strC_at l i t ht)
      have y1 := hx' _ _ (strC_at l i t ht)
      have i0 : (0 : Int) ≤ (i : Int) := Int.natCast_nonneg _
      have i1 : (i : Int) < (l.length : Int) := by omega
      clear hx hx' ht
      go_wp2
      go_quiet (fail)
      go_wp2
      go_roundg (l.length - (i + 1))
      case measure => have := unhide Hgk; omega
      case rel => exact ⟨i + 1, _, by go_num, rfl, by omega, rfl⟩
    · obtain rfl : i = l.length := by omega
      go_wp2
      go_ret
      exact ⟨rfl, below_drewN (Below.refl _ _) _⟩
set_option maxRecDepth 100000 in
set_option maxHeartbeats 2000000 in
theorem sameRows_any {W : World} {v u : Value} {l : List (Int × Int)} (h : RdR W v l.length (rgC l)) (h' : RdR W u l.length (rgC l)) : Calls Tryz.prog 20 #[v, u] W (SameP W) := by
  obtain ⟨a, c, rfl, hc, h3⟩ := h
  obtain ⟨a', c', rfl, hc', h3'⟩ := h'
  have H3 := hide h3
  have H3' := hide h3'
  clear h3 h3'
  unfold maxLen at hc hc'
  have hll : ((l.length : Int) != (l.length : Int)) = false := by simp
  go_enter Tryz.func20, Tryz.ntmps20
  go_wp2
  go_loopg [5] l.length (fun gk v5 wr => ∃ (i m : Nat), v5 = .int .i64 (i : Int) ∧ gk = l.length - i ∧ i ≤ l.length ∧ wr = W.drewN m)
  case atStart => exact ⟨0, 0, rfl, rfl, by omega, rfl⟩
  case round =>
    obtain ⟨i, m, rfl, hgk, hi, rfl⟩ := hrel
    have Hgk := hide hgk
    clear hgk
    by_cases hlt : i < l.length
    · obtain ⟨t, ht⟩ : ∃ t, l[i]? = some t := ⟨_, List.getElem?_eq_getElem hlt⟩
      obtain ⟨g, rfl, hg, hx⟩ := unhide H3 (by omega)
      obtain ⟨g', rfl, hg', hx'⟩ := unhide H3' (by omega)
      obtain ⟨r1, r2⟩ := rgC_at l i t ht
      have x1 := hx _ _ r1
      have y1 := hx' _ _ r1
      have x2 := hx _ _ r2
      have y2 := hx' _ _ r2
      have i0 : (0 : Int) ≤ (i : Int) := Int.natCast_nonneg _
      have i1 : (i : Int) < (l.length : Int) := by omega
      obtain ⟨t1, t2⟩ := t
      simp only at x1 x2 y1 y2
      clear hx hx' ht r1 r2
      go_wp2
      go_quiet (fail)
      go_wp2
      go_roundg (l.length - (i + 1))
      case measure => have := unhide Hgk; omega
      case rel => exact ⟨i + 1, _, by go_num, rfl, by omega, rfl⟩
    · obtain rfl : i = l.length := by omega
      go_wp2
      go_ret
      exact ⟨rfl, below_drewN (Below.refl _ _) _⟩
end Go.Proofs.YtdhncpeemcanlaaGreatDoor

namespace Go.Proofs.YtdhncpeemcanlaaGreatDoor
open Go.RowKit
attribute [local go_sem ↓] Go.wp_at_zero Go.wp_at_succ

/-- Enums that can be read. -/
def EsR (w : World) (cs : List Value) (l : List En) : Prop := ∀ (i : Nat) (e : En), l[i]? = some e → ∃ vv vr vg, (cs[i * 4]? = some (.string e.name) ∧ cs[i * 4 + 1]? = some vv ∧ cs[i * 4 + 2]? = some vr ∧ cs[i * 4 + 3]? = some vg) ∧ RdR w vv e.vals.length (evC e.vals) ∧ RdR w vr e.res.length (rgC e.res) ∧ RdR w vg e.gone.length (strC e.gone)
theorem HasEs.rd {P : Nat → Prop} {w : World} {cs : List Value} {l : List En} (h : HasEs P w cs l) : EsR w cs l := by
  induction h with
  | nil => intro i e h; simp at h
  | cons hv hr hg _ ih =>
    intro i e h
    cases i with
    | zero =>
      obtain rfl := Option.some.inj h
      exact ⟨_, _, _, ⟨rfl, rfl, rfl, rfl⟩, hv.rd, hr.rd, hg.rd⟩
    | succ i =>
      obtain ⟨vv, vr, vg, h1, h2⟩ := ih i e (by simpa using h)
      refine ⟨vv, vr, vg, ?_, h2⟩
      rw [show (i + 1) * 4 = i * 4 + 4 by omega]
      exact h1
theorem EsR.up {w w' : World} {cs : List Value} {l : List En} (h : EsR w cs l) (hb : Below w.heap.size w w') : EsR w' cs l := fun i e hi => by
  obtain ⟨vv, vr, vg, h1, h2, h3, h4⟩ := h i e hi
  exact ⟨vv, vr, vg, h1, h2.up hb, h3.up hb, h4.up hb⟩
/-- Two boxes stand. -/
structure TwoB (W : World) (p q : Nat) (xs ys : Array Value) (t : TypeId) (w : World) : Prop where
  bl : Below W.heap.size W w
  x : ∀ j, w.cell? ⟨p, j, none⟩ = xs[j]?
  y : ∀ j, w.cell? ⟨q, j, none⟩ = ys[j]?
  lx : p < w.heap.size
  ly : q < w.heap.size
theorem twoB_new {W wr : World} (hb : Below W.heap.size W wr) (xs ys : Array Value) (t : TypeId) : TwoB W wr.heap.size (wr.heap.size + 1) xs ys t ((wr.alloc (.cells xs t)).alloc (.cells ys t)) := by
  have h1 := hb.size
  refine ⟨(hb.alloc h1 _).alloc (by rw [World.size_alloc]; omega) _, fun j => ?_, fun j => ?_, by rw [World.size_alloc, World.size_alloc]; omega, by rw [World.size_alloc, World.size_alloc]; omega⟩
  · rw [World.cell?_alloc_past _ _ _ (by rw [World.size_alloc]; omega), World.cell?_alloc_at _ _ _ _ rfl]
  · rw [World.cell?_alloc_at _ _ _ _ (by rw [World.size_alloc])]
theorem TwoB.up {W w w' : World} {p q : Nat} {xs ys : Array Value} {t : TypeId} (h : TwoB W p q xs ys t w) (hb : Below w.heap.size w w') : TwoB W p q xs ys t w' :=
  ⟨h.bl.trans (hb.mono h.bl.size), fun j => (hb.cell (p := ⟨p, j, none⟩) h.lx).trans (h.x j), fun j => (hb.cell (p := ⟨q, j, none⟩) h.ly).trans (h.y j), Nat.lt_of_lt_of_le h.lx hb.size, Nat.lt_of_lt_of_le h.ly hb.size⟩
theorem sameEnums_nil (W : World) (a a' : Option Addr) (c c' : Nat) : Calls Tryz.prog 14 #[.slice a 0 c, .slice a' 0 c'] W (SameP W) := by
  go_enter Tryz.func14, Tryz.ntmps14
  go_wp2
  go_loopg [5] 1 (fun gk v5 wr => v5 = .int .i64 0 ∧ wr = W)
  case atStart => exact ⟨rfl, rfl⟩
  case round =>
    obtain ⟨rfl, rfl⟩ := hrel
    go_wp2
    go_ret
    exact ⟨rfl, Below.refl _ _⟩
set_option maxRecDepth 100000 in
set_option maxHeartbeats 4000000 in
theorem sameEnums_any {W : World} {v u : Value} {l : List En} {cs cs' : List Value} (h : RdR W v l.length cs) (hE : EsR W cs l) (h' : RdR W u l.length cs') (hE' : EsR W cs' l) : Calls Tryz.prog 14 #[v, u] W (SameP W) := by
  obtain ⟨a, c, rfl, hc, h3⟩ := h
  obtain ⟨a', c', rfl, hc', h3'⟩ := h'
  by_cases hz : l.length = 0
  · rw [hz]
    exact sameEnums_nil W a a' c c'
  obtain ⟨g, rfl, hg, hx⟩ := h3 (by omega)
  obtain ⟨g', rfl, hg', hx'⟩ := h3' (by omega)
  have HX := hide hx
  have HX' := hide hx'
  have HE := hide hE
  have HE' := hide hE'
  clear h3 h3' hx hx' hE hE' hz
  unfold maxLen at hc hc'
  have hll : ((l.length : Int) != (l.length : Int)) = false := by simp
  go_enter Tryz.func14, Tryz.ntmps14
  go_wp2
  go_loopg [5] l.length (fun gk v5 wr => ∃ (i : Nat), v5 = .int .i64 (i : Int) ∧ gk = l.length - i ∧ i ≤ l.length ∧ Hid (Below W.heap.size W wr))
  case atStart => exact ⟨0, rfl, rfl, by omega, Below.refl _ _⟩
  case round =>
    obtain ⟨i, rfl, hgk, hi, HB⟩ := hrel
    have Hgk := hide hgk
    clear hgk
    by_cases hlt : i < l.length
    · obtain ⟨t, ht⟩ : ∃ t, l[i]? = some t := ⟨_, List.getElem?_eq_getElem hlt⟩
      have hB := unhide HB
      obtain ⟨vv, vr, vg, ⟨x0, x1, x2, x3⟩, rv, rr, rg⟩ := unhide HE i t ht
      obtain ⟨vv', vr', vg', ⟨y0, y1, y2, y3⟩, rv', rr', rg'⟩ := unhide HE' i t ht
      have RV := hide rv
      have RR := hide rr
      have RG := hide rg
      have RV' := hide rv'
      have RR' := hide rr'
      have RG' := hide rg'
      obtain ⟨av, cv, rfl, hvl, _⟩ := rv
      obtain ⟨av', cv', rfl, _, _⟩ := rv'
      obtain ⟨ar, cr, rfl, _, _⟩ := rr
      obtain ⟨ar', cr', rfl, _, _⟩ := rr'
      obtain ⟨ag, cg, rfl, _, _⟩ := rg
      obtain ⟨ag', cg', rfl, _, _⟩ := rg'
      unfold maxLen at hvl
      have hgw : g' < wr.heap.size := Nat.lt_of_lt_of_le hg' hB.size
      have d0 := (hB.cell (p := ⟨g, i * 4, none⟩) hg).trans (unhide HX _ _ x0)
      have d1 := (hB.cell (p := ⟨g, i * 4 + 1, none⟩) hg).trans (unhide HX _ _ x1)
      have d2 := (hB.cell (p := ⟨g, i * 4 + 2, none⟩) hg).trans (unhide HX _ _ x2)
      have d3 := (hB.cell (p := ⟨g, i * 4 + 3, none⟩) hg).trans (unhide HX _ _ x3)
      have f0 := (hB.cell (p := ⟨g', i * 4, none⟩) hg').trans (unhide HX' _ _ y0)
      have f1 := (hB.cell (p := ⟨g', i * 4 + 1, none⟩) hg').trans (unhide HX' _ _ y1)
      have f2 := (hB.cell (p := ⟨g', i * 4 + 2, none⟩) hg').trans (unhide HX' _ _ y2)
      have f3 := (hB.cell (p := ⟨g', i * 4 + 3, none⟩) hg').trans (unhide HX' _ _ y3)
      have gf0 : ∀ o, (wr.alloc o).cell? ⟨g', i * 4, none⟩ = _ := fun o => (World.cell?_alloc_lt _ _ _ hgw).trans f0
      have gf1 : ∀ o, (wr.alloc o).cell? ⟨g', i * 4 + 1, none⟩ = _ := fun o => (World.cell?_alloc_lt _ _ _ hgw).trans f1
      have gf2 : ∀ o, (wr.alloc o).cell? ⟨g', i * 4 + 2, none⟩ = _ := fun o => (World.cell?_alloc_lt _ _ _ hgw).trans f2
      have gf3 : ∀ o, (wr.alloc o).cell? ⟨g', i * 4 + 3, none⟩ = _ := fun o => (World.cell?_alloc_lt _ _ _ hgw).trans f3
      have i0 : (0 : Int) ≤ (i : Int) := Int.natCast_nonneg _
      have i1 : (i : Int) < (l.length : Int) := by omega
      have e1 : ((t.vals.length : Int) != (t.vals.length : Int)) = false := by simp
      have HT0 := hide (twoB_new hB #[.string t.name, .slice av t.vals.length cv, .slice ar t.res.length cr, .slice ag t.gone.length cg] #[.string t.name, .slice av' t.vals.length cv', .slice ar' t.res.length cr', .slice ag' t.gone.length cg'] 66)
      clear x0 x1 x2 x3 y0 y1 y2 y3 hB ht
      go_wp2_with fail
      have H0 := unhide HT0
      refine (sameRows_any ((unhide RR).up H0.bl) ((unhide RR').up H0.bl)).mono ?_
      rintro e w2 ⟨rfl, hb2⟩
      have HT2 := hide (H0.up hb2)
      have X2 := (unhide HT2).x
      have Y2 := (unhide HT2).y
      clear H0 hb2 HT0 d0 d1 d2 d3 f0 f1 f2 f3 gf0 gf1 gf2 gf3
      go_wp2_with fail
      have H2 := unhide HT2
      refine (sameTexts_any ((unhide RG).up H2.bl) ((unhide RG').up H2.bl)).mono ?_
      rintro e w3 ⟨rfl, hb3⟩
      have HT3 := hide (H2.up hb3)
      have X3 := (unhide HT3).x
      have Y3 := (unhide HT3).y
      clear H2 hb3 HT2 X2 Y2
      go_wp2
      go_loopg [8] t.vals.length (fun gk v8 wq => ∃ (k m : Nat), v8 = .int .i64 (k : Int) ∧ gk = t.vals.length - k ∧ k ≤ t.vals.length ∧ wq = w3.drewN m)
      case atStart => exact ⟨0, 0, rfl, rfl, by omega, rfl⟩
      case round =>
        obtain ⟨k, m, rfl, hgk2, hk, rfl⟩ := hrel
        have Hgk2 := hide hgk2
        clear hgk2
        by_cases hkl : k < t.vals.length
        · obtain ⟨p, hp⟩ : ∃ p, t.vals[k]? = some p := ⟨_, List.getElem?_eq_getElem hkl⟩
          obtain ⟨z1, z2⟩ := evC_at _ _ _ hp
          obtain ⟨_, _, ee, _, hrow⟩ := (unhide RV).up (unhide HT3).bl
          obtain ⟨_, _, ee', _, hrow'⟩ := (unhide RV').up (unhide HT3).bl
          obtain ⟨gv, hav, hgv, hxv⟩ := hrow (by omega)
          obtain ⟨gv', hav', hgv', hxv'⟩ := hrow' (by omega)
          cases ee
          cases ee'
          subst hav
          subst hav'
          have d1 := hxv _ _ z1
          have d2 := hxv _ _ z2
          have f1 := hxv' _ _ z1
          have f2 := hxv' _ _ z2
          have k0 : (0 : Int) ≤ (k : Int) := Int.natCast_nonneg _
          have k1 : (k : Int) < (t.vals.length : Int) := by omega
          obtain ⟨p1, p2⟩ := p
          simp only at d1 d2 f1 f2
          clear hxv hxv' z1 z2 hrow hrow' hp
          go_wp2
          go_quiet (fail)
          go_wp2
          go_roundg (t.vals.length - (k + 1))
          case measure => have := unhide Hgk2; omega
          case rel => exact ⟨k + 1, _, by go_num, rfl, by omega, rfl⟩
        · obtain rfl : k = t.vals.length := by omega
          go_wp2
          go_roundg (l.length - (i + 1))
          case measure => have := unhide Hgk; omega
          case rel => exact ⟨i + 1, by go_num, rfl, by omega, below_drewN (unhide HT3).bl _⟩
    · obtain rfl : i = l.length := by omega
      go_wp2
      go_ret
      exact ⟨rfl, unhide HB⟩
end Go.Proofs.YtdhncpeemcanlaaGreatDoor
