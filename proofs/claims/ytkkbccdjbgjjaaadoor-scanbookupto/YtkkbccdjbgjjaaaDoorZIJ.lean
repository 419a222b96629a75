import Derived.Test.YtkkbccdjbgjjaaaDoorSZg
import Derived.Test.YtkkbccdjbgjjaaaDoorSXJ
import Derived.Test.YtkkbccdjbgjjaaaDoorQXJ
import Derived.Test.YtkkbccdjbgjjaaaDoorUXJ
import Derived.Shelf.Vars

namespace Go.Proofs.YtkkbccdjbgjjaaaDoor
open Go.RowKit
attribute [local go_sem ↓] Go.wp_at_zero Go.wp_at_succ

theorem endRow_step {s : ByteArray} {k : Nat} (hk : k < s.size) (h : isLet (byteAt s k) ∨ isDig (byteAt s k)) : endRow s k = endRow s (k + 1) := by rw [endRow, dif_pos ⟨hk, h⟩]
theorem endRow_stop {s : ByteArray} {k : Nat} (h : ¬ (isLet (byteAt s k) ∨ isDig (byteAt s k))) : endRow s k = k := by rw [endRow, dif_neg (fun q => h q.2)]
theorem endRow_end {s : ByteArray} {k : Nat} (h : ¬ k < s.size) : endRow s k = k := by rw [endRow, dif_neg (fun q => h q.1)]
end Go.Proofs.YtkkbccdjbgjjaaaDoor

namespace Go.Proofs.YtkkbccdjbgjjaaaDoor
open Go.RowKit
attribute [local go_sem ↓] Go.wp_at_zero Go.wp_at_succ

theorem tkG_noend {s : ByteArray} {k p n : Nat} (h : passF s s.size k = (p, false)) : tk s k n = .inr (p, 43) := by
  unfold tk
  rw [tokF, h, if_pos rfl]
theorem tkG_end {s : ByteArray} {k n : Nat} (h : passF s s.size k = (s.size, true)) : tk s k n = .inl [⟨5, s.size, ⟨#[]⟩⟩] := by
  unfold tk
  rw [tokF, h, if_neg (by simp), if_pos rfl]
theorem tkG_full {s : ByteArray} {k p : Nat} (hk : p < s.size) (h : passF s s.size k = (p, true)) : tk s k 16383 = .inr (p, 45) := by
  unfold tk
  rw [tokF, h, if_neg (by simp), if_neg (by show ¬ p = s.size; omega), if_pos rfl]
theorem tkG_err {s : ByteArray} {k p n c : Nat} (hk : p < s.size) (h : passF s s.size k = (p, true)) (hn : n < 16383) (h1 : (oneF s p).2.2 = c) (hc : c ≠ 0) : tk s k n = .inr (p, c) := by
  unfold tk
  rw [tokF, h, if_neg (by simp), if_neg (by show ¬ p = s.size; omega), if_neg (by omega)]
  show (if (oneF s p).2.2 = 0 then _ else Sum.inr (p, (oneF s p).2.2)) = _
  rw [h1, if_neg hc]
theorem tkG_tok {s : ByteArray} {k p n t e : Nat} (hk : p < s.size) (h : passF s s.size k = (p, true)) (hn : n < 16383) (h1 : oneF s p = (t, e, 0)) : tk s k n = consT ⟨t, p, s.extract p e⟩ (tk s e (n + 1)) := by
  have hle := oneF_le hk (by rw [h1])
  rw [h1] at hle
  unfold tk
  rw [tokF, h, if_neg (by simp), if_neg (by show ¬ p = s.size; omega), if_neg (by omega)]
  show (if (oneF s p).2.2 = 0 then consT ⟨(oneF s p).1, p, s.extract p (oneF s p).2.1⟩ (tokF s s.size (oneF s p).2.1 (n + 1)) else _) = _
  rw [h1, if_pos rfl]
  rw [tokF_fuel s s.size (s.size + 1) e (n + 1) hle.2 (by have := hle.1; simp at this; omega) (by omega)]
end Go.Proofs.YtkkbccdjbgjjaaaDoor

namespace Go.Proofs.YtkkbccdjbgjjaaaDoor
open Go.RowKit
attribute [local go_sem ↓] Go.wp_at_zero Go.wp_at_succ

/-- Tokens that can be read. -/
def HasTok (W : World) (v : Value) (ts : List Tok) : Prop := ∃ (a : Option Addr) (c : Nat), v = .slice a ts.length c ∧ ts.length ≤ c ∧ (0 < ts.length → ∃ g, a = some ⟨g, 0, none⟩ ∧ g < W.heap.size ∧ ∀ i t, ts[i]? = some t → W.cell? ⟨g, i * 3, none⟩ = some (.int .i64 (t.kind : Int)) ∧ W.cell? ⟨g, i * 3 + 1, none⟩ = some (.int .i64 (t.place : Int)) ∧ W.cell? ⟨g, i * 3 + 2, none⟩ = some (.string t.text))
theorem hasTok_nil (W : World) : HasTok W (.slice none 0 0) [] := ⟨none, 0, rfl, Nat.le_refl _, fun h => by simp at h⟩
theorem HasTok.up {W w : World} {v : Value} {ts : List Tok} (h : HasTok W v ts) (hb : Below W.heap.size W w) : HasTok w v ts := by
  obtain ⟨a, c, rfl, hc, h3⟩ := h
  refine ⟨a, c, rfl, hc, fun hp => ?_⟩
  obtain ⟨g, rfl, h4, h5⟩ := h3 hp
  exact ⟨g, rfl, Nat.lt_of_lt_of_le h4 hb.size, fun i t ht => ⟨(hb.cell (p := ⟨g, i * 3, none⟩) h4).trans (h5 i t ht).1, (hb.cell (p := ⟨g, i * 3 + 1, none⟩) h4).trans (h5 i t ht).2.1, (hb.cell (p := ⟨g, i * 3 + 2, none⟩) h4).trans (h5 i t ht).2.2⟩⟩
theorem tcells_at : ∀ (ts : List Tok) (i : Nat) (t : Tok), ts[i]? = some t → (tcells ts)[i * 3]? = some (.int .i64 (t.kind : Int)) ∧ (tcells ts)[i * 3 + 1]? = some (.int .i64 (t.place : Int)) ∧ (tcells ts)[i * 3 + 2]? = some (.string t.text)
  | [], i, t, h => by simp at h
  | x :: r, 0, t, h => by
    obtain rfl : x = t := by simpa using h
    exact ⟨rfl, rfl, rfl⟩
  | x :: r, i + 1, t, h => by
    have := tcells_at r i t (by simpa using h)
    rw [show (i + 1) * 3 = i * 3 + 3 by omega]
    exact this
theorem hasTok_of {W : World} {B : Nat} {v : Value} {ts : List Tok} (h : W.ownsRow B 31 3 v ts.length (tcells ts)) : HasTok W v ts := by
  obtain ⟨h1, ⟨rfl, h0⟩ | ⟨g, c, cur, rfl, h2, h3, h4, h5, h6, h7⟩⟩ := h
  · obtain rfl := List.eq_nil_of_length_eq_zero h0
    exact hasTok_nil W
  · refine ⟨_, c, rfl, h4, fun hp => ⟨g, rfl, (Array.getElem?_eq_some_iff.1 h3).1, fun i t ht => ?_⟩⟩
    have hat : ∀ (j : Nat) (u : Value), (tcells ts)[j]? = some u → W.cell? ⟨g, j, none⟩ = some u := fun j u hj => by
      rw [cell_of_row _ _ _ _ _ _ h3, ← Array.getElem?_toList]
      rw [← h7, List.getElem?_take] at hj
      split at hj
      · exact hj
      · cases hj
    obtain ⟨e1, e2, e3⟩ := tcells_at ts i t ht
    exact ⟨hat _ _ e1, hat _ _ e2, hat _ _ e3⟩
set_option maxRecDepth 100000 in
set_option maxHeartbeats 2000000 in
theorem sameTok_any {W : World} {v u : Value} {ts : List Tok} (h : HasTok W v ts) (h' : HasTok W u ts) (hl : ts.length ≤ 4611686018427387904) :
    Calls Tryd.prog 6 #[v, u] W fun e w => e = .returned (.bool true) ∧ ∃ n, w = W.drewN n := by
  obtain ⟨a, c, rfl, hc, h3⟩ := h
  obtain ⟨a', c', rfl, hc', h3'⟩ := h'
  have H3 := hide h3
  have H3' := hide h3'
  clear h3 h3'
  have hll : ((ts.length : Int) != (ts.length : Int)) = false := by simp
  go_enter Tryd.func6, Tryd.ntmps6
  go_wp2
  go_loopg [5] ts.length (fun gk v5 wr => ∃ (i m : Nat), v5 = .int .i64 (i : Int) ∧ gk = ts.length - i ∧ i ≤ ts.length ∧ wr = W.drewN m)
  case atStart => exact ⟨0, 0, rfl, rfl, by omega, rfl⟩
  case round =>
    obtain ⟨i, m, rfl, hgk, hi, rfl⟩ := hrel
    have Hgk := hide hgk
    clear hgk
    by_cases hlt : i < ts.length
    · obtain ⟨t, ht⟩ : ∃ t, ts[i]? = some t := ⟨_, List.getElem?_eq_getElem hlt⟩
      obtain ⟨g, rfl, hg, hx⟩ := unhide H3 (by omega)
      obtain ⟨g', rfl, hg', hx'⟩ := unhide H3' (by omega)
      obtain ⟨x1, x2, x3⟩ := hx i t ht
      obtain ⟨y1, y2, y3⟩ := hx' i t ht
      have i0 : (0 : Int) ≤ (i : Int) := Int.natCast_nonneg _
      have i1 : (i : Int) < (ts.length : Int) := by omega
      obtain ⟨tk, tp, tt⟩ := t
      simp only at x1 x2 x3 y1 y2 y3
      clear hx hx' ht
      go_wp2
      go_quiet (fail)
      go_wp2
      go_roundg (ts.length - (i + 1))
      case measure => have := unhide Hgk; omega
      case rel => exact ⟨i + 1, _, by go_num, rfl, by omega, rfl⟩
    · obtain rfl : i = ts.length := by omega
      go_wp2
      go_ret
      exact ⟨rfl, _, rfl⟩
theorem TokP.ret {s : ByteArray} {W w : World} {e : Ending} (h : TokP s W e w) : ∃ (v : Value) (k c : Nat) (ts : List Tok), e = .returned (.tuple #[v, .int .i64 (k : Int), .int .i64 (c : Int)]) ∧ HasTok w v ts ∧ ((c = 0 ∧ k = 0 ∧ tokR s = .inl ts) ∨ (c ≠ 0 ∧ ts = [] ∧ v = .slice none 0 0 ∧ tokR s = .inr (k, c))) := by
  obtain ⟨_, h2⟩ := h
  cases ht : tokR s with
  | inl ts =>
    rw [ht] at h2
    obtain ⟨v, rfl, h3⟩ := h2
    exact ⟨v, 0, 0, ts, rfl, hasTok_of h3, .inl ⟨rfl, rfl, rfl⟩⟩
  | inr p =>
    obtain ⟨k, c⟩ := p
    rw [ht] at h2
    obtain ⟨hc, rfl⟩ := h2
    exact ⟨_, k, c, [], rfl, hasTok_nil w, .inr ⟨hc, rfl, rfl, rfl⟩⟩
theorem tokF_len (s : ByteArray) : ∀ (f k n : Nat) (ts : List Tok), n ≤ 16383 → tokF s f k n = .inl ts → n + ts.length ≤ 16384 := by
  intro f
  induction f with
  | zero => intro k n ts _ h; cases h
  | succ f ih =>
    intro k n ts hn h
    rw [tokF] at h
    split at h
    · cases h
    · split at h
      · have := Sum.inl.inj h
        rw [← this]
        simp
        omega
      · split at h
        · cases h
        · split at h
          · cases hr : tokF s f (oneF s (passF s s.size k).1).2.1 (n + 1) with
            | inl l =>
              rw [hr] at h
              have := Sum.inl.inj h
              have h2 := ih _ _ l (by omega) hr
              rw [← this, List.length_cons]
              omega
            | inr e => rw [hr] at h; cases h
          · cases h
theorem tokR_len {s : ByteArray} {ts : List Tok} (h : tokR s = .inl ts) : ts.length ≤ 16384 := by
  unfold tokR at h
  split at h
  · cases h
  · split at h
    · cases h
    · have := tokF_len s _ 0 0 ts (by omega) h
      omega
theorem hasM_of {W : World} (h : W.ShapedOpen Tryd.prog) : HasM W := by
  obtain ⟨m, hm⟩ := cell_of_shapedOpen_int (P := Tryd.prog) (g := 1) (t := 3) (zero := #[.int .i64 0]) h (of_decide_eq_true (by kernel_rfl)) (by kernel_rfl) rfl (by kernel_rfl) (by kernel_rfl) Tryd.underlying3
  exact ⟨World.block_lt_of_cell? W _ hm, m, hm⟩
end Go.Proofs.YtkkbccdjbgjjaaaDoor
