import Derived.Test.YtdhncpeemcanlaaGreatDoorJ13
import Derived.Test.YtdhncpeemcanlaaGreatDoorJ10
import Derived.Shelf.Vars
import Derived.Test.YtdhncpeemcanlaaGreatDoorJ00
import Derived.Test.YtdhncpeemcanlaaGreatDoorRows
import Derived.ProofKit
import Derived.OpenShut
import Derived.ShutString
import Derived.SizedLaws
import Derived.SliceStrings
import Derived.ArgAppend
import Derived.Maps.AppendAt
import Derived.Deep.DeepAppendRoom

namespace Go.Proofs.YtdhncpeemcanlaaGreatDoor
open Go.RowKit Go.Lib
attribute [local go_sem ↓] Go.wp_at_zero Go.wp_at_succ

theorem pieceAt_self {s : ByteArray} {k x : Nat} (hb : byteAt s k = x) (h0 : ¬ x = 0) (h1 : ¬ x = 10) (h2 : ¬ x = 92) : pieceAt s k = some (x, 1) := by
  unfold pieceAt
  rw [hb, if_neg (fun o => o.elim h0 h1), if_neg h2]
theorem pieceAt_bad {s : ByteArray} {k x : Nat} (hb : byteAt s k = x) (h : x = 0 ∨ x = 10) : pieceAt s k = none := by
  unfold pieceAt
  rw [hb, if_pos h]
theorem pieceAt_esc {s : ByteArray} {k : Nat} (hb : byteAt s k = 92) : pieceAt s k = escL ((strN s).drop k) := by
  unfold pieceAt
  rw [hb, if_neg (by decide), if_pos rfl]
theorem Bytes.drew {base : Nat} {W : World} {v : Value} {l : List Nat} (h : Bytes base W v l) (n : Nat) : Bytes base (W.drewN n) v l := h
end Go.Proofs.YtdhncpeemcanlaaGreatDoor

namespace Go.Proofs.YtdhncpeemcanlaaGreatDoor
open Go.RowKit Go.Lib
attribute [local go_sem ↓] Go.wp_at_zero Go.wp_at_succ

end Go.Proofs.YtdhncpeemcanlaaGreatDoor

namespace Go.Proofs.YtdhncpeemcanlaaGreatDoor
open Go.RowKit
attribute [local go_sem ↓] Go.wp_at_zero Go.wp_at_succ

theorem endRow_step {s : ByteArray} {k : Nat} (hk : k < s.size) (h : isLet (byteAt s k) ∨ isDig (byteAt s k)) : endRow s k = endRow s (k + 1) := by rw [endRow, dif_pos ⟨hk, h⟩]
theorem endRow_stop {s : ByteArray} {k : Nat} (h : ¬ (isLet (byteAt s k) ∨ isDig (byteAt s k))) : endRow s k = k := by rw [endRow, dif_neg (fun q => h q.2)]
theorem endRow_end {s : ByteArray} {k : Nat} (h : ¬ k < s.size) : endRow s k = k := by rw [endRow, dif_neg (fun q => h q.1)]
end Go.Proofs.YtdhncpeemcanlaaGreatDoor

namespace Go.Proofs.YtdhncpeemcanlaaGreatDoor
open Go.RowKit
attribute [local go_sem ↓] Go.wp_at_zero Go.wp_at_succ

theorem tkG_noend {s : ByteArray} {k p n : Nat} (h : passF s s.size k = (p, false)) : tk s k n = .inr (p, 43) := by
  unfold tk
  rw [tokF, h, if_pos rfl]
theorem tkG_end {s : ByteArray} {k n : Nat} (h : passF s s.size k = (s.size, true)) : tk s k n = .inl [⟨5, s.size, ⟨#[]⟩⟩] := by
  unfold tk
  rw [tokF, h, if_neg (by simp), if_pos rfl]
theorem tkG_full {s : ByteArray} {k p : Nat} (hk : p < s.size) (h : passF s s.size k = (p, true)) : tk s k 16383 = .inr (p, 45) := by
  unfold tk
  rw [tokF, h, if_neg (by simp), if_neg (by show ¬ p = s.size; omega), if_pos rfl]
theorem tkG_err {s : ByteArray} {k p n c : Nat} (hk : p < s.size) (h : passF s s.size k = (p, true)) (hn : n < 16383) (h1 : (oneF s p).2.2 = c) (hc : c ≠ 0) : tk s k n = .inr (p, c) := by
  unfold tk
  rw [tokF, h, if_neg (by simp), if_neg (by show ¬ p = s.size; omega), if_neg (by omega)]
  show (if (oneF s p).2.2 = 0 then _ else Sum.inr (p, (oneF s p).2.2)) = _
  rw [h1, if_neg hc]
theorem tkG_tok {s : ByteArray} {k p n t e : Nat} (hk : p < s.size) (h : passF s s.size k = (p, true)) (hn : n < 16383) (h1 : oneF s p = (t, e, 0)) : tk s k n = consT ⟨t, p, s.extract p e⟩ (tk s e (n + 1)) := by
  have hle := oneF_le hk (by rw [h1])
  rw [h1] at hle
  unfold tk
  rw [tokF, h, if_neg (by simp), if_neg (by show ¬ p = s.size; omega), if_neg (by omega)]
  show (if (oneF s p).2.2 = 0 then consT ⟨(oneF s p).1, p, s.extract p (oneF s p).2.1⟩ (tokF s s.size (oneF s p).2.1 (n + 1)) else _) = _
  rw [h1, if_pos rfl]
  rw [tokF_fuel s s.size (s.size + 1) e (n + 1) hle.2 (by have := hle.1; simp at this; omega) (by omega)]
end Go.Proofs.YtdhncpeemcanlaaGreatDoor

namespace Go.Proofs.YtdhncpeemcanlaaGreatDoor
open Go.RowKit
attribute [local go_sem ↓] Go.wp_at_zero Go.wp_at_succ

/-- Tokens that can be read. -/
def HasTok (W : World) (v : Value) (ts : List Tok) : Prop := ∃ (a : Option Addr) (c : Nat), v = .slice a ts.length c ∧ ts.length ≤ c ∧ (0 < ts.length → ∃ g, a = some ⟨g, 0, none⟩ ∧ g < W.heap.size ∧ ∀ i t, ts[i]? = some t → W.cell? ⟨g, i * 3, none⟩ = some (.int .i64 (t.kind : Int)) ∧ W.cell? ⟨g, i * 3 + 1, none⟩ = some (.int .i64 (t.place : Int)) ∧ W.cell? ⟨g, i * 3 + 2, none⟩ = some (.string t.text))
theorem hasTok_nil (W : World) : HasTok W (.slice none 0 0) [] := ⟨none, 0, rfl, Nat.le_refl _, fun h => by simp at h⟩
theorem HasTok.up {W w : World} {v : Value} {ts : List Tok} (h : HasTok W v ts) (hb : Below W.heap.size W w) : HasTok w v ts := by
  obtain ⟨a, c, rfl, hc, h3⟩ := h
  refine ⟨a, c, rfl, hc, fun hp => ?_⟩
  obtain ⟨g, rfl, h4, h5⟩ := h3 hp
  exact ⟨g, rfl, Nat.lt_of_lt_of_le h4 hb.size, fun i t ht => ⟨(hb.cell (p := ⟨g, i * 3, none⟩) h4).trans (h5 i t ht).1, (hb.cell (p := ⟨g, i * 3 + 1, none⟩) h4).trans (h5 i t ht).2.1, (hb.cell (p := ⟨g, i * 3 + 2, none⟩) h4).trans (h5 i t ht).2.2⟩⟩
theorem tcells_at : ∀ (ts : List Tok) (i : Nat) (t : Tok), ts[i]? = some t → (tcells ts)[i * 3]? = some (.int .i64 (t.kind : Int)) ∧ (tcells ts)[i * 3 + 1]? = some (.int .i64 (t.place : Int)) ∧ (tcells ts)[i * 3 + 2]? = some (.string t.text)
  | [], i, t, h => by simp at h
  | x :: r, 0, t, h => by
    obtain rfl : x = t := by simpa using h
    exact ⟨rfl, rfl, rfl⟩
  | x :: r, i + 1, t, h => by
    have := tcells_at r i t (by simpa using h)
    rw [show (i + 1) * 3 = i * 3 + 3 by omega]
    exact this
theorem hasTok_of {W : World} {B : Nat} {v : Value} {ts : List Tok} (h : W.ownsRow B 29 3 v ts.length (tcells ts)) : HasTok W v ts := by
  obtain ⟨h1, ⟨rfl, h0⟩ | ⟨g, c, cur, rfl, h2, h3, h4, h5, h6, h7⟩⟩ := h
  · obtain rfl := List.eq_nil_of_length_eq_zero h0
    exact hasTok_nil W
  · refine ⟨_, c, rfl, h4, fun hp => ⟨g, rfl, (Array.getElem?_eq_some_iff.1 h3).1, fun i t ht => ?_⟩⟩
    have hat : ∀ (j : Nat) (u : Value), (tcells ts)[j]? = some u → W.cell? ⟨g, j, none⟩ = some u := fun j u hj => by
      rw [cell_of_row _ _ _ _ _ _ h3, ← Array.getElem?_toList]
      rw [← h7, List.getElem?_take] at hj
      split at hj
      · exact hj
      · cases hj
    obtain ⟨e1, e2, e3⟩ := tcells_at ts i t ht
    exact ⟨hat _ _ e1, hat _ _ e2, hat _ _ e3⟩
theorem TokP.ret {s : ByteArray} {W w : World} {e : Ending} (h : TokP s W e w) : ∃ (v : Value) (k c : Nat) (ts : List Tok), e = .returned (.tuple #[v, .int .i64 (k : Int), .int .i64 (c : Int)]) ∧ HasTok w v ts ∧ ((c = 0 ∧ k = 0 ∧ tokR s = .inl ts) ∨ (c ≠ 0 ∧ ts = [] ∧ v = .slice none 0 0 ∧ tokR s = .inr (k, c))) := by
  obtain ⟨_, h2⟩ := h
  cases ht : tokR s with
  | inl ts =>
    rw [ht] at h2
    obtain ⟨v, rfl, h3⟩ := h2
    exact ⟨v, 0, 0, ts, rfl, hasTok_of h3, .inl ⟨rfl, rfl, rfl⟩⟩
  | inr p =>
    obtain ⟨k, c⟩ := p
    rw [ht] at h2
    obtain ⟨hc, rfl⟩ := h2
    exact ⟨_, k, c, [], rfl, hasTok_nil w, .inr ⟨hc, rfl, rfl, rfl⟩⟩
theorem tokF_len (s : ByteArray) : ∀ (f k n : Nat) (ts : List Tok), n ≤ 16383 → tokF s f k n = .inl ts → n + ts.length ≤ 16384 := by
  intro f
  induction f with
  | zero => intro k n ts _ h; cases h
  | succ f ih =>
    intro k n ts hn h
    rw [tokF] at h
    split at h
    · cases h
    · split at h
      · have := Sum.inl.inj h
        rw [← this]
        simp
        omega
      · split at h
        · cases h
        · split at h
          · cases hr : tokF s f (oneF s (passF s s.size k).1).2.1 (n + 1) with
            | inl l =>
              rw [hr] at h
              have := Sum.inl.inj h
              have h2 := ih _ _ l (by omega) hr
              rw [← this, List.length_cons]
              omega
            | inr e => rw [hr] at h; cases h
          · cases h
theorem tokR_len {s : ByteArray} {ts : List Tok} (h : tokR s = .inl ts) : ts.length ≤ 16384 := by
  unfold tokR at h
  split at h
  · cases h
  · split at h
    · cases h
    · have := tokF_len s _ 0 0 ts (by omega) h
      omega
theorem hasM_of {W : World} (h : W.ShapedOpen Tryz.prog) : HasM W := by
  obtain ⟨m, hm⟩ := cell_of_shapedOpen_int (P := Tryz.prog) (g := 1) (t := 3) (zero := #[.int .i64 0]) h (of_decide_eq_true (by kernel_rfl)) (by kernel_rfl) rfl (by kernel_rfl) (by kernel_rfl) Tryz.underlying3
  exact ⟨World.block_lt_of_cell? W _ hm, m, hm⟩
end Go.Proofs.YtdhncpeemcanlaaGreatDoor

namespace Go.Proofs.YtdhncpeemcanlaaGreatDoor
open Go.ChangeShapes Go.WideShapes Go.ChangeAt Go.RowKit

/-- Texts that can be read. -/
def HasS (W : World) (v : Value) (l : List ByteArray) : Prop := ∃ a c, v = .slice a l.length c ∧ (l.length ≤ c ∧ c ≤ maxLen ∧ (a = none → c = 0)) ∧ (0 < l.length → ∃ g off, a = some ⟨g, off, none⟩ ∧ g < W.heap.size ∧ ∀ i s, l[i]? = some s → W.cell? ⟨g, off + i, none⟩ = some (.string s))
theorem hasS_nil (W : World) : HasS W (.slice none 0 0) [] := ⟨none, 0, rfl, ⟨Nat.le_refl _, Nat.zero_le _, fun _ => rfl⟩, fun h => by simp at h⟩
theorem HasS.up {W w : World} {v : Value} {l : List ByteArray} (h : HasS W v l) (hb : Below W.heap.size W w) : HasS w v l := by
  obtain ⟨a, c, rfl, hm, h3⟩ := h
  refine ⟨a, c, rfl, hm, fun hp => ?_⟩
  obtain ⟨g, off, rfl, h4, h5⟩ := h3 hp
  exact ⟨g, off, rfl, Nat.lt_of_lt_of_le h4 hb.size, fun i k hk => (hb.cell (p := ⟨g, off + i, none⟩) h4).trans (h5 i k hk)⟩

theorem cellsOfStr : Tryz.prog.cellsOf 9 = 1 := by kernel_rfl
theorem bytesOfStr : 1 ≤ Tryz.prog.bytesOf 9 := of_decide_eq_true (by kernel_rfl)

/-- A []string that came in. -/
theorem open_hasS {H : Type} {enc : TypeId × Value → H} {W : World} {base fuel len cap : Nat} {spare : Nat → Bool} {held : Bool} {a : Option Addr} {x : DataW H × List MemPlace}
    (hf : DataW.trod enc Tryz.prog W base spare held fuel 30 (Value.slice a len cap).cells.toList = some x) :
    ∃ l, HasS W (.slice a len cap) l ∧ (l.length = 0 ∨ ∃ e s, x.1 = .slice e s ∧ l.length = e.length) := by
  rcases open_strings Tryz.underlying30 Tryz.underlying9 cellsOfStr hf with ⟨hcs, rfl⟩ | ⟨y, n, c, zs, hcs, _, hl, hm, hz, rfl, hcell, hwf⟩
  · simp [Value.cells] at hcs
    obtain ⟨rfl, rfl, rfl⟩ := hcs
    exact ⟨[], hasS_nil _, .inl rfl⟩
  · simp [Value.cells] at hcs
    obtain ⟨rfl, rfl, rfl⟩ := hcs
    have hlz : len ≤ zs.length := by rw [hz]; split <;> omega
    have hlen : (zs.take len).length = len := by rw [List.length_take]; omega
    refine ⟨zs.take len, ⟨some y, cap, by rw [hlen], ⟨by omega, by omega, nofun⟩, fun hp => ?_⟩, .inr ⟨_, _, rfl, by simp [strs]⟩⟩
    obtain ⟨b, off, spot⟩ := y
    have hspot : spot = none := by simpa [Addr.add] using World.cell?_spot (hcell 0 (by omega))
    subst hspot
    have hc : ∀ j, j < zs.length → W.cell? ⟨b, off + j, none⟩ = some (.string (zs.getD j ByteArray.empty)) := fun j hj => by rw [← Go.WideShapes.add_plain]; exact hcell j hj
    refine ⟨b, off, rfl, World.block_lt_of_cell? W _ (hc 0 (by omega)), fun i k hk => ?_⟩
    rw [List.getElem?_take] at hk
    split at hk
    · have h1 := hc i (by omega)
      rw [List.getD_eq_getElem?_getD, hk] at h1
      exact h1
    · cases hk
theorem sized_hasS {H : Type} {ts : List TypeId} {ds : List (DataW H)} (h : (DataW.weightsEach Tryz.prog ts ds).all (· ≤ reachBytes) = true) {j : Nat} {d : DataW H} {n : Nat} (ht : ts[j]? = some 30) (hd : ds[j]? = some d)
    (hl : n = 0 ∨ ∃ e s, d = .slice e s ∧ n = e.length) : n ≤ 140737488351232 := by
  rcases hl with h0 | ⟨e, s, rfl, hl⟩
  · omega
  · have h1 := sized_slice h ht hd Tryz.underlying30
    have h2 := Nat.mul_le_mul_left (e.length + s.length) bytesOfStr
    rw [reachBytes] at h1
    omega
/-- The same, with the datum itself. -/
theorem open_hasSz {H : Type} {enc : TypeId × Value → H} {W : World} {base fuel len cap : Nat} {spare : Nat → Bool} {held : Bool} {a : Option Addr} {x : DataW H × List MemPlace}
    (hf : DataW.trod enc Tryz.prog W base spare held fuel 30 (Value.slice a len cap).cells.toList = some x) :
    ∃ l, HasS W (.slice a len cap) l ∧ (l = [] ∨ ∃ s, x.1 = .slice (strs l) s) := by
  rcases open_strings Tryz.underlying30 Tryz.underlying9 cellsOfStr hf with ⟨hcs, rfl⟩ | ⟨y, n, c, zs, hcs, _, hl, hm, hz, rfl, hcell, hwf⟩
  · simp [Value.cells] at hcs
    obtain ⟨rfl, rfl, rfl⟩ := hcs
    exact ⟨[], hasS_nil _, .inl rfl⟩
  · simp [Value.cells] at hcs
    obtain ⟨rfl, rfl, rfl⟩ := hcs
    have hlz : len ≤ zs.length := by rw [hz]; split <;> omega
    have hlen : (zs.take len).length = len := by rw [List.length_take]; omega
    refine ⟨zs.take len, ⟨some y, cap, by rw [hlen], ⟨by omega, by omega, nofun⟩, fun hp => ?_⟩, .inr ⟨_, rfl⟩⟩
    obtain ⟨b, off, spot⟩ := y
    have hspot : spot = none := by simpa [Addr.add] using World.cell?_spot (hcell 0 (by omega))
    subst hspot
    have hc : ∀ j, j < zs.length → W.cell? ⟨b, off + j, none⟩ = some (.string (zs.getD j ByteArray.empty)) := fun j hj => by rw [← Go.WideShapes.add_plain]; exact hcell j hj
    refine ⟨b, off, rfl, World.block_lt_of_cell? W _ (hc 0 (by omega)), fun i k hk => ?_⟩
    rw [List.getElem?_take] at hk
    split at hk
    · have h1 := hc i (by omega)
      rw [List.getD_eq_getElem?_getD, hk] at h1
      exact h1
    · cases hk
theorem weightsAll_mem {H : Type} {P : Program} {e : TypeId} {b : List UInt8} : ∀ {l : List (DataW H)}, DataW.lit (.string b) ∈ l → b.length ∈ DataW.weightsAll P e l
  | [], h => by simp at h
  | d :: r, h => by
    simp only [DataW.weightsAll, List.mem_append]
    rcases List.mem_cons.1 h with rfl | h
    · exact .inl (by simp [DataW.weights])
    · exact .inr (weightsAll_mem h)
theorem sized_hasSz {H : Type} {ts : List TypeId} {ds : List (DataW H)} (h : (DataW.weightsEach Tryz.prog ts ds).all (· ≤ reachBytes) = true) {j : Nat} {d : DataW H} {l : List ByteArray} (ht : ts[j]? = some 30) (hd : ds[j]? = some d)
    (hl : l = [] ∨ ∃ s, d = .slice (strs l) s) : l.length ≤ 140737488351232 ∧ ∀ s ∈ l, s.size ≤ 140737488351232 := by
  rcases hl with rfl | ⟨s, rfl⟩
  · exact ⟨by simp, fun s hs => by simp at hs⟩
  · have h1 := sized_slice h ht hd Tryz.underlying30
    have hlen : (strs (H := H) l).length = l.length := by simp [strs]
    rw [hlen] at h1
    have h2 := Nat.mul_le_mul_left (l.length + s.length) bytesOfStr
    rw [reachBytes] at h1
    refine ⟨by omega, fun x hx => ?_⟩
    have hm : (DataW.lit (.string x.data.toList) : DataW H) ∈ strs l := List.mem_map.2 ⟨x, hx, rfl⟩
    have hw := DataW.weights_mem_each (P := Tryz.prog) ht hd x.data.toList.length (by
      simp only [DataW.weights, Tryz.underlying30]
      exact List.mem_cons_of_mem _ (List.mem_append_left _ (weightsAll_mem hm)))
    have h3 := List.all_eq_true.1 h _ hw
    have h4 : x.data.toList.length ≤ reachBytes := by simpa using h3
    rw [reachBytes] at h4
    have h5 : x.data.toList.length = x.size := rfl
    omega
theorem bulk_strs {H : Type} : ∀ (l : List ByteArray), l.length ≤ Rows.uptoBulkAll (strs (H := H) l) ∧ ∀ s ∈ l, s.size ≤ Rows.uptoBulkAll (strs (H := H) l)
  | [] => ⟨Nat.zero_le _, fun s hs => by simp at hs⟩
  | x :: r => by
    obtain ⟨h1, h2⟩ := bulk_strs (H := H) r
    have e : Rows.uptoBulkAll (strs (H := H) (x :: r)) = x.size + 1 + Rows.uptoBulkAll (strs (H := H) r) := rfl
    rw [e]
    refine ⟨by simp only [List.length_cons]; omega, fun s hs => ?_⟩
    rcases List.mem_cons.1 hs with rfl | hs
    · omega
    · have := h2 s hs; omega
theorem upto_hasSz {H : Type} {d : DataW H} {l : List ByteArray} {n : Nat} (h : Rows.uptoBulk d ≤ n) (hl : l = [] ∨ ∃ s, d = .slice (strs l) s) : l.length ≤ n ∧ ∀ s ∈ l, s.size ≤ n := by
  rcases hl with rfl | ⟨s, rfl⟩
  · exact ⟨Nat.zero_le _, fun s hs => by simp at hs⟩
  · obtain ⟨h1, h2⟩ := bulk_strs (H := H) l
    simp only [Rows.uptoBulk] at h
    exact ⟨by omega, fun x hx => by have := h2 x hx; omega⟩
end Go.Proofs.YtdhncpeemcanlaaGreatDoor

namespace Go.Proofs.YtdhncpeemcanlaaGreatDoor
open Go.RowKit Go.Lib

theorem utf_ascii {s : ByteArray} (h : ∀ k, k < s.size → byteAt s k < 128) : ∀ (m k : Nat), s.size - k ≤ m → utfAt s k = -1 := by
  intro m
  induction m with
  | zero => intro k hm; exact utf_end (by omega)
  | succ m ih =>
    intro k hm
    by_cases hk : k < s.size
    · have hc := chAt_low hk (h k hk)
      rw [utf_step hk (by omega), hc]
      exact ih (k + 1) (by omega)
    · exact utf_end hk
end Go.Proofs.YtdhncpeemcanlaaGreatDoor

namespace Go.Proofs.YtdhncpeemcanlaaGreatDoor
open Go.RowKit
attribute [local go_sem ↓] Go.wp_at_zero Go.wp_at_succ

theorem tok_head : tokR ⟨#[97, 61, 49]⟩ = .inl [⟨1, 0, ⟨#[97]⟩⟩, ⟨4, 1, ⟨#[61]⟩⟩, ⟨2, 2, ⟨#[49]⟩⟩, ⟨5, 3, ⟨#[]⟩⟩] := by
  have hz : (ByteArray.mk #[97, 61, 49]).size = 3 := rfl
  have b0 : byteAt ⟨#[97, 61, 49]⟩ 0 = 97 := rfl
  have b1 : byteAt ⟨#[97, 61, 49]⟩ 1 = 61 := rfl
  have b2 : byteAt ⟨#[97, 61, 49]⟩ 2 = 49 := rfl
  have hu : utfAt ⟨#[97, 61, 49]⟩ 0 = -1 := by
    refine utf_ascii (fun k hk => ?_) 3 0 (by rw [hz]; omega)
    rw [hz] at hk
    match k, hk with
    | 0, _ => decide
    | 1, _ => decide
    | 2, _ => decide
  have r0 : endRow ⟨#[97, 61, 49]⟩ 0 = 1 := by
    rw [endRow_step (by rw [hz]; omega) (by rw [b0]; decide), endRow_stop (by rw [b1]; decide)]
  have r2 : endRow ⟨#[97, 61, 49]⟩ 2 = 3 := by
    rw [endRow_step (by rw [hz]; omega) (by rw [b2]; decide), endRow_end (by rw [hz]; omega)]
  have o0 : oneF ⟨#[97, 61, 49]⟩ 0 = (1, 1, 0) := by unfold oneF; rw [b0, if_pos (by decide), r0]
  have o1 : oneF ⟨#[97, 61, 49]⟩ 1 = (4, 2, 0) := by unfold oneF; rw [b1, if_neg (by decide), if_neg (by decide), if_neg (by decide), if_pos (by decide)]
  have o2 : oneF ⟨#[97, 61, 49]⟩ 2 = (2, 3, 0) := by
    unfold oneF
    rw [b2, if_neg (by decide), if_pos (by decide), r2, if_neg (by decide)]
  have p : ∀ k, k < 3 → ¬ isBlk (byteAt ⟨#[97, 61, 49]⟩ k) → ¬ byteAt ⟨#[97, 61, 49]⟩ k = 47 → passF ⟨#[97, 61, 49]⟩ (ByteArray.mk #[97, 61, 49]).size k = (k, true) := fun k hk h1 h2 => pass_other (by rw [hz]; exact hk) h1 h2
  rw [tokR_ok (by rw [hz]; omega) (by rw [hu]; decide), tk_tok (by rw [hz]; omega) (p 0 (by omega) (by rw [b0]; decide) (by rw [b0]; decide)) (by omega) o0, tk_tok (by rw [hz]; omega) (p 1 (by omega) (by rw [b1]; decide) (by rw [b1]; decide)) (by omega) o1, tk_tok (by rw [hz]; omega) (p 2 (by omega) (by rw [b2]; decide) (by rw [b2]; decide)) (by omega) o2]
  have he := tk_end ⟨#[97, 61, 49]⟩ 3
  rw [hz] at he
  rw [he]
  rfl
end Go.Proofs.YtdhncpeemcanlaaGreatDoor

namespace Go.Proofs.YtdhncpeemcanlaaGreatDoor
open Go.RowKit

/-- A token of whatever numbers. -/
structure Tk where
  kind : Int
  spot : Int
  text : ByteArray
def Tk.cells (t : Tk) : List Value := [.int .i64 t.kind, .int .i64 t.spot, .string t.text]
def kcells : List Tk → List Value
  | [] => []
  | t :: r => .int .i64 t.kind :: .int .i64 t.spot :: .string t.text :: kcells r
theorem kcells_len : ∀ l : List Tk, (kcells l).length = l.length * 3
  | [] => rfl
  | t :: r => by
    have := kcells_len r
    simp only [kcells, List.length_cons, this]
    omega
theorem kcells_app : ∀ a b : List Tk, kcells (a ++ b) = kcells a ++ kcells b
  | [], b => rfl
  | t :: r, b => by simp only [List.cons_append, kcells, kcells_app r b]
theorem kcells_at : ∀ (l : List Tk) (i : Nat) (t : Tk), l[i]? = some t → (kcells l)[i * 3]? = some (.int .i64 t.kind) ∧ (kcells l)[i * 3 + 1]? = some (.int .i64 t.spot) ∧ (kcells l)[i * 3 + 2]? = some (.string t.text)
  | [], i, t, h => by simp at h
  | x :: r, 0, t, h => by
    obtain rfl : x = t := by simpa using h
    exact ⟨rfl, rfl, rfl⟩
  | x :: r, i + 1, t, h => by
    have := kcells_at r i t (by simpa using h)
    rw [show (i + 1) * 3 = i * 3 + 3 by omega]
    exact this
theorem kcells_one : ∀ (l : List Tk), ∀ u ∈ kcells l, u.oneCell' = true
  | [], u, h => by simp [kcells] at h
  | x :: r, u, h => by
    simp only [kcells, List.mem_cons] at h
    rcases h with rfl | rfl | rfl | h
    · rfl
    · rfl
    · rfl
    · exact kcells_one r u h
theorem kcells_set : ∀ (l : List Tk) (i : Nat) (t : Tk), kcells (l.set i t) = (((kcells l).set (i * 3) (.int .i64 t.kind)).set (i * 3 + 1) (.int .i64 t.spot)).set (i * 3 + 2) (.string t.text)
  | [], i, t => by simp [kcells]
  | x :: r, 0, t => rfl
  | x :: r, i + 1, t => by
    rw [List.set_cons_succ, show (i + 1) * 3 = i * 3 + 3 by omega]
    simp only [kcells, kcells_set r i t]
    rfl
theorem mod3_cells (t : Tk) (n j : Nat) (h : j < n * 3) : (kcells (List.replicate n t))[j]? = t.cells[j % 3]? := by
  have hi : j / 3 < n := by omega
  obtain ⟨a, b, c⟩ := kcells_at (List.replicate n t) (j / 3) t (by rw [List.getElem?_replicate, if_pos hi])
  have hj : j = j / 3 * 3 + j % 3 := by omega
  have hm : j % 3 < 3 := Nat.mod_lt _ (by omega)
  generalize j / 3 = q at *
  generalize j % 3 = m at *
  subst hj
  match m, hm with
  | 0, _ => rw [Nat.add_zero, a]; rfl
  | 1, _ => rw [b]; rfl
  | 2, _ => rw [c]; rfl
def Tok.tk (t : Tok) : Tk := ⟨(t.kind : Int), (t.place : Int), t.text⟩
theorem tcells_tk : ∀ ts : List Tok, tcells ts = kcells (ts.map Tok.tk)
  | [] => rfl
  | t :: r => by
    have := tcells_tk r
    simp only [List.map_cons, kcells, ← this]
    rfl
/-- An own row of tokens. -/
def RowT (bs : Nat) (W : World) (v : Value) (l : List Tk) : Prop := W.ownsRow bs 29 3 v l.length (kcells l)
theorem RowT.form {bs : Nat} {W : World} {v : Value} {l : List Tk} (h : RowT bs W v l) : ∃ a c, v = .slice a l.length c := by
  rcases h.2 with ⟨rfl, h0⟩ | ⟨g, cap, _, rfl, _⟩
  · exact ⟨_, _, by rw [h0]⟩
  · exact ⟨_, _, rfl⟩
theorem RowT.pos {bs : Nat} {W : World} {v : Value} {l : List Tk} (h : RowT bs W v l) (hp : 0 < l.length) : ∃ g c, v = .slice (some ⟨g, 0, none⟩) l.length c := by
  rcases h.2 with ⟨_, h0⟩ | ⟨g, cap, _, rfl, _⟩
  · omega
  · exact ⟨_, _, rfl⟩
theorem RowT.cap {bs : Nat} {W : World} {a : Option Addr} {n c : Nat} {l : List Tk} (h : RowT bs W (.slice a n c) l) : n = l.length ∧ l.length ≤ c := by
  rcases h.2 with ⟨e, h0⟩ | ⟨g, cap, _, e, _, _, h4, _⟩
  · cases e
    exact ⟨h0.symm, by omega⟩
  · cases e
    exact ⟨rfl, h4⟩
theorem RowT.at' {bs : Nat} {W : World} {g n c : Nat} {l : List Tk} (h : RowT bs W (.slice (some ⟨g, 0, none⟩) n c) l) {j : Nat} {u : Value} (hj : (kcells l)[j]? = some u) : W.cell? ⟨g, j, none⟩ = some u := by
  obtain ⟨rfl, _⟩ := h.cap
  rw [World.ownsRow.cellAt h j (by rw [← kcells_len]; exact (List.getElem?_eq_some_iff.1 hj).1), hj]
theorem RowT.cell {bs : Nat} {W : World} {g n c : Nat} {l : List Tk} (h : RowT bs W (.slice (some ⟨g, 0, none⟩) n c) l) {i : Nat} {t : Tk} (hi : l[i]? = some t) :
    W.cell? ⟨g, i * 3, none⟩ = some (.int .i64 t.kind) ∧ W.cell? ⟨g, i * 3 + 1, none⟩ = some (.int .i64 t.spot) ∧ W.cell? ⟨g, i * 3 + 2, none⟩ = some (.string t.text) := by
  obtain ⟨a, b, c'⟩ := kcells_at l i t hi
  exact ⟨h.at' a, h.at' b, h.at' c'⟩
theorem RowT.frozenAt {bs : Nat} {W : World} {g n c : Nat} {l : List Tk} (h : RowT bs W (.slice (some ⟨g, 0, none⟩) n c) l) (j : Nat) : W.frozen? ⟨g, j, none⟩ = false := by
  obtain ⟨rfl, _⟩ := h.cap
  exact World.ownsRow.frozenAt h j
theorem RowT.lt {bs : Nat} {W : World} {g n c : Nat} {l : List Tk} (h : RowT bs W (.slice (some ⟨g, 0, none⟩) n c) l) : bs ≤ g ∧ g < W.heap.size := World.ownsRow.lt h g rfl
theorem RowT.set {bs : Nat} {W : World} {g n c : Nat} {l : List Tk} (h : RowT bs W (.slice (some ⟨g, 0, none⟩) n c) l) (i : Nat) (t : Tk) :
    RowT bs (((W.setCell ⟨g, i * 3, none⟩ (.int .i64 t.kind)).setCell ⟨g, i * 3 + 1, none⟩ (.int .i64 t.spot)).setCell ⟨g, i * 3 + 2, none⟩ (.string t.text)) (.slice (some ⟨g, 0, none⟩) n c) (l.set i t) ∧
      W.grownBy (((W.setCell ⟨g, i * 3, none⟩ (.int .i64 t.kind)).setCell ⟨g, i * 3 + 1, none⟩ (.int .i64 t.spot)).setCell ⟨g, i * 3 + 2, none⟩ (.string t.text)) (some g) := by
  obtain ⟨rfl, _⟩ := h.cap
  obtain ⟨h1, g1⟩ := World.ownsRow.stored h (i * 3) (.int .i64 t.kind)
  obtain ⟨h2, g2⟩ := World.ownsRow.stored h1 (i * 3 + 1) (.int .i64 t.spot)
  obtain ⟨h3, g3⟩ := World.ownsRow.stored h2 (i * 3 + 2) (.string t.text)
  refine ⟨?_, (g1.trans g2).trans g3⟩
  unfold RowT
  rw [kcells_set, List.length_set]
  exact h3
theorem RowT.kept {bs : Nat} {W W' : World} {v : Value} {l : List Tk} (h : RowT bs W v l) {row : Option Nat} (hg : W.grownBy W' row) (hne : v.ownBlock = none ∨ v.ownBlock ≠ row) : RowT bs W' v l := World.ownsRow.kept h hg hne
theorem ownsRow_up {bs : Nat} {W w : World} {e size n : Nat} {v : Value} {xs : List Value} (h : W.ownsRow bs e size v n xs) (hb : Below W.heap.size W w) : w.ownsRow bs e size v n xs := by
  refine ⟨h.1, ?_⟩
  rcases h.2 with h1 | ⟨g', cap, cur, e, hb1, hc, rest⟩
  · exact .inl h1
  · refine .inr ⟨g', cap, cur, e, hb1, ?_, rest⟩
    rw [hb.block g' (Array.getElem?_eq_some_iff.1 hc).1]
    exact hc
theorem ownsRow_mono {W : World} {bs bs' e size n : Nat} {v : Value} {xs : List Value} (h : W.ownsRow bs e size v n xs) (hb : bs' ≤ bs) : W.ownsRow bs' e size v n xs := by
  refine ⟨h.1, ?_⟩
  rcases h.2 with h1 | ⟨g', cap, cur, e, hb1, rest⟩
  · exact .inl h1
  · exact .inr ⟨g', cap, cur, e, Nat.le_trans hb hb1, rest⟩
theorem RowT.up {bs : Nat} {W w : World} {v : Value} {l : List Tk} (h : RowT bs W v l) (hb : Below W.heap.size W w) : RowT bs w v l := ownsRow_up h hb
theorem RowT.mono {bs bs' : Nat} {W : World} {v : Value} {l : List Tk} (h : RowT bs W v l) (hb : bs' ≤ bs) : RowT bs' W v l := ownsRow_mono h hb
theorem ownsRow_take {W : World} {bs e size g n m c : Nat} {xs news : List Value} (h : W.ownsRow bs e size (.slice (some ⟨g, 0, none⟩) (n + m) c) (n + m) (xs ++ news)) (hx : xs.length = n * size) : W.ownsRow bs e size (.slice (some ⟨g, 0, none⟩) n c) n xs := by
  refine ⟨hx, ?_⟩
  rcases h.2 with ⟨e, _⟩ | ⟨g', cap, cur, e, hb1, h2, h3, h4, h5, h6⟩
  · cases e
  · cases e
    refine .inr ⟨g, c, cur, rfl, hb1, h2, by omega, h4, h5, ?_⟩
    have := congrArg (List.take (n * size)) h6
    rw [List.take_take, Nat.min_eq_left (Nat.mul_le_mul_right _ (Nat.le_add_right n m)), ← hx, List.take_left] at this
    rw [← hx]
    exact this
section
variable {P : Program}
/-- append onto an own row that is kept beside: what came out; the old row as it was; its block written on with the new cells at most. -/
theorem run_append_keeps (w : World) (t ty : TypeId) (base : Nat) (e : TypeId) (i : TypeInfo) (z : Value) (size bytes : Nat) (ht : P.underlying t = some (.slice e)) (hi : P.info? e = some i) (hz : i.zero = some z)
    (hsize : i.size = size) (hby : i.bytes = bytes) (hzs : z.cells.size = size) (hsz : 0 < size)
    (v : Value) (n : Nat) (xs : List Value) (hown : w.ownsRow base e size v n xs)
    (ad : Addr) (m c : Nat) (news : List Value) (hl : news.length = m * size) (hnews : ∀ j u, news[j]? = some u → w.cell? (ad.add j) = some u) (h1 : ∀ u ∈ news, u.oneCell' = true)
    (hm : 0 < m) (h63 : n + m ≤ maxLen) (hbytes : (n + m) * bytes ≤ 140737488355328) (hbase : base ≤ w.heap.size) :
    ∃ g' c' w', (Builtin.append_ #[t, t] ty #[v, .slice (some ad) m c]).run P w = .ok (.slice (some ⟨g', 0, none⟩) (n + m) c') w' ∧ w'.ownsRow base e size (.slice (some ⟨g', 0, none⟩) (n + m) c') (n + m) (xs ++ news) ∧ w'.ownsRow base e size v n xs ∧ w.grownBy w' v.ownBlock ∧
      (v.ownBlock = some g' ∨ w.heap.size ≤ g') ∧ ∀ g j, v.ownBlock = some g → w'.cell? ⟨g, j, none⟩ = w.cell? ⟨g, j, none⟩ ∨ ∃ u, (xs ++ news)[j]? = some u ∧ w'.cell? ⟨g, j, none⟩ = some u := by
  have hlen : xs.length = n * size := hown.1
  rcases id hown.2 with ⟨rfl, rfl⟩ | ⟨g, cap, cur, rfl, hbg, hg, hnc, hcm, hcs, htake⟩
  · obtain ⟨v', w', hr, ho, hgr, _⟩ := run_append_own (P := P) w base t ty e i z size bytes ht hi hz hsize hby hzs hsz (.slice none 0 0) 0 xs hown ad m c news hl hnews h1 h63 hbytes hbase
    have hgr' : w.grownBy w' none := hgr
    rcases id ho.2 with ⟨_, h0⟩ | ⟨g', c', _, rfl, hb', _⟩
    · omega
    · obtain rfl : xs = [] := List.eq_nil_of_length_eq_zero (by simpa using hlen)
      refine ⟨g', c', w', hr, ho, World.ownsRow_nil _ _ _ _, hgr, ?_, fun g j e => by cases e⟩
      by_cases h : w.heap.size ≤ g'
      · exact .inr h
      · exfalso
        obtain ⟨v2, w2, hr2, ho2, hgr2, _⟩ := run_append_own (P := P) w w.heap.size t ty e i z size bytes ht hi hz hsize hby hzs hsz (.slice none 0 0) 0 [] (World.ownsRow_nil w _ e size) ad m c news hl hnews h1 h63 hbytes (Nat.le_refl _)
        rw [hr] at hr2
        simp only [Result.ok.injEq] at hr2
        obtain ⟨rfl, rfl⟩ := hr2
        exact h (ho2.lt g' rfl).1
  · by_cases hroom : n + m ≤ cap
    · obtain ⟨w', hr, ho, hgr⟩ := run_append_own_spare (P := P) w base t ty e i size ht hi hsize g n cap xs hown ad m c news hl hnews h1 hroom
      have hin : ∀ j, j < news.length → (w.cell? ⟨g, 0 + n * i.size + j, none⟩).isSome = true := fun j hj => by
        rw [cell_of_row _ _ _ _ _ _ hg]
        have : n * size + news.length ≤ cur.size := by rw [hl, hcs, ← Nat.add_mul]; exact Nat.mul_le_mul_right _ hroom
        rw [hsize, Array.getElem?_eq_getElem (by omega)]
        rfl
      have hr2 := run_append_room_cells (P := P) w t ty e i ht hi g 0 n cap ad m c news (by rw [hsize]; exact hl) hnews h1 hroom hin (fun j _ => World.ownsRow.frozenAt hown _)
      rw [hr] at hr2
      simp only [Result.ok.injEq, true_and] at hr2
      refine ⟨g, cap, w', hr, ho, ownsRow_take ho hlen, hgr, .inl rfl, fun g1 j e => ?_⟩
      obtain rfl : g = g1 := by simpa [Value.ownBlock] using e
      by_cases hj : j < (n + m) * size
      · refine .inr ?_
        have hlx : (xs ++ news).length = (n + m) * size := ho.1
        refine ⟨(xs ++ news)[j]'(by omega), List.getElem?_eq_getElem _, ?_⟩
        rw [World.ownsRow.cellAt ho j hj, List.getElem?_eq_getElem]
      · refine .inl ?_
        rw [hr2]
        refine World.cell?_setCells_out _ _ _ _ _ fun _ _ => .inr ?_
        rw [hsize, hl, Nat.zero_add, ← Nat.add_mul]
        show (n + m) * size ≤ j
        omega
    · obtain ⟨v', w', hr, ho, hgr⟩ := run_append_arg_grows (P := P) w t ty e i z size bytes ht hi hz hsize hby hzs hsz ⟨g, 0, none⟩ n cap xs hlen (hown.cells (g := g) rfl) ad m c news hl hnews (by omega) h63 hbytes
      rcases id ho.2 with ⟨_, h0⟩ | ⟨g', c', _, rfl, hb', _⟩
      · omega
      · refine ⟨g', c', w', hr, ownsRow_mono ho hbase, World.ownsRow.kept hown hgr (.inr (by simp [Value.ownBlock])), ⟨hgr.os, hgr.tape, hgr.output, hgr.size, fun k hk _ => hgr.block k hk (by simp)⟩, .inr hb', fun g1 j e => .inl ?_⟩
        obtain rfl : g = g1 := by simpa [Value.ownBlock] using e
        exact World.cell?_of_block (hgr.block g (hown.lt g rfl).2 (by simp))
end
end Go.Proofs.YtdhncpeemcanlaaGreatDoor
