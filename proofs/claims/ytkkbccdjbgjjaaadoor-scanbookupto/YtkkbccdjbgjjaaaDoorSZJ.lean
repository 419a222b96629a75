import Derived.Test.YtkkbccdjbgjjaaaDoorSYe
import Derived.Test.YtkkbccdjbgjjaaaDoorSW2
import Derived.Lib.Index

namespace Go.Proofs.YtkkbccdjbgjjaaaDoor
open Go.RowKit

theorem nlAt_no (s : ByteArray) (k j : Nat) (h1 : k ≤ j) (h2 : j < nlAt s k) : ¬ byteAt s j = 10 := by
  rw [nlAt] at h2
  split at h2
  · rename_i h
    by_cases e : j = k
    · subst e; exact h.2
    · exact nlAt_no s (k + 1) j (by omega) h2
  · omega
termination_by s.size - k
decreasing_by omega
theorem nlAt_hit (s : ByteArray) (k : Nat) (h : nlAt s k < s.size) : byteAt s (nlAt s k) = 10 := by
  rw [nlAt] at h ⊢
  split at h
  · rename_i h1
    rw [dif_pos h1]
    exact nlAt_hit s (k + 1) h
  · rename_i h1
    rw [dif_neg h1]
    exact Classical.byContradiction fun e => h1 ⟨h, e⟩
termination_by s.size - k
decreasing_by omega
theorem starAt_no (s : ByteArray) (k j : Nat) (h1 : k ≤ j) (h2 : j < starAt s k) : ¬ (byteAt s j = 42 ∧ byteAt s (j + 1) = 47) := by
  rw [starAt] at h2
  split at h2
  · rename_i h
    by_cases e : j = k
    · subst e; exact h.2
    · exact starAt_no s (k + 1) j (by omega) h2
  · omega
termination_by s.size - k
decreasing_by omega
theorem starAt_hit (s : ByteArray) (k : Nat) (h : starAt s k + 2 ≤ s.size) : byteAt s (starAt s k) = 42 ∧ byteAt s (starAt s k + 1) = 47 := by
  rw [starAt] at h ⊢
  split at h
  · rename_i h1
    rw [dif_pos h1]
    exact starAt_hit s (k + 1) h
  · rename_i h1
    rw [dif_neg h1]
    exact Classical.byContradiction fun e => h1 ⟨h, e⟩
termination_by s.size - k
decreasing_by omega
theorem byteAt_ext {s : ByteArray} {k j : Nat} (h : k + j < s.size) : byteAt (s.extract k s.size) j = byteAt s (k + j) := by
  have hz : j < (s.extract k s.size).size := by rw [ByteArray.size_extract]; omega
  have e1 := strN_at _ j hz
  rw [strN_extract, List.getElem?_take, if_pos (by omega), List.getElem?_drop, strN_at s (k + j) h] at e1
  exact (Option.some.inj e1).symm
theorem idx_nl {s : ByteArray} {k : Nat} (hk : k ≤ s.size) : firstIdx (s.extract k s.size) 10 = if nlAt s k < s.size then ((nlAt s k - k : Nat) : Int) else -1 := by
  have hz : (s.extract k s.size).size = s.size - k := by rw [ByteArray.size_extract]; omega
  have hb : ∀ i, i < s.size - k → (((s.extract k s.size)[i]! == (10 : UInt8)) = true ↔ byteAt s (k + i) = 10) := fun i hi => by
    have hi2 : i < (s.extract k s.size).size := by omega
    rw [getElem!_pos _ i hi2, ← byteAt_ext (by omega), byteAt, dif_pos hi2]
    constructor
    · intro h; rw [eq_of_beq h]; rfl
    · intro h; exact beq_iff_eq.2 (UInt8.toNat_inj.1 h)
  have hge := nlAt_ge s k
  unfold firstIdx
  rw [hz]
  by_cases h : nlAt s k < s.size
  · rw [if_pos h]
    have hf : (List.range (s.size - k)).find? (fun i => (s.extract k s.size)[i]! == (10 : UInt8)) = some (nlAt s k - k) := by
      refine List.find?_range_eq_some.2 ⟨(hb _ (by omega)).2 ?_, List.mem_range.2 (by omega), fun j hj => ?_⟩
      · rw [show k + (nlAt s k - k) = nlAt s k by omega]
        exact nlAt_hit s k h
      · have := nlAt_no s k (k + j) (by omega) (by omega)
        rw [Bool.not_eq_true', ← Bool.not_eq_true]
        exact fun q => this ((hb j (by omega)).1 q)
    rw [hf]
  · rw [if_neg h]
    have hf : (List.range (s.size - k)).find? (fun i => (s.extract k s.size)[i]! == (10 : UInt8)) = none := by
      refine List.find?_range_eq_none.2 fun j hj => ?_
      have := nlAt_no s k (k + j) (by omega) (by omega)
      rw [Bool.not_eq_true', ← Bool.not_eq_true]
      exact fun q => this ((hb j hj).1 q)
    rw [hf]
theorem occ_star {s : ByteArray} {k j : Nat} (hk : k ≤ s.size) : Lib.occAt (s.extract k s.size).data.toList [42, 47] j = true ↔ k + j + 2 ≤ s.size ∧ byteAt s (k + j) = 42 ∧ byteAt s (k + j + 1) = 47 := by
  have hl : (s.extract k s.size).data.toList.length = s.size - k := by
    show (s.extract k s.size).size = _
    rw [ByteArray.size_extract]; omega
  by_cases hr : k + j + 2 ≤ s.size
  · have e : ((s.extract k s.size).data.toList.drop j).take 2 = (s.extract (k + j) (k + j + 2)).data.toList := by
      rw [Lib.extract_data, Lib.extract_data, List.drop_take, List.take_take, List.drop_drop, Nat.min_eq_left (by omega)]
      congr 1
      omega
    rw [Lib.occAt_iff_take _ _ _ (by rw [hl]; show j + 2 ≤ _; omega)]
    show ((((s.extract k s.size).data.toList.drop j).take 2) == [42, 47]) = true ↔ _
    rw [e, beq_iff_eq, two_eq hr]
    exact ⟨fun q => ⟨hr, q⟩, fun q => q.2⟩
  · refine ⟨fun q => ?_, fun q => absurd q.1 hr⟩
    rcases Lib.occAt_room q with h | h
    · rw [hl] at h
      exact absurd (show k + j + 2 ≤ s.size by have : ([42, 47] : List UInt8).length = 2 := rfl; omega) hr
    · cases h
theorem idx_star {s : ByteArray} {k : Nat} (hk : k ≤ s.size) : Lib.index (s.extract k s.size).data.toList [42, 47] = if starAt s k + 2 ≤ s.size then ((starAt s k - k : Nat) : Int) else -1 := by
  have hl : (s.extract k s.size).data.toList.length = s.size - k := by
    show (s.extract k s.size).size = _
    rw [ByteArray.size_extract]; omega
  have hge := starAt_ge s k
  by_cases h : starAt s k + 2 ≤ s.size
  · rw [if_pos h]
    refine Lib.index_first (by rw [hl]; omega) ((occ_star hk).2 ?_) (fun j hj => ?_)
    · rw [show k + (starAt s k - k) = starAt s k by omega]
      exact ⟨h, starAt_hit s k h⟩
    · rw [← Bool.not_eq_true]
      exact fun q => starAt_no s k (k + j) (by omega) (by omega) ((occ_star hk).1 q).2
  · rw [if_neg h]
    refine Lib.index_none fun j _ => ?_
    rw [← Bool.not_eq_true]
    intro q
    have q2 := (occ_star hk).1 q
    by_cases hj : k + j < starAt s k
    · exact starAt_no s k (k + j) (by omega) hj q2.2
    · omega
theorem pre_two {s : ByteArray} {k : Nat} (hk : k ≤ s.size) (a b : UInt8) : Pre (s.extract k s.size) ⟨#[a, b]⟩ ↔ k + 2 ≤ s.size ∧ byteAt s k = a.toNat ∧ byteAt s (k + 1) = b.toNat := by
  unfold Pre
  show (strN (s.extract k s.size)).take 2 = [a.toNat, b.toNat] ↔ _
  rw [strN_extract]
  by_cases hr : k + 2 ≤ s.size
  · have e : (((strN s).drop k).take (s.size - k)).take 2 = [byteAt s k, byteAt s (k + 1)] := by
      rw [List.take_take, Nat.min_eq_left (by omega)]
      apply List.ext_getElem?
      intro i
      rw [List.getElem?_take]
      match i with
      | 0 => rw [if_pos (by omega), List.getElem?_drop, Nat.add_zero, strN_at s k (by omega)]; rfl
      | 1 => rw [if_pos (by omega), List.getElem?_drop, strN_at s (k + 1) (by omega)]; rfl
      | i + 2 => rw [if_neg (by omega)]; rfl
    rw [e]
    simp [hr]
  · refine ⟨fun q => ?_, fun q => absurd q.1 hr⟩
    have := congrArg List.length q
    rw [List.length_take, List.length_take, List.length_drop, strN_len] at this
    simp at this
    omega
end Go.Proofs.YtkkbccdjbgjjaaaDoor

namespace Go.Proofs.YtkkbccdjbgjjaaaDoor
open Go.RowKit
attribute [local go_sem ↓] Go.wp_at_zero Go.wp_at_succ

def tcells (ts : List Tok) : List Value := ts.flatMap fun t => [.int .i64 (t.kind : Int), .int .i64 (t.place : Int), .string t.text]
theorem tcells_app (a b : List Tok) : tcells (a ++ b) = tcells a ++ tcells b := by simp [tcells]
theorem tcells_len (a : List Tok) : (tcells a).length = 3 * a.length := by
  induction a with
  | nil => rfl
  | cons t r ih => simp only [tcells, List.flatMap_cons, List.length_append, List.length_cons, List.length_nil] at ih ⊢; omega
/-- A scanner at work: its place, its tokens. -/
structure ScanIn (W : World) (B b : Nat) (s : ByteArray) (k n : Nat) (v : Value) (xs : List Value) : Prop where
  sc : ScanAt W b s k v
  lo : b < B
  hi : B ≤ W.heap.size
  row : W.ownsRow B 31 3 v n xs
  more : k < s.size
  size : s.size ≤ 65536
  room : n ≤ 16383
theorem ScanIn.up {W w : World} {B b : Nat} {s : ByteArray} {k n : Nat} {v : Value} {xs : List Value} (h : ScanIn W B b s k n v xs) (hb : Below W.heap.size W w) : ScanIn w B b s k n v xs := ⟨h.sc.up hb, h.lo, Nat.le_trans h.hi hb.size, rowUp h.row hb, h.more, h.size, h.room⟩
theorem ScanIn.shape {W : World} {B b : Nat} {s : ByteArray} {k n : Nat} {v : Value} {xs : List Value} (h : ScanIn W B b s k n v xs) : ∃ a c, v = .slice a n c := by
  obtain ⟨_, ⟨e, h0⟩ | ⟨g, c, _, e, _⟩⟩ := h.row
  · exact ⟨none, 0, by rw [e, h0]⟩
  · exact ⟨_, _, e⟩
/-- What a step does. -/
def StepP (B b : Nat) (s : ByteArray) (k n : Nat) (xs : List Value) (W : World) (e : Ending) (w : World) : Prop :=
  BX B b W w ∧ ((e = .returned (.int .i64 0) ∧ ∃ (k' : Nat) (ts : List Tok) (v' : Value), ScanAt w b s k' v' ∧ w.ownsRow B 31 3 v' (n + ts.length) (xs ++ tcells ts) ∧ k < k' ∧ k' ≤ s.size ∧ n + ts.length ≤ 16383 ∧ tk s k n = frontT ts (tk s k' (n + ts.length)))
   ∨ (∃ (c : Nat) (v' : Value), c ≠ 0 ∧ e = .returned (.int .i64 (c : Int)) ∧ ScanAt w b s k v' ∧ tk s k n = .inr (k, c)))
theorem StepP.ret {B b : Nat} {s : ByteArray} {k n : Nat} {xs : List Value} {W w : World} {e : Ending} (h : StepP B b s k n xs W e w) : ∃ c : Int, e = .returned (.int .i64 c) := by
  obtain ⟨_, ⟨rfl, _⟩ | ⟨c, _, _, rfl, _⟩⟩ := h
  · exact ⟨0, rfl⟩
  · exact ⟨(c : Int), rfl⟩
theorem StepP.from {B b : Nat} {s : ByteArray} {k n : Nat} {xs : List Value} {W W1 w : World} {e : Ending} (h : StepP B b s k n xs W1 e w) (hb : Below W.heap.size W W1) (hB : B ≤ W.heap.size) : StepP B b s k n xs W e w := ⟨(BX.of hb hB).trans h.1, h.2⟩
theorem take_badP {W : World} {B b : Nat} {s : ByteArray} {k n c : Nat} {v : Value} {xs : List Value} (I : ScanIn W B b s k n v xs) (hp : passF s s.size k = (k, true)) (ho : (oneF s k).2.2 = c) (hc : c ≠ 0) (kind m : Int) :
    Calls Tryd.prog 18 #[.pointer (some ⟨b, 0, none⟩), .int .i64 kind, .int .i64 m, .int .i64 (c : Int)] W (StepP B b s k n xs W) := by
  obtain ⟨va, vc, rfl⟩ := I.shape
  by_cases hn : n = 16383
  · subst hn
    refine (take_full I.sc).mono ?_
    rintro e w ⟨rfl, rfl⟩
    exact ⟨BX.refl _ _ _, .inr ⟨45, _, by decide, rfl, I.sc, tk_full I.more hp⟩⟩
  · have hn2 : n < 16383 := by have := I.room; omega
    refine (take_err I.sc hn2 (by omega)).mono ?_
    rintro e w ⟨rfl, rfl⟩
    exact ⟨BX.refl _ _ _, .inr ⟨c, _, hc, rfl, I.sc, tk_err I.more hp hn2 ho hc⟩⟩
theorem take_okP {W : World} {B b : Nat} {s : ByteArray} {k n m t : Nat} {v : Value} {xs : List Value} (I : ScanIn W B b s k n v xs) (hp : passF s s.size k = (k, true)) (ho : oneF s k = (t, k + m, 0)) :
    Calls Tryd.prog 18 #[.pointer (some ⟨b, 0, none⟩), .int .i64 (t : Int), .int .i64 (m : Int), .int .i64 0] W (StepP B b s k n xs W) := by
  obtain ⟨va, vc, rfl⟩ := I.shape
  have hle := oneF_le I.more (by rw [ho])
  rw [ho] at hle
  replace hle : k < k + m ∧ k + m ≤ s.size := hle
  by_cases hn : n = 16383
  · subst hn
    refine (take_full I.sc).mono ?_
    rintro e w ⟨rfl, rfl⟩
    exact ⟨BX.refl _ _ _, .inr ⟨45, _, by decide, rfl, I.sc, tk_full I.more hp⟩⟩
  · have hn2 : n < 16383 := by have := I.room; omega
    refine (take_any I.sc I.lo I.hi I.row hle.2 I.size hn2).mono ?_
    rintro e w ⟨rfl, v', g1, g2, g3⟩
    refine ⟨g3, .inl ⟨rfl, k + m, [⟨t, k, s.extract k (k + m)⟩], v', g1, g2, hle.1, hle.2, by simp; omega, ?_⟩⟩
    rw [tk_tok I.more hp hn2 ho]
    cases tk s (k + m) (n + 1) <;> rfl
end Go.Proofs.YtkkbccdjbgjjaaaDoor
