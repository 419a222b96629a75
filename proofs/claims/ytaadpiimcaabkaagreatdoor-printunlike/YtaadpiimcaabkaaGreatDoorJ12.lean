import Derived.Test.YtaadpiimcaabkaaGreatDoorJ11
import Derived.Test.YtaadpiimcaabkaaGreatDoorJ11
import Derived.Lib.Index
import Derived.Test.YtaadpiimcaabkaaGreatDoorJ09
import Derived.Deep.CutBlock

namespace Go.Proofs.YtaadpiimcaabkaaGreatDoor
open Go.RowKit

theorem nlAt_no (s : ByteArray) (k j : Nat) (h1 : k ≤ j) (h2 : j < nlAt s k) : ¬ byteAt s j = 10 := by
  rw [nlAt] at h2
  split at h2
  · rename_i h
    by_cases e : j = k
    · subst e; exact h.2
    · exact nlAt_no s (k + 1) j (by omega) h2
  · omega
termination_by s.size - k
decreasing_by omega
theorem nlAt_hit (s : ByteArray) (k : Nat) (h : nlAt s k < s.size) : byteAt s (nlAt s k) = 10 := by
  rw [nlAt] at h ⊢
  split at h
  · rename_i h1
    rw [dif_pos h1]
    exact nlAt_hit s (k + 1) h
  · rename_i h1
    rw [dif_neg h1]
    exact Classical.byContradiction fun e => h1 ⟨h, e⟩
termination_by s.size - k
decreasing_by omega
theorem starAt_no (s : ByteArray) (k j : Nat) (h1 : k ≤ j) (h2 : j < starAt s k) : ¬ (byteAt s j = 42 ∧ byteAt s (j + 1) = 47) := by
  rw [starAt] at h2
  split at h2
  · rename_i h
    by_cases e : j = k
    · subst e; exact h.2
    · exact starAt_no s (k + 1) j (by omega) h2
  · omega
termination_by s.size - k
decreasing_by omega
theorem starAt_hit (s : ByteArray) (k : Nat) (h : starAt s k + 2 ≤ s.size) : byteAt s (starAt s k) = 42 ∧ byteAt s (starAt s k + 1) = 47 := by
  rw [starAt] at h ⊢
  split at h
  · rename_i h1
    rw [dif_pos h1]
    exact starAt_hit s (k + 1) h
  · rename_i h1
    rw [dif_neg h1]
    exact Classical.byContradiction fun e => h1 ⟨h, e⟩
termination_by s.size - k
decreasing_by omega
theorem byteAt_ext {s : ByteArray} {k j : Nat} (h : k + j < s.size) : byteAt (s.extract k s.size) j = byteAt s (k + j) := by
  have hz : j < (s.extract k s.size).size := by rw [ByteArray.size_extract]; omega
  have e1 := strN_at _ j hz
  rw [strN_extract, List.getElem?_take, if_pos (by omega), List.getElem?_drop, strN_at s (k + j) h] at e1
  exact (Option.some.inj e1).symm
theorem idx_nl {s : ByteArray} {k : Nat} (hk : k ≤ s.size) : firstIdx (s.extract k s.size) 10 = if nlAt s k < s.size then ((nlAt s k - k : Nat) : Int) else -1 := by
  have hz : (s.extract k s.size).size = s.size - k := by rw [ByteArray.size_extract]; omega
  have hb : ∀ i, i < s.size - k → (((s.extract k s.size)[i]! == (10 : UInt8)) = true ↔ byteAt s (k + i) = 10) := fun i hi => by
    have hi2 : i < (s.extract k s.size).size := by omega
    rw [getElem!_pos _ i hi2, ← byteAt_ext (by omega), byteAt, dif_pos hi2]
    constructor
    · intro h; rw [eq_of_beq h]; rfl
    · intro h; exact beq_iff_eq.2 (UInt8.toNat_inj.1 h)
  have hge := nlAt_ge s k
  unfold firstIdx
  rw [hz]
  by_cases h : nlAt s k < s.size
  · rw [if_pos h]
    have hf : (List.range (s.size - k)).find? (fun i => (s.extract k s.size)[i]! == (10 : UInt8)) = some (nlAt s k - k) := by
      refine List.find?_range_eq_some.2 ⟨(hb _ (by omega)).2 ?_, List.mem_range.2 (by omega), fun j hj => ?_⟩
      · rw [show k + (nlAt s k - k) = nlAt s k by omega]
        exact nlAt_hit s k h
      · have := nlAt_no s k (k + j) (by omega) (by omega)
        rw [Bool.not_eq_true', ← Bool.not_eq_true]
        exact fun q => this ((hb j (by omega)).1 q)
    rw [hf]
  · rw [if_neg h]
    have hf : (List.range (s.size - k)).find? (fun i => (s.extract k s.size)[i]! == (10 : UInt8)) = none := by
      refine List.find?_range_eq_none.2 fun j hj => ?_
      have := nlAt_no s k (k + j) (by omega) (by omega)
      rw [Bool.not_eq_true', ← Bool.not_eq_true]
      exact fun q => this ((hb j hj).1 q)
    rw [hf]
theorem occ_star {s : ByteArray} {k j : Nat} (hk : k ≤ s.size) : Lib.occAt (s.extract k s.size).data.toList [42, 47] j = true ↔ k + j + 2 ≤ s.size ∧ byteAt s (k + j) = 42 ∧ byteAt s (k + j + 1) = 47 := by
  have hl : (s.extract k s.size).data.toList.length = s.size - k := by
    show (s.extract k s.size).size = _
    rw [ByteArray.size_extract]; omega
  by_cases hr : k + j + 2 ≤ s.size
  · have e : ((s.extract k s.size).data.toList.drop j).take 2 = (s.extract (k + j) (k + j + 2)).data.toList := by
      rw [Lib.extract_data, Lib.extract_data, List.drop_take, List.take_take, List.drop_drop, Nat.min_eq_left (by omega)]
      congr 1
      omega
    rw [Lib.occAt_iff_take _ _ _ (by rw [hl]; show j + 2 ≤ _; omega)]
    show ((((s.extract k s.size).data.toList.drop j).take 2) == [42, 47]) = true ↔ _
    rw [e, beq_iff_eq, two_eq hr]
    exact ⟨fun q => ⟨hr, q⟩, fun q => q.2⟩
  · refine ⟨fun q => ?_, fun q => absurd q.1 hr⟩
    rcases Lib.occAt_room q with h | h
    · rw [hl] at h
      exact absurd (show k + j + 2 ≤ s.size by have : ([42, 47] : List UInt8).length = 2 := rfl; omega) hr
    · cases h
theorem idx_star {s : ByteArray} {k : Nat} (hk : k ≤ s.size) : Lib.index (s.extract k s.size).data.toList [42, 47] = if starAt s k + 2 ≤ s.size then ((starAt s k - k : Nat) : Int) else -1 := by
  have hl : (s.extract k s.size).data.toList.length = s.size - k := by
    show (s.extract k s.size).size = _
    rw [ByteArray.size_extract]; omega
  have hge := starAt_ge s k
  by_cases h : starAt s k + 2 ≤ s.size
  · rw [if_pos h]
    refine Lib.index_first (by rw [hl]; omega) ((occ_star hk).2 ?_) (fun j hj => ?_)
    · rw [show k + (starAt s k - k) = starAt s k by omega]
      exact ⟨h, starAt_hit s k h⟩
    · rw [← Bool.not_eq_true]
      exact fun q => starAt_no s k (k + j) (by omega) (by omega) ((occ_star hk).1 q).2
  · rw [if_neg h]
    refine Lib.index_none fun j _ => ?_
    rw [← Bool.not_eq_true]
    intro q
    have q2 := (occ_star hk).1 q
    by_cases hj : k + j < starAt s k
    · exact starAt_no s k (k + j) (by omega) hj q2.2
    · omega
theorem pre_two {s : ByteArray} {k : Nat} (hk : k ≤ s.size) (a b : UInt8) : Pre (s.extract k s.size) ⟨#[a, b]⟩ ↔ k + 2 ≤ s.size ∧ byteAt s k = a.toNat ∧ byteAt s (k + 1) = b.toNat := by
  unfold Pre
  show (strN (s.extract k s.size)).take 2 = [a.toNat, b.toNat] ↔ _
  rw [strN_extract]
  by_cases hr : k + 2 ≤ s.size
  · have e : (((strN s).drop k).take (s.size - k)).take 2 = [byteAt s k, byteAt s (k + 1)] := by
      rw [List.take_take, Nat.min_eq_left (by omega)]
      apply List.ext_getElem?
      intro i
      rw [List.getElem?_take]
      match i with
      | 0 => rw [if_pos (by omega), List.getElem?_drop, Nat.add_zero, strN_at s k (by omega)]; rfl
      | 1 => rw [if_pos (by omega), List.getElem?_drop, strN_at s (k + 1) (by omega)]; rfl
      | i + 2 => rw [if_neg (by omega)]; rfl
    rw [e]
    simp [hr]
  · refine ⟨fun q => ?_, fun q => absurd q.1 hr⟩
    have := congrArg List.length q
    rw [List.length_take, List.length_take, List.length_drop, strN_len] at this
    simp at this
    omega
end Go.Proofs.YtaadpiimcaabkaaGreatDoor

namespace Go.Proofs.YtaadpiimcaabkaaGreatDoor
open Go.RowKit
attribute [local go_sem ↓] Go.wp_at_zero Go.wp_at_succ

def tcells (ts : List Tok) : List Value := ts.flatMap fun t => [.int .i64 (t.kind : Int), .int .i64 (t.place : Int), .string t.text]
theorem tcells_app (a b : List Tok) : tcells (a ++ b) = tcells a ++ tcells b := by simp [tcells]
theorem tcells_len (a : List Tok) : (tcells a).length = 3 * a.length := by
  induction a with
  | nil => rfl
  | cons t r ih => simp only [tcells, List.flatMap_cons, List.length_append, List.length_cons, List.length_nil] at ih ⊢; omega
/-- A scanner at work: its place, its tokens. -/
structure ScanIn (W : World) (B b : Nat) (s : ByteArray) (k n : Nat) (v : Value) (xs : List Value) : Prop where
  sc : ScanAt W b s k v
  lo : b < B
  hi : B ≤ W.heap.size
  row : W.ownsRow B 107 3 v n xs
  more : k < s.size
  size : s.size ≤ 65536
  room : n ≤ 16383
theorem ScanIn.up {W w : World} {B b : Nat} {s : ByteArray} {k n : Nat} {v : Value} {xs : List Value} (h : ScanIn W B b s k n v xs) (hb : Below W.heap.size W w) : ScanIn w B b s k n v xs := ⟨h.sc.up hb, h.lo, Nat.le_trans h.hi hb.size, rowUp h.row hb, h.more, h.size, h.room⟩
theorem ScanIn.shape {W : World} {B b : Nat} {s : ByteArray} {k n : Nat} {v : Value} {xs : List Value} (h : ScanIn W B b s k n v xs) : ∃ a c, v = .slice a n c := by
  obtain ⟨_, ⟨e, h0⟩ | ⟨g, c, _, e, _⟩⟩ := h.row
  · exact ⟨none, 0, by rw [e, h0]⟩
  · exact ⟨_, _, e⟩
/-- What a step does. -/
def StepP (B b : Nat) (s : ByteArray) (k n : Nat) (xs : List Value) (W : World) (e : Ending) (w : World) : Prop :=
  BX B b W w ∧ ((e = .returned (.int .i64 0) ∧ ∃ (k' : Nat) (ts : List Tok) (v' : Value), ScanAt w b s k' v' ∧ w.ownsRow B 107 3 v' (n + ts.length) (xs ++ tcells ts) ∧ k < k' ∧ k' ≤ s.size ∧ n + ts.length ≤ 16383 ∧ tk s k n = frontT ts (tk s k' (n + ts.length)))
   ∨ (∃ (c : Nat) (v' : Value), c ≠ 0 ∧ e = .returned (.int .i64 (c : Int)) ∧ ScanAt w b s k v' ∧ tk s k n = .inr (k, c)))
theorem StepP.ret {B b : Nat} {s : ByteArray} {k n : Nat} {xs : List Value} {W w : World} {e : Ending} (h : StepP B b s k n xs W e w) : ∃ c : Int, e = .returned (.int .i64 c) := by
  obtain ⟨_, ⟨rfl, _⟩ | ⟨c, _, _, rfl, _⟩⟩ := h
  · exact ⟨0, rfl⟩
  · exact ⟨(c : Int), rfl⟩
theorem StepP.from {B b : Nat} {s : ByteArray} {k n : Nat} {xs : List Value} {W W1 w : World} {e : Ending} (h : StepP B b s k n xs W1 e w) (hb : Below W.heap.size W W1) (hB : B ≤ W.heap.size) : StepP B b s k n xs W e w := ⟨(BX.of hb hB).trans h.1, h.2⟩
theorem take_badP {W : World} {B b : Nat} {s : ByteArray} {k n c : Nat} {v : Value} {xs : List Value} (I : ScanIn W B b s k n v xs) (hp : passF s s.size k = (k, true)) (ho : (oneF s k).2.2 = c) (hc : c ≠ 0) (kind m : Int) :
    Calls Tryz.prog 137 #[.pointer (some ⟨b, 0, none⟩), .int .i64 kind, .int .i64 m, .int .i64 (c : Int)] W (StepP B b s k n xs W) := by
  obtain ⟨va, vc, rfl⟩ := I.shape
  by_cases hn : n = 16383
  · subst hn
    refine (take_full I.sc).mono ?_
    rintro e w ⟨rfl, rfl⟩
    exact ⟨BX.refl _ _ _, .inr ⟨45, _, by decide, rfl, I.sc, tk_full I.more hp⟩⟩
  · have hn2 : n < 16383 := by have := I.room; omega
    refine (take_err I.sc hn2 (by omega)).mono ?_
    rintro e w ⟨rfl, rfl⟩
    exact ⟨BX.refl _ _ _, .inr ⟨c, _, hc, rfl, I.sc, tk_err I.more hp hn2 ho hc⟩⟩
theorem take_okP {W : World} {B b : Nat} {s : ByteArray} {k n m t : Nat} {v : Value} {xs : List Value} (I : ScanIn W B b s k n v xs) (hp : passF s s.size k = (k, true)) (ho : oneF s k = (t, k + m, 0)) :
    Calls Tryz.prog 137 #[.pointer (some ⟨b, 0, none⟩), .int .i64 (t : Int), .int .i64 (m : Int), .int .i64 0] W (StepP B b s k n xs W) := by
  obtain ⟨va, vc, rfl⟩ := I.shape
  have hle := oneF_le I.more (by rw [ho])
  rw [ho] at hle
  replace hle : k < k + m ∧ k + m ≤ s.size := hle
  by_cases hn : n = 16383
  · subst hn
    refine (take_full I.sc).mono ?_
    rintro e w ⟨rfl, rfl⟩
    exact ⟨BX.refl _ _ _, .inr ⟨45, _, by decide, rfl, I.sc, tk_full I.more hp⟩⟩
  · have hn2 : n < 16383 := by have := I.room; omega
    refine (take_any I.sc I.lo I.hi I.row hle.2 I.size hn2).mono ?_
    rintro e w ⟨rfl, v', g1, g2, g3⟩
    refine ⟨g3, .inl ⟨rfl, k + m, [⟨t, k, s.extract k (k + m)⟩], v', g1, g2, hle.1, hle.2, by simp; omega, ?_⟩⟩
    rw [tk_tok I.more hp hn2 ho]
    cases tk s (k + m) (n + 1) <;> rfl
end Go.Proofs.YtaadpiimcaabkaaGreatDoor

namespace Go.Proofs.YtaadpiimcaabkaaGreatDoor
open Go.RowKit
attribute [local go_sem ↓] Go.wp_at_zero Go.wp_at_succ

/-- The bases and widths that are asked: the base, the bits, the least number that may not be taken again, the greatest. -/
def PBx (Bi bi Ci Mi : Int) (B M : Nat) : Prop := (Bi = 16 ∧ bi = 63 ∧ Ci = 1152921504606846976 ∧ Mi = 9223372036854775807 ∧ B = 16 ∧ M = 9223372036854775807) ∨ (Bi = 10 ∧ bi = 63 ∧ Ci = 1844674407370955162 ∧ Mi = 9223372036854775807 ∧ B = 10 ∧ M = 9223372036854775807) ∨ (Bi = 8 ∧ bi = 63 ∧ Ci = 2305843009213693952 ∧ Mi = 9223372036854775807 ∧ B = 8 ∧ M = 9223372036854775807) ∨ (Bi = 16 ∧ bi = 8 ∧ Ci = 1152921504606846976 ∧ Mi = 255 ∧ B = 16 ∧ M = 255) ∨ (Bi = 8 ∧ bi = 8 ∧ Ci = 2305843009213693952 ∧ Mi = 255 ∧ B = 8 ∧ M = 255)
/-- What they give. -/
structure PKx (Bi Ci Mi : Int) (B M : Nat) : Prop where
  k1 : ∀ d : Nat, d < B → (d : Int) < Bi ∧ decide (Bi ≤ (d : Int)) = false
  k2 : ∀ d : Nat, ¬ d < B → Bi ≤ (d : Int) ∧ decide (Bi ≤ (d : Int)) = true
  k3 : ∀ (a : Int) (acc d : Nat), a = (acc : Int) → Ci ≤ a ∧ ¬ acc * B + d ≤ M ∨ a < Ci
  k5 : ∀ (a : Int) (acc d : Nat), a = (acc : Int) → a < Ci → d < 36 → (18446744073709551616 ≤ a * Bi + (d : Int) ∧ IntKind.u64.wrap (a * Bi + (d : Int)) = a * Bi + (d : Int) - 18446744073709551616 ∧ ¬ acc * B + d ≤ M) ∨ a * Bi + (d : Int) < 18446744073709551616
  k6 : ∀ (a : Int) (acc d : Nat), a = (acc : Int) → a * Bi + (d : Int) = ((acc * B + d : Nat) : Int)
  k7 : ∀ (a : Int) (acc d : Nat), a = (acc : Int) → (a * Bi + (d : Int) ≤ Mi ∧ acc * B + d ≤ M) ∨ (Mi < a * Bi + (d : Int) ∧ ¬ acc * B + d ≤ M)
  k8 : ∀ (a : Int) (acc : Nat), a = (acc : Int) → acc ≤ M → a ≤ Mi
theorem PBx.pk {Bi bi Ci Mi : Int} {B M : Nat} (h : PBx Bi bi Ci Mi B M) : PKx Bi Ci Mi B M := by
  rcases h with ⟨rfl, rfl, rfl, rfl, rfl, rfl⟩ | ⟨rfl, rfl, rfl, rfl, rfl, rfl⟩ | ⟨rfl, rfl, rfl, rfl, rfl, rfl⟩ | ⟨rfl, rfl, rfl, rfl, rfl, rfl⟩ | ⟨rfl, rfl, rfl, rfl, rfl, rfl⟩
  all_goals
    refine ⟨fun d h => ⟨by omega, by simp; omega⟩, fun d h => ⟨by omega, by simp; omega⟩, fun a acc d h => by omega, fun a acc d h h2 h3 => ?_, fun a acc d h => by omega, fun a acc d h => ?_, fun a acc h h2 => by omega⟩
    · rw [IntKind.wrap_u64]
      by_cases q : 18446744073709551616 ≤ acc * 16 + d
      · omega
      · omega
    · omega
set_option maxRecDepth 100000 in
set_option maxHeartbeats 40000000 in
theorem parseU {Bi bi Ci Mi : Int} {B M : Nat} (hb : PBx Bi bi Ci Mi B M) (W : World) (s : ByteArray) (hs : s.size ≤ 65536) : Calls Tryz.prog 191 #[.string s, .int .i64 Bi, .int .i64 bi] W (PU W B M s) := by
  by_cases h0 : s.size = 0
  · obtain rfl := isEmptyT h0
    rcases hb with ⟨rfl, rfl, rfl, rfl, -, -⟩ | ⟨rfl, rfl, rfl, rfl, -, -⟩ | ⟨rfl, rfl, rfl, rfl, -, -⟩ | ⟨rfl, rfl, rfl, rfl, -, -⟩ | ⟨rfl, rfl, rfl, rfl, -, -⟩
    all_goals
      go_enter Tryz.func191, Tryz.ntmps191
      go_wp2
      go_ret2
      exact PU.bad _ 2 (Below.refl _ _) (.inr rfl) (.inl h0)
  have HK := hide hb.pk
  have e0 := isEmptyF h0
  have hcv := Lib.run_convert_string_bytes (P := Tryz.prog) W 9 58 5 s (u := .string) Tryz.underlying9 Tryz.underlying58 Tryz.underlying5
  have hB : ∀ (j x : Nat), (strN s)[j]? = some x → (Lib.bytesWorld W 5 s).cell? ⟨W.heap.size, j, none⟩ = some (.int .u8 (x : Int)) := fun j x hx => by
    rw [Lib.bytesWorld_cell W 5 s j (by have := (List.getElem?_eq_some_iff.1 hx).1; rwa [strN_len] at this), strN_getD s j x hx]
  have hbel : Below W.heap.size W (Lib.bytesWorld W 5 s) := Lib.bytesWorld_below W 5 s
  obtain ⟨W1, hW1⟩ : ∃ W1, W1 = Lib.bytesWorld W 5 s := ⟨_, rfl⟩
  rw [← hW1] at hcv hB hbel
  have Hbel := hide hbel
  have HB := hide hB
  clear hW1 hbel hB
  rcases hb with ⟨rfl, rfl, rfl, rfl, -, -⟩ | ⟨rfl, rfl, rfl, rfl, -, -⟩ | ⟨rfl, rfl, rfl, rfl, -, -⟩ | ⟨rfl, rfl, rfl, rfl, -, -⟩ | ⟨rfl, rfl, rfl, rfl, -, -⟩
  all_goals
    go_enter Tryz.func191, Tryz.ntmps191
    go_wp2
    clear hcv
    go_loopg [12, 13, 15, 16, 17, 101] s.size (fun gk v12 v13 _ _ _ v101 wr => ∃ (k acc : Nat) (a : Int), v12 = .bool false ∧ v13 = .int .u64 a ∧ v101 = .int .i64 (k : Int) ∧ k ≤ s.size ∧ gk = s.size - k ∧ wr = W1 ∧ Hid (a = (acc : Int) ∧ acc ≤ M ∧ nval B M (strN s) 0 = nval B M ((strN s).drop k) acc))
    case atStart => exact ⟨0, 0, 0, rfl, rfl, rfl, by omega, rfl, rfl, rfl, by omega, rfl⟩
    case round =>
      obtain ⟨k, acc, a, rfl, rfl, rfl, hk, hgk, rfl, hh⟩ := hrel
      obtain ⟨ha, hacc, hdec⟩ := unhide hh
      have Hgk := hide hgk
      clear hh hgk
      have a0 : 0 ≤ a := by omega
      have a1 := (unhide HK).k8 a acc ha hacc
      by_cases hkn : k < s.size
      · obtain ⟨x, hx, hx2, gx⟩ := strN_ex s k hkn
        have hcell := unhide HB k x hx
        have hdrop : (strN s).drop k = x :: (strN s).drop (k + 1) := by
          obtain ⟨hl, hx'⟩ := List.getElem?_eq_some_iff.1 hx
          rw [List.drop_eq_getElem_cons hl, hx']
        rw [hdrop] at hdec
        clear hdrop hx gx
        have Hdec := hide hdec
        clear hdec
        go_upto_block 5 with fail
        go_cut [12, 16, 101] from 101 to 163 (fun v12 v16 v101 wc => ∃ dn : Nat, v12 = .bool false ∧ v16 = .int .u8 (dn : Int) ∧ v101 = .int .i64 (k : Int) ∧ wc = wr ∧ dn < 36 ∧ Hid (dgv x = some dn))
        case first =>
          clear ha hacc a0 a1
          by_cases hd : 48 ≤ x ∧ x ≤ 57
          · have Hv : Hid (dgv x = some (x - 48)) := by unfold dgv; rw [if_pos hd]; rfl
            obtain ⟨d1, d2⟩ := hd
            have n95 := eqF (c := x) (k := 95) (by omega); have b1 := geT (c := x) (k := 48) (by omega); have b2 := leT (c := x) (k := 57) (by omega)
            go_wp2
            go_meet
            case rel => exact ⟨x - 48, rfl, by go_num, rfl, rfl, by omega, Hv⟩
          · obtain ⟨lx, hlx0⟩ : ∃ lx, lx = low x := ⟨_, rfl⟩
            have hlow := fun w => lower_any w x hx2
            simp only [← hlx0] at hlow
            by_cases hu : 65 ≤ x ∧ x ≤ 90
            · have Hv : Hid (dgv x = some (x - 55)) := by unfold dgv; rw [if_neg hd, if_pos hu]; rfl
              have hlo := low_up hu.1 hu.2
              rw [← hlx0] at hlo
              obtain ⟨u1, u2⟩ := hu
              have n95 := eqF (c := x) (k := 95) (by omega); have b1 := geT (c := x) (k := 48) (by omega); have b2 := leF (c := x) (k := 57) (by omega)
              have l1 := geT (c := lx) (k := 97) (by omega); have l2 := leT (c := lx) (k := 122) (by omega)
              have l3 : 97 ≤ lx := by omega
              have l4 : lx ≤ 122 := by omega
              clear hlx0 hd
              go_wp2_with (go_at_call 203; refine (hlow _).mono ?_; rintro e w' ⟨rfl, rfl⟩)
              go_meet
              case rel => exact ⟨x - 55, rfl, by congr 1; omega, rfl, rfl, by omega, Hv⟩
            · by_cases hl : 97 ≤ x ∧ x ≤ 122
              · have Hv : Hid (dgv x = some (x - 87)) := by unfold dgv; rw [if_neg hd, if_neg hu, if_pos hl]; rfl
                have hlo := low_down hl.1 hl.2
                rw [← hlx0] at hlo
                obtain ⟨u1, u2⟩ := hl
                have n95 := eqF (c := x) (k := 95) (by omega); have b1 := geT (c := x) (k := 48) (by omega); have b2 := leF (c := x) (k := 57) (by omega)
                have l1 := geT (c := lx) (k := 97) (by omega); have l2 := leT (c := lx) (k := 122) (by omega)
                have l3 : 97 ≤ lx := by omega
                have l4 : lx ≤ 122 := by omega
                clear hlx0 hd hu
                go_wp2_with (go_at_call 203; refine (hlow _).mono ?_; rintro e w' ⟨rfl, rfl⟩)
                go_meet
                case rel => exact ⟨x - 87, rfl, by congr 1; omega, rfl, rfl, by omega, Hv⟩
              · have hv : dgv x = none := by unfold dgv; rw [if_neg hd, if_neg hu, if_neg hl]
                have hlo := low_none hx2 hu hl
                rw [← hlx0] at hlo
                have hn : nval B M (strN s) 0 = none := by rw [unhide Hdec]; simp only [nval, hv]
                have Hn := hide hn
                clear hn
                have hdd : x < 48 ∨ 57 < x := by omega
                clear hlx0 hd hu hl hv
                by_cases x95 : x = 95
                · have n95 : ((x : Int) == 95) = true := by simp; omega
                  have b1 := geT (c := x) (k := 48) (by omega); have b2 := leF (c := x) (k := 57) (by omega)
                  clear hdd x95
                  rcases hlo with hlo | hlo
                  · have l1 := geF (c := lx) (k := 97) (by omega)
                    go_wp2_with (go_at_call 203; refine (hlow _).mono ?_; rintro e w' ⟨rfl, rfl⟩)
                    go_ret2
                    exact PU.bad _ 2 (unhide Hbel) (.inr rfl) (.inr (unhide Hn))
                  · have l1 := geT (c := lx) (k := 97) (by omega); have l2 := leF (c := lx) (k := 122) (by omega)
                    go_wp2_with (go_at_call 203; refine (hlow _).mono ?_; rintro e w' ⟨rfl, rfl⟩)
                    go_ret2
                    exact PU.bad _ 2 (unhide Hbel) (.inr rfl) (.inr (unhide Hn))
                · have n95 := eqF (c := x) (k := 95) (by omega)
                  rcases hdd with hdd | hdd
                  · have b1 := geF (c := x) (k := 48) (by omega)
                    rcases hlo with hlo | hlo
                    · have l1 := geF (c := lx) (k := 97) (by omega)
                      go_wp2_with (go_at_call 203; refine (hlow _).mono ?_; rintro e w' ⟨rfl, rfl⟩)
                      go_ret2
                      exact PU.bad _ 2 (unhide Hbel) (.inr rfl) (.inr (unhide Hn))
                    · have l1 := geT (c := lx) (k := 97) (by omega); have l2 := leF (c := lx) (k := 122) (by omega)
                      go_wp2_with (go_at_call 203; refine (hlow _).mono ?_; rintro e w' ⟨rfl, rfl⟩)
                      go_ret2
                      exact PU.bad _ 2 (unhide Hbel) (.inr rfl) (.inr (unhide Hn))
                  · have b1 := geT (c := x) (k := 48) (by omega); have b2 := leF (c := x) (k := 57) (by omega)
                    rcases hlo with hlo | hlo
                    · have l1 := geF (c := lx) (k := 97) (by omega)
                      go_wp2_with (go_at_call 203; refine (hlow _).mono ?_; rintro e w' ⟨rfl, rfl⟩)
                      go_ret2
                      exact PU.bad _ 2 (unhide Hbel) (.inr rfl) (.inr (unhide Hn))
                    · have l1 := geT (c := lx) (k := 97) (by omega); have l2 := leF (c := lx) (k := 122) (by omega)
                      go_wp2_with (go_at_call 203; refine (hlow _).mono ?_; rintro e w' ⟨rfl, rfl⟩)
                      go_ret2
                      exact PU.bad _ 2 (unhide Hbel) (.inr rfl) (.inr (unhide Hn))
        case rest =>
          obtain ⟨dn, rfl, rfl, rfl, rfl, hdn, Hv⟩ := hcut
          have hdec := unhide Hdec
          have hv := unhide Hv
          simp only [nval, hv] at hdec
          clear Hdec Hv
          by_cases h8 : dn < B
          · obtain ⟨i8, i9⟩ := (unhide HK).k1 dn h8
            rcases (unhide HK).k3 a acc dn ha with ⟨icut, hno⟩ | icut
            · first
              | (exfalso; omega)
              | (rw [if_neg (fun q => hno q.2)] at hdec
                 have Hn := hide hdec
                 clear hdec ha hacc hv hno h8
                 go_wp2
                 go_ret2
                 exact PU.bad _ 1 (unhide Hbel) (.inl rfl) (.inr (unhide Hn)))
            rcases (unhide HK).k5 a acc dn ha icut hdn with ⟨iov, hwr, hno⟩ | iov
            · first
              | (exfalso; omega)
              | (rw [if_neg (fun q => hno q.2)] at hdec
                 have Hn := hide hdec
                 clear hdec ha hacc hv hno h8
                 go_wp2
                 go_ret2
                 exact PU.bad _ 1 (unhide Hbel) (.inl rfl) (.inr (unhide Hn)))
            rcases (unhide HK).k7 a acc dn ha with ⟨imx, hmx⟩ | ⟨imx, hno⟩
            · have HN := hide (show _ ∧ _ ∧ nval B M (strN s) 0 = nval B M ((strN s).drop (k + 1)) (acc * B + dn) from ⟨(unhide HK).k6 a acc dn ha, hmx, by rw [hdec, if_pos ⟨h8, hmx⟩]⟩)
              clear hdec ha hacc hv hmx h8
              go_wp2
              go_roundg (s.size - (k + 1))
              case measure => have := unhide Hgk; omega
              case rel => exact ⟨k + 1, acc * B + dn, _, rfl, by go_num, by go_num, by omega, rfl, rfl, HN⟩
            · rw [if_neg (fun q => hno q.2)] at hdec
              have Hn := hide hdec
              clear hdec ha hacc hv hno h8
              go_wp2
              go_ret2
              exact PU.bad _ 1 (unhide Hbel) (.inl rfl) (.inr (unhide Hn))
          · obtain ⟨i8, i9⟩ := (unhide HK).k2 dn h8
            rw [if_neg (fun q => h8 q.1)] at hdec
            have Hn := hide hdec
            clear hdec ha hacc hv h8
            go_wp2
            go_ret2
            exact PU.bad _ 2 (unhide Hbel) (.inr rfl) (.inr (unhide Hn))
      · obtain rfl : k = s.size := by omega
        have hd0 : (strN s).drop s.size = [] := List.drop_eq_nil_of_le (by rw [strN_len]; omega)
        rw [hd0] at hdec
        have Hd : Hid (nval B M (strN s) 0 = some acc) := hdec
        have Ha := hide ha
        clear hdec hd0 ha hacc
        go_wp2
        go_ret2
        rw [unhide Ha]
        exact PU.good acc (unhide Hbel) (by omega) (unhide Hd)
end Go.Proofs.YtaadpiimcaabkaaGreatDoor
