import Derived.Test.YtkkbccdjbgjjaaaDoorQG
import Derived.Test.YtkkbccdjbgjjaaaDoorSTa

namespace Go.Proofs.YtkkbccdjbgjjaaaDoor
open Go.RowKit Go.Lib
attribute [local go_sem ↓] Go.wp_at_zero Go.wp_at_succ

def nmL : List Nat := [97, 98, 102, 110, 114, 116, 118, 92, 39, 34]
def wtL : List Nat := [7, 8, 12, 10, 13, 9, 11, 92, 39, 34]
theorem nm_at : ∀ i : Fin 10, nameV (nmL[i.val]'(by have := i.isLt; show _ < 10; omega)) = some (wtL[i.val]'(by have := i.isLt; show _ < 10; omega)) := by decide
theorem nm_get {i x : Nat} (h : nmL[i]? = some x) : ∃ v, nameV x = some v ∧ wtL[i]? = some v ∧ v < 256 := by
  obtain ⟨hi, rfl⟩ := List.getElem?_eq_some_iff.1 h
  have hi' : i < 10 := hi
  refine ⟨_, nm_at ⟨i, hi'⟩, List.getElem?_eq_getElem _, ?_⟩
  have key : ∀ i : Fin 10, wtL[i.val]'(by have := i.isLt; show _ < 10; omega) < 256 := by decide
  exact key ⟨i, hi'⟩
theorem nm_none {x : Nat} (h : ∀ j y : Nat, nmL[j]? = some y → ¬ y = x) : nameV x = none := by
  have g0 := h 0 97 rfl
  have g1 := h 1 98 rfl
  have g2 := h 2 102 rfl
  have g3 := h 3 110 rfl
  have g4 := h 4 114 rfl
  have g5 := h 5 116 rfl
  have g6 := h 6 118 rfl
  have g7 := h 7 92 rfl
  have g8 := h 8 39 rfl
  have g9 := h 9 34 rfl
  unfold nameV
  rw [if_neg (by omega), if_neg (by omega), if_neg (by omega), if_neg (by omega), if_neg (by omega), if_neg (by omega), if_neg (by omega), if_neg (by omega)]
theorem nmS : strN ⟨#[97, 98, 102, 110, 114, 116, 118, 92, 39, 34]⟩ = nmL := rfl
theorem isd_hex {x : Nat} : (hexI x = -1 ∧ isd 16 x = none) ∨ ∃ d : Nat, hexI x = (d : Int) ∧ isd 16 x = some d ∧ d < 16 := by
  rcases hexI_cases x with ⟨h1, h2⟩ | ⟨d, h1, h2, h3⟩
  · left
    refine ⟨h1, ?_⟩
    unfold isd
    split
    · rfl
    · rename_i d hd
      rw [if_neg (by have := h2 d hd; omega)]
  · right
    refine ⟨d, h1, ?_, h3⟩
    unfold isd
    rw [h2]
    exact if_pos h3
theorem isd8_val {x : Nat} (h : isd 8 x ≠ none) : isd 8 x = some (x - 48) ∧ 48 ≤ x ∧ x ≤ 55 := by
  obtain ⟨h1, h2⟩ := isd8.1 h
  refine ⟨?_, h1, h2⟩
  unfold isd dgv
  rw [if_pos (by omega)]
  exact if_pos (by omega)
theorem drop_get {s : ByteArray} {p x : Nat} (h : (strN s)[p]? = some x) : (strN s).drop p = x :: (strN s).drop (p + 1) := by
  obtain ⟨hl, hx'⟩ := List.getElem?_eq_some_iff.1 h
  rw [List.drop_eq_getElem_cons hl, hx']
/-- The bound of the worth of so many digits. -/
def VB (B j v : Nat) : Prop := v < B ^ j
theorem VB.next {B j v d : Nat} (h : VB B j v) (hd : d < B) : VB B (j + 1) (v * B + d) := by
  unfold VB at *
  rw [Nat.pow_succ]
  have : (v + 1) * B ≤ B ^ j * B := Nat.mul_le_mul_right B h
  rw [Nat.add_mul, Nat.one_mul] at this
  omega
theorem vb16 {j v : Nat} (h : VB 16 j v) (hj : j ≤ 2) : v ≤ 255 := by
  unfold VB at h
  have : (16 : Nat) ^ j ≤ 16 ^ 2 := Nat.pow_le_pow_right (by decide) hj
  have e : (16 : Nat) ^ 2 = 256 := by decide
  omega
theorem vb8 {j v : Nat} (h : VB 8 j v) (hj : j ≤ 3) : v ≤ 511 := by
  unfold VB at h
  have : (8 : Nat) ^ j ≤ 8 ^ 3 := Nat.pow_le_pow_right (by decide) hj
  have e : (8 : Nat) ^ 3 = 512 := by decide
  omega
theorem lt_len {s : ByteArray} {p : Nat} (h : ¬ p < s.size) : (strN s).drop p = [] := List.drop_eq_nil_of_le (by rw [strN_len]; omega)
theorem fin_zero {p : Nat × Nat} {k : Nat} (h : p.2 = 0 ∨ 255 < p.1) : fin p k = none := by unfold fin; rw [if_pos h]
theorem fin_ok {v n k : Nat} (h : ¬ n = 0) (h2 : v ≤ 255) : fin (v, n) k = some (v, k + n) := by unfold fin; rw [if_neg (by simp; omega)]
end Go.Proofs.YtkkbccdjbgjjaaaDoor

namespace Go.Proofs.YtkkbccdjbgjjaaaDoor
open Go.RowKit Go.Lib
attribute [local go_sem ↓] Go.wp_at_zero Go.wp_at_succ

theorem pieceAt_self {s : ByteArray} {k x : Nat} (hb : byteAt s k = x) (h0 : ¬ x = 0) (h1 : ¬ x = 10) (h2 : ¬ x = 92) : pieceAt s k = some (x, 1) := by
  unfold pieceAt
  rw [hb, if_neg (fun o => o.elim h0 h1), if_neg h2]
theorem pieceAt_bad {s : ByteArray} {k x : Nat} (hb : byteAt s k = x) (h : x = 0 ∨ x = 10) : pieceAt s k = none := by
  unfold pieceAt
  rw [hb, if_pos h]
theorem pieceAt_esc {s : ByteArray} {k : Nat} (hb : byteAt s k = 92) : pieceAt s k = escL ((strN s).drop k) := by
  unfold pieceAt
  rw [hb, if_neg (by decide), if_pos rfl]
theorem Bytes.drew {base : Nat} {W : World} {v : Value} {l : List Nat} (h : Bytes base W v l) (n : Nat) : Bytes base (W.drewN n) v l := h
end Go.Proofs.YtkkbccdjbgjjaaaDoor
