import Derived.Test.YtkkbccdjbgjjaaaDoorSW
import Derived.Test.YtkkbccdjbgjjaaaDoorSRw

namespace Go.Proofs.YtkkbccdjbgjjaaaDoor
open Go.RowKit

/-- The token that begins at k: its kind, the place behind it; or the error. -/
def oneF (s : ByteArray) (k : Nat) : Nat × Nat × Nat :=
  if isLet (byteAt s k) then (1, endRow s k, 0)
  else if isDig (byteAt s k) then (if wv (strN (s.extract k (endRow s k))) = none then (0, 0, 41) else (2, endRow s k, 0))
  else if byteAt s k = 39 ∨ byteAt s k = 34 then (match uqAt s (byteAt s k) (k + 1) with | none => (0, 0, 42) | some (_, e) => (3, e, 0))
  else if isSgn (byteAt s k) then (4, k + 1, 0) else (0, 0, 40)
/-- A token: kind, place, text. -/
structure Tok where
  kind : Nat
  place : Nat
  text : ByteArray
def consT (t : Tok) : List Tok ⊕ (Nat × Nat) → List Tok ⊕ (Nat × Nat)
  | .inl l => .inl (t :: l)
  | .inr e => .inr e
def frontT (p : List Tok) : List Tok ⊕ (Nat × Nat) → List Tok ⊕ (Nat × Nat)
  | .inl l => .inl (p ++ l)
  | .inr e => .inr e
theorem frontT_nil (x : List Tok ⊕ (Nat × Nat)) : frontT [] x = x := by cases x <;> rfl
theorem frontT_cons (p : List Tok) (t : Tok) (x : List Tok ⊕ (Nat × Nat)) : frontT p (consT t x) = frontT (p ++ [t]) x := by
  cases x with
  | inl l => simp [frontT, consT]
  | inr e => rfl
/-- The tokens from k on, n being there; or the place of the first fault, and the error. -/
def tokF (s : ByteArray) : Nat → Nat → Nat → (List Tok ⊕ (Nat × Nat))
  | 0, _, _ => .inr (0, 0)
  | f + 1, k, n => if (passF s s.size k).2 = false then .inr ((passF s s.size k).1, 43)
    else if (passF s s.size k).1 = s.size then .inl [⟨5, (passF s s.size k).1, ⟨#[]⟩⟩]
    else if n = 16383 then .inr ((passF s s.size k).1, 45)
    else if (oneF s (passF s s.size k).1).2.2 = 0 then
      consT ⟨(oneF s (passF s s.size k).1).1, (passF s s.size k).1, s.extract (passF s s.size k).1 (oneF s (passF s s.size k).1).2.1⟩ (tokF s f (oneF s (passF s s.size k).1).2.1 (n + 1))
    else .inr ((passF s s.size k).1, (oneF s (passF s s.size k).1).2.2)
theorem starAt_le (s : ByteArray) (k : Nat) (h : k ≤ s.size) : starAt s k ≤ s.size := by
  rw [starAt]
  split
  · exact starAt_le s (k + 1) (by omega)
  · exact h
termination_by s.size - k
decreasing_by omega
theorem passF_le (s : ByteArray) : ∀ (f k : Nat), k ≤ s.size → k ≤ (passF s f k).1 ∧ (passF s f k).1 ≤ s.size := by
  intro f
  induction f with
  | zero => intro k hk; exact ⟨Nat.le_refl _, hk⟩
  | succ f ih =>
    intro k hk
    rw [passF]
    split
    · split
      · have := ih (k + 1) (by omega); omega
      · split
        · rename_i h h1 h2
          have a := nlAt_ge s k
          have b := nlAt_le s k hk
          have := ih _ b; omega
        · split
          · split
            · rename_i h5
              have a := starAt_ge s (k + 2)
              have := ih _ h5; omega
            · exact ⟨Nat.le_refl _, hk⟩
          · exact ⟨Nat.le_refl _, hk⟩
    · exact ⟨Nat.le_refl _, hk⟩
theorem endRow_gt {s : ByteArray} {k : Nat} (hk : k < s.size) (h : isLet (byteAt s k) ∨ isDig (byteAt s k)) : k < endRow s k := by
  rw [endRow, dif_pos ⟨hk, h⟩]
  have := endRow_ge s (k + 1)
  omega
theorem oneF_le {s : ByteArray} {k : Nat} (hk : k < s.size) (h : (oneF s k).2.2 = 0) : k < (oneF s k).2.1 ∧ (oneF s k).2.1 ≤ s.size := by
  unfold oneF at h ⊢
  by_cases h1 : isLet (byteAt s k)
  · rw [if_pos h1]
    exact ⟨endRow_gt hk (.inl h1), endRow_le s k (by omega)⟩
  · rw [if_neg h1] at h ⊢
    by_cases h2 : isDig (byteAt s k)
    · rw [if_pos h2] at h ⊢
      split at h
      · cases h
      · rename_i h3
        rw [if_neg h3]
        exact ⟨endRow_gt hk (.inr h2), endRow_le s k (by omega)⟩
    · rw [if_neg h2] at h ⊢
      by_cases h3 : byteAt s k = 39 ∨ byteAt s k = 34
      · rw [if_pos h3] at h ⊢
        split at h
        · cases h
        · rename_i l e he
          have := uq_le _ (k + 1) l e (Nat.le_refl _) he
          show k < e ∧ e ≤ s.size
          omega
      · rw [if_neg h3] at h ⊢
        split at h
        · rename_i h4
          rw [if_pos h4]
          show k < k + 1 ∧ k + 1 ≤ s.size
          omega
        · cases h
/-- The fuel does not matter, if it is enough. -/
theorem tokF_fuel (s : ByteArray) : ∀ (f f' k n : Nat), k ≤ s.size → s.size - k < f → s.size - k < f' → tokF s f k n = tokF s f' k n := by
  intro f
  induction f with
  | zero => intro f' k n _ hf; omega
  | succ f ih =>
    intro f' k n hk hf hf'
    cases f' with
    | zero => omega
    | succ f' =>
      rw [tokF, tokF]
      have hp := passF_le s s.size k hk
      split
      · rfl
      · split
        · rfl
        · split
          · rfl
          · split
            · rename_i h1 h2 h3 h4
              have := oneF_le (by omega) h4
              rw [ih f' _ (n + 1) this.2 (by omega) (by omega)]
            · rfl
def tk (s : ByteArray) (k n : Nat) : List Tok ⊕ (Nat × Nat) := tokF s (s.size + 1) k n
theorem tk_pass {s : ByteArray} {k k' : Nat} (n : Nat) (h : passF s s.size k = passF s s.size k') : tk s k n = tk s k' n := by
  unfold tk
  rw [tokF, tokF, h]
theorem pass_end (s : ByteArray) : passF s s.size s.size = (s.size, true) := by
  cases hz : s.size with
  | zero => rfl
  | succ n => rw [passF, if_neg (by omega)]
theorem tk_end (s : ByteArray) (n : Nat) : tk s s.size n = .inl [⟨5, s.size, ⟨#[]⟩⟩] := by
  unfold tk
  rw [tokF, pass_end, if_neg (by simp), if_pos rfl]
theorem tk_noend {s : ByteArray} {k n : Nat} (h : passF s s.size k = (k, false)) : tk s k n = .inr (k, 43) := by
  unfold tk
  rw [tokF, h, if_pos rfl]
theorem tk_full {s : ByteArray} {k : Nat} (hk : k < s.size) (h : passF s s.size k = (k, true)) : tk s k 16383 = .inr (k, 45) := by
  unfold tk
  rw [tokF, h, if_neg (by simp), if_neg (by show ¬ k = s.size; omega), if_pos rfl]
theorem tk_err {s : ByteArray} {k n c : Nat} (hk : k < s.size) (h : passF s s.size k = (k, true)) (hn : n < 16383) (h1 : (oneF s k).2.2 = c) (hc : c ≠ 0) : tk s k n = .inr (k, c) := by
  unfold tk
  rw [tokF, h, if_neg (by simp), if_neg (by show ¬ k = s.size; omega), if_neg (by omega)]
  show (if (oneF s k).2.2 = 0 then _ else Sum.inr (k, (oneF s k).2.2)) = _
  rw [h1, if_neg hc]
theorem tk_tok {s : ByteArray} {k n t e : Nat} (hk : k < s.size) (h : passF s s.size k = (k, true)) (hn : n < 16383) (h1 : oneF s k = (t, e, 0)) : tk s k n = consT ⟨t, k, s.extract k e⟩ (tk s e (n + 1)) := by
  have hle := oneF_le hk (by rw [h1])
  rw [h1] at hle
  unfold tk
  rw [tokF, h, if_neg (by simp), if_neg (by show ¬ k = s.size; omega), if_neg (by omega)]
  show (if (oneF s k).2.2 = 0 then consT ⟨(oneF s k).1, k, s.extract k (oneF s k).2.1⟩ (tokF s s.size (oneF s k).2.1 (n + 1)) else _) = _
  rw [h1, if_pos rfl]
  rw [tokF_fuel s s.size (s.size + 1) e (n + 1) hle.2 (by have := hle.1; simp at this; omega) (by omega)]
theorem pass_step {s : ByteArray} {k : Nat} (hk : k < s.size) : passF s s.size k = passF s (s.size - k - 1 + 1) k := passF_fuel s _ _ k (by omega) (by omega)
theorem pass_blank {s : ByteArray} {k : Nat} (hk : k < s.size) (h : isBlk (byteAt s k)) : passF s s.size k = passF s s.size (k + 1) := by
  rw [pass_step hk, passF, if_pos hk, if_pos h]
  exact passF_fuel s _ _ _ (by omega) (by omega)
theorem pass_line {s : ByteArray} {k : Nat} (h : k + 2 ≤ s.size) (h1 : byteAt s k = 47) (h2 : byteAt s (k + 1) = 47) : passF s s.size k = passF s s.size (nlAt s k) := by
  have hk : k < s.size := by omega
  have hnl := nlAt_lt hk h1
  rw [pass_step hk, passF, if_pos hk, if_neg (by rw [h1]; decide), if_pos ⟨h, h1, h2⟩]
  exact passF_fuel s _ _ _ (by omega) (by omega)
theorem pass_star {s : ByteArray} {k : Nat} (h : k + 2 ≤ s.size) (h1 : byteAt s k = 47) (h2 : byteAt s (k + 1) = 42) (h3 : starAt s (k + 2) + 2 ≤ s.size) : passF s s.size k = passF s s.size (starAt s (k + 2) + 2) := by
  have hk : k < s.size := by omega
  have := starAt_ge s (k + 2)
  rw [pass_step hk, passF, if_pos hk, if_neg (by rw [h1]; decide), if_neg (by omega), if_pos ⟨h, h1, h2⟩, if_pos h3]
  exact passF_fuel s _ _ _ (by omega) (by omega)
theorem pass_noend {s : ByteArray} {k : Nat} (h : k + 2 ≤ s.size) (h1 : byteAt s k = 47) (h2 : byteAt s (k + 1) = 42) (h3 : ¬ starAt s (k + 2) + 2 ≤ s.size) : passF s s.size k = (k, false) := by
  have hk : k < s.size := by omega
  rw [pass_step hk, passF, if_pos hk, if_neg (by rw [h1]; decide), if_neg (by omega), if_pos ⟨h, h1, h2⟩, if_neg h3]
theorem pass_stop {s : ByteArray} {k : Nat} (hk : k < s.size) (h : ¬ isBlk (byteAt s k)) (h1 : ¬ (k + 2 ≤ s.size ∧ byteAt s k = 47 ∧ byteAt s (k + 1) = 47)) (h2 : ¬ (k + 2 ≤ s.size ∧ byteAt s k = 47 ∧ byteAt s (k + 1) = 42)) : passF s s.size k = (k, true) := by
  rw [pass_step hk, passF, if_pos hk, if_neg h, if_neg h1, if_neg h2]
theorem pass_other {s : ByteArray} {k : Nat} (hk : k < s.size) (h : ¬ isBlk (byteAt s k)) (h1 : ¬ byteAt s k = 47) : passF s s.size k = (k, true) := pass_stop hk h (fun q => h1 q.2.1) (fun q => h1 q.2.1)
/-- What Tokens answers. -/
noncomputable def tokR (s : ByteArray) : List Tok ⊕ (Nat × Nat) := if 65536 < s.size then .inr (0, 2) else if 0 ≤ utfAt s 0 then .inr ((utfAt s 0).toNat, 44) else tk s 0 0
end Go.Proofs.YtkkbccdjbgjjaaaDoor
