import Derived.Test.YtbkkbcfejhckgaaDoorWLe
namespace Go.Proofs.YtbkkbcfejhckgaaDoor
open Go.RowKit

def vN (u : Nat) : List Nat := if u ≤ 127 then [u] else (u % 128 + 128) :: vN (u / 128)
termination_by u
decreasing_by omega
theorem byB_vN (u : Nat) : byB (vN u) = vint u := by
  rw [vN, vint]
  split
  · rfl
  · have := byB_vN (u / 128)
    show ((u % 128 + 128 : Nat) : Int) :: byB (vN (u / 128)) = _
    rw [this]
termination_by u
decreasing_by omega
def lastN (l : List Nat) : Nat := l.getD (l.length - 1) 0
def Enc : List Nat → Nat → Prop
  | [], _ => False
  | [c], u => c = u ∧ u < 128
  | c :: d :: r, u => 128 ≤ c ∧ c < 256 ∧ ∃ u', u = (c - 128) + 128 * u' ∧ Enc (d :: r) u'
theorem enc_pos {l : List Nat} {u : Nat} (h : Enc l u) : 1 ≤ l.length := by
  cases l with
  | nil => exact h.elim
  | cons c r => simp
theorem enc_byt : ∀ {l : List Nat} {u : Nat}, Enc l u → ∀ x ∈ l, x < 256
  | [], _, h => h.elim
  | [c], u, h => fun x hx => by
    obtain rfl : x = c := by simpa using hx
    have := h.1
    have := h.2
    omega
  | c :: d :: r, u, h => fun x hx => by
    obtain ⟨h1, h2, u', h3, h4⟩ := h
    rcases List.mem_cons.1 hx with rfl | hx
    · exact h2
    · exact enc_byt h4 x hx
theorem lastN_cons (c d : Nat) (r : List Nat) : lastN (c :: d :: r) = lastN (d :: r) := by
  unfold lastN
  simp
theorem enc_last : ∀ {l : List Nat} {u : Nat}, Enc l u → lastN l < 128
  | [], _, h => h.elim
  | [c], u, h => by
    show c < 128
    have := h.1
    have := h.2
    omega
  | c :: d :: r, u, h => by
    obtain ⟨h1, h2, u', h3, h4⟩ := h
    rw [lastN_cons]
    exact enc_last h4
theorem enc_vN (u : Nat) : Enc (vN u) u ∧ (1 < (vN u).length → lastN (vN u) ≠ 0) := by
  rw [vN]
  by_cases h : u ≤ 127
  · rw [if_pos h]
    exact ⟨⟨rfl, by omega⟩, fun q => by simp at q⟩
  · rw [if_neg h]
    obtain ⟨i1, i2⟩ := enc_vN (u / 128)
    cases hv : vN (u / 128) with
    | nil => rw [hv] at i1; exact i1.elim
    | cons d r =>
      rw [hv] at i1 i2
      refine ⟨⟨by omega, by omega, u / 128, by omega, i1⟩, fun _ => ?_⟩
      rw [lastN_cons]
      by_cases hl : 1 < (d :: r).length
      · exact i2 hl
      · cases r with
        | nil =>
          show d ≠ 0
          have := i1.1
          omega
        | cons a b => simp at hl
termination_by u
decreasing_by omega
/-- One byte more than must be. -/
def ext (l : List Nat) : List Nat := l.set (l.length - 1) (lastN l + 128) ++ [0]
theorem ext_len (l : List Nat) : (ext l).length = l.length + 1 := by simp [ext]
theorem ext_last (l : List Nat) : lastN (ext l) = 0 := by
  unfold lastN
  rw [ext_len]
  simp [ext]
theorem ext_cons (c d : Nat) (r : List Nat) : ext (c :: d :: r) = c :: ext (d :: r) := by
  unfold ext
  rw [lastN_cons]
  simp
theorem enc_ext : ∀ {l : List Nat} {u : Nat}, Enc l u → Enc (ext l) u
  | [], _, h => h.elim
  | [c], u, h => by
    show Enc [c + 128, 0] u
    have h1 := h.1
    have h2 := h.2
    exact ⟨by omega, by omega, 0, by omega, rfl, by decide⟩
  | c :: d :: r, u, h => by
    obtain ⟨h1, h2, u', h3, h4⟩ := h
    rw [ext_cons]
    have := enc_ext h4
    cases he : ext (d :: r) with
    | nil => rw [he] at this; exact this.elim
    | cons a b =>
      rw [he] at this
      exact ⟨h1, h2, u', h3, this⟩
def longN : Nat → List Nat → List Nat
  | 0, l => l
  | n + 1, l => if l.length < 10 then longN n (ext l) else l
theorem long_enc : ∀ (n : Nat) {l : List Nat} {u : Nat}, Enc l u → l.length ≤ 10 → Enc (longN n l) u ∧ (longN n l).length ≤ 10 ∧ (longN n l = l ∨ (l.length < (longN n l).length ∧ lastN (longN n l) = 0))
  | 0, l, u, h, hl => ⟨h, hl, .inl rfl⟩
  | n + 1, l, u, h, hl => by
    rw [longN]
    by_cases h10 : l.length < 10
    · rw [if_pos h10]
      have hel := ext_len l
      obtain ⟨i1, i2, i3⟩ := long_enc n (enc_ext h) (by omega)
      refine ⟨i1, i2, .inr ?_⟩
      rcases i3 with i3 | ⟨i3, i4⟩
      · rw [i3]
        exact ⟨by omega, ext_last l⟩
      · exact ⟨by omega, i4⟩
    · rw [if_neg h10]
      exact ⟨h, hl, .inl rfl⟩
theorem enc_go {s : ByteArray} {st : Bool} : ∀ (l : List Nat) (u i k v : Nat), Enc l u → i + l.length ≤ 10 → v + u * 128 ^ i < 18446744073709551616 → (∀ j x, l[j]? = some x → k + j < s.size ∧ bAt s (k + j) = x) →
    vGo s st (10 - i) i k v = if st = true ∧ 0 < i + l.length - 1 ∧ lastN l = 0 then .inr 22 else .inl (v + u * 128 ^ i, k + l.length)
  | [], u, i, k, v, h, _, _, _ => h.elim
  | [c], u, i, k, v, h, hi, hb, hs => by
    obtain ⟨rfl, h2⟩ := h
    obtain ⟨k1, k2⟩ := hs 0 c rfl
    rw [Nat.add_zero] at k1 k2
    have hi9 : i ≤ 9 := by simp at hi; omega
    rw [show 10 - i = (10 - (i + 1)) + 1 by omega, vGo, if_pos k1, k2, if_neg, if_neg (by omega)]
    · rfl
    · rintro ⟨rfl, q⟩
      have e : (128 : Nat) ^ 9 = 9223372036854775808 := by decide
      rw [e] at hb
      omega
  | c :: d :: r, u, i, k, v, h, hi, hb, hs => by
    obtain ⟨h1, h2, u', rfl, h4⟩ := h
    obtain ⟨k1, k2⟩ := hs 0 c rfl
    rw [Nat.add_zero] at k1 k2
    have hi8 : i ≤ 8 := by simp at hi; omega
    have e1 : v + (c - 128 + 128 * u') * 128 ^ i = (v + (c - 128) * 128 ^ i) + u' * 128 ^ (i + 1) := by
      rw [Nat.pow_succ, Nat.add_mul, Nat.mul_comm 128 u', Nat.mul_assoc, Nat.mul_comm 128 (128 ^ i)]
      omega
    rw [show 10 - i = (10 - (i + 1)) + 1 by omega, vGo, if_pos k1, k2, if_neg (by omega), if_pos (by omega)]
    rw [enc_go (d :: r) u' (i + 1) (k + 1) _ h4 (by simp at hi ⊢; omega) (by rw [← e1]; exact hb) (fun j x hx => by
      have := hs (j + 1) x (by simpa using hx)
      rwa [show k + (j + 1) = k + 1 + j by omega] at this)]
    rw [lastN_cons, e1]
    have q1 : (0 < i + 1 + (d :: r).length - 1) ↔ (0 < i + (c :: d :: r).length - 1) := by simp only [List.length_cons]; omega
    have q2 : k + 1 + (d :: r).length = k + (c :: d :: r).length := by simp only [List.length_cons]; omega
    rw [q2]
    simp only [q1]
theorem enc_at {a b : List Nat} {st : Bool} {l : List Nat} {u : Nat} (hb : ∀ x ∈ a ++ (l ++ b), x < 256) (h : Enc l u) (hl : l.length ≤ 10) (hu : u < 18446744073709551616) :
    vAt (sOf (a ++ (l ++ b))) st a.length = if st = true ∧ 1 < l.length ∧ lastN l = 0 then .inr 22 else .inl (u, a.length + l.length) := by
  have hp := enc_pos h
  have := enc_go (s := sOf (a ++ (l ++ b))) (st := st) l u 0 a.length 0 h (by omega) (by rw [Nat.zero_add, Nat.pow_zero, Nat.mul_one]; exact hu) (fun j x hx => by
    have hj := (List.getElem?_eq_some_iff.1 hx).1
    have hat : (a ++ (l ++ b))[a.length + j]? = some x := by
      rw [List.getElem?_append_right (by omega), Nat.add_sub_cancel_left, List.getElem?_append_left hj]
      exact hx
    exact ⟨by rw [sOf_size]; exact (List.getElem?_eq_some_iff.1 hat).1, sOf_at hb hat⟩)
  unfold vAt
  rw [this, Nat.zero_add, Nat.zero_add, Nat.pow_zero, Nat.mul_one]
  have q1 : (0 < l.length - 1) ↔ (1 < l.length) := by omega
  simp only [q1]
end Go.Proofs.YtbkkbcfejhckgaaDoor
