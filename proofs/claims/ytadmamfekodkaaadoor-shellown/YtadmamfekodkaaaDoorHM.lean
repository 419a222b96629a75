import Derived.Test.YtadmamfekodkaaaDoorHL

namespace Go.Proofs.YtadmamfekodkaaaDoor
open Go.RowKit
attribute [local go_sem ↓] Go.wp_at_zero Go.wp_at_succ

theorem quot_fuel : ∀ (f g : Nat) (L : List Nat), L.length < f → L.length < g → quotP f L = quotP g L
  | 0, _, _, h, _ => absurd h (by omega)
  | _, 0, _, _, h => absurd h (by omega)
  | f + 1, g + 1, [], _, _ => rfl
  | f + 1, g + 1, c :: r, h1, h2 => by
    rw [List.length_cons] at h1 h2
    rw [quotP, quotP]
    by_cases q1 : c = 34
    · rw [if_pos q1, if_pos q1]
    · rw [if_neg q1, if_neg q1]
      by_cases q2 : c = 92
      · rw [if_pos q2, if_pos q2]
        cases escP r with
        | none => rfl
        | some p =>
          obtain ⟨b, n⟩ := p
          simp only
          rw [quot_fuel f g (r.drop n) (by rw [List.length_drop]; omega) (by rw [List.length_drop]; omega)]
      · rw [if_neg q2, if_neg q2, quot_fuel f g r (by omega) (by omega)]
/-- What is left of a quoted word. -/
def Qw (L : List Nat) : Option (List Nat × List Nat) := quotP (L.length + 1) L
theorem qw_close (r : List Nat) : Qw (34 :: r) = closeP r := by
  show quotP _ _ = _
  rw [quotP, if_pos rfl]
theorem qw_esc {r : List Nat} : Qw (92 :: r) = match escP r with
    | none => none
    | some (b, n) => (Qw (r.drop n)).map fun p => (b :: p.1, p.2) := by
  show quotP _ _ = _
  rw [quotP, if_neg (by decide), if_pos rfl]
  cases he : escP r with
  | none => rfl
  | some p =>
    obtain ⟨b, n⟩ := p
    simp only
    unfold Qw
    rw [quot_fuel _ ((r.drop n).length + 1) (r.drop n) (by rw [List.length_drop, List.length_cons]; omega) (by omega)]
theorem qw_ctl {c : Nat} {r : List Nat} (h : ctl c = true) (h1 : c ≠ 34) (h2 : c ≠ 92) : Qw (c :: r) = none := by
  show quotP _ _ = _
  rw [quotP, if_neg h1, if_neg h2, if_pos h]
theorem qw_pln : ∀ (A r : List Nat), (∀ x ∈ A, pln x) → Qw (A ++ r) = (Qw r).map fun p => (A ++ p.1, p.2)
  | [], r, _ => by rw [List.nil_append]; cases Qw r <;> rfl
  | c :: A, r, h => by
    obtain ⟨h1, h2, h3⟩ := h c List.mem_cons_self
    have ih := qw_pln A r (fun x hx => h x (List.mem_cons_of_mem _ hx))
    show quotP _ _ = _
    rw [List.cons_append, quotP, if_neg h2, if_neg h3, if_neg (by rw [h1]; decide), quot_fuel _ ((A ++ r).length + 1) _ (by rw [List.length_cons]; omega) (by omega)]
    show (Qw (A ++ r)).map _ = _
    rw [ih]
    cases Qw r <;> rfl
theorem hex_low {c : Nat} (h : ¬ hexv c < 0) : c < 128 := by
  unfold hexv at h
  split at h
  · omega
  · split at h
    · omega
    · split at h
      · omega
      · exact absurd (by decide) h
theorem esc_low {r : List Nat} {b n : Nat} (h : escP r = some (b, n)) : (∀ x ∈ r.take n, x < 128) ∧ 1 ≤ n ∧ n ≤ r.length ∧ b < 256 := by
  cases r with
  | nil => cases h
  | cons c r =>
    simp only [escP] at h
    split at h
    · rename_i h1
      cases h
      exact ⟨fun x hx => by simp at hx; omega, by decide, by simp, by omega⟩
    · split at h
      · rename_i h1
        cases h
        exact ⟨fun x hx => by simp at hx; omega, by decide, by simp, by decide⟩
      · split at h
        · rename_i h1
          cases h
          exact ⟨fun x hx => by simp at hx; omega, by decide, by simp, by decide⟩
        · split at h
          · rename_i h1
            match r, h with
            | x :: y :: r', h =>
              simp only at h
              split at h
              · cases h
              · rename_i h2
                cases h
                have h3 := hex_low (fun q => h2 (.inl q))
                have h4 := hex_low (fun q => h2 (.inr q))
                have := hexv_bd x
                have := hexv_bd y
                exact ⟨fun z hz => by simp at hz; omega, by decide, by simp, by omega⟩
          · cases h
def seg (s : ByteArray) (a b : Nat) : List Nat := ((strN s).take b).drop a
theorem seg_ext (s : ByteArray) (a b : Nat) : strN (s.extract a b) = seg s a b := by
  unfold seg
  rw [strN_ext, List.drop_take]
theorem seg_nil (s : ByteArray) (a : Nat) : seg s a a = [] := by
  unfold seg
  rw [List.drop_take, Nat.sub_self, List.take_zero]
theorem seg_app (s : ByteArray) {a b n : Nat} (h : a ≤ b) {A : List Nat} (hA : (strN s).drop b = A ++ (strN s).drop (b + n)) (hn : A.length = n) (hb : b ≤ s.size) : seg s a (b + n) = seg s a b ++ A := by
  unfold seg
  have e : (strN s).take (b + n) = (strN s).take b ++ A := by
    rw [List.take_add, hA, ← hn, List.take_left']
    rfl
  rw [e, List.drop_append_of_le_length (by rw [List.length_take, strN_len]; omega)]
/-- The loop's state: what is in the builder, where the rest begins. -/
structure QwS (W : World) (s : ByteArray) (R : Option (List Nat × List Nat)) (pos from' : Nat) (O : List Nat) (w : World) : Prop where
  ple : pos ≤ s.size
  fr : from' ≤ s.size
  it : w.heap[W.heap.size + 1]? = some (.stringIter s pos)
  bi : BI W.heap.size W.heap.size O w
  bel : Below W.heap.size W w
  eq : R = (Qw ((strN s).drop (max pos from'))).map fun p => ((O ++ seg s from' (max pos from')) ++ p.1, p.2)
  low : ∀ k x, (strN s)[k]? = some x → pos ≤ k → k < from' → x < 128
  len : O.length ≤ from'
  byt : Byt O
theorem QwS.step {W : World} {s : ByteArray} {R : Option (List Nat × List Nat)} {pos from' n : Nat} {O : List Nat} {w w' : World} (h : QwS W s R pos from' O w) (hn : 1 ≤ n) (hns : pos + n ≤ s.size) (hw : w' = w.iterAt (W.heap.size + 1) s (pos + n)) (he : R = (Qw ((strN s).drop (max (pos + n) from'))).map fun p => ((O ++ seg s from' (max (pos + n) from')) ++ p.1, p.2)) : QwS W s R (pos + n) from' O w' := by
  subst hw
  exact ⟨hns, h.fr, Lib.iterAt_heap w _ s pos _ h.it, h.bi.iter h.it (by omega), Lib.below_iterAt h.bel (k := W.heap.size + 1) (by omega) s (pos + n), he, fun k x h1 h2 h3 => h.low k x h1 (by omega) h3, h.len, h.byt⟩
end Go.Proofs.YtadmamfekodkaaaDoor
