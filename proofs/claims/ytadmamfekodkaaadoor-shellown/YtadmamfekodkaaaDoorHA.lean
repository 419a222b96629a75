import Derived.Test.YtadmamfekodkaaaDoorSB

namespace Go.Proofs.YtadmamfekodkaaaDoor

/-- A blank; a byte that stands in no word. -/
def blk (c : Nat) : Bool := c == 32 || c == 9
def ctl (c : Nat) : Bool := decide (c < 32) || c == 127
/-- A digit's number. -/
def hexv (c : Nat) : Int := if 48 ≤ c ∧ c ≤ 57 then (c : Int) - 48 else if 97 ≤ c ∧ c ≤ 102 then (c : Int) - 97 + 10 else if 65 ≤ c ∧ c ≤ 70 then (c : Int) - 65 + 10 else -1
/-- The document's reader. -/
structure RS where
  inn : Nat
  word : List Nat
  words : List (List Nat)
  dig : Int
  bad : Bool
def plainR (c : Nat) (s : RS) : RS := { s with word := s.word ++ [c], bad := s.bad || (ctl c || c == 34 || c == 92) }
def endsR (s : RS) : RS := { s with word := [], words := s.words ++ [s.word] }
def firstR (c : Nat) (s : RS) : RS := if blk c = true then { s with inn := 0 } else if c = 35 then { s with inn := 7 } else if c = 34 then { s with inn := 2 } else plainR c { s with inn := 1 }
def insideR (c : Nat) (s : RS) : RS := if c = 34 then { endsR s with inn := 6 } else if c = 92 then { s with inn := 3 } else if ctl c = true then { s with bad := true } else { s with word := s.word ++ [c] }
def escR (c : Nat) (s : RS) : RS := if c = 92 ∨ c = 34 then { s with inn := 2, word := s.word ++ [c] } else if c = 110 then { s with inn := 2, word := s.word ++ [10] } else if c = 116 then { s with inn := 2, word := s.word ++ [9] } else if c = 120 then { s with inn := 4 } else { s with inn := 2, bad := true }
def nextR (c : Nat) (s : RS) : RS :=
  if s.inn = 0 then firstR c s
  else if s.inn = 1 then (if blk c = true then { endsR s with inn := 0 } else plainR c s)
  else if s.inn = 2 then insideR c s
  else if s.inn = 3 then escR c s
  else if s.inn = 4 then { s with dig := hexv c, inn := 5, bad := s.bad || decide (hexv c < 0) }
  else if s.inn = 5 then (if hexv c < 0 then { s with bad := true, inn := 2 } else { s with word := s.word ++ [(16 * s.dig + hexv c).toNat % 256], inn := 2 })
  else if s.inn = 6 then { s with inn := 0, bad := s.bad || !blk c }
  else s
def runR : List Nat → RS → RS
  | [], s => s
  | c :: r, s => if s.bad = true then s else runR r (nextR c s)
def finR (s : RS) : Option (List (List Nat)) :=
  if s.inn = 1 then (if s.bad = true then none else some (s.words ++ [s.word]))
  else if s.bad = true ∨ (s.inn = 2 ∨ s.inn = 3 ∨ s.inn = 4 ∨ s.inn = 5) then none else some s.words
/-- A bare word and what stands behind it. -/
def bareP : List Nat → Option (List Nat × List Nat)
  | [] => some ([], [])
  | c :: r => if blk c = true then some ([], c :: r) else if (ctl c || c == 34 || c == 92) = true then none else (bareP r).map fun p => (c :: p.1, p.2)
/-- The byte for which an escape behind its backslash stands, and how many bytes it has behind that. -/
def escP : List Nat → Option (Nat × Nat)
  | c :: r => if c = 92 ∨ c = 34 then some (c, 1) else if c = 110 then some (10, 1) else if c = 116 then some (9, 1) else if c = 120 then (match r with
      | a :: b :: _ => if hexv a < 0 ∨ hexv b < 0 then none else some ((16 * hexv a + hexv b).toNat, 3)
      | _ => none) else none
  | [] => none
/-- Behind a closing quote. -/
def closeP : List Nat → Option (List Nat × List Nat)
  | [] => some ([], [])
  | d :: r => if blk d = true then some ([], d :: r) else none
/-- What is left of a quoted word, and what stands behind it. -/
def quotP : Nat → List Nat → Option (List Nat × List Nat)
  | 0, _ => none
  | _ + 1, [] => none
  | f + 1, c :: r => if c = 34 then closeP r
    else if c = 92 then (match escP r with
      | none => none
      | some (b, n) => (quotP f (r.drop n)).map fun p => (b :: p.1, p.2))
    else if ctl c = true then none else (quotP f r).map fun p => (c :: p.1, p.2)
def takenP (f : Nat) : List Nat → Option (List Nat × List Nat)
  | [] => none
  | c :: r => if c = 34 then quotP f r else bareP (c :: r)
def skipP : List Nat → List Nat
  | [] => []
  | c :: r => if blk c = true then skipP r else c :: r
def wordsP : Nat → List Nat → Option (List (List Nat))
  | 0, _ => none
  | f + 1, l => match skipP l with
    | [] => some []
    | c :: r => if c = 35 then some [] else match takenP (l.length + 1) (c :: r) with
      | none => none
      | some (w, b) => (wordsP f b).map fun ws => w :: ws
/-- A word ends at a blank, or with the line. -/
def Stops (r : List Nat) : Prop := r = [] ∨ ∃ d r', r = d :: r' ∧ blk d = true
theorem runR_bad {L : List Nat} {s : RS} (h : s.bad = true) : runR L s = s := by
  cases L with
  | nil => rfl
  | cons c r => rw [runR, if_pos h]
theorem finR_bad {s : RS} (h : s.bad = true) : finR s = none := by
  unfold finR
  rw [if_pos h]
  split
  · rfl
  · rw [if_pos (.inl h)]
theorem fin_bad {L : List Nat} {s : RS} (h : s.bad = true) : finR (runR L s) = none := by rw [runR_bad h, finR_bad h]
theorem run_step {c : Nat} {r : List Nat} {s : RS} (h : s.bad = false) : runR (c :: r) s = runR r (nextR c s) := by rw [runR, if_neg (by rw [h]; decide)]
theorem bare_stops : ∀ (L : List Nat) (w r : List Nat), bareP L = some (w, r) → Stops r ∧ r.length ≤ L.length
  | [], w, r, h => by
    cases h
    exact ⟨.inl rfl, Nat.le_refl _⟩
  | c :: L, w, r, h => by
    rw [bareP] at h
    split at h
    · rename_i hb
      cases h
      exact ⟨.inr ⟨_, _, rfl, hb⟩, Nat.le_refl _⟩
    · split at h
      · cases h
      · obtain ⟨p, hp, h2⟩ := Option.map_eq_some_iff.1 h
        obtain ⟨p1, p2⟩ := p
        cases h2
        have := bare_stops L _ _ hp
        exact ⟨this.1, by rw [List.length_cons]; have := this.2; simp only at this ⊢; omega⟩
theorem run_bare : ∀ (L w : List Nat) (acc : List (List Nat)) (d : Int), finR (runR L ⟨1, w, acc, d, false⟩) = match bareP L with
    | none => none
    | some (v, r) => finR (runR r ⟨1, w ++ v, acc, d, false⟩)
  | [], w, acc, d => by simp [bareP]
  | c :: L, w, acc, d => by
    rw [bareP]
    by_cases hb : blk c = true
    · rw [if_pos hb]
      simp
    · rw [if_neg hb]
      by_cases hc : (ctl c || c == 34 || c == 92) = true
      · rw [if_pos hc, run_step rfl]
        exact fin_bad (by show (if blk c = true then _ else plainR c _ : RS).bad = true; rw [if_neg hb]; show (false || (ctl c || c == 34 || c == 92)) = true; rw [hc]; rfl)
      · rw [if_neg hc, run_step rfl]
        have e : nextR c ⟨1, w, acc, d, false⟩ = ⟨1, w ++ [c], acc, d, false⟩ := by
          show (if blk c = true then _ else plainR c _ : RS) = _
          rw [if_neg hb]
          show (⟨1, w ++ [c], acc, d, false || (ctl c || c == 34 || c == 92)⟩ : RS) = _
          rw [Bool.eq_false_iff.2 hc]
          rfl
        rw [e, run_bare L]
        cases bareP L with
        | none => rfl
        | some p => simp
theorem bare_end {r w : List Nat} {acc : List (List Nat)} {d : Int} (h : Stops r) : finR (runR r ⟨1, w, acc, d, false⟩) = finR (runR r ⟨0, [], acc ++ [w], d, false⟩) := by
  rcases h with rfl | ⟨c, r', rfl, hb⟩
  · rfl
  · rw [run_step rfl, run_step rfl]
    have e1 : nextR c ⟨1, w, acc, d, false⟩ = ⟨0, [], acc ++ [w], d, false⟩ := by show (if blk c = true then _ else plainR c _ : RS) = _; rw [if_pos hb]; rfl
    have e2 : nextR c ⟨0, [], acc ++ [w], d, false⟩ = ⟨0, [], acc ++ [w], d, false⟩ := by show firstR c _ = _; unfold firstR; rw [if_pos hb]
    rw [e1, e2]
theorem hexv_bd (c : Nat) : -1 ≤ hexv c ∧ hexv c ≤ 15 := by
  unfold hexv
  split
  · omega
  · split
    · omega
    · split <;> omega
theorem quot_end {r : List Nat} {acc : List (List Nat)} {d : Int} : finR (runR r ⟨6, [], acc, d, false⟩) = match r with
    | [] => some acc
    | c :: r' => if blk c = true then finR (runR (c :: r') ⟨0, [], acc, d, false⟩) else none := by
  cases r with
  | nil => rfl
  | cons c r' =>
    by_cases hb : blk c = true
    · simp only [hb, if_true]
      rw [run_step rfl, run_step rfl]
      have e1 : nextR c ⟨6, [], acc, d, false⟩ = ⟨0, [], acc, d, false⟩ := by simp only [nextR]; simp [hb]
      have e2 : nextR c ⟨0, [], acc, d, false⟩ = ⟨0, [], acc, d, false⟩ := by simp only [nextR, firstR]; simp [hb]
      rw [e1, e2]
    · simp only [hb]
      rw [run_step rfl]
      exact fin_bad (by simp only [nextR]; simp [hb])
theorem esc_bad {r : List Nat} {w : List Nat} {acc : List (List Nat)} {d : Int} (h : escP r = none) : finR (runR r ⟨3, w, acc, d, false⟩) = none := by
  cases r with
  | nil => rfl
  | cons c r =>
    rw [run_step rfl]
    simp only [escP] at h
    have e : nextR c ⟨3, w, acc, d, false⟩ = escR c ⟨3, w, acc, d, false⟩ := rfl
    rw [e]
    unfold escR
    split at h
    · cases h
    · rename_i h1
      rw [if_neg h1]
      split at h
      · cases h
      · rename_i h2
        rw [if_neg h2]
        split at h
        · cases h
        · rename_i h3
          rw [if_neg h3]
          split at h
          · rename_i h4
            rw [if_pos h4]
            match r, h with
            | [], _ => rfl
            | [a], _ =>
              rw [run_step rfl]
              show finR (nextR a ⟨4, w, acc, d, false⟩) = none
              simp only [nextR]
              simp [finR]
            | a :: b :: r', h =>
              rw [run_step rfl]
              have e4 : nextR a ⟨4, w, acc, d, false⟩ = ⟨5, w, acc, hexv a, decide (hexv a < 0)⟩ := by simp only [nextR]; simp
              show finR (runR (b :: r') (nextR a ⟨4, w, acc, d, false⟩)) = none
              rw [e4]
              by_cases ha : hexv a < 0
              · exact fin_bad (by simp [ha])
              · simp only [ha, decide_false]
                simp only [ha, false_or] at h
                split at h
                · rename_i hb
                  rw [run_step rfl]
                  exact fin_bad (by simp only [nextR]; simp [hb])
                · cases h
          · rename_i h4
            rw [if_neg h4]
            exact fin_bad rfl
theorem esc_ok {r : List Nat} {b n : Nat} {w : List Nat} {acc : List (List Nat)} {d : Int} (h : escP r = some (b, n)) : (∃ d', finR (runR r ⟨3, w, acc, d, false⟩) = finR (runR (r.drop n) ⟨2, w ++ [b], acc, d', false⟩)) ∧ 1 ≤ n ∧ n ≤ r.length := by
  cases r with
  | nil => cases h
  | cons c r =>
    simp only [escP] at h
    have e : nextR c ⟨3, w, acc, d, false⟩ = escR c ⟨3, w, acc, d, false⟩ := rfl
    split at h
    · rename_i h1
      cases h
      refine ⟨⟨d, ?_⟩, by decide, by simp⟩
      rw [run_step rfl, e]
      unfold escR
      rw [if_pos h1]
      rfl
    · rename_i h1
      split at h
      · rename_i h2
        cases h
        refine ⟨⟨d, ?_⟩, by decide, by simp⟩
        rw [run_step rfl, e]
        unfold escR
        rw [if_neg h1, if_pos h2]
        rfl
      · rename_i h2
        split at h
        · rename_i h3
          cases h
          refine ⟨⟨d, ?_⟩, by decide, by simp⟩
          rw [run_step rfl, e]
          unfold escR
          rw [if_neg h1, if_neg h2, if_pos h3]
          rfl
        · rename_i h3
          split at h
          · rename_i h4
            match r, h with
            | a :: b' :: r', h =>
              simp only at h
              split at h
              · cases h
              · rename_i h5
                cases h
                refine ⟨⟨hexv a, ?_⟩, by decide, by simp⟩
                rw [run_step rfl, e]
                unfold escR
                rw [if_neg h1, if_neg h2, if_neg h3, if_pos h4, run_step rfl]
                have ha : ¬ hexv a < 0 := fun q => h5 (.inl q)
                have hb : ¬ hexv b' < 0 := fun q => h5 (.inr q)
                have e4 : nextR a ⟨4, w, acc, d, false⟩ = ⟨5, w, acc, hexv a, false⟩ := by simp only [nextR]; simp [ha]
                show finR (runR (b' :: r') (nextR a ⟨4, w, acc, d, false⟩)) = _
                rw [e4, run_step rfl]
                have q1 := hexv_bd a
                have q2 := hexv_bd b'
                have e5 : nextR b' ⟨5, w, acc, hexv a, false⟩ = ⟨2, w ++ [(16 * hexv a + hexv b').toNat], acc, hexv a, false⟩ := by
                  simp only [nextR]
                  simp [hb]
                  omega
                rw [e5]
                rfl
          · cases h
theorem run_quot : ∀ (f : Nat) (L w : List Nat) (acc : List (List Nat)) (d : Int), L.length < f → match quotP f L with
    | none => finR (runR L ⟨2, w, acc, d, false⟩) = none
    | some (v, r) => (∃ d', finR (runR L ⟨2, w, acc, d, false⟩) = finR (runR r ⟨0, [], acc ++ [w ++ v], d', false⟩)) ∧ Stops r ∧ r.length ≤ L.length
  | 0, _, _, _, _, h => absurd h (by omega)
  | f + 1, [], w, acc, d, _ => rfl
  | f + 1, c :: L, w, acc, d, h => by
    rw [List.length_cons] at h
    rw [quotP]
    by_cases h1 : c = 34
    · rw [if_pos h1]
      have e : nextR c ⟨2, w, acc, d, false⟩ = ⟨6, [], acc ++ [w], d, false⟩ := by simp only [nextR, insideR]; simp [h1, endsR]
      match L with
      | [] =>
        simp only [closeP]
        refine ⟨⟨d, ?_⟩, .inl rfl, by simp⟩
        rw [run_step rfl, e, List.append_nil]
        rfl
      | x :: L' =>
        simp only [closeP]
        by_cases hb : blk x = true
        · rw [if_pos hb]
          simp only
          refine ⟨⟨d, ?_⟩, .inr ⟨x, L', rfl, hb⟩, by simp⟩
          rw [run_step rfl, e, quot_end, List.append_nil]
          simp only [hb, if_true]
        · rw [if_neg hb]
          simp only
          rw [run_step rfl, e, quot_end]
          simp only [hb]
          rfl
    · rw [if_neg h1]
      by_cases h2 : c = 92
      · rw [if_pos h2]
        have e : nextR c ⟨2, w, acc, d, false⟩ = ⟨3, w, acc, d, false⟩ := by simp only [nextR, insideR]; simp [h2]
        cases he : escP L with
        | none =>
          simp only
          rw [run_step rfl, e]
          exact esc_bad he
        | some p =>
          obtain ⟨b, n⟩ := p
          simp only
          obtain ⟨⟨d1, e1⟩, e2, e3⟩ := esc_ok (w := w) (acc := acc) (d := d) he
          have ih := run_quot f (L.drop n) (w ++ [b]) acc d1 (by rw [List.length_drop]; omega)
          cases hq : quotP f (L.drop n) with
          | none =>
            rw [hq] at ih
            show finR (runR (c :: L) ⟨2, w, acc, d, false⟩) = none
            rw [run_step rfl, e, e1]
            exact ih
          | some p =>
            rw [hq] at ih
            obtain ⟨⟨d2, i1⟩, i2, i3⟩ := ih
            show (∃ d', finR (runR (c :: L) ⟨2, w, acc, d, false⟩) = finR (runR p.2 ⟨0, [], acc ++ [w ++ (b :: p.1)], d', false⟩)) ∧ Stops p.2 ∧ p.2.length ≤ (c :: L).length
            refine ⟨⟨d2, ?_⟩, i2, by rw [List.length_drop] at i3; rw [List.length_cons]; omega⟩
            rw [run_step rfl, e, e1, i1]
            simp
      · rw [if_neg h2]
        by_cases h3 : ctl c = true
        · rw [if_pos h3]
          show finR (runR (c :: L) ⟨2, w, acc, d, false⟩) = none
          rw [run_step rfl]
          exact fin_bad (by simp only [nextR, insideR]; simp [h1, h2, h3])
        · rw [if_neg h3]
          have e : nextR c ⟨2, w, acc, d, false⟩ = ⟨2, w ++ [c], acc, d, false⟩ := by simp only [nextR, insideR]; simp [h1, h2, h3]
          have ih := run_quot f L (w ++ [c]) acc d (by omega)
          cases hq : quotP f L with
          | none =>
            rw [hq] at ih
            show finR (runR (c :: L) ⟨2, w, acc, d, false⟩) = none
            rw [run_step rfl, e]
            exact ih
          | some p =>
            rw [hq] at ih
            obtain ⟨⟨d2, i1⟩, i2, i3⟩ := ih
            show (∃ d', finR (runR (c :: L) ⟨2, w, acc, d, false⟩) = finR (runR p.2 ⟨0, [], acc ++ [w ++ (c :: p.1)], d', false⟩)) ∧ Stops p.2 ∧ p.2.length ≤ (c :: L).length
            refine ⟨⟨d2, ?_⟩, i2, by rw [List.length_cons]; omega⟩
            rw [run_step rfl, e, i1]
            simp
theorem run_skip : ∀ (L : List Nat) (acc : List (List Nat)) (d : Int), finR (runR L ⟨0, [], acc, d, false⟩) = finR (runR (skipP L) ⟨0, [], acc, d, false⟩)
  | [], _, _ => rfl
  | c :: L, acc, d => by
    rw [skipP]
    by_cases hb : blk c = true
    · rw [if_pos hb, run_step rfl]
      have e2 : nextR c ⟨0, [], acc, d, false⟩ = ⟨0, [], acc, d, false⟩ := by simp only [nextR, firstR]; simp [hb]
      rw [e2]
      exact run_skip L acc d
    · rw [if_neg hb]
theorem skip_len : ∀ L : List Nat, (skipP L).length ≤ L.length
  | [] => Nat.le_refl _
  | c :: L => by
    rw [skipP]
    split
    · have := skip_len L; rw [List.length_cons]; omega
    · exact Nat.le_refl _
theorem skip_head {L : List Nat} {c : Nat} {r : List Nat} : skipP L = c :: r → blk c = false := by
  induction L with
  | nil => intro h; cases h
  | cons x L ih =>
    intro h
    rw [skipP] at h
    split at h
    · exact ih h
    · rename_i hb
      cases h
      exact Bool.eq_false_iff.2 hb
theorem run_comment : ∀ (L : List Nat) (acc : List (List Nat)) (d : Int), finR (runR L ⟨7, [], acc, d, false⟩) = some acc
  | [], _, _ => rfl
  | c :: L, acc, d => by
    rw [run_step rfl]
    exact run_comment L acc d
theorem run_words : ∀ (f : Nat) (L : List Nat) (acc : List (List Nat)) (d : Int), L.length < f → finR (runR L ⟨0, [], acc, d, false⟩) = (wordsP f L).map fun ws => acc ++ ws
  | 0, _, _, _, h => absurd h (by omega)
  | f + 1, L, acc, d, h => by
    rw [run_skip, wordsP]
    have hsl := skip_len L
    cases hs : skipP L with
    | nil =>
      simp only
      show some acc = some (acc ++ [])
      rw [List.append_nil]
    | cons c r =>
      have hb := skip_head hs
      rw [hs, List.length_cons] at hsl
      simp only
      by_cases h35 : c = 35
      · rw [if_pos h35, run_step rfl]
        have e : nextR c ⟨0, [], acc, d, false⟩ = ⟨7, [], acc, d, false⟩ := by simp only [nextR, firstR]; rw [h35]; rfl
        rw [e, run_comment]
        simp
      · rw [if_neg h35]
        have hb2 : ¬ blk c = true := by rw [hb]; decide
        by_cases h34 : c = 34
        · have e : nextR c ⟨0, [], acc, d, false⟩ = ⟨2, [], acc, d, false⟩ := by simp only [nextR, firstR]; rw [h34]; rfl
          have hq := run_quot (L.length + 1) r [] acc d (by omega)
          simp only [takenP]
          rw [if_pos h34, run_step rfl, e]
          cases hp : quotP (L.length + 1) r with
          | none =>
            rw [hp] at hq
            exact hq
          | some p =>
            rw [hp] at hq
            obtain ⟨⟨d2, i1⟩, i2, i3⟩ := hq
            simp only
            rw [i1, run_words f p.2 _ d2 (by omega)]
            cases wordsP f p.2 with
            | none => rfl
            | some ws => simp
        · have e : runR (c :: r) ⟨0, [], acc, d, false⟩ = runR (c :: r) ⟨1, [], acc, d, false⟩ := by
            rw [run_step rfl, run_step rfl]
            congr 1
            simp only [nextR, firstR]
            simp [hb2, h35, h34]
          simp only [takenP]
          rw [if_neg h34, e, run_bare]
          cases hp : bareP (c :: r) with
          | none => rfl
          | some p =>
            obtain ⟨q1, q2⟩ := bare_stops _ _ _ hp
            have q3 : p.2.length < (c :: r).length := by
              rw [bareP, if_neg hb2] at hp
              split at hp
              · cases hp
              · obtain ⟨p', hp', h2⟩ := Option.map_eq_some_iff.1 hp
                subst h2
                have := bare_stops _ _ _ hp'
                rw [List.length_cons]
                have := this.2
                simp only at this ⊢
                omega
            rw [List.length_cons] at q3
            simp only
            rw [bare_end q1, run_words f p.2 _ d (by omega)]
            cases wordsP f p.2 with
            | none => rfl
            | some ws => simp
end Go.Proofs.YtadmamfekodkaaaDoor
