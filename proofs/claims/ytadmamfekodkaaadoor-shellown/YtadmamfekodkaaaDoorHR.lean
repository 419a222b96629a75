import Derived.Test.YtadmamfekodkaaaDoorHO

namespace Go.Proofs.YtadmamfekodkaaaDoor

/-- The digit of a number, as a byte; what stands for a byte within a quoted word. -/
def hx (d : Nat) : Nat := if d < 10 then 48 + d else 87 + d
def qc (c : Nat) : List Nat := if c = 34 ∨ c = 92 then [92, c] else if c = 10 then [92, 110] else if c = 9 then [92, 116] else if ctl c = true ∨ 128 ≤ c then [92, 120, hx (c / 16), hx (c % 16)] else [c]
def qcs (L : List Nat) : List Nat := L.flatMap qc
def quoteL (L : List Nat) : List Nat := 34 :: (qcs L ++ [34])
theorem hexv_hx {d : Nat} (h : d < 16) : hexv (hx d) = (d : Int) := by
  have : ∀ d : Fin 16, hexv (hx d.1) = (d.1 : Int) := by decide
  exact this ⟨d, h⟩
theorem qc_len (c : Nat) : 1 ≤ (qc c).length ∧ (qc c).length ≤ 4 := by
  unfold qc
  repeat' split
  all_goals simp
theorem qcs_len : ∀ L : List Nat, (qcs L).length ≤ 4 * L.length
  | [] => Nat.le_refl _
  | c :: r => by
    have := qcs_len r
    have := (qc_len c).2
    simp only [qcs, List.flatMap_cons, List.length_append, List.length_cons] at *
    omega
theorem hx_byt {d : Nat} (h : d < 16) : hx d < 256 := by
  unfold hx
  split <;> omega
theorem qc_byt {c : Nat} (h : c < 256) : Byt (qc c) := by
  unfold qc
  intro x hx
  have h1 : ∀ d, d < 16 → Go.Proofs.YtadmamfekodkaaaDoor.hx d < 256 := fun d hd => hx_byt hd
  have h2 := h1 (c / 16) (by omega)
  have h3 := h1 (c % 16) (by omega)
  repeat' split at hx
  all_goals simp at hx
  all_goals omega
theorem qcs_byt : ∀ {L : List Nat}, Byt L → Byt (qcs L)
  | [], _ => fun x hx => by cases hx
  | c :: r, h => by
    intro x hx
    simp only [qcs, List.flatMap_cons, List.mem_append] at hx
    rcases hx with hx | hx
    · exact qc_byt (h c (by simp)) x hx
    · exact qcs_byt (L := r) (fun y hy => h y (by simp [hy])) x hx
theorem quote_byt {L : List Nat} (h : Byt L) : Byt (quoteL L) := by
  intro x hx
  simp only [quoteL, List.mem_cons, List.mem_append, List.not_mem_nil, or_false] at hx
  rcases hx with rfl | hx | rfl
  · decide
  · exact qcs_byt h x hx
  · decide
theorem quote_len (L : List Nat) : (quoteL L).length ≤ 4 * L.length + 2 := by
  have := qcs_len L
  simp only [quoteL, List.length_cons, List.length_append, List.length_nil]
  omega
theorem esc_qc {c : Nat} {t r : List Nat} (hc : c < 256) (h : qc c = 92 :: t) : ∃ n, escP (t ++ r) = some (c, n) ∧ (t ++ r).drop n = r := by
  unfold qc at h
  split at h
  · rename_i h1
    cases h
    refine ⟨1, ?_, rfl⟩
    show (if c = 92 ∨ c = 34 then some (c, 1) else _) = _
    rw [if_pos (by omega)]
  · split at h
    · rename_i h1 h2
      cases h
      subst h2
      exact ⟨1, rfl, rfl⟩
    · split at h
      · rename_i h1 h2 h3
        cases h
        subst h3
        exact ⟨1, rfl, rfl⟩
      · split at h
        · cases h
          refine ⟨3, ?_, rfl⟩
          show escP (120 :: hx (c / 16) :: hx (c % 16) :: r) = _
          have e1 := hexv_hx (d := c / 16) (by omega)
          have e2 := hexv_hx (d := c % 16) (by omega)
          show (if hexv (hx (c / 16)) < 0 ∨ hexv (hx (c % 16)) < 0 then none else some ((16 * hexv (hx (c / 16)) + hexv (hx (c % 16))).toNat, 3)) = some (c, 3)
          rw [e1, e2, if_neg (by omega)]
          congr 2
          omega
        · rename_i h1 _ _ _
          cases h
          exact absurd (.inr rfl) h1
theorem qc_form (c : Nat) : (∃ t, qc c = 92 :: t) ∨ (qc c = [c] ∧ c ≠ 34 ∧ c ≠ 92 ∧ ctl c = false) := by
  unfold qc
  split
  · exact .inl ⟨_, rfl⟩
  · split
    · exact .inl ⟨_, rfl⟩
    · split
      · exact .inl ⟨_, rfl⟩
      · split
        · exact .inl ⟨_, rfl⟩
        · rename_i h1 _ _ h4
          refine .inr ⟨rfl, by omega, by omega, ?_⟩
          cases h : ctl c with
          | false => rfl
          | true => exact absurd (.inl h) h4
theorem run_qc {c : Nat} (hc : c < 256) (r w : List Nat) (acc : List (List Nat)) (d : Int) : ∃ d', finR (runR (qc c ++ r) ⟨2, w, acc, d, false⟩) = finR (runR r ⟨2, w ++ [c], acc, d', false⟩) := by
  rcases qc_form c with ⟨t, ht⟩ | ⟨h1, h2, h3, h4⟩
  · obtain ⟨n, e1, e2⟩ := esc_qc (r := r) hc ht
    rw [ht]
    show ∃ d', finR (runR (92 :: (t ++ r)) _) = _
    rw [run_step rfl]
    obtain ⟨⟨d', h⟩, -⟩ := esc_ok (w := w) (acc := acc) (d := d) e1
    rw [e2] at h
    exact ⟨d', h⟩
  · rw [h1]
    refine ⟨d, ?_⟩
    show finR (runR (c :: r) _) = _
    rw [run_step rfl]
    have e : nextR c ⟨2, w, acc, d, false⟩ = ⟨2, w ++ [c], acc, d, false⟩ := by
      show insideR c ⟨2, w, acc, d, false⟩ = _
      unfold insideR
      rw [if_neg h2, if_neg h3, if_neg (by rw [h4]; decide)]
    rw [e]
theorem run_qcs : ∀ (L r w : List Nat) (acc : List (List Nat)) (d : Int), Byt L → ∃ d', finR (runR (qcs L ++ r) ⟨2, w, acc, d, false⟩) = finR (runR r ⟨2, w ++ L, acc, d', false⟩)
  | [], r, w, acc, d, _ => ⟨d, by simp [qcs]⟩
  | c :: L, r, w, acc, d, h => by
    obtain ⟨d1, h1⟩ := run_qc (h c (by simp)) (qcs L ++ r) w acc d
    obtain ⟨d2, h2⟩ := run_qcs L r (w ++ [c]) acc d1 (fun y hy => h y (by simp [hy]))
    refine ⟨d2, ?_⟩
    rw [qcs, List.flatMap_cons, List.append_assoc]
    rw [show qc c ++ (L.flatMap qc ++ r) = qc c ++ (qcs L ++ r) from rfl, h1, h2, List.append_assoc]
    rfl
/-- A quoted word is read as what it says. -/
theorem run_quote {L : List Nat} (h : Byt L) (r : List Nat) (acc : List (List Nat)) (d : Int) : ∃ d', finR (runR (quoteL L ++ r) ⟨0, [], acc, d, false⟩) = finR (runR r ⟨6, [], acc ++ [L], d', false⟩) := by
  obtain ⟨d', h1⟩ := run_qcs L (34 :: r) [] acc d h
  refine ⟨d', ?_⟩
  have e : quoteL L ++ r = 34 :: (qcs L ++ 34 :: r) := by simp [quoteL]
  rw [e, run_step rfl]
  have e1 : nextR 34 ⟨0, [], acc, d, false⟩ = ⟨2, [], acc, d, false⟩ := rfl
  rw [e1, h1, run_step rfl]
  rfl
theorem wR_quote {L : List Nat} (h : Byt L) (hl : L.length ≤ 16000) : wR (ofN (quoteL L)) = ([L], 0) := by
  have hb := quote_byt h
  have hq := quote_len L
  unfold wR
  have hs : (ofN (quoteL L)).size = (quoteL L).length := by rw [← strN_len, strN_ofN hb]
  rw [if_neg (by omega), strN_ofN hb]
  obtain ⟨d', h1⟩ := run_quote h [] [] 0
  rw [List.append_nil] at h1
  rw [show rs0 = ⟨0, [], [], 0, false⟩ from rfl, h1]
  rfl
/-- Blanks between, a comment behind. -/
theorem run_blank (c : Nat) (hb : blk c = true) (r : List Nat) (acc : List (List Nat)) (d : Int) : finR (runR (c :: r) ⟨6, [], acc, d, false⟩) = finR (runR r ⟨0, [], acc, d, false⟩) ∧ finR (runR (c :: r) ⟨0, [], acc, d, false⟩) = finR (runR r ⟨0, [], acc, d, false⟩) := by
  constructor
  · rw [run_step rfl]
    congr 2
    simp only [nextR]
    simp [hb]
  · rw [run_step rfl]
    congr 2
    simp only [nextR, firstR]
    simp [hb]
/-- The line that joins quoted words. -/
def joinL (ls : List (List Nat)) : List Nat := ls.flatMap fun l => 32 :: quoteL l
theorem run_join : ∀ (ls : List (List Nat)) (r : List Nat) (acc : List (List Nat)) (d : Int), (∀ l ∈ ls, Byt l) → ∃ d', finR (runR (joinL ls ++ 9 :: r) ⟨0, [], acc, d, false⟩) = finR (runR r ⟨0, [], acc ++ ls, d', false⟩) ∧ finR (runR (joinL ls ++ 9 :: r) ⟨6, [], acc, d, false⟩) = finR (runR r ⟨0, [], acc ++ ls, d', false⟩)
  | [], r, acc, d, _ => by
    obtain ⟨h1, h2⟩ := run_blank 9 rfl r acc d
    refine ⟨d, ?_, ?_⟩
    · simpa [joinL] using h2
    · simpa [joinL] using h1
  | l :: ls, r, acc, d, h => by
    have e : joinL (l :: ls) ++ 9 :: r = 32 :: (quoteL l ++ (joinL ls ++ 9 :: r)) := by simp [joinL]
    obtain ⟨d1, h1⟩ := run_quote (h l (by simp)) (joinL ls ++ 9 :: r) acc d
    obtain ⟨d2, -, h2⟩ := run_join ls r (acc ++ [l]) d1 (fun y hy => h y (by simp [hy]))
    obtain ⟨b1, b2⟩ := run_blank 32 rfl (quoteL l ++ (joinL ls ++ 9 :: r)) acc d
    have e2 : acc ++ [l] ++ ls = acc ++ (l :: ls) := by simp
    rw [e2] at h2
    refine ⟨d2, ?_, ?_⟩
    · rw [e, b2, h1, h2]
    · rw [e, b1, h1, h2]
theorem wR_join {ls : List (List Nat)} {cm : List Nat} {s : ByteArray} (h : ∀ l ∈ ls, Byt l) (hs : strN s = joinL ls ++ 9 :: 35 :: cm) (hl : s.size ≤ 65536) : wR s = (ls, 0) := by
  unfold wR
  rw [if_neg (by omega), hs]
  obtain ⟨d', h1, -⟩ := run_join ls (35 :: cm) [] 0 h
  rw [show rs0 = ⟨0, [], [], 0, false⟩ from rfl, h1, List.nil_append]
  rw [show finR (runR (35 :: cm) ⟨0, [], ls, d', false⟩) = some ls from fin_comment cm ls d']
end Go.Proofs.YtadmamfekodkaaaDoor
