import Derived.Test.YtdhncpeemcanlaaGreatDoorJ10
import Derived.Test.YtdhncpeemcanlaaGreatDoorJ14
import Derived.Test.YtdhncpeemcanlaaGreatDoorJ16

namespace Go.Proofs.YtdhncpeemcanlaaGreatDoor
open Go.RowKit Go.Lib
attribute [local go_sem ↓] Go.wp_at_zero Go.wp_at_succ

end Go.Proofs.YtdhncpeemcanlaaGreatDoor

namespace Go.Proofs.YtdhncpeemcanlaaGreatDoor
open Go.RowKit

theorem strN_of {l : List Nat} (h : Byt l) : strN (ofN l) = l := by
  unfold strN ofN
  simp only [List.map_map]
  rw [show l.map _ = l from ?_]
  calc l.map _ = l.map id := List.map_congr_left fun x hx => by
        have := h x hx
        simp [Nat.mod_eq_of_lt this]
    _ = l := List.map_id l
theorem at_byte {Q : ByteArray} {p c : Nat} {R : List Nat} (h : (strN Q).drop p = c :: R) : p < Q.size ∧ byteAt Q p = c := by
  have h0 : ((strN Q).drop p)[0]? = some c := by rw [h]; rfl
  rw [List.getElem?_drop, Nat.add_zero] at h0
  have hl := (List.getElem?_eq_some_iff.1 h0).1
  rw [strN_len] at hl
  rw [strN_at Q p hl] at h0
  exact ⟨hl, Option.some.inj h0⟩
theorem at_next {Q : ByteArray} {p : Nat} {A R : List Nat} (h : (strN Q).drop p = A ++ R) : (strN Q).drop (p + A.length) = R := by
  rw [← List.drop_drop, h, List.drop_append_of_le_length (Nat.le_refl _)]
  simp
theorem uq_plain {Q : ByteArray} : ∀ (A R : List Nat) (p : Nat), (strN Q).drop p = A ++ R → (∀ c ∈ A, c ≠ 34 ∧ c ≠ 0 ∧ c ≠ 10 ∧ c ≠ 92) → uqAt Q 34 p = (uqAt Q 34 (p + A.length)).map fun r => (A ++ r.1, r.2)
  | [], R, p, _, _ => by simp
  | c :: A, R, p, h, hc => by
    obtain ⟨h1, h2⟩ := at_byte h
    obtain ⟨c1, c2, c3, c4⟩ := hc c List.mem_cons_self
    have hp : pieceAt Q p = some (c, 1) := by
      unfold pieceAt
      rw [h2, if_neg (fun o => o.elim c2 c3), if_neg c4]
    have hn : (strN Q).drop (p + 1) = A ++ R := at_next (A := [c]) h
    rw [uq_step h1 (by rw [h2]; exact c1) hp, uq_plain A R (p + 1) hn (fun x hx => hc x (List.mem_cons_of_mem _ hx)), Option.map_map, List.length_cons, show p + 1 + A.length = p + (A.length + 1) by omega]
    rfl
theorem isd8s {a : Nat} (h : a < 8) : isd 8 (48 + a) = some a := by
  have : ∀ x : Fin 8, isd 8 (48 + x.val) = some x.val := by decide
  exact this ⟨a, h⟩
theorem name_dig {a : Nat} (h : a < 4) : nameV (48 + a) = none := by
  have : ∀ x : Fin 4, nameV (48 + x.val) = none := by decide
  exact this ⟨a, h⟩
theorem escL_esc {x : Nat} (hx : x < 256) (R : List Nat) : escL (esc x ++ R) = some (x, (esc x).length) := by
  unfold esc
  by_cases h1 : x = 92 ∨ x = 34
  · rw [if_pos h1]
    rcases h1 with rfl | rfl <;> rfl
  · rw [if_neg h1]
    by_cases h2 : x = 10
    · rw [if_pos h2, h2]; rfl
    · rw [if_neg h2]
      by_cases h3 : x = 13
      · rw [if_pos h3, h3]; rfl
      · rw [if_neg h3]
        by_cases h4 : x = 9
        · rw [if_pos h4, h4]; rfl
        · rw [if_neg h4]
          show escL (92 :: (48 + x / 64) :: (48 + x / 8 % 8) :: (48 + x % 8) :: R) = _
          rw [escL, name_dig (by omega)]
          show (if (48 + x / 64) = 120 ∨ (48 + x / 64) = 88 then _ else fin (drun 8 3 ((48 + x / 64) :: (48 + x / 8 % 8) :: (48 + x % 8) :: R) 0 0) 1) = _
          rw [if_neg (by omega), drun_some (isd8s (by omega)), drun_some (isd8s (by omega)), drun_some (isd8s (by omega)), drun_zero]
          unfold fin
          rw [if_neg (by simp only []; omega)]
          show some (((0 * 8 + x / 64) * 8 + x / 8 % 8) * 8 + x % 8, 1 + (0 + 1 + 1 + 1)) = some (x, 4)
          congr 2
          omega
theorem uq_esc {Q : ByteArray} {x p : Nat} {R : List Nat} (hx : x < 256) (h : (strN Q).drop p = esc x ++ R) : uqAt Q 34 p = (uqAt Q 34 (p + (esc x).length)).map fun r => (x :: r.1, r.2) := by
  obtain ⟨r, hr⟩ : ∃ r, esc x = 92 :: r := by
    unfold esc
    repeat' split
    all_goals exact ⟨_, rfl⟩
  have h' := h
  rw [hr] at h'
  obtain ⟨h1, h2⟩ := at_byte h'
  have hp : pieceAt Q p = some (x, (esc x).length) := by
    unfold pieceAt
    rw [h2, if_neg (by decide), if_pos rfl, h, escL_esc hx]
  exact uq_step h1 (by rw [h2]; decide) hp
theorem utf_asc {Q : ByteArray} : ∀ (A R : List Nat) (p : Nat), (strN Q).drop p = A ++ R → (∀ c ∈ A, c < 128) → utfAt Q p = utfAt Q (p + A.length)
  | [], R, p, _, _ => rfl
  | c :: A, R, p, h, hc => by
    obtain ⟨h1, h2⟩ := at_byte h
    have hl := chAt_low h1 (by rw [h2]; exact hc c List.mem_cons_self)
    have hn : (strN Q).drop (p + 1) = A ++ R := at_next (A := [c]) h
    rw [utf_step h1 (by omega), hl, utf_asc A R (p + 1) hn (fun x hx => hc x (List.mem_cons_of_mem _ hx)), List.length_cons, show p + 1 + A.length = p + (A.length + 1) by omega]
theorem chAt_is {s : ByteArray} {k n : Nat} (h : chAt s k = n) (hn : n ≠ 0) : ∃ c d e, frm (byteAt s k) = some (c, d, e) ∧ LenOkAt s k c d e ∧ n = 1 + c := by
  cases hf : frm (byteAt s k) with
  | none => rw [chAt_none hf] at h; exact absurd h.symm hn
  | some t =>
    obtain ⟨c, d, e⟩ := t
    by_cases hl : LenOkAt s k c d e
    · exact ⟨c, d, e, rfl, hl, by rw [← h, chAt_ok hf hl]⟩
    · rw [chAt_no hf hl] at h; exact absurd h.symm hn
theorem sub_at {s : ByteArray} {k n j : Nat} (hn : k + n ≤ s.size) (hj : j < n) : (sub s k n)[j]? = some (byteAt s (k + j)) := by
  unfold sub
  rw [List.getElem?_take, if_pos hj, List.getElem?_drop, strN_at s (k + j) (by omega)]
theorem utf_char {Q s : ByteArray} {p k n : Nat} {R : List Nat} (h : (strN Q).drop p = sub s k n ++ R) (hk : k + n ≤ s.size) (hc : chAt s k = n) (hn : n ≠ 0) : utfAt Q p = utfAt Q (p + n) := by
  obtain ⟨c, d, e, h1, h2, h3⟩ := chAt_is hc hn
  have hl : (sub s k n).length = n := sub_len hk
  have hQ : p + n ≤ Q.size := by
    have := congrArg List.length h
    rw [List.length_drop, strN_len, List.length_append, hl] at this
    omega
  have hb : ∀ j, j < n → byteAt Q (p + j) = byteAt s (k + j) := fun j hj => by
    have e1 : ((strN Q).drop p)[j]? = some (byteAt s (k + j)) := by rw [h, List.getElem?_append_left (by omega), sub_at hk hj]
    rw [List.getElem?_drop, strN_at Q (p + j) (by omega)] at e1
    exact Option.some.inj e1
  have hf : frm (byteAt Q p) = some (c, d, e) := by
    have := hb 0 (by omega)
    rw [Nat.add_zero, Nat.add_zero] at this
    rw [this, h1]
  have hlen : LenOkAt Q p c d e := by
    refine ⟨by omega, fun j hj1 hj2 => ?_⟩
    rw [hb j (by omega)]
    exact h2.2 j hj1 hj2
  have hQn : chAt Q p = n := by rw [chAt_ok hf hlen, h3]
  rw [utf_step (by omega) (by omega), hQn]
theorem frm_d {x c d e : Nat} (h : frm x = some (c, d, e)) (hx : 128 ≤ x) : 128 ≤ d := by
  unfold frm at h
  repeat' split at h
  all_goals first | omega | (cases h; done) | (obtain ⟨rfl, rfl, rfl⟩ := (by simpa using h : _ ∧ _ ∧ _); omega)
theorem plain_bytes {s : ByteArray} {k : Nat} (hk : k < s.size) (h : ¬ plainK s k = 0) : ∀ c ∈ sub s k (plainK s k), c ≠ 34 ∧ c ≠ 0 ∧ c ≠ 10 ∧ c ≠ 92 := by
  intro c hc
  have hle := plainK_le hk
  obtain ⟨j, hj⟩ := List.getElem?_of_mem hc
  have hjl := (List.getElem?_eq_some_iff.1 hj).1
  rw [sub_len hle.1] at hjl
  rw [sub_at hle.1 hjl] at hj
  have hcj := Option.some.inj hj
  unfold plainK at h hjl hle
  by_cases h1 : 128 ≤ byteAt s k
  · rw [if_pos h1] at h hjl hle
    obtain ⟨c', d, e, f1, f2, f3⟩ := chAt_is rfl h
    have hd := frm_d f1 h1
    have : 128 ≤ c := by
      rw [← hcj]
      by_cases hj0 : j = 0
      · rw [hj0, Nat.add_zero]; exact h1
      · have := (f2.2 j (by omega) (by omega)).1
        split at this <;> omega
    omega
  · rw [if_neg h1] at h hjl
    split at h
    · exact absurd rfl h
    · rename_i h2
      rw [if_neg h2] at hjl
      obtain rfl : j = 0 := by omega
      rw [Nat.add_zero] at hcj
      omega
theorem esc_low {x : Nat} (hx : x < 256) : ∀ c ∈ esc x, c < 128 := by
  intro c hc
  unfold esc at hc
  repeat' split at hc
  all_goals simp at hc
  all_goals omega
theorem back_all {s Q : ByteArray} : ∀ (m k p : Nat), s.size - k ≤ m → k ≤ s.size → (strN Q).drop p = qAll s k ++ [34] → uqAt Q 34 p = some ((strN s).drop k, p + (qAll s k).length + 1) ∧ utfAt Q p = -1 := by
  intro m
  induction m with
  | zero =>
    intro k p hm hk h
    obtain rfl : k = s.size := by omega
    rw [qAll_end (by omega)] at h ⊢
    obtain ⟨h1, h2⟩ := at_byte (Q := Q) (p := p) (c := 34) (R := []) h
    have hl : Q.size = p + 1 := by
      have := congrArg List.length h
      rw [List.length_drop, strN_len] at this
      simp at this
      omega
    refine ⟨?_, ?_⟩
    · rw [uq_quote h1 h2, List.drop_eq_nil_of_le (by rw [strN_len]; omega)]; rfl
    · rw [utf_asc [34] [] p h (fun c hc => by simp at hc; omega), utf_end (by show ¬ p + 1 < Q.size; omega)]
  | succ m ih =>
    intro k p hm hk h
    by_cases hlt : k < s.size
    · have hst := qAll_step hlt
      have hqn := qn_le hlt
      have hqp := qn_pos s k
      have h2 : (strN Q).drop p = qs s k ++ (qAll s (k + qn s k) ++ [34]) := by rw [h, hst, List.append_assoc]
      obtain ⟨i1, i2⟩ := ih (k + qn s k) (p + (qs s k).length) (by omega) hqn (at_next h2)
      have hlen : (qAll s k).length = (qs s k).length + (qAll s (k + qn s k)).length := by rw [hst, List.length_append]
      by_cases h0 : plainK s k = 0
      · have e1 : qs s k = esc (byteAt s k) := by unfold qs; rw [if_pos h0]
        have e2 : qn s k = 1 := by unfold qn; rw [if_pos h0]
        have hx := byteAt_lt s k
        rw [e1] at h2 i1 i2 hlen
        rw [e2] at i1 hlen h2
        refine ⟨?_, ?_⟩
        · rw [uq_esc hx h2, i1, hlen]
          have : (strN s).drop k = byteAt s k :: (strN s).drop (k + 1) := by
            have hk2 : k < (strN s).length := by rw [strN_len]; exact hlt
            rw [List.drop_eq_getElem_cons hk2]
            congr 1
            have := strN_at s k hlt
            rw [List.getElem?_eq_getElem hk2] at this
            exact Option.some.inj this
          rw [this]
          show some (byteAt s k :: (strN s).drop (k + 1), p + (esc (byteAt s k)).length + (qAll s (k + 1)).length + 1) = _
          congr 2
          omega
        · rw [utf_asc _ _ p h2 (esc_low hx), i2]
      · have e1 : qs s k = sub s k (plainK s k) := by unfold qs; rw [if_neg h0]
        have e2 : qn s k = plainK s k := by unfold qn; rw [if_neg h0]
        have hle := plainK_le hlt
        have hsl := sub_len hle.1
        rw [e1] at h2 i1 i2 hlen
        rw [e2] at i1 hlen h2
        refine ⟨?_, ?_⟩
        · rw [uq_plain _ _ p h2 (plain_bytes hlt h0), i1, hlen]
          have : (strN s).drop k = sub s k (plainK s k) ++ (strN s).drop (k + plainK s k) := by
            unfold sub
            rw [← List.drop_drop, List.take_append_drop]
          rw [this]
          show some (sub s k (plainK s k) ++ (strN s).drop (k + plainK s k), p + (sub s k (plainK s k)).length + (qAll s (k + plainK s k)).length + 1) = _
          congr 2
          omega
        · rw [hsl] at i2
          by_cases h1 : 128 ≤ byteAt s k
          · have hc : chAt s k = plainK s k := by unfold plainK; rw [if_pos h1]
            rw [utf_char h2 hle.1 hc h0, i2]
          · have hp1 : plainK s k = 1 := by
              unfold plainK at h0 ⊢
              rw [if_neg h1] at h0 ⊢
              split at h0
              · exact absurd rfl h0
              · rename_i h3; rw [if_neg h3]
            have hb : sub s k (plainK s k) = [byteAt s k] := by
              apply List.ext_getElem?
              intro i
              rw [hp1]
              match i with
              | 0 => exact sub_at (by omega) (by omega)
              | i + 1 =>
                rw [List.getElem?_eq_none (by rw [sub_len (by omega)]; omega)]
                rfl
            rw [hb] at h2
            rw [utf_asc _ _ p h2 (fun c hc => by simp at hc; omega), ← i2, hp1]
            rfl
    · obtain rfl : k = s.size := by omega
      exact ih s.size p (by omega) hk h
theorem qAll_byt (s : ByteArray) : ∀ (m k : Nat), s.size - k ≤ m → Byt (qAll s k) := by
  intro m
  induction m with
  | zero => intro k hm; rw [qAll_end (by omega)]; exact fun x hx => by simp at hx
  | succ m ih =>
    intro k hm
    by_cases hk : k < s.size
    · rw [qAll_step hk]
      have := qn_pos s k
      exact (qs_byt s k).append (ih _ (by omega))
    · rw [qAll_end hk]; exact fun x hx => by simp at hx
/-- The quoted text. -/
noncomputable def quoteF (s : ByteArray) : ByteArray := ofN (34 :: qAll s 0 ++ [34])
theorem quoteF_str (s : ByteArray) : strN (quoteF s) = 34 :: qAll s 0 ++ [34] := strN_of ((byt_34.append (qAll_byt s _ 0 (Nat.le_refl _))).append byt_34)
theorem quoteF_size (s : ByteArray) : (quoteF s).size = (qAll s 0).length + 2 := by
  unfold quoteF
  rw [ofN_size]
  simp
theorem quoteF_uq (s : ByteArray) : uqAt (quoteF s) 34 1 = some (strN s, (quoteF s).size) ∧ utfAt (quoteF s) 0 = -1 := by
  have h1 : (strN (quoteF s)).drop 1 = qAll s 0 ++ [34] := by rw [quoteF_str]; rfl
  obtain ⟨e1, e2⟩ := back_all (s := s) (Q := quoteF s) _ 0 1 (Nat.le_refl _) (by omega) h1
  refine ⟨?_, ?_⟩
  · rw [e1, quoteF_size]
    congr 2
    omega
  · rw [utf_asc [34] (qAll s 0 ++ [34]) 0 (by rw [quoteF_str]; rfl) (fun c hc => by simp at hc; omega)]
    exact e2
theorem quoteF_0 (s : ByteArray) : byteAt (quoteF s) 0 = 34 := (at_byte (Q := quoteF s) (p := 0) (c := 34) (R := qAll s 0 ++ [34]) (by rw [quoteF_str]; rfl)).2
theorem quoteF_last (s : ByteArray) : byteAt (quoteF s) ((quoteF s).size - 1) = 34 := by
  refine (at_byte (Q := quoteF s) (c := 34) (R := []) ?_).2
  rw [quoteF_size, quoteF_str]
  show (34 :: qAll s 0 ++ [34]).drop ((qAll s 0).length + 1) = [34]
  rw [show (qAll s 0).length + 1 = (34 :: qAll s 0).length from rfl, List.drop_append_of_le_length (Nat.le_refl _)]
  simp
theorem quoteF_unq {s : ByteArray} (h : (quoteF s).size ≤ 65536) : unqR (quoteF s) = (s, 0) := by
  obtain ⟨h1, h2⟩ := quoteF_uq s
  have hz := quoteF_size s
  have hL : unqL (quoteF s) = some (strN s, (quoteF s).size) := by
    rw [unqL_some (by omega) (by rw [quoteF_0]; exact .inr rfl), quoteF_0, h1]
  rw [unqR_ok (by omega) (by rw [h2]; decide) hL]
  congr 1
  apply strN_inj
  exact strN_of (strN_byt s)
theorem quoteF_tok {s : ByteArray} (h : (quoteF s).size ≤ 65536) : tokR (quoteF s) = .inl [⟨3, 0, quoteF s⟩, ⟨5, (quoteF s).size, ⟨#[]⟩⟩] := by
  obtain ⟨h1, h2⟩ := quoteF_uq s
  have hz := quoteF_size s
  have b0 := quoteF_0 s
  have o0 : oneF (quoteF s) 0 = (3, (quoteF s).size, 0) := by
    unfold oneF
    rw [b0, if_neg (by decide), if_neg (by decide), if_pos (.inr rfl), h1]
  rw [tokR_ok (by omega) (by rw [h2]; decide), tk_tok (by omega) (pass_other (by omega) (by rw [b0]; decide) (by rw [b0]; decide)) (by omega) o0, tk_end]
  have hx : (quoteF s).extract 0 (quoteF s).size = quoteF s := by
    apply strN_inj
    rw [strN_extract, List.drop_zero, List.take_of_length_le (by rw [strN_len]; omega)]
  rw [hx]
  rfl
end Go.Proofs.YtdhncpeemcanlaaGreatDoor
