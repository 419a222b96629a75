import Derived.Test.YtmapmegecdgcpaaDoorSZk
import Derived.Test.YtmapmegecdgcpaaDoorQJ
import Derived.Test.YtmapmegecdgcpaaDoorSK
namespace Go.Proofs.YtmapmegecdgcpaaDoor
open Go.RowKit

theorem strN_of {l : List Nat} (h : Byt l) : strN (ofN l) = l := by
  unfold strN ofN
  simp only [List.map_map]
  rw [show l.map _ = l from ?_]
  calc l.map _ = l.map id := List.map_congr_left fun x hx => by
        have := h x hx
        simp [Nat.mod_eq_of_lt this]
    _ = l := List.map_id l
theorem at_byte {Q : ByteArray} {p c : Nat} {R : List Nat} (h : (strN Q).drop p = c :: R) : p < Q.size ∧ byteAt Q p = c := by
  have h0 : ((strN Q).drop p)[0]? = some c := by rw [h]; rfl
  rw [List.getElem?_drop, Nat.add_zero] at h0
  have hl := (List.getElem?_eq_some_iff.1 h0).1
  rw [strN_len] at hl
  rw [strN_at Q p hl] at h0
  exact ⟨hl, Option.some.inj h0⟩
theorem at_next {Q : ByteArray} {p : Nat} {A R : List Nat} (h : (strN Q).drop p = A ++ R) : (strN Q).drop (p + A.length) = R := by
  rw [← List.drop_drop, h, List.drop_append_of_le_length (Nat.le_refl _)]
  simp
theorem uq_plain {Q : ByteArray} : ∀ (A R : List Nat) (p : Nat), (strN Q).drop p = A ++ R → (∀ c ∈ A, c ≠ 34 ∧ c ≠ 0 ∧ c ≠ 10 ∧ c ≠ 92) → uqAt Q 34 p = (uqAt Q 34 (p + A.length)).map fun r => (A ++ r.1, r.2)
  | [], R, p, _, _ => by simp
  | c :: A, R, p, h, hc => by
    obtain ⟨h1, h2⟩ := at_byte h
    obtain ⟨c1, c2, c3, c4⟩ := hc c List.mem_cons_self
    have hp : pieceAt Q p = some (c, 1) := by
      unfold pieceAt
      rw [h2, if_neg (fun o => o.elim c2 c3), if_neg c4]
    have hn : (strN Q).drop (p + 1) = A ++ R := at_next (A := [c]) h
    rw [uq_step h1 (by rw [h2]; exact c1) hp, uq_plain A R (p + 1) hn (fun x hx => hc x (List.mem_cons_of_mem _ hx)), Option.map_map, List.length_cons, show p + 1 + A.length = p + (A.length + 1) by omega]
    rfl
theorem isd8s {a : Nat} (h : a < 8) : isd 8 (48 + a) = some a := by
  have : ∀ x : Fin 8, isd 8 (48 + x.val) = some x.val := by decide
  exact this ⟨a, h⟩
theorem name_dig {a : Nat} (h : a < 4) : nameV (48 + a) = none := by
  have : ∀ x : Fin 4, nameV (48 + x.val) = none := by decide
  exact this ⟨a, h⟩
theorem escL_esc {x : Nat} (hx : x < 256) (R : List Nat) : escL (esc x ++ R) = some (x, (esc x).length) := by
  unfold esc
  by_cases h1 : x = 92 ∨ x = 34
  · rw [if_pos h1]
    rcases h1 with rfl | rfl <;> rfl
  · rw [if_neg h1]
    by_cases h2 : x = 10
    · rw [if_pos h2, h2]; rfl
    · rw [if_neg h2]
      by_cases h3 : x = 13
      · rw [if_pos h3, h3]; rfl
      · rw [if_neg h3]
        by_cases h4 : x = 9
        · rw [if_pos h4, h4]; rfl
        · rw [if_neg h4]
          show escL (92 :: (48 + x / 64) :: (48 + x / 8 % 8) :: (48 + x % 8) :: R) = _
          rw [escL, name_dig (by omega)]
          show (if (48 + x / 64) = 120 ∨ (48 + x / 64) = 88 then _ else fin (drun 8 3 ((48 + x / 64) :: (48 + x / 8 % 8) :: (48 + x % 8) :: R) 0 0) 1) = _
          rw [if_neg (by omega), drun_some (isd8s (by omega)), drun_some (isd8s (by omega)), drun_some (isd8s (by omega)), drun_zero]
          unfold fin
          rw [if_neg (by simp only []; omega)]
          show some (((0 * 8 + x / 64) * 8 + x / 8 % 8) * 8 + x % 8, 1 + (0 + 1 + 1 + 1)) = some (x, 4)
          congr 2
          omega
theorem uq_esc {Q : ByteArray} {x p : Nat} {R : List Nat} (hx : x < 256) (h : (strN Q).drop p = esc x ++ R) : uqAt Q 34 p = (uqAt Q 34 (p + (esc x).length)).map fun r => (x :: r.1, r.2) := by
  obtain ⟨r, hr⟩ : ∃ r, esc x = 92 :: r := by
    unfold esc
    repeat' split
    all_goals exact ⟨_, rfl⟩
  have h' := h
  rw [hr] at h'
  obtain ⟨h1, h2⟩ := at_byte h'
  have hp : pieceAt Q p = some (x, (esc x).length) := by
    unfold pieceAt
    rw [h2, if_neg (by decide), if_pos rfl, h, escL_esc hx]
  exact uq_step h1 (by rw [h2]; decide) hp
theorem utf_asc {Q : ByteArray} : ∀ (A R : List Nat) (p : Nat), (strN Q).drop p = A ++ R → (∀ c ∈ A, c < 128) → utfAt Q p = utfAt Q (p + A.length)
  | [], R, p, _, _ => rfl
  | c :: A, R, p, h, hc => by
    obtain ⟨h1, h2⟩ := at_byte h
    have hl := chAt_low h1 (by rw [h2]; exact hc c List.mem_cons_self)
    have hn : (strN Q).drop (p + 1) = A ++ R := at_next (A := [c]) h
    rw [utf_step h1 (by omega), hl, utf_asc A R (p + 1) hn (fun x hx => hc x (List.mem_cons_of_mem _ hx)), List.length_cons, show p + 1 + A.length = p + (A.length + 1) by omega]
theorem chAt_is {s : ByteArray} {k n : Nat} (h : chAt s k = n) (hn : n ≠ 0) : ∃ c d e, frm (byteAt s k) = some (c, d, e) ∧ LenOkAt s k c d e ∧ n = 1 + c := by
  cases hf : frm (byteAt s k) with
  | none => rw [chAt_none hf] at h; exact absurd h.symm hn
  | some t =>
    obtain ⟨c, d, e⟩ := t
    by_cases hl : LenOkAt s k c d e
    · exact ⟨c, d, e, rfl, hl, by rw [← h, chAt_ok hf hl]⟩
    · rw [chAt_no hf hl] at h; exact absurd h.symm hn
theorem sub_at {s : ByteArray} {k n j : Nat} (hn : k + n ≤ s.size) (hj : j < n) : (sub s k n)[j]? = some (byteAt s (k + j)) := by
  unfold sub
  rw [List.getElem?_take, if_pos hj, List.getElem?_drop, strN_at s (k + j) (by omega)]
theorem utf_char {Q s : ByteArray} {p k n : Nat} {R : List Nat} (h : (strN Q).drop p = sub s k n ++ R) (hk : k + n ≤ s.size) (hc : chAt s k = n) (hn : n ≠ 0) : utfAt Q p = utfAt Q (p + n) := by
  obtain ⟨c, d, e, h1, h2, h3⟩ := chAt_is hc hn
  have hl : (sub s k n).length = n := sub_len hk
  have hQ : p + n ≤ Q.size := by
    have := congrArg List.length h
    rw [List.length_drop, strN_len, List.length_append, hl] at this
    omega
  have hb : ∀ j, j < n → byteAt Q (p + j) = byteAt s (k + j) := fun j hj => by
    have e1 : ((strN Q).drop p)[j]? = some (byteAt s (k + j)) := by rw [h, List.getElem?_append_left (by omega), sub_at hk hj]
    rw [List.getElem?_drop, strN_at Q (p + j) (by omega)] at e1
    exact Option.some.inj e1
  have hf : frm (byteAt Q p) = some (c, d, e) := by
    have := hb 0 (by omega)
    rw [Nat.add_zero, Nat.add_zero] at this
    rw [this, h1]
  have hlen : LenOkAt Q p c d e := by
    refine ⟨by omega, fun j hj1 hj2 => ?_⟩
    rw [hb j (by omega)]
    exact h2.2 j hj1 hj2
  have hQn : chAt Q p = n := by rw [chAt_ok hf hlen, h3]
  rw [utf_step (by omega) (by omega), hQn]
theorem frm_d {x c d e : Nat} (h : frm x = some (c, d, e)) (hx : 128 ≤ x) : 128 ≤ d := by
  unfold frm at h
  repeat' split at h
  all_goals first | omega | (cases h; done) | (obtain ⟨rfl, rfl, rfl⟩ := (by simpa using h : _ ∧ _ ∧ _); omega)
theorem plain_bytes {s : ByteArray} {k : Nat} (hk : k < s.size) (h : ¬ plainK s k = 0) : ∀ c ∈ sub s k (plainK s k), c ≠ 34 ∧ c ≠ 0 ∧ c ≠ 10 ∧ c ≠ 92 := by
  intro c hc
  have hle := plainK_le hk
  obtain ⟨j, hj⟩ := List.getElem?_of_mem hc
  have hjl := (List.getElem?_eq_some_iff.1 hj).1
  rw [sub_len hle.1] at hjl
  rw [sub_at hle.1 hjl] at hj
  have hcj := Option.some.inj hj
  unfold plainK at h hjl hle
  by_cases h1 : 128 ≤ byteAt s k
  · rw [if_pos h1] at h hjl hle
    obtain ⟨c', d, e, f1, f2, f3⟩ := chAt_is rfl h
    have hd := frm_d f1 h1
    have : 128 ≤ c := by
      rw [← hcj]
      by_cases hj0 : j = 0
      · rw [hj0, Nat.add_zero]; exact h1
      · have := (f2.2 j (by omega) (by omega)).1
        split at this <;> omega
    omega
  · rw [if_neg h1] at h hjl
    split at h
    · exact absurd rfl h
    · rename_i h2
      rw [if_neg h2] at hjl
      obtain rfl : j = 0 := by omega
      rw [Nat.add_zero] at hcj
      omega
theorem esc_low {x : Nat} (hx : x < 256) : ∀ c ∈ esc x, c < 128 := by
  intro c hc
  unfold esc at hc
  repeat' split at hc
  all_goals simp at hc
  all_goals omega
theorem back_all {s Q : ByteArray} : ∀ (m k p : Nat), s.size - k ≤ m → k ≤ s.size → (strN Q).drop p = qAll s k ++ [34] → uqAt Q 34 p = some ((strN s).drop k, p + (qAll s k).length + 1) ∧ utfAt Q p = -1 := by
  intro m
  induction m with
  | zero =>
    intro k p hm hk h
    obtain rfl : k = s.size := by omega
    rw [qAll_end (by omega)] at h ⊢
    obtain ⟨h1, h2⟩ := at_byte (Q := Q) (p := p) (c := 34) (R := []) h
    have hl : Q.size = p + 1 := by
      have := congrArg List.length h
      rw [List.length_drop, strN_len] at this
      simp at this
      omega
    refine ⟨?_, ?_⟩
    · rw [uq_quote h1 h2, List.drop_eq_nil_of_le (by rw [strN_len]; omega)]; rfl
    · rw [utf_asc [34] [] p h (fun c hc => by simp at hc; omega), utf_end (by show ¬ p + 1 < Q.size; omega)]
  | succ m ih =>
    intro k p hm hk h
    by_cases hlt : k < s.size
    · have hst := qAll_step hlt
      have hqn := qn_le hlt
      have hqp := qn_pos s k
      have h2 : (strN Q).drop p = qs s k ++ (qAll s (k + qn s k) ++ [34]) := by rw [h, hst, List.append_assoc]
      obtain ⟨i1, i2⟩ := ih (k + qn s k) (p + (qs s k).length) (by omega) hqn (at_next h2)
      have hlen : (qAll s k).length = (qs s k).length + (qAll s (k + qn s k)).length := by rw [hst, List.length_append]
      by_cases h0 : plainK s k = 0
      · have e1 : qs s k = esc (byteAt s k) := by unfold qs; rw [if_pos h0]
        have e2 : qn s k = 1 := by unfold qn; rw [if_pos h0]
        have hx := byteAt_lt s k
        rw [e1] at h2 i1 i2 hlen
        rw [e2] at i1 hlen h2
        refine ⟨?_, ?_⟩
        · rw [uq_esc hx h2, i1, hlen]
          have : (strN s).drop k = byteAt s k :: (strN s).drop (k + 1) := by
            have hk2 : k < (strN s).length := by rw [strN_len]; exact hlt
            rw [List.drop_eq_getElem_cons hk2]
            congr 1
            have := strN_at s k hlt
            rw [List.getElem?_eq_getElem hk2] at this
            exact Option.some.inj this
          rw [this]
          show some (byteAt s k :: (strN s).drop (k + 1), p + (esc (byteAt s k)).length + (qAll s (k + 1)).length + 1) = _
          congr 2
          omega
        · rw [utf_asc _ _ p h2 (esc_low hx), i2]
      · have e1 : qs s k = sub s k (plainK s k) := by unfold qs; rw [if_neg h0]
        have e2 : qn s k = plainK s k := by unfold qn; rw [if_neg h0]
        have hle := plainK_le hlt
        have hsl := sub_len hle.1
        rw [e1] at h2 i1 i2 hlen
        rw [e2] at i1 hlen h2
        refine ⟨?_, ?_⟩
        · rw [uq_plain _ _ p h2 (plain_bytes hlt h0), i1, hlen]
          have : (strN s).drop k = sub s k (plainK s k) ++ (strN s).drop (k + plainK s k) := by
            unfold sub
            rw [← List.drop_drop, List.take_append_drop]
          rw [this]
          show some (sub s k (plainK s k) ++ (strN s).drop (k + plainK s k), p + (sub s k (plainK s k)).length + (qAll s (k + plainK s k)).length + 1) = _
          congr 2
          omega
        · rw [hsl] at i2
          by_cases h1 : 128 ≤ byteAt s k
          · have hc : chAt s k = plainK s k := by unfold plainK; rw [if_pos h1]
            rw [utf_char h2 hle.1 hc h0, i2]
          · have hp1 : plainK s k = 1 := by
              unfold plainK at h0 ⊢
              rw [if_neg h1] at h0 ⊢
              split at h0
              · exact absurd rfl h0
              · rename_i h3; rw [if_neg h3]
            have hb : sub s k (plainK s k) = [byteAt s k] := by
              apply List.ext_getElem?
              intro i
              rw [hp1]
              match i with
              | 0 => exact sub_at (by omega) (by omega)
              | i + 1 =>
                rw [List.getElem?_eq_none (by rw [sub_len (by omega)]; omega)]
                rfl
            rw [hb] at h2
            rw [utf_asc _ _ p h2 (fun c hc => by simp at hc; omega), ← i2, hp1]
            rfl
    · obtain rfl : k = s.size := by omega
      exact ih s.size p (by omega) hk h
theorem qAll_byt (s : ByteArray) : ∀ (m k : Nat), s.size - k ≤ m → Byt (qAll s k) := by
  intro m
  induction m with
  | zero => intro k hm; rw [qAll_end (by omega)]; exact fun x hx => by simp at hx
  | succ m ih =>
    intro k hm
    by_cases hk : k < s.size
    · rw [qAll_step hk]
      have := qn_pos s k
      exact (qs_byt s k).append (ih _ (by omega))
    · rw [qAll_end hk]; exact fun x hx => by simp at hx
/-- The quoted text. -/
noncomputable def quoteF (s : ByteArray) : ByteArray := ofN (34 :: qAll s 0 ++ [34])
theorem quoteF_str (s : ByteArray) : strN (quoteF s) = 34 :: qAll s 0 ++ [34] := strN_of ((byt_34.append (qAll_byt s _ 0 (Nat.le_refl _))).append byt_34)
theorem quoteF_size (s : ByteArray) : (quoteF s).size = (qAll s 0).length + 2 := by
  unfold quoteF
  rw [ofN_size]
  simp
theorem quoteF_uq (s : ByteArray) : uqAt (quoteF s) 34 1 = some (strN s, (quoteF s).size) ∧ utfAt (quoteF s) 0 = -1 := by
  have h1 : (strN (quoteF s)).drop 1 = qAll s 0 ++ [34] := by rw [quoteF_str]; rfl
  obtain ⟨e1, e2⟩ := back_all (s := s) (Q := quoteF s) _ 0 1 (Nat.le_refl _) (by omega) h1
  refine ⟨?_, ?_⟩
  · rw [e1, quoteF_size]
    congr 2
    omega
  · rw [utf_asc [34] (qAll s 0 ++ [34]) 0 (by rw [quoteF_str]; rfl) (fun c hc => by simp at hc; omega)]
    exact e2
theorem quoteF_0 (s : ByteArray) : byteAt (quoteF s) 0 = 34 := (at_byte (Q := quoteF s) (p := 0) (c := 34) (R := qAll s 0 ++ [34]) (by rw [quoteF_str]; rfl)).2
theorem quoteF_last (s : ByteArray) : byteAt (quoteF s) ((quoteF s).size - 1) = 34 := by
  refine (at_byte (Q := quoteF s) (c := 34) (R := []) ?_).2
  rw [quoteF_size, quoteF_str]
  show (34 :: qAll s 0 ++ [34]).drop ((qAll s 0).length + 1) = [34]
  rw [show (qAll s 0).length + 1 = (34 :: qAll s 0).length from rfl, List.drop_append_of_le_length (Nat.le_refl _)]
  simp
theorem quoteF_unq {s : ByteArray} (h : (quoteF s).size ≤ 65536) : unqR (quoteF s) = (s, 0) := by
  obtain ⟨h1, h2⟩ := quoteF_uq s
  have hz := quoteF_size s
  have hL : unqL (quoteF s) = some (strN s, (quoteF s).size) := by
    rw [unqL_some (by omega) (by rw [quoteF_0]; exact .inr rfl), quoteF_0, h1]
  rw [unqR_ok (by omega) (by rw [h2]; decide) hL]
  congr 1
  apply strN_inj
  exact strN_of (strN_byt s)
theorem quoteF_tok {s : ByteArray} (h : (quoteF s).size ≤ 65536) : tokR (quoteF s) = .inl [⟨3, 0, quoteF s⟩, ⟨5, (quoteF s).size, ⟨#[]⟩⟩] := by
  obtain ⟨h1, h2⟩ := quoteF_uq s
  have hz := quoteF_size s
  have b0 := quoteF_0 s
  have o0 : oneF (quoteF s) 0 = (3, (quoteF s).size, 0) := by
    unfold oneF
    rw [b0, if_neg (by decide), if_neg (by decide), if_pos (.inr rfl), h1]
  rw [tokR_ok (by omega) (by rw [h2]; decide), tk_tok (by omega) (pass_other (by omega) (by rw [b0]; decide) (by rw [b0]; decide)) (by omega) o0, tk_end]
  have hx : (quoteF s).extract 0 (quoteF s).size = quoteF s := by
    apply strN_inj
    rw [strN_extract, List.drop_zero, List.take_of_length_le (by rw [strN_len]; omega)]
  rw [hx]
  rfl
end Go.Proofs.YtmapmegecdgcpaaDoor
namespace Go.Proofs.YtmapmegecdgcpaaDoor
open Go.RowKit

/-- What may stand between two tokens. -/
def fills : List (List Nat) := [[32], [10], [9, 11, 12, 13, 32], [32, 47, 47, 32, 99, 32, 34, 32, 39, 10], [32, 47, 42, 32, 39, 32, 42, 32, 47, 32, 42, 47, 32], [32, 32, 47, 42, 42, 47], [32, 47, 42, 47, 42, 47], [32, 47, 47, 10, 47, 47, 10]]
theorem pb {s : ByteArray} {p c : Nat} {R : List Nat} (h : (strN s).drop p = c :: R) (hc : isBlk c) : passF s s.size p = passF s s.size (p + 1) := by
  obtain ⟨h1, h2⟩ := at_byte h
  exact pass_blank h1 (by rw [h2]; exact hc)
theorem nlAt_is {s : ByteArray} : ∀ (A R : List Nat) (p : Nat), (strN s).drop p = A ++ 10 :: R → (∀ c ∈ A, c ≠ 10) → nlAt s p = p + A.length
  | [], R, p, h, _ => by
    obtain ⟨h1, h2⟩ := at_byte h
    rw [nlAt, dif_neg (fun q => q.2 h2)]
    rfl
  | c :: A, R, p, h, hc => by
    obtain ⟨h1, h2⟩ := at_byte h
    rw [nlAt, dif_pos ⟨h1, by rw [h2]; exact hc c List.mem_cons_self⟩, nlAt_is A R (p + 1) (at_next (A := [c]) h) (fun x hx => hc x (List.mem_cons_of_mem _ hx)), List.length_cons]
    omega
def noStar : List Nat → Prop
  | [] => True
  | [_] => True
  | c :: d :: r => ¬ (c = 42 ∧ d = 47) ∧ noStar (d :: r)
theorem starAt_is {s : ByteArray} : ∀ (A R : List Nat) (p : Nat), (strN s).drop p = A ++ 42 :: 47 :: R → noStar A → starAt s p = p + A.length
  | [], R, p, h, _ => by
    obtain ⟨h1, h2⟩ := at_byte h
    obtain ⟨h3, h4⟩ := at_byte (at_next (A := [42]) h)
    rw [starAt, dif_neg (fun q => q.2 ⟨h2, h4⟩)]
    rfl
  | [c], R, p, h, _ => by
    obtain ⟨h1, h2⟩ := at_byte h
    obtain ⟨h3, h4⟩ := at_byte (at_next (A := [c]) h)
    rw [starAt, dif_pos ⟨by show p + 1 < s.size; exact h3, fun q => by have := q.2; rw [show p + 1 = p + [c].length from rfl, h4] at this; omega⟩, starAt_is [] R (p + 1) (at_next (A := [c]) h) trivial]
    rfl
  | c :: d :: A, R, p, h, hn => by
    obtain ⟨h1, h2⟩ := at_byte h
    obtain ⟨h3, h4⟩ := at_byte (at_next (A := [c]) h)
    rw [starAt, dif_pos ⟨by show p + 1 < s.size; exact h3, fun q => hn.1 ⟨h2.symm.trans q.1, by rw [← h4]; exact q.2⟩⟩, starAt_is (d :: A) R (p + 1) (at_next (A := [c]) h) hn.2]
    simp only [List.length_cons]
    omega
theorem pl {s : ByteArray} {p : Nat} (A R : List Nat) (h : (strN s).drop p = 47 :: 47 :: (A ++ 10 :: R)) (hc : ∀ c ∈ A, c ≠ 10) : passF s s.size p = passF s s.size (p + (A.length + 2)) := by
  obtain ⟨h1, h2⟩ := at_byte h
  obtain ⟨h3, h4⟩ := at_byte (at_next (A := [47]) h)
  rw [pass_line h3 h2 h4, nlAt_is (47 :: 47 :: A) R p h (fun c hc2 => by
    rcases List.mem_cons.1 hc2 with rfl | hc2
    · decide
    · rcases List.mem_cons.1 hc2 with rfl | hc2
      · decide
      · exact hc c hc2)]
  rfl
theorem ps {s : ByteArray} {p : Nat} (A R : List Nat) (h : (strN s).drop p = 47 :: 42 :: (A ++ 42 :: 47 :: R)) (hn : noStar A) : passF s s.size p = passF s s.size (p + (A.length + 4)) := by
  obtain ⟨h1, h2⟩ := at_byte h
  obtain ⟨h3, h4⟩ := at_byte (at_next (A := [47]) h)
  have h5 : (strN s).drop (p + 2) = A ++ 42 :: 47 :: R := at_next (A := [47, 42]) h
  have hst := starAt_is A R (p + 2) h5 hn
  obtain ⟨h6, _⟩ := at_byte (at_next (A := [42]) (at_next (A := A) h5))
  have h7 : p + 2 + A.length + 1 < s.size := h6
  rw [pass_star h3 h2 h4 (by rw [hst]; omega), hst, show p + 2 + A.length + 2 = p + (A.length + 4) by omega]
theorem fill_pass {s : ByteArray} {p : Nat} {f R : List Nat} (hf : f ∈ fills) (h : (strN s).drop p = f ++ R) : passF s s.size p = passF s s.size (p + f.length) := by
  simp only [fills, List.mem_cons, List.mem_nil_iff, or_false] at hf
  rcases hf with rfl | rfl | rfl | rfl | rfl | rfl | rfl | rfl
  · exact pb h (by decide)
  · exact pb h (by decide)
  · exact (pb h (by decide)).trans ((pb (at_next (A := [9]) h) (by decide)).trans ((pb (at_next (A := [9, 11]) h) (by decide)).trans ((pb (at_next (A := [9, 11, 12]) h) (by decide)).trans (pb (at_next (A := [9, 11, 12, 13]) h) (by decide)))))
  · exact (pb h (by decide)).trans ((pl [32, 99, 32, 34, 32, 39] R (at_next (A := [32]) h) (by decide)).trans (pb (at_next (A := [32, 47, 47, 32, 99, 32, 34, 32, 39]) h) (by decide)))
  · exact (pb h (by decide)).trans ((ps [32, 39, 32, 42, 32, 47, 32] (32 :: R) (at_next (A := [32]) h) (by simp [noStar])).trans (pb (at_next (A := [32, 47, 42, 32, 39, 32, 42, 32, 47, 32, 42, 47]) h) (by decide)))
  · exact (pb h (by decide)).trans ((pb (at_next (A := [32]) h) (by decide)).trans (ps [] R (at_next (A := [32, 32]) h) trivial))
  · exact (pb h (by decide)).trans (ps [47] R (at_next (A := [32]) h) trivial)
  · exact (pb h (by decide)).trans ((pl [] (47 :: 47 :: 10 :: R) (at_next (A := [32]) h) (by simp)).trans ((pb (at_next (A := [32, 47, 47]) h) (by decide)).trans ((pl [] R (at_next (A := [32, 47, 47, 10]) h) (by simp)).trans (pb (at_next (A := [32, 47, 47, 10, 47, 47]) h) (by decide)))))
theorem fill_low : ∀ f ∈ fills, ∀ c ∈ f, c < 128 := by decide
theorem fill_head : ∀ f ∈ fills, ∃ c r, f = c :: r ∧ isBlk c := by
  intro f hf
  simp only [fills, List.mem_cons, List.mem_nil_iff, or_false] at hf
  rcases hf with rfl | rfl | rfl | rfl | rfl | rfl | rfl | rfl
  all_goals exact ⟨_, _, rfl, by decide⟩
theorem fill_len : ∀ f ∈ fills, f.length ≤ 13 := by decide
theorem fill_byt {f : List Nat} (hf : f ∈ fills) : Byt f := fun c hc => Nat.lt_trans (fill_low f hf c hc) (by decide)
/-- A token of a text. -/
structure GoodT (s : ByteArray) (t : Tok) (e : Nat) : Prop where
  lt : t.place < s.size
  one : oneF s t.place = (t.kind, e, 0)
  text : t.text = s.extract t.place e
  le : e ≤ s.size
  gt : t.place < e
theorem GoodT.size {s : ByteArray} {t : Tok} {e : Nat} (g : GoodT s t e) : t.text.size = e - t.place := by rw [g.text, extract_size s _ _ g.le]
theorem GoodT.str {s : ByteArray} {t : Tok} {e : Nat} (g : GoodT s t e) : strN t.text = sub s t.place (e - t.place) := by rw [g.text, strN_extract]; rfl
theorem endRow_all (s : ByteArray) (k j : Nat) (h1 : k ≤ j) (h2 : j < endRow s k) : isLet (byteAt s j) ∨ isDig (byteAt s j) := by
  rw [endRow] at h2
  split at h2
  · rename_i h
    by_cases e : j = k
    · subst e; exact h.2
    · exact endRow_all s (k + 1) j (by omega) h2
  · omega
termination_by s.size - k
decreasing_by omega
theorem drun_end {B q : Nat} (hq : isd B q = none) (R1 R2 : List Nat) : ∀ (A : List Nat) (f v n : Nat), drun B f (A ++ q :: R1) v n = drun B f (A ++ q :: R2) v n
  | [], f, v, n => by
    show drun B f (q :: R1) v n = drun B f (q :: R2) v n
    rw [drun_none hq, drun_none hq]
  | c :: A, 0, v, n => by rw [drun_zero, drun_zero]
  | c :: A, f + 1, v, n => by
    show drun B (f + 1) (c :: (A ++ q :: R1)) v n = drun B (f + 1) (c :: (A ++ q :: R2)) v n
    cases h : isd B c with
    | none => rw [drun_none h, drun_none h]
    | some d => rw [drun_some h, drun_some h, drun_end hq R1 R2 A f]
theorem escL_end {q : Nat} (hq : q = 39 ∨ q = 34) (R1 R2 : List Nat) (a : Nat) : ∀ (A : List Nat), escL (a :: (A ++ q :: R1)) = escL (a :: (A ++ q :: R2))
  | [] => by
    show escL (a :: q :: R1) = escL (a :: q :: R2)
    rcases hq with rfl | rfl <;> rfl
  | c :: A => by
    show escL (a :: c :: (A ++ q :: R1)) = escL (a :: c :: (A ++ q :: R2))
    have d16 : isd 16 q = none := by rcases hq with rfl | rfl <;> rfl
    have d8 : isd 8 q = none := by rcases hq with rfl | rfl <;> rfl
    rw [escL, escL, drun_end d16 R1 R2 A, show c :: (A ++ q :: R1) = (c :: A) ++ q :: R1 from rfl, show c :: (A ++ q :: R2) = (c :: A) ++ q :: R2 from rfl, drun_end d8 R1 R2 (c :: A)]
theorem uq_copy {s Q : ByteArray} {q : Nat} (hq : q = 39 ∨ q = 34) : ∀ (m : Nat) (A R1 R2 l : List Nat) (k p : Nat), A.length ≤ m → (strN s).drop k = A ++ q :: R1 → (strN Q).drop p = A ++ q :: R2 → uqAt s q k = some (l, k + A.length + 1) → uqAt Q q p = some (l, p + A.length + 1) := by
  intro m
  induction m with
  | zero =>
    intro A R1 R2 l k p hm h1 h2 hu
    obtain rfl := List.eq_nil_of_length_eq_zero (Nat.le_zero.1 hm)
    obtain ⟨a1, a2⟩ := at_byte h1
    obtain ⟨b1, b2⟩ := at_byte h2
    rw [uq_quote a1 a2] at hu
    have := (Prod.mk.inj (Option.some.inj hu)).1
    rw [uq_quote b1 b2, ← this]
    rfl
  | succ m ih =>
    intro A R1 R2 l k p hm h1 h2 hu
    cases A with
    | nil => exact ih [] R1 R2 l k p (by simp) h1 h2 hu
    | cons c A =>
      obtain ⟨a1, a2⟩ := at_byte h1
      obtain ⟨b1, b2⟩ := at_byte h2
      by_cases hcq : c = q
      · rw [uq_quote a1 (a2.trans hcq)] at hu
        have := (Prod.mk.inj (Option.some.inj hu)).2
        rw [List.length_cons] at this
        omega
      · have hp : pieceAt Q p = pieceAt s k := by
          unfold pieceAt
          rw [a2, b2, h1, h2]
          split
          · rfl
          · split
            · exact (escL_end hq R1 R2 c A).symm
            · rfl
        cases hpe : pieceAt s k with
        | none => rw [uq_bad a1 (by rw [a2]; exact hcq) hpe] at hu; cases hu
        | some t =>
          obtain ⟨b, n⟩ := t
          obtain ⟨p1, p2, p3⟩ := pieceAt_pos hpe a1
          rw [uq_step a1 (by rw [a2]; exact hcq) hpe] at hu
          obtain ⟨⟨l', e'⟩, hu1, hu2⟩ := Option.map_eq_some_iff.1 hu
          obtain ⟨rfl, he⟩ := Prod.mk.inj hu2
          have he : e' = k + (c :: A).length + 1 := he
          obtain ⟨u1, _⟩ := uq_le _ (k + n) l' e' (Nat.le_refl _) hu1
          have hn : n ≤ (c :: A).length := by omega
          have hsplit : c :: A = (c :: A).take n ++ (c :: A).drop n := (List.take_append_drop n _).symm
          have hl : ((c :: A).take n).length = n := by rw [List.length_take]; omega
          have g1 : (strN s).drop (k + n) = (c :: A).drop n ++ q :: R1 := by
            have := at_next (Q := s) (p := k) (A := (c :: A).take n) (R := (c :: A).drop n ++ q :: R1) (by rw [h1, ← List.append_assoc, ← hsplit])
            rwa [hl] at this
          have g2 : (strN Q).drop (p + n) = (c :: A).drop n ++ q :: R2 := by
            have := at_next (Q := Q) (p := p) (A := (c :: A).take n) (R := (c :: A).drop n ++ q :: R2) (by rw [h2, ← List.append_assoc, ← hsplit])
            rwa [hl] at this
          have hdl : ((c :: A).drop n).length = (c :: A).length - n := List.length_drop
          have hi := ih ((c :: A).drop n) R1 R2 l' (k + n) (p + n) (by rw [List.length_cons] at hm hdl; omega) g1 g2 (by rw [hu1, he, hdl]; congr 2; omega)
          rw [uq_step b1 (by rw [b2]; exact hcq) (hp.trans hpe), hi, hdl]
          show some (b :: l', p + n + ((c :: A).length - n) + 1) = _
          congr 2
          omega
theorem uq_last {s : ByteArray} {q : Nat} : ∀ {k : Nat} {l : List Nat} {e : Nat}, uqAt s q k = some (l, e) → byteAt s (e - 1) = q := by
  have : ∀ (m k : Nat) (l : List Nat) (e : Nat), s.size - k ≤ m → uqAt s q k = some (l, e) → byteAt s (e - 1) = q := by
    intro m
    induction m with
    | zero => intro k l e hm h; rw [uq_end (by omega)] at h; cases h
    | succ m ih =>
      intro k l e hm h
      by_cases hk : k < s.size
      · by_cases hq : byteAt s k = q
        · rw [uq_quote hk hq] at h
          have := (Prod.mk.inj (Option.some.inj h)).2
          rw [← this]
          exact hq
        · cases hp : pieceAt s k with
          | none => rw [uq_bad hk hq hp] at h; cases h
          | some t =>
            obtain ⟨b, n⟩ := t
            obtain ⟨p1, p2, p3⟩ := pieceAt_pos hp hk
            rw [uq_step hk hq hp] at h
            obtain ⟨⟨l', e'⟩, h1, h2⟩ := Option.map_eq_some_iff.1 h
            have h3 : e' = e := (Prod.mk.inj h2).2
            rw [← h3]
            exact ih (k + n) l' e' (by omega) h1
      · rw [uq_end hk] at h; cases h
  intro k l e h
  exact this _ k l e (Nat.le_refl _) h
/-- A copy of a token, with a blank behind it, is that token. -/
theorem one_copy {s B : ByteArray} {t : Tok} {e p c : Nat} {R : List Nat} (g : GoodT s t e) (h : (strN B).drop p = strN t.text ++ c :: R) (hc : isBlk c) : oneF B p = (t.kind, p + t.text.size, 0) ∧ passF B B.size p = (p, true) ∧ p < B.size ∧ B.extract p (p + t.text.size) = t.text := by
  have hsz := g.size
  have hgt := g.gt
  have hle := g.le
  have hone := g.one
  have hlen : (strN t.text).length = t.text.size := strN_len _
  have hBl : p + t.text.size + 1 ≤ B.size := by
    have := congrArg List.length h
    rw [List.length_drop, strN_len, List.length_append, hlen, List.length_cons] at this
    omega
  have hb : ∀ j, j < t.text.size → byteAt B (p + j) = byteAt s (t.place + j) := fun j hj => by
    have e1 : ((strN B).drop p)[j]? = some (byteAt s (t.place + j)) := by rw [h, List.getElem?_append_left (by omega), g.str, sub_at (by omega) (by omega)]
    rw [List.getElem?_drop, strN_at B (p + j) (by omega)] at e1
    exact Option.some.inj e1
  have hbn : byteAt B (p + t.text.size) = c := by
    have := (at_byte (at_next (A := strN t.text) h)).2
    rwa [hlen] at this
  have hb0 : byteAt B p = byteAt s t.place := by
    have := hb 0 (by omega)
    rwa [Nat.add_zero, Nat.add_zero] at this
  have hx : B.extract p (p + t.text.size) = t.text := by
    apply strN_inj
    rw [strN_extract, h, show p + t.text.size - p = (strN t.text).length by omega, List.take_left']
    rfl
  have hcn : ¬ (isLet c ∨ isDig c) := by unfold isBlk at hc; unfold isLet isDig; omega
  have hrow : endRow s t.place = e → endRow B p = p + t.text.size := fun he => by
    refine endRow_is B t.text.size p (fun j hj => ⟨by omega, ?_⟩) (fun _ => by rw [hbn]; exact hcn)
    rw [hb j hj]
    exact endRow_all s t.place (t.place + j) (by omega) (by omega)
  refine ⟨?_, ?_, by omega, hx⟩
  · unfold oneF at hone ⊢
    rw [hb0]
    by_cases h1 : isLet (byteAt s t.place)
    · rw [if_pos h1] at hone ⊢
      obtain ⟨e1, e2⟩ := Prod.mk.inj hone
      have e3 := (Prod.mk.inj e2).1
      rw [hrow e3, ← e1]
    · rw [if_neg h1] at hone ⊢
      by_cases h2 : isDig (byteAt s t.place)
      · rw [if_pos h2] at hone ⊢
        split at hone
        · cases (Prod.mk.inj (Prod.mk.inj hone).2).2
        · rename_i hw
          obtain ⟨e1, e2⟩ := Prod.mk.inj hone
          have e3 := (Prod.mk.inj e2).1
          rw [hrow e3, hx, if_neg (by rw [g.text, ← e3]; exact hw), ← e1]
      · rw [if_neg h2] at hone ⊢
        by_cases h3 : byteAt s t.place = 39 ∨ byteAt s t.place = 34
        · rw [if_pos h3] at hone ⊢
          split at hone
          · cases (Prod.mk.inj (Prod.mk.inj hone).2).2
          · rename_i l e' hu
            obtain ⟨e1, e2⟩ := Prod.mk.inj hone
            have e3 : e' = e := (Prod.mk.inj e2).1
            subst e3
            have hend := uq_last hu
            obtain ⟨u1, u2, _⟩ := uq_le _ (t.place + 1) l e' (Nat.le_refl _) hu
            obtain ⟨A, hA⟩ : ∃ A, A = sub s (t.place + 1) (e' - t.place - 2) := ⟨_, rfl⟩
            have hAl : A.length = e' - t.place - 2 := by rw [hA]; exact sub_len (by omega)
            have hs1 : (strN s).drop (t.place + 1) = A ++ byteAt s t.place :: (strN s).drop e' := by
              have hk2 : e' - 1 < (strN s).length := by rw [strN_len]; omega
              have hd : (strN s).drop (e' - 1) = byteAt s t.place :: (strN s).drop e' := by
                rw [List.drop_eq_getElem_cons hk2, show e' - 1 + 1 = e' by omega]
                congr 1
                have := strN_at s (e' - 1) (by omega)
                rw [List.getElem?_eq_getElem hk2] at this
                exact (Option.some.inj this).trans hend
              rw [← hd, hA]
              unfold sub
              rw [show (strN s).drop (e' - 1) = ((strN s).drop (t.place + 1)).drop (e' - t.place - 2) by rw [List.drop_drop]; congr 1; omega, List.take_append_drop]
            have hs2 : (strN B).drop (p + 1) = A ++ byteAt s t.place :: (c :: R) := by
              have ht : strN t.text = byteAt s t.place :: (A ++ [byteAt s t.place]) := by
                rw [g.str]
                unfold sub
                have hk3 : t.place < (strN s).length := by rw [strN_len]; omega
                rw [List.drop_eq_getElem_cons hk3, hs1]
                have h00 : (strN s)[t.place] = byteAt s t.place := by
                  have := strN_at s t.place (by omega)
                  rw [List.getElem?_eq_getElem hk3] at this
                  exact Option.some.inj this
                rw [h00, show e' - t.place = (A.length + 1) + 1 by omega, List.take_succ_cons]
                congr 1
                rw [List.take_append, List.take_of_length_le (by omega), show A.length + 1 - A.length = 1 by omega]
                rfl
              have := at_next (Q := B) (p := p) (A := [byteAt s t.place]) (R := A ++ byteAt s t.place :: (c :: R)) (by rw [h, ht]; simp)
              exact this
            have hc2 := uq_copy h3 A.length A _ _ l (t.place + 1) (p + 1) (Nat.le_refl _) hs1 hs2 (by rw [hu]; congr 2; omega)
            rw [hc2, ← e1]
            show (3, p + 1 + A.length + 1, 0) = _
            congr 2
            omega
        · rw [if_neg h3] at hone ⊢
          split at hone
          · rename_i h4
            obtain ⟨e1, e2⟩ := Prod.mk.inj hone
            have e3 := (Prod.mk.inj e2).1
            rw [if_pos h4, ← e1, show t.text.size = 1 by omega]
          · cases (Prod.mk.inj (Prod.mk.inj hone).2).2
  · have hnb : ¬ isBlk (byteAt s t.place) ∧ ¬ byteAt s t.place = 47 := by
      have hcls : isLet (byteAt s t.place) ∨ isDig (byteAt s t.place) ∨ (byteAt s t.place = 39 ∨ byteAt s t.place = 34) ∨ isSgn (byteAt s t.place) := by
        unfold oneF at hone
        by_cases h1 : isLet (byteAt s t.place)
        · exact .inl h1
        · rw [if_neg h1] at hone
          by_cases h2 : isDig (byteAt s t.place)
          · exact .inr (.inl h2)
          · rw [if_neg h2] at hone
            by_cases h3 : byteAt s t.place = 39 ∨ byteAt s t.place = 34
            · exact .inr (.inr (.inl h3))
            · rw [if_neg h3] at hone
              by_cases h4 : isSgn (byteAt s t.place)
              · exact .inr (.inr (.inr h4))
              · rw [if_neg h4] at hone
                cases (Prod.mk.inj (Prod.mk.inj hone).2).2
      unfold isLet isDig isSgn at hcls
      unfold isBlk
      simp only [List.mem_cons, List.mem_nil_iff, or_false] at hcls
      omega
    exact pass_other (by omega) (by rw [hb0]; exact hnb.1) (by rw [hb0]; exact hnb.2)
end Go.Proofs.YtmapmegecdgcpaaDoor
namespace Go.Proofs.YtmapmegecdgcpaaDoor
open Go.RowKit

def endT (s : ByteArray) : Tok := ⟨5, s.size, ⟨#[]⟩⟩
/-- Tokens that stand one behind the other, from k on. -/
def Rise (s : ByteArray) : Nat → List Tok → Prop
  | _, [] => True
  | k, t :: r => k ≤ t.place ∧ t.place + t.text.size ≤ s.size ∧ s.extract t.place (t.place + t.text.size) = t.text ∧ 1 ≤ t.kind ∧ t.kind ≤ 5 ∧ (t.text.size = 0 ↔ r = []) ∧ Rise s (t.place + t.text.size) r
theorem tok_struct {s : ByteArray} : ∀ (f k n : Nat) (ts : List Tok), k ≤ s.size → n ≤ 16383 → tokF s f k n = .inl ts → ∃ pre, ts = pre ++ [endT s] ∧ (∀ t ∈ pre, ∃ e, GoodT s t e) ∧ n + pre.length ≤ 16383 ∧ Rise s k ts := by
  intro f
  induction f with
  | zero => intro k n ts _ _ h; cases h
  | succ f ih =>
    intro k n ts hk hn h
    have hp := passF_le s s.size k hk
    rw [tokF] at h
    split at h
    · cases h
    · split at h
      · rename_i h1 h2
        refine ⟨[], ?_, fun t ht => by simp at ht, by simpa using hn, ?_⟩
        · rw [← Sum.inl.inj h, h2]; rfl
        · rw [← Sum.inl.inj h, h2]
          refine ⟨by show k ≤ s.size; exact hk, by show s.size + 0 ≤ s.size; omega, ?_, by show 1 ≤ 5; decide, by show 5 ≤ 5; decide, ⟨fun _ => rfl, fun _ => rfl⟩, trivial⟩
          show s.extract s.size (s.size + 0) = ⟨#[]⟩
          exact isEmptyT (by rw [ByteArray.size_extract]; omega)
      · split at h
        · cases h
        · split at h
          · rename_i h1 h2 h3 h4
            have hlt : (passF s s.size k).1 < s.size := by omega
            have hol := oneF_le hlt h4
            generalize hq : (passF s s.size k).1 = q at h hp hlt hol h4
            cases hr : tokF s f (oneF s q).2.1 (n + 1) with
            | inr e => rw [hr] at h; cases h
            | inl l =>
              rw [hr] at h
              obtain ⟨pre, e1, e2, e3, e4⟩ := ih (oneF s q).2.1 (n + 1) l hol.2 (by omega) hr
              have hts := Sum.inl.inj h
              have hg : GoodT s ⟨(oneF s q).1, q, s.extract q (oneF s q).2.1⟩ (oneF s q).2.1 := by
                refine ⟨hlt, ?_, rfl, hol.2, hol.1⟩
                show oneF s q = ((oneF s q).1, (oneF s q).2.1, 0)
                rw [← h4]
              have hsz : (s.extract q (oneF s q).2.1).size = (oneF s q).2.1 - q := extract_size s _ _ hol.2
              refine ⟨⟨(oneF s q).1, q, s.extract q (oneF s q).2.1⟩ :: pre, ?_, ?_, by rw [List.length_cons]; omega, ?_⟩
              · rw [← hts, e1]; rfl
              · intro t ht
                rcases List.mem_cons.1 ht with rfl | ht
                · exact ⟨_, hg⟩
                · exact e2 t ht
              · rw [← hts]
                have hkind : 1 ≤ (oneF s q).1 ∧ (oneF s q).1 ≤ 5 := by
                  unfold oneF at h4 ⊢
                  by_cases g1 : isLet (byteAt s q)
                  · rw [if_pos g1]; simp
                  · rw [if_neg g1] at h4 ⊢
                    by_cases g2 : isDig (byteAt s q)
                    · rw [if_pos g2] at h4 ⊢
                      split at h4
                      · cases h4
                      · rename_i g; rw [if_neg g]; simp
                    · rw [if_neg g2] at h4 ⊢
                      by_cases g3 : byteAt s q = 39 ∨ byteAt s q = 34
                      · rw [if_pos g3] at h4 ⊢
                        split at h4
                        · cases h4
                        · show 1 ≤ 3 ∧ 3 ≤ 5; decide
                      · rw [if_neg g3] at h4 ⊢
                        split at h4
                        · rename_i g; rw [if_pos g]; simp
                        · cases h4
                have hend : q + (s.extract q (oneF s q).2.1).size = (oneF s q).2.1 := by rw [hsz]; omega
                refine ⟨hp.1, ?_, ?_, hkind.1, hkind.2, ?_, ?_⟩
                · show q + (s.extract q (oneF s q).2.1).size ≤ s.size; omega
                · show s.extract q (q + (s.extract q (oneF s q).2.1).size) = _; rw [hend]
                · show (s.extract q (oneF s q).2.1).size = 0 ↔ l = []
                  constructor
                  · intro z; omega
                  · intro z; rw [e1] at z; simp at z
                · show Rise s (q + (s.extract q (oneF s q).2.1).size) l
                  rw [hend]
                  exact e4
          · cases h
theorem utf_hit {s : ByteArray} : ∀ (m k a : Nat), a - k ≤ m → k ≤ a → a < s.size → byteAt s a < 128 → utfAt s k = -1 → utfAt s a = -1 := by
  intro m
  induction m with
  | zero => intro k a hm hk ha hb hu; obtain rfl : k = a := by omega
            exact hu
  | succ m ih =>
    intro k a hm hk ha hb hu
    by_cases e : k = a
    · subst e; exact hu
    · have hks : k < s.size := by omega
      by_cases h0 : chAt s k = 0
      · rw [utf_bad hks h0] at hu; omega
      · rw [utf_step hks h0] at hu
        have hle : k + chAt s k ≤ a := by
          obtain ⟨c, d, e', f1, f2, f3⟩ := chAt_is rfl h0
          by_cases hq : a < k + chAt s k
          · have := (f2.2 (a - k) (by omega) (by omega)).1
            rw [show k + (a - k) = a by omega] at this
            have hx : 128 ≤ byteAt s k := by
              by_cases hx : 128 ≤ byteAt s k
              · exact hx
              · have := chAt_low hks (by omega); omega
            have hd := frm_d f1 hx
            split at this <;> omega
          · omega
        exact ih _ a (by omega) hle ha hb hu
theorem utf_copy {s B : ByteArray} : ∀ (m a e p : Nat) (R : List Nat), e - a ≤ m → a ≤ e → e ≤ s.size → (a < e → byteAt s (e - 1) < 128) → utfAt s a = -1 → (strN B).drop p = sub s a (e - a) ++ R → utfAt B p = utfAt B (p + (e - a)) := by
  intro m
  induction m with
  | zero => intro a e p R hm ha he _ _ _; rw [show e - a = 0 by omega]; rfl
  | succ m ih =>
    intro a e p R hm ha he hl hu h
    by_cases hae : a < e
    · have has : a < s.size := by omega
      by_cases h0 : chAt s a = 0
      · rw [utf_bad has h0] at hu; omega
      · have hn := chAt_le s a (by omega)
        have hle : a + chAt s a ≤ e := by
          obtain ⟨c, d, e', f1, f2, f3⟩ := chAt_is rfl h0
          by_cases hq : e < a + chAt s a
          · have hb := hl hae
            by_cases h1 : e - 1 = a
            · rw [h1] at hb
              have := chAt_low has hb; omega
            · have := (f2.2 (e - 1 - a) (by omega) (by omega)).1
              rw [show a + (e - 1 - a) = e - 1 by omega] at this
              have hx : 128 ≤ byteAt s a := by
                by_cases hx : 128 ≤ byteAt s a
                · exact hx
                · have := chAt_low has (by omega); omega
              have hd := frm_d f1 hx
              split at this <;> omega
          · omega
        rw [utf_step has h0] at hu
        have hsplit : sub s a (e - a) = sub s a (chAt s a) ++ sub s (a + chAt s a) (e - (a + chAt s a)) := by
          unfold sub
          rw [← List.drop_drop, show e - a = chAt s a + (e - (a + chAt s a)) by omega, List.take_add]
        rw [hsplit, List.append_assoc] at h
        have hsl : (sub s a (chAt s a)).length = chAt s a := sub_len hn.1
        have hnx := at_next h
        rw [hsl] at hnx
        rw [utf_char h hn.1 rfl h0, ih (a + chAt s a) e (p + chAt s a) R (by omega) hle he (fun _ => hl hae) hu hnx]
        congr 1
        omega
    · rw [show e - a = 0 by omega]; rfl
theorem GoodT.ends {s : ByteArray} {t : Tok} {e : Nat} (g : GoodT s t e) : byteAt s t.place < 128 ∧ byteAt s (e - 1) < 128 := by
  have hone := g.one
  have hgt := g.gt
  unfold oneF at hone
  have hlow : ∀ j, t.place ≤ j → j < endRow s t.place → byteAt s j < 128 := fun j h1 h2 => by
    have := endRow_all s t.place j h1 h2
    unfold isLet isDig at this
    omega
  by_cases h1 : isLet (byteAt s t.place)
  · rw [if_pos h1] at hone
    have e3 := (Prod.mk.inj (Prod.mk.inj hone).2).1
    exact ⟨hlow _ (Nat.le_refl _) (by omega), hlow _ (by omega) (by omega)⟩
  · rw [if_neg h1] at hone
    by_cases h2 : isDig (byteAt s t.place)
    · rw [if_pos h2] at hone
      split at hone
      · cases (Prod.mk.inj (Prod.mk.inj hone).2).2
      · have e3 := (Prod.mk.inj (Prod.mk.inj hone).2).1
        exact ⟨hlow _ (Nat.le_refl _) (by omega), hlow _ (by omega) (by omega)⟩
    · rw [if_neg h2] at hone
      by_cases h3 : byteAt s t.place = 39 ∨ byteAt s t.place = 34
      · rw [if_pos h3] at hone
        split at hone
        · cases (Prod.mk.inj (Prod.mk.inj hone).2).2
        · rename_i l e' hu
          have e3 : e' = e := (Prod.mk.inj (Prod.mk.inj hone).2).1
          subst e3
          have := uq_last hu
          omega
      · rw [if_neg h3] at hone
        split at hone
        · rename_i h4
          have e3 := (Prod.mk.inj (Prod.mk.inj hone).2).1
          unfold isSgn at h4
          simp only [List.mem_cons, List.mem_nil_iff, or_false] at h4
          rw [← e3, Nat.add_sub_cancel]
          omega
        · cases (Prod.mk.inj (Prod.mk.inj hone).2).2
/-- The tokens' texts, with something behind each. -/
def flatB (fi : Nat → List Nat) : Nat → List Tok → List Nat
  | _, [] => []
  | i, t :: r => strN t.text ++ fi i ++ flatB fi (i + 1) r
def kinds (ts : List Tok) : List (Nat × ByteArray) := ts.map fun t => (t.kind, t.text)
theorem retok {s B : ByteArray} {fi : Nat → List Nat} (hfi : ∀ i, fi i ∈ fills) (hu : utfAt s 0 = -1) : ∀ (pre : List Tok) (i p n : Nat), (∀ t ∈ pre, ∃ e, GoodT s t e) → (strN B).drop p = flatB fi i (pre ++ [endT s]) → n + pre.length ≤ 16383 → (∃ ts', tk B p n = .inl ts' ∧ kinds ts' = kinds (pre ++ [endT s])) ∧ utfAt B p = -1 := by
  intro pre
  induction pre with
  | nil =>
    intro i p n _ h hn
    have h2 : (strN B).drop p = fi i ++ [] := by rw [h]; show strN ⟨#[]⟩ ++ fi i ++ [] = _; rfl
    have hl : p + (fi i).length = B.size := by
      obtain ⟨c, r, hc, _⟩ := fill_head _ (hfi i)
      have := congrArg List.length h2
      rw [List.length_drop, strN_len, List.append_nil] at this
      have h3 : 0 < (fi i).length := by rw [hc]; simp
      omega
    have hp := fill_pass (hfi i) h2
    rw [hl, pass_end] at hp
    refine ⟨⟨[endT B], tkG_end hp, rfl⟩, ?_⟩
    rw [utf_asc _ _ p h2 (fill_low _ (hfi i)), hl, utf_end (by omega)]
  | cons t r ih =>
    intro i p n hg h hn
    obtain ⟨e, g⟩ := hg t List.mem_cons_self
    obtain ⟨c, fr, hfc, hcb⟩ := fill_head _ (hfi i)
    have h2 : (strN B).drop p = strN t.text ++ (fi i ++ flatB fi (i + 1) (r ++ [endT s])) := by rw [h, ← List.append_assoc]; rfl
    have h3 : (strN B).drop p = strN t.text ++ c :: (fr ++ flatB fi (i + 1) (r ++ [endT s])) := by rw [h2, hfc]; rfl
    obtain ⟨o1, o2, o3, o4⟩ := one_copy g h3 hcb
    have h4 := at_next h2
    rw [strN_len] at h4
    have h5 := at_next h4
    rw [List.length_cons] at hn
    obtain ⟨⟨ts', i1, i2⟩, i3⟩ := ih (i + 1) _ (n + 1) (fun x hx => hg x (List.mem_cons_of_mem _ hx)) h5 (by omega)
    have hgs := g.size
    have hend := g.ends
    have hgt := g.gt
    refine ⟨⟨⟨t.kind, p, t.text⟩ :: ts', ?_, ?_⟩, ?_⟩
    · rw [tk_tok o3 o2 (by omega) o1, o4, tk_pass (n + 1) (fill_pass (hfi i) h4), i1]
      rfl
    · show (t.kind, t.text) :: kinds ts' = (t.kind, t.text) :: kinds (r ++ [endT s])
      rw [i2]
    · have hua := utf_hit (s := s) _ 0 t.place (Nat.le_refl _) (by omega) g.lt hend.1 hu
      have hcp := utf_copy (s := s) (B := B) _ t.place e p _ (Nat.le_refl _) (by omega) g.le (fun _ => hend.2) hua (by rw [← g.str]; exact h2)
      rw [hcp, ← hgs, utf_asc _ _ _ h4 (fill_low _ (hfi i)), i3]
end Go.Proofs.YtmapmegecdgcpaaDoor
namespace Go.Proofs.YtmapmegecdgcpaaDoor
open Go.RowKit
attribute [local go_sem ↓] Go.wp_at_zero Go.wp_at_succ

def fillF (z : Int) : List Nat := fills.getD (z % 8).toNat []
theorem fillF_mem (z : Int) : fillF z ∈ fills := by
  have h1 : 0 ≤ z % 8 := by omega
  have h2 : z % 8 < 8 := by omega
  obtain ⟨j, hj⟩ : ∃ j : Nat, (z % 8).toNat = j ∧ j < 8 := ⟨_, rfl, by omega⟩
  unfold fillF
  rw [hj.1]
  have : ∀ j : Fin 8, fills.getD j.val [] ∈ fills := by decide
  exact this ⟨j, hj.2⟩
def fillS : List Value := [.string ⟨#[32]⟩, .string ⟨#[10]⟩, .string ⟨#[9, 11, 12, 13, 32]⟩, .string ⟨#[32, 47, 47, 32, 99, 32, 34, 32, 39, 10]⟩, .string ⟨#[32, 47, 42, 32, 39, 32, 42, 32, 47, 32, 42, 47, 32]⟩, .string ⟨#[32, 32, 47, 42, 42, 47]⟩, .string ⟨#[32, 47, 42, 47, 42, 47]⟩, .string ⟨#[32, 47, 47, 10, 47, 47, 10]⟩]
theorem fillS_at : ∀ j : Nat, j < 8 → fillS[j]? = some (.string (ofN (fills.getD j [])))
  | 0, _ => rfl | 1, _ => rfl | 2, _ => rfl | 3, _ => rfl | 4, _ => rfl | 5, _ => rfl | 6, _ => rfl | 7, _ => rfl
  | _ + 8, h => by omega
set_option maxRecDepth 100000 in
set_option maxHeartbeats 1000000 in
theorem fill_any (W : World) (z : Int) (hz : -9223372036854775808 ≤ z ∧ z ≤ 9223372036854775807) :
    Calls Tryd.prog 10 #[.int .i64 z] W fun e w => e = .returned (.string (ofN (fillF z))) ∧ Below W.heap.size W w := by
  obtain ⟨hz1, hz2⟩ := hz
  have HB : Hid (Below W.heap.size W (W.alloc (.cells #[.string ⟨#[32]⟩, .string ⟨#[10]⟩, .string ⟨#[9, 11, 12, 13, 32]⟩, .string ⟨#[32, 47, 47, 32, 99, 32, 34, 32, 39, 10]⟩, .string ⟨#[32, 47, 42, 32, 39, 32, 42, 32, 47, 32, 42, 47, 32]⟩, .string ⟨#[32, 32, 47, 42, 42, 47]⟩, .string ⟨#[32, 47, 42, 47, 42, 47]⟩, .string ⟨#[32, 47, 47, 10, 47, 47, 10]⟩] 9))) := (Below.refl _ _).alloc (Nat.le_refl _) _
  have hcell : ∀ j, j < 8 → (W.alloc (.cells #[.string ⟨#[32]⟩, .string ⟨#[10]⟩, .string ⟨#[9, 11, 12, 13, 32]⟩, .string ⟨#[32, 47, 47, 32, 99, 32, 34, 32, 39, 10]⟩, .string ⟨#[32, 47, 42, 32, 39, 32, 42, 32, 47, 32, 42, 47, 32]⟩, .string ⟨#[32, 32, 47, 42, 42, 47]⟩, .string ⟨#[32, 47, 42, 47, 42, 47]⟩, .string ⟨#[32, 47, 47, 10, 47, 47, 10]⟩] 9)).cell? ⟨W.heap.size, j, none⟩ = some (.string (ofN (fills.getD j []))) := fun j hj => by
    rw [cell_of_row _ _ _ _ _ _ (heap_new W _), ← Array.getElem?_toList]
    exact fillS_at j hj
  obtain ⟨r, hr⟩ : ∃ r, z.tmod 8 = r := ⟨_, rfl⟩
  have hr1 : -8 < r ∧ r < 8 ∧ ((0 ≤ r ∧ z % 8 = r) ∨ (r < 0 ∧ z % 8 = r + 8)) := by
    rcases Int.le_total 0 z with h | h
    · have h2 : z.tmod 8 = z % 8 := Int.tmod_eq_emod_of_nonneg h
      omega
    · have h2 : (-z).tmod 8 = (-z) % 8 := Int.tmod_eq_emod_of_nonneg (by omega)
      rw [Int.neg_tmod] at h2
      omega
  obtain ⟨b1, b2, b3⟩ := hr1
  have hfi : fillF z = fills.getD (z % 8).toNat [] := rfl
  rcases b3 with ⟨b3, b4⟩ | ⟨b3, b4⟩
  · obtain ⟨j, rfl⟩ : ∃ j : Nat, r = (j : Int) := ⟨r.toNat, by omega⟩
    have hc := hcell j (by omega)
    rw [b4, Int.toNat_natCast] at hfi
    rw [hfi]
    have q1 : decide ((j : Int) < 0) = false := by simp
    have j0 : (0 : Int) ≤ (j : Int) := Int.natCast_nonneg _
    clear hcell b4 hfi
    go_enter Tryd.func10, Tryd.ntmps10
    go_wp2
    go_ret
    exact ⟨rfl, unhide HB⟩
  · obtain ⟨j, hj⟩ : ∃ j : Nat, r + 8 = (j : Int) := ⟨(r + 8).toNat, by omega⟩
    have hc := hcell j (by omega)
    rw [b4, hj, Int.toNat_natCast] at hfi
    rw [hfi]
    have q1 : decide (r < 0) = true := by simp; omega
    have j0 : (0 : Int) ≤ (j : Int) := Int.natCast_nonneg _
    have j1 : (j : Int) < 8 := by omega
    clear hcell b4 hfi
    go_enter Tryd.func10, Tryd.ntmps10
    go_wp2
    go_ret
    exact ⟨rfl, unhide HB⟩
theorem kinds_at {ts ts' : List Tok} (h : kinds ts' = kinds ts) {i : Nat} {t : Tok} (ht : ts[i]? = some t) : ∃ t', ts'[i]? = some t' ∧ t'.kind = t.kind ∧ t'.text = t.text := by
  have h1 : (kinds ts)[i]? = some (t.kind, t.text) := by unfold kinds; rw [List.getElem?_map, ht]; rfl
  rw [← h] at h1
  unfold kinds at h1
  rw [List.getElem?_map] at h1
  obtain ⟨t', h2, h3⟩ := Option.map_eq_some_iff.1 h1
  exact ⟨t', h2, (Prod.mk.inj h3).1, (Prod.mk.inj h3).2⟩
set_option maxRecDepth 100000 in
set_option maxHeartbeats 2000000 in
theorem kinds_any {W : World} {v u : Value} {ts ts' : List Tok} (h : HasTok W v ts) (h' : HasTok W u ts') (hk : kinds ts' = kinds ts) (hl : ts.length ≤ 4611686018427387904) :
    Calls Tryd.prog 11 #[v, u] W fun e w => e = .returned (.bool true) ∧ ∃ n, w = W.drewN n := by
  obtain ⟨a, c, rfl, hc, h3⟩ := h
  obtain ⟨a', c', rfl, hc', h3'⟩ := h'
  have hll0 : ts'.length = ts.length := by
    have := congrArg List.length hk
    unfold kinds at this
    simpa using this
  rw [hll0] at hc' h3' ⊢
  have H3 := hide h3
  have H3' := hide h3'
  have Hk := hide hk
  clear h3 h3' hk hll0
  have hll : ((ts.length : Int) != (ts.length : Int)) = false := by simp
  go_enter Tryd.func11, Tryd.ntmps11
  go_wp2
  go_loopg [5] ts.length (fun gk v5 wr => ∃ (i m : Nat), v5 = .int .i64 (i : Int) ∧ gk = ts.length - i ∧ i ≤ ts.length ∧ wr = W.drewN m)
  case atStart => exact ⟨0, 0, rfl, rfl, by omega, rfl⟩
  case round =>
    obtain ⟨i, m, rfl, hgk, hi, rfl⟩ := hrel
    have Hgk := hide hgk
    clear hgk
    by_cases hlt : i < ts.length
    · obtain ⟨t, ht⟩ : ∃ t, ts[i]? = some t := ⟨_, List.getElem?_eq_getElem hlt⟩
      obtain ⟨t', ht', k1, k2⟩ := kinds_at (unhide Hk) ht
      obtain ⟨g, rfl, hg, hx⟩ := unhide H3 (by omega)
      obtain ⟨g', rfl, hg', hx'⟩ := unhide H3' (by omega)
      obtain ⟨x1, x2, x3⟩ := hx i t ht
      obtain ⟨y1, y2, y3⟩ := hx' i t' ht'
      rw [k1] at y1
      rw [k2] at y3
      have i0 : (0 : Int) ≤ (i : Int) := Int.natCast_nonneg _
      have i1 : (i : Int) < (ts.length : Int) := by omega
      obtain ⟨tk, tp, tt⟩ := t
      simp only at x1 x2 x3 y1 y2 y3
      clear hx hx' ht ht' k1 k2
      go_wp2
      go_quiet (fail)
      go_wp2
      go_roundg (ts.length - (i + 1))
      case measure => have := unhide Hgk; omega
      case rel => exact ⟨i + 1, _, by go_num, rfl, by omega, rfl⟩
    · obtain rfl : i = ts.length := by omega
      go_wp2
      go_ret
      exact ⟨rfl, _, rfl⟩
end Go.Proofs.YtmapmegecdgcpaaDoor
