import Derived.Test.YtdhncpeemcanlaaGreatDoorJ44

namespace Go.Proofs.YtdhncpeemcanlaaGreatDoor
open Go.RowKit

/-- What may stand between two tokens. -/
def fills : List (List Nat) := [[32], [10], [9, 11, 12, 13, 32], [32, 47, 47, 32, 99, 32, 34, 32, 39, 10], [32, 47, 42, 32, 39, 32, 42, 32, 47, 32, 42, 47, 32], [32, 32, 47, 42, 42, 47], [32, 47, 42, 47, 42, 47], [32, 47, 47, 10, 47, 47, 10]]
theorem pb {s : ByteArray} {p c : Nat} {R : List Nat} (h : (strN s).drop p = c :: R) (hc : isBlk c) : passF s s.size p = passF s s.size (p + 1) := by
  obtain ⟨h1, h2⟩ := at_byte h
  exact pass_blank h1 (by rw [h2]; exact hc)
theorem nlAt_is {s : ByteArray} : ∀ (A R : List Nat) (p : Nat), (strN s).drop p = A ++ 10 :: R → (∀ c ∈ A, c ≠ 10) → nlAt s p = p + A.length
  | [], R, p, h, _ => by
    obtain ⟨h1, h2⟩ := at_byte h
    rw [nlAt, dif_neg (fun q => q.2 h2)]
    rfl
  | c :: A, R, p, h, hc => by
    obtain ⟨h1, h2⟩ := at_byte h
    rw [nlAt, dif_pos ⟨h1, by rw [h2]; exact hc c List.mem_cons_self⟩, nlAt_is A R (p + 1) (at_next (A := [c]) h) (fun x hx => hc x (List.mem_cons_of_mem _ hx)), List.length_cons]
    omega
def noStar : List Nat → Prop
  | [] => True
  | [_] => True
  | c :: d :: r => ¬ (c = 42 ∧ d = 47) ∧ noStar (d :: r)
theorem starAt_is {s : ByteArray} : ∀ (A R : List Nat) (p : Nat), (strN s).drop p = A ++ 42 :: 47 :: R → noStar A → starAt s p = p + A.length
  | [], R, p, h, _ => by
    obtain ⟨h1, h2⟩ := at_byte h
    obtain ⟨h3, h4⟩ := at_byte (at_next (A := [42]) h)
    rw [starAt, dif_neg (fun q => q.2 ⟨h2, h4⟩)]
    rfl
  | [c], R, p, h, _ => by
    obtain ⟨h1, h2⟩ := at_byte h
    obtain ⟨h3, h4⟩ := at_byte (at_next (A := [c]) h)
    rw [starAt, dif_pos ⟨by show p + 1 < s.size; exact h3, fun q => by have := q.2; rw [show p + 1 = p + [c].length from rfl, h4] at this; omega⟩, starAt_is [] R (p + 1) (at_next (A := [c]) h) trivial]
    rfl
  | c :: d :: A, R, p, h, hn => by
    obtain ⟨h1, h2⟩ := at_byte h
    obtain ⟨h3, h4⟩ := at_byte (at_next (A := [c]) h)
    rw [starAt, dif_pos ⟨by show p + 1 < s.size; exact h3, fun q => hn.1 ⟨h2.symm.trans q.1, by rw [← h4]; exact q.2⟩⟩, starAt_is (d :: A) R (p + 1) (at_next (A := [c]) h) hn.2]
    simp only [List.length_cons]
    omega
theorem pl {s : ByteArray} {p : Nat} (A R : List Nat) (h : (strN s).drop p = 47 :: 47 :: (A ++ 10 :: R)) (hc : ∀ c ∈ A, c ≠ 10) : passF s s.size p = passF s s.size (p + (A.length + 2)) := by
  obtain ⟨h1, h2⟩ := at_byte h
  obtain ⟨h3, h4⟩ := at_byte (at_next (A := [47]) h)
  rw [pass_line h3 h2 h4, nlAt_is (47 :: 47 :: A) R p h (fun c hc2 => by
    rcases List.mem_cons.1 hc2 with rfl | hc2
    · decide
    · rcases List.mem_cons.1 hc2 with rfl | hc2
      · decide
      · exact hc c hc2)]
  rfl
theorem ps {s : ByteArray} {p : Nat} (A R : List Nat) (h : (strN s).drop p = 47 :: 42 :: (A ++ 42 :: 47 :: R)) (hn : noStar A) : passF s s.size p = passF s s.size (p + (A.length + 4)) := by
  obtain ⟨h1, h2⟩ := at_byte h
  obtain ⟨h3, h4⟩ := at_byte (at_next (A := [47]) h)
  have h5 : (strN s).drop (p + 2) = A ++ 42 :: 47 :: R := at_next (A := [47, 42]) h
  have hst := starAt_is A R (p + 2) h5 hn
  obtain ⟨h6, _⟩ := at_byte (at_next (A := [42]) (at_next (A := A) h5))
  have h7 : p + 2 + A.length + 1 < s.size := h6
  rw [pass_star h3 h2 h4 (by rw [hst]; omega), hst, show p + 2 + A.length + 2 = p + (A.length + 4) by omega]
theorem fill_pass {s : ByteArray} {p : Nat} {f R : List Nat} (hf : f ∈ fills) (h : (strN s).drop p = f ++ R) : passF s s.size p = passF s s.size (p + f.length) := by
  simp only [fills, List.mem_cons, List.mem_nil_iff, or_false] at hf
  rcases hf with rfl | rfl | rfl | rfl | rfl | rfl | rfl | rfl
  · exact pb h (by decide)
  · exact pb h (by decide)
  · exact (pb h (by decide)).trans ((pb (at_next (A := [9]) h) (by decide)).trans ((pb (at_next (A := [9, 11]) h) (by decide)).trans ((pb (at_next (A := [9, 11, 12]) h) (by decide)).trans (pb (at_next (A := [9, 11, 12, 13]) h) (by decide)))))
  · exact (pb h (by decide)).trans ((pl [32, 99, 32, 34, 32, 39] R (at_next (A := [32]) h) (by decide)).trans (pb (at_next (A := [32, 47, 47, 32, 99, 32, 34, 32, 39]) h) (by decide)))
  · exact (pb h (by decide)).trans ((ps [32, 39, 32, 42, 32, 47, 32] (32 :: R) (at_next (A := [32]) h) (by simp [noStar])).trans (pb (at_next (A := [32, 47, 42, 32, 39, 32, 42, 32, 47, 32, 42, 47]) h) (by decide)))
  · exact (pb h (by decide)).trans ((pb (at_next (A := [32]) h) (by decide)).trans (ps [] R (at_next (A := [32, 32]) h) trivial))
  · exact (pb h (by decide)).trans (ps [47] R (at_next (A := [32]) h) trivial)
  · exact (pb h (by decide)).trans ((pl [] (47 :: 47 :: 10 :: R) (at_next (A := [32]) h) (by simp)).trans ((pb (at_next (A := [32, 47, 47]) h) (by decide)).trans ((pl [] R (at_next (A := [32, 47, 47, 10]) h) (by simp)).trans (pb (at_next (A := [32, 47, 47, 10, 47, 47]) h) (by decide)))))
theorem fill_low : ∀ f ∈ fills, ∀ c ∈ f, c < 128 := by decide
theorem fill_head : ∀ f ∈ fills, ∃ c r, f = c :: r ∧ isBlk c := by
  intro f hf
  simp only [fills, List.mem_cons, List.mem_nil_iff, or_false] at hf
  rcases hf with rfl | rfl | rfl | rfl | rfl | rfl | rfl | rfl
  all_goals exact ⟨_, _, rfl, by decide⟩
theorem fill_len : ∀ f ∈ fills, f.length ≤ 13 := by decide
theorem fill_byt {f : List Nat} (hf : f ∈ fills) : Byt f := fun c hc => Nat.lt_trans (fill_low f hf c hc) (by decide)
/-- A token of a text. -/
structure GoodT (s : ByteArray) (t : Tok) (e : Nat) : Prop where
  lt : t.place < s.size
  one : oneF s t.place = (t.kind, e, 0)
  text : t.text = s.extract t.place e
  le : e ≤ s.size
  gt : t.place < e
theorem GoodT.size {s : ByteArray} {t : Tok} {e : Nat} (g : GoodT s t e) : t.text.size = e - t.place := by rw [g.text, extract_size s _ _ g.le]
theorem GoodT.str {s : ByteArray} {t : Tok} {e : Nat} (g : GoodT s t e) : strN t.text = sub s t.place (e - t.place) := by rw [g.text, strN_extract]; rfl
theorem endRow_all (s : ByteArray) (k j : Nat) (h1 : k ≤ j) (h2 : j < endRow s k) : isLet (byteAt s j) ∨ isDig (byteAt s j) := by
  rw [endRow] at h2
  split at h2
  · rename_i h
    by_cases e : j = k
    · subst e; exact h.2
    · exact endRow_all s (k + 1) j (by omega) h2
  · omega
termination_by s.size - k
decreasing_by omega
theorem drun_end {B q : Nat} (hq : isd B q = none) (R1 R2 : List Nat) : ∀ (A : List Nat) (f v n : Nat), drun B f (A ++ q :: R1) v n = drun B f (A ++ q :: R2) v n
  | [], f, v, n => by
    show drun B f (q :: R1) v n = drun B f (q :: R2) v n
    rw [drun_none hq, drun_none hq]
  | c :: A, 0, v, n => by rw [drun_zero, drun_zero]
  | c :: A, f + 1, v, n => by
    show drun B (f + 1) (c :: (A ++ q :: R1)) v n = drun B (f + 1) (c :: (A ++ q :: R2)) v n
    cases h : isd B c with
    | none => rw [drun_none h, drun_none h]
    | some d => rw [drun_some h, drun_some h, drun_end hq R1 R2 A f]
theorem escL_end {q : Nat} (hq : q = 39 ∨ q = 34) (R1 R2 : List Nat) (a : Nat) : ∀ (A : List Nat), escL (a :: (A ++ q :: R1)) = escL (a :: (A ++ q :: R2))
  | [] => by
    show escL (a :: q :: R1) = escL (a :: q :: R2)
    rcases hq with rfl | rfl <;> rfl
  | c :: A => by
    show escL (a :: c :: (A ++ q :: R1)) = escL (a :: c :: (A ++ q :: R2))
    have d16 : isd 16 q = none := by rcases hq with rfl | rfl <;> rfl
    have d8 : isd 8 q = none := by rcases hq with rfl | rfl <;> rfl
    rw [escL, escL, drun_end d16 R1 R2 A, show c :: (A ++ q :: R1) = (c :: A) ++ q :: R1 from rfl, show c :: (A ++ q :: R2) = (c :: A) ++ q :: R2 from rfl, drun_end d8 R1 R2 (c :: A)]
theorem uq_copy {s Q : ByteArray} {q : Nat} (hq : q = 39 ∨ q = 34) : ∀ (m : Nat) (A R1 R2 l : List Nat) (k p : Nat), A.length ≤ m → (strN s).drop k = A ++ q :: R1 → (strN Q).drop p = A ++ q :: R2 → uqAt s q k = some (l, k + A.length + 1) → uqAt Q q p = some (l, p + A.length + 1) := by
  intro m
  induction m with
  | zero =>
    intro A R1 R2 l k p hm h1 h2 hu
    obtain rfl := List.eq_nil_of_length_eq_zero (Nat.le_zero.1 hm)
    obtain ⟨a1, a2⟩ := at_byte h1
    obtain ⟨b1, b2⟩ := at_byte h2
    rw [uq_quote a1 a2] at hu
    have := (Prod.mk.inj (Option.some.inj hu)).1
    rw [uq_quote b1 b2, ← this]
    rfl
  | succ m ih =>
    intro A R1 R2 l k p hm h1 h2 hu
    cases A with
    | nil => exact ih [] R1 R2 l k p (by simp) h1 h2 hu
    | cons c A =>
      obtain ⟨a1, a2⟩ := at_byte h1
      obtain ⟨b1, b2⟩ := at_byte h2
      by_cases hcq : c = q
      · rw [uq_quote a1 (a2.trans hcq)] at hu
        have := (Prod.mk.inj (Option.some.inj hu)).2
        rw [List.length_cons] at this
        omega
      · have hp : pieceAt Q p = pieceAt s k := by
          unfold pieceAt
          rw [a2, b2, h1, h2]
          split
          · rfl
          · split
            · exact (escL_end hq R1 R2 c A).symm
            · rfl
        cases hpe : pieceAt s k with
        | none => rw [uq_bad a1 (by rw [a2]; exact hcq) hpe] at hu; cases hu
        | some t =>
          obtain ⟨b, n⟩ := t
          obtain ⟨p1, p2, p3⟩ := pieceAt_pos hpe a1
          rw [uq_step a1 (by rw [a2]; exact hcq) hpe] at hu
          obtain ⟨⟨l', e'⟩, hu1, hu2⟩ := Option.map_eq_some_iff.1 hu
          obtain ⟨rfl, he⟩ := Prod.mk.inj hu2
          have he : e' = k + (c :: A).length + 1 := he
          obtain ⟨u1, _⟩ := uq_le _ (k + n) l' e' (Nat.le_refl _) hu1
          have hn : n ≤ (c :: A).length := by omega
          have hsplit : c :: A = (c :: A).take n ++ (c :: A).drop n := (List.take_append_drop n _).symm
          have hl : ((c :: A).take n).length = n := by rw [List.length_take]; omega
          have g1 : (strN s).drop (k + n) = (c :: A).drop n ++ q :: R1 := by
            have := at_next (Q := s) (p := k) (A := (c :: A).take n) (R := (c :: A).drop n ++ q :: R1) (by rw [h1, ← List.append_assoc, ← hsplit])
            rwa [hl] at this
          have g2 : (strN Q).drop (p + n) = (c :: A).drop n ++ q :: R2 := by
            have := at_next (Q := Q) (p := p) (A := (c :: A).take n) (R := (c :: A).drop n ++ q :: R2) (by rw [h2, ← List.append_assoc, ← hsplit])
            rwa [hl] at this
          have hdl : ((c :: A).drop n).length = (c :: A).length - n := List.length_drop
          have hi := ih ((c :: A).drop n) R1 R2 l' (k + n) (p + n) (by rw [List.length_cons] at hm hdl; omega) g1 g2 (by rw [hu1, he, hdl]; congr 2; omega)
          rw [uq_step b1 (by rw [b2]; exact hcq) (hp.trans hpe), hi, hdl]
          show some (b :: l', p + n + ((c :: A).length - n) + 1) = _
          congr 2
          omega
theorem uq_last {s : ByteArray} {q : Nat} : ∀ {k : Nat} {l : List Nat} {e : Nat}, uqAt s q k = some (l, e) → byteAt s (e - 1) = q := by
  have : ∀ (m k : Nat) (l : List Nat) (e : Nat), s.size - k ≤ m → uqAt s q k = some (l, e) → byteAt s (e - 1) = q := by
    intro m
    induction m with
    | zero => intro k l e hm h; rw [uq_end (by omega)] at h; cases h
    | succ m ih =>
      intro k l e hm h
      by_cases hk : k < s.size
      · by_cases hq : byteAt s k = q
        · rw [uq_quote hk hq] at h
          have := (Prod.mk.inj (Option.some.inj h)).2
          rw [← this]
          exact hq
        · cases hp : pieceAt s k with
          | none => rw [uq_bad hk hq hp] at h; cases h
          | some t =>
            obtain ⟨b, n⟩ := t
            obtain ⟨p1, p2, p3⟩ := pieceAt_pos hp hk
            rw [uq_step hk hq hp] at h
            obtain ⟨⟨l', e'⟩, h1, h2⟩ := Option.map_eq_some_iff.1 h
            have h3 : e' = e := (Prod.mk.inj h2).2
            rw [← h3]
            exact ih (k + n) l' e' (by omega) h1
      · rw [uq_end hk] at h; cases h
  intro k l e h
  exact this _ k l e (Nat.le_refl _) h
/-- A copy of a token, with a blank behind it, is that token. -/
theorem one_copy {s B : ByteArray} {t : Tok} {e p c : Nat} {R : List Nat} (g : GoodT s t e) (h : (strN B).drop p = strN t.text ++ c :: R) (hc : isBlk c) : oneF B p = (t.kind, p + t.text.size, 0) ∧ passF B B.size p = (p, true) ∧ p < B.size ∧ B.extract p (p + t.text.size) = t.text := by
  have hsz := g.size
  have hgt := g.gt
  have hle := g.le
  have hone := g.one
  have hlen : (strN t.text).length = t.text.size := strN_len _
  have hBl : p + t.text.size + 1 ≤ B.size := by
    have := congrArg List.length h
    rw [List.length_drop, strN_len, List.length_append, hlen, List.length_cons] at this
    omega
  have hb : ∀ j, j < t.text.size → byteAt B (p + j) = byteAt s (t.place + j) := fun j hj => by
    have e1 : ((strN B).drop p)[j]? = some (byteAt s (t.place + j)) := by rw [h, List.getElem?_append_left (by omega), g.str, sub_at (by omega) (by omega)]
    rw [List.getElem?_drop, strN_at B (p + j) (by omega)] at e1
    exact Option.some.inj e1
  have hbn : byteAt B (p + t.text.size) = c := by
    have := (at_byte (at_next (A := strN t.text) h)).2
    rwa [hlen] at this
  have hb0 : byteAt B p = byteAt s t.place := by
    have := hb 0 (by omega)
    rwa [Nat.add_zero, Nat.add_zero] at this
  have hx : B.extract p (p + t.text.size) = t.text := by
    apply strN_inj
    rw [strN_extract, h, show p + t.text.size - p = (strN t.text).length by omega, List.take_left']
    rfl
  have hcn : ¬ (isLet c ∨ isDig c) := by unfold isBlk at hc; unfold isLet isDig; omega
  have hrow : endRow s t.place = e → endRow B p = p + t.text.size := fun he => by
    refine endRow_is B t.text.size p (fun j hj => ⟨by omega, ?_⟩) (fun _ => by rw [hbn]; exact hcn)
    rw [hb j hj]
    exact endRow_all s t.place (t.place + j) (by omega) (by omega)
  refine ⟨?_, ?_, by omega, hx⟩
  · unfold oneF at hone ⊢
    rw [hb0]
    by_cases h1 : isLet (byteAt s t.place)
    · rw [if_pos h1] at hone ⊢
      obtain ⟨e1, e2⟩ := Prod.mk.inj hone
      have e3 := (Prod.mk.inj e2).1
      rw [hrow e3, ← e1]
    · rw [if_neg h1] at hone ⊢
      by_cases h2 : isDig (byteAt s t.place)
      · rw [if_pos h2] at hone ⊢
        split at hone
        · cases (Prod.mk.inj (Prod.mk.inj hone).2).2
        · rename_i hw
          obtain ⟨e1, e2⟩ := Prod.mk.inj hone
          have e3 := (Prod.mk.inj e2).1
          rw [hrow e3, hx, if_neg (by rw [g.text, ← e3]; exact hw), ← e1]
      · rw [if_neg h2] at hone ⊢
        by_cases h3 : byteAt s t.place = 39 ∨ byteAt s t.place = 34
        · rw [if_pos h3] at hone ⊢
          split at hone
          · cases (Prod.mk.inj (Prod.mk.inj hone).2).2
          · rename_i l e' hu
            obtain ⟨e1, e2⟩ := Prod.mk.inj hone
            have e3 : e' = e := (Prod.mk.inj e2).1
            subst e3
            have hend := uq_last hu
            obtain ⟨u1, u2, _⟩ := uq_le _ (t.place + 1) l e' (Nat.le_refl _) hu
            obtain ⟨A, hA⟩ : ∃ A, A = sub s (t.place + 1) (e' - t.place - 2) := ⟨_, rfl⟩
            have hAl : A.length = e' - t.place - 2 := by rw [hA]; exact sub_len (by omega)
            have hs1 : (strN s).drop (t.place + 1) = A ++ byteAt s t.place :: (strN s).drop e' := by
              have hk2 : e' - 1 < (strN s).length := by rw [strN_len]; omega
              have hd : (strN s).drop (e' - 1) = byteAt s t.place :: (strN s).drop e' := by
                rw [List.drop_eq_getElem_cons hk2, show e' - 1 + 1 = e' by omega]
                congr 1
                have := strN_at s (e' - 1) (by omega)
                rw [List.getElem?_eq_getElem hk2] at this
                exact (Option.some.inj this).trans hend
              rw [← hd, hA]
              unfold sub
              rw [show (strN s).drop (e' - 1) = ((strN s).drop (t.place + 1)).drop (e' - t.place - 2) by rw [List.drop_drop]; congr 1; omega, List.take_append_drop]
            have hs2 : (strN B).drop (p + 1) = A ++ byteAt s t.place :: (c :: R) := by
              have ht : strN t.text = byteAt s t.place :: (A ++ [byteAt s t.place]) := by
                rw [g.str]
                unfold sub
                have hk3 : t.place < (strN s).length := by rw [strN_len]; omega
                rw [List.drop_eq_getElem_cons hk3, hs1]
                have h00 : (strN s)[t.place] = byteAt s t.place := by
                  have := strN_at s t.place (by omega)
                  rw [List.getElem?_eq_getElem hk3] at this
                  exact Option.some.inj this
                rw [h00, show e' - t.place = (A.length + 1) + 1 by omega, List.take_succ_cons]
                congr 1
                rw [List.take_append, List.take_of_length_le (by omega), show A.length + 1 - A.length = 1 by omega]
                rfl
              have := at_next (Q := B) (p := p) (A := [byteAt s t.place]) (R := A ++ byteAt s t.place :: (c :: R)) (by rw [h, ht]; simp)
              exact this
            have hc2 := uq_copy h3 A.length A _ _ l (t.place + 1) (p + 1) (Nat.le_refl _) hs1 hs2 (by rw [hu]; congr 2; omega)
            rw [hc2, ← e1]
            show (3, p + 1 + A.length + 1, 0) = _
            congr 2
            omega
        · rw [if_neg h3] at hone ⊢
          split at hone
          · rename_i h4
            obtain ⟨e1, e2⟩ := Prod.mk.inj hone
            have e3 := (Prod.mk.inj e2).1
            rw [if_pos h4, ← e1, show t.text.size = 1 by omega]
          · cases (Prod.mk.inj (Prod.mk.inj hone).2).2
  · have hnb : ¬ isBlk (byteAt s t.place) ∧ ¬ byteAt s t.place = 47 := by
      have hcls : isLet (byteAt s t.place) ∨ isDig (byteAt s t.place) ∨ (byteAt s t.place = 39 ∨ byteAt s t.place = 34) ∨ isSgn (byteAt s t.place) := by
        unfold oneF at hone
        by_cases h1 : isLet (byteAt s t.place)
        · exact .inl h1
        · rw [if_neg h1] at hone
          by_cases h2 : isDig (byteAt s t.place)
          · exact .inr (.inl h2)
          · rw [if_neg h2] at hone
            by_cases h3 : byteAt s t.place = 39 ∨ byteAt s t.place = 34
            · exact .inr (.inr (.inl h3))
            · rw [if_neg h3] at hone
              by_cases h4 : isSgn (byteAt s t.place)
              · exact .inr (.inr (.inr h4))
              · rw [if_neg h4] at hone
                cases (Prod.mk.inj (Prod.mk.inj hone).2).2
      unfold isLet isDig isSgn at hcls
      unfold isBlk
      simp only [List.mem_cons, List.mem_nil_iff, or_false] at hcls
      omega
    exact pass_other (by omega) (by rw [hb0]; exact hnb.1) (by rw [hb0]; exact hnb.2)
end Go.Proofs.YtdhncpeemcanlaaGreatDoor
