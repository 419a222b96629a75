import Derived.Test.YtaadpiimcaabkaaGreatDoorJ36

namespace Go.Proofs.YtaadpiimcaabkaaGreatDoor

/-- Lists cut off by what they keep: two parts that keep p, a line that doesn't, the rest. -/
theorem cut_at {α : Type} (p : α → Prop) {c : α} (hc : ¬ p c) : ∀ (A A' : List α) (r r' : List α), (∀ x ∈ A, p x) → (∀ x ∈ A', p x) → A ++ c :: r = A' ++ c :: r' → A = A' ∧ r = r'
  | [], [], _, _, _, _, e => ⟨rfl, by simpa using e⟩
  | [], a :: A', _, _, _, h', e => by
    obtain ⟨rfl, -⟩ : c = a ∧ _ := by simpa using e
    exact absurd (h' c (List.mem_cons_self ..)) hc
  | a :: A, [], _, _, h, _, e => by
    obtain ⟨rfl, -⟩ : a = c ∧ _ := by simpa using e
    exact absurd (h a (List.mem_cons_self ..)) hc
  | a :: A, a' :: A', r, r', h, h', e => by
    obtain ⟨rfl, e2⟩ : a = a' ∧ _ := by simpa using e
    obtain ⟨rfl, h3⟩ := cut_at p hc A A' r r' (fun x hx => h x (List.mem_cons_of_mem _ hx)) (fun x hx => h' x (List.mem_cons_of_mem _ hx)) e2
    exact ⟨rfl, h3⟩
/-- Pieces with a sign behind each. -/
def nl (x : Nat) (ls : List (List Nat)) : List Nat := ls.flatMap (· ++ [x])
theorem nl_app (x : Nat) (a b : List (List Nat)) : nl x (a ++ b) = nl x a ++ nl x b := by simp [nl]
theorem nl_cons (x : Nat) (a : List Nat) (b : List (List Nat)) : nl x (a :: b) = a ++ x :: nl x b := by simp [nl]
theorem nl_inj {x : Nat} : ∀ (a b : List (List Nat)), (∀ l ∈ a, x ∉ l) → (∀ l ∈ b, x ∉ l) → nl x a = nl x b → a = b
  | [], [], _, _, _ => rfl
  | [], b :: r, _, _, e => by rw [nl_cons] at e; simp [nl] at e
  | a :: r, [], _, _, e => by rw [nl_cons] at e; simp [nl] at e
  | a :: r, b :: q, h, h', e => by
    rw [nl_cons, nl_cons] at e
    obtain ⟨rfl, e2⟩ := cut_at (· ≠ x) (by simp) a b _ _ (fun y hy hh => h a (List.mem_cons_self ..) (hh ▸ hy)) (fun y hy hh => h' b (List.mem_cons_self ..) (hh ▸ hy)) e
    rw [nl_inj r q (fun l hl => h l (List.mem_cons_of_mem _ hl)) (fun l hl => h' l (List.mem_cons_of_mem _ hl)) e2]
/-- An item of a block: a line, or a block in it. -/
inductive It where
  | ln (c : List Nat) : It
  | bk (h : List Nat) (I : List (List Nat)) : It
def ind (n : Nat) : List Nat := List.replicate (2 * n) 32
def It.ls (n : Nat) : It → List (List Nat)
  | .ln c => [ind n ++ c]
  | .bk h I => (ind n ++ (h ++ [32, 123])) :: (I ++ [ind n ++ [125]])
def It.ok (n : Nat) : It → Prop
  | .ln c => ∃ d, c = d ++ [59]
  | .bk _ I => ∀ l ∈ I, ∃ c, l = ind (n + 1) ++ c
theorem close_not (n : Nat) : ¬ ∃ c, ind n ++ [125] = ind (n + 1) ++ c := by
  rintro ⟨c, e⟩
  unfold ind at e
  rw [show 2 * (n + 1) = 2 * n + 2 by omega, ← List.replicate_append_replicate, List.append_assoc, List.append_cancel_left_eq] at e
  simp [List.replicate] at e
theorem its_inj (n : Nat) : ∀ (a b : List It), (∀ i ∈ a, i.ok n) → (∀ i ∈ b, i.ok n) → a.flatMap (It.ls n) = b.flatMap (It.ls n) → a = b
  | [], [], _, _, _ => rfl
  | [], b :: r, _, _, e => by rw [List.flatMap_cons] at e; cases b <;> simp [It.ls] at e
  | a :: r, [], _, _, e => by rw [List.flatMap_cons] at e; cases a <;> simp [It.ls] at e
  | a :: r, b :: q, h, h', e => by
    have ih := its_inj n r q (fun i hi => h i (List.mem_cons_of_mem _ hi)) (fun i hi => h' i (List.mem_cons_of_mem _ hi))
    have ha := h a (List.mem_cons_self ..)
    have hb := h' b (List.mem_cons_self ..)
    rw [List.flatMap_cons, List.flatMap_cons] at e
    cases a with
    | ln c =>
      cases b with
      | ln d =>
        unfold It.ls at e
        obtain ⟨e1, e2⟩ := List.cons.inj e
        rw [List.append_cancel_left e1, ih e2]
      | bk k J =>
        obtain ⟨d, rfl⟩ := ha
        unfold It.ls at e
        obtain ⟨e1, -⟩ := List.cons.inj e
        have := congrArg List.getLast? (List.append_cancel_left e1)
        simp at this
    | bk g I =>
      cases b with
      | ln d =>
        obtain ⟨d, rfl⟩ := hb
        unfold It.ls at e
        obtain ⟨e1, -⟩ := List.cons.inj e
        have := congrArg List.getLast? (List.append_cancel_left e1)
        simp at this
      | bk k J =>
        unfold It.ls at e
        rw [List.cons_append, List.cons_append, List.append_assoc, List.append_assoc] at e
        obtain ⟨e1, e2⟩ := List.cons.inj e
        obtain ⟨rfl, e3⟩ := cut_at (fun l => ∃ c, l = ind (n + 1) ++ c) (close_not n) I J _ _ ha hb e2
        rw [List.append_cancel_right (List.append_cancel_left e1), ih e3]
/-- The items of one kind. -/
theorem parts {α : Type} (k : α → Nat) (j : Nat) (l : List α) (h : ∀ i ∈ l, k i = j) : l.filter (fun i => k i = j) = l := List.filter_eq_self.2 (fun i hi => by simp [h i hi])
theorem parts_no {α : Type} (k : α → Nat) (j : Nat) (l : List α) (h : ∀ i ∈ l, k i ≠ j) : l.filter (fun i => k i = j) = [] := List.filter_eq_nil_iff.2 (fun i hi => by simp [h i hi])
theorem five {α : Type} (k : α → Nat) {a1 a2 a3 a4 a5 b1 b2 b3 b4 b5 : List α} (h1 : ∀ i ∈ a1, k i = 1) (h2 : ∀ i ∈ a2, k i = 2) (h3 : ∀ i ∈ a3, k i = 3) (h4 : ∀ i ∈ a4, k i = 4) (h5 : ∀ i ∈ a5, k i = 5)
    (g1 : ∀ i ∈ b1, k i = 1) (g2 : ∀ i ∈ b2, k i = 2) (g3 : ∀ i ∈ b3, k i = 3) (g4 : ∀ i ∈ b4, k i = 4) (g5 : ∀ i ∈ b5, k i = 5) (e : a1 ++ (a2 ++ (a3 ++ (a4 ++ a5))) = b1 ++ (b2 ++ (b3 ++ (b4 ++ b5)))) : a1 = b1 ∧ a2 = b2 ∧ a3 = b3 ∧ a4 = b4 ∧ a5 = b5 := by
  have no : ∀ {l : List α} {i j : Nat}, (∀ x ∈ l, k x = i) → i ≠ j → l.filter (fun x => k x = j) = [] := fun h hn => parts_no k _ _ (fun x hx => by rw [h x hx]; exact hn)
  refine ⟨?_, ?_, ?_, ?_, ?_⟩
  · have := congrArg (List.filter (fun i => k i = 1)) e
    simpa only [List.filter_append, parts k 1 _ h1, parts k 1 _ g1, no h2 (by decide : 2 ≠ 1), no h3 (by decide : 3 ≠ 1), no h4 (by decide : 4 ≠ 1), no h5 (by decide : 5 ≠ 1), no g2 (by decide : 2 ≠ 1), no g3 (by decide : 3 ≠ 1), no g4 (by decide : 4 ≠ 1), no g5 (by decide : 5 ≠ 1), List.append_nil] using this
  · have := congrArg (List.filter (fun i => k i = 2)) e
    simpa only [List.filter_append, parts k 2 _ h2, parts k 2 _ g2, no h1 (by decide : 1 ≠ 2), no h3 (by decide : 3 ≠ 2), no h4 (by decide : 4 ≠ 2), no h5 (by decide : 5 ≠ 2), no g1 (by decide : 1 ≠ 2), no g3 (by decide : 3 ≠ 2), no g4 (by decide : 4 ≠ 2), no g5 (by decide : 5 ≠ 2), List.append_nil, List.nil_append] using this
  · have := congrArg (List.filter (fun i => k i = 3)) e
    simpa only [List.filter_append, parts k 3 _ h3, parts k 3 _ g3, no h1 (by decide : 1 ≠ 3), no h2 (by decide : 2 ≠ 3), no h4 (by decide : 4 ≠ 3), no h5 (by decide : 5 ≠ 3), no g1 (by decide : 1 ≠ 3), no g2 (by decide : 2 ≠ 3), no g4 (by decide : 4 ≠ 3), no g5 (by decide : 5 ≠ 3), List.append_nil, List.nil_append] using this
  · have := congrArg (List.filter (fun i => k i = 4)) e
    simpa only [List.filter_append, parts k 4 _ h4, parts k 4 _ g4, no h1 (by decide : 1 ≠ 4), no h2 (by decide : 2 ≠ 4), no h3 (by decide : 3 ≠ 4), no h5 (by decide : 5 ≠ 4), no g1 (by decide : 1 ≠ 4), no g2 (by decide : 2 ≠ 4), no g3 (by decide : 3 ≠ 4), no g5 (by decide : 5 ≠ 4), List.append_nil, List.nil_append] using this
  · have := congrArg (List.filter (fun i => k i = 5)) e
    simpa only [List.filter_append, parts k 5 _ h5, parts k 5 _ g5, no h1 (by decide : 1 ≠ 5), no h2 (by decide : 2 ≠ 5), no h3 (by decide : 3 ≠ 5), no h4 (by decide : 4 ≠ 5), no g1 (by decide : 1 ≠ 5), no g2 (by decide : 2 ≠ 5), no g3 (by decide : 3 ≠ 5), no g4 (by decide : 4 ≠ 5), List.append_nil, List.nil_append] using this
theorem chAt_is {s : ByteArray} {k n : Nat} (h : chAt s k = n) (hn : n ≠ 0) : ∃ c d e, frm (byteAt s k) = some (c, d, e) ∧ LenOkAt s k c d e ∧ n = 1 + c := by
  cases hf : frm (byteAt s k) with
  | none => rw [chAt_none hf] at h; exact absurd h.symm hn
  | some t =>
    obtain ⟨c, d, e⟩ := t
    by_cases hl : LenOkAt s k c d e
    · exact ⟨c, d, e, rfl, hl, by rw [← h, chAt_ok hf hl]⟩
    · rw [chAt_no hf hl] at h; exact absurd h.symm hn
theorem sub_at {s : ByteArray} {k n j : Nat} (hn : k + n ≤ s.size) (hj : j < n) : (sub s k n)[j]? = some (byteAt s (k + j)) := by
  unfold sub
  rw [List.getElem?_take, if_pos hj, List.getElem?_drop, strN_at s (k + j) (by omega)]
theorem frm_d {x c d e : Nat} (h : frm x = some (c, d, e)) (hx : 128 ≤ x) : 128 ≤ d := by
  unfold frm at h
  repeat' split at h
  all_goals first | omega | (cases h; done) | (obtain ⟨rfl, rfl, rfl⟩ := (by simpa using h : _ ∧ _ ∧ _); omega)
theorem plain_bytes {s : ByteArray} {k : Nat} (hk : k < s.size) (h : ¬ plainK s k = 0) : ∀ c ∈ sub s k (plainK s k), c ≠ 34 ∧ c ≠ 0 ∧ c ≠ 10 ∧ c ≠ 92 := by
  intro c hc
  have hle := plainK_le hk
  obtain ⟨j, hj⟩ := List.getElem?_of_mem hc
  have hjl := (List.getElem?_eq_some_iff.1 hj).1
  rw [sub_len hle.1] at hjl
  rw [sub_at hle.1 hjl] at hj
  have hcj := Option.some.inj hj
  unfold plainK at h hjl hle
  by_cases h1 : 128 ≤ byteAt s k
  · rw [if_pos h1] at h hjl hle
    obtain ⟨c', d, e, f1, f2, f3⟩ := chAt_is rfl h
    have hd := frm_d f1 h1
    have : 128 ≤ c := by
      rw [← hcj]
      by_cases hj0 : j = 0
      · rw [hj0, Nat.add_zero]; exact h1
      · have := (f2.2 j (by omega) (by omega)).1
        split at this <;> omega
    omega
  · rw [if_neg h1] at h hjl
    split at h
    · exact absurd rfl h
    · rename_i h2
      rw [if_neg h2] at hjl
      obtain rfl : j = 0 := by omega
      rw [Nat.add_zero] at hcj
      omega
theorem qAll_byt (s : ByteArray) : ∀ (m k : Nat), s.size - k ≤ m → Byt (qAll s k) := by
  intro m
  induction m with
  | zero => intro k hm; rw [qAll_end (by omega)]; exact fun x hx => by simp at hx
  | succ m ih =>
    intro k hm
    by_cases hk : k < s.size
    · rw [qAll_step hk]
      have := qn_pos s k
      exact (qs_byt s k).append (ih _ (by omega))
    · rw [qAll_end hk]; exact fun x hx => by simp at hx
theorem word_chars {s : ByteArray} (h : wordB s = true) : strN s ≠ [] ∧ ∀ x ∈ strN s, isLet x ∨ isDig x := by
  obtain ⟨⟨h1, -⟩, -, h3⟩ := word_ident h
  refine ⟨fun e => ?_, fun x hx => ?_⟩
  · have := strN_len s
    rw [e, List.length_nil] at this
    omega
  · obtain ⟨j, hj⟩ := List.getElem?_of_mem hx
    exact h3 j x hj
theorem split_chars : ∀ (k : Nat) (s : ByteArray) (x : Nat), x ∈ strN s → x = 46 ∨ ∃ p ∈ Lib.splitB dotB 0 k s, x ∈ strN p
  | 0, s, x, h => .inr ⟨s, by rw [Lib.splitB_zero]; simp, h⟩
  | k + 1, s, x, h => by
    rcases Lib.indexB_cases s dotB with e | ⟨i, e, hi⟩
    · rw [Lib.splitB_miss dotB 0 _ s e]; exact .inr ⟨s, by simp, h⟩
    · rw [Lib.splitB_hit dotB 0 k s i e]
      have t1 : strN (s.extract 0 (i + 0)) = (strN s).take i := by unfold strN; rw [Lib.extract_from_zero, List.map_take]; rfl
      have t2 : strN (s.extract (i + dotB.size) s.size) = (strN s).drop (i + 1) := by unfold strN; rw [Lib.extract_to_end, List.map_drop]; rfl
      obtain ⟨j, hj⟩ := List.getElem?_of_mem h
      by_cases h1 : j < i
      · exact .inr ⟨_, List.mem_cons_self .., by rw [t1]; exact List.mem_of_getElem? (i := j) (by rw [List.getElem?_take, if_pos h1]; exact hj)⟩
      · by_cases h2 : j = i
        · subst h2
          have e2 : Lib.indexByte s.data.toList 46 = (j : Int) := by rw [← Lib.index_one]; exact e
          have e3 := (Lib.indexByte_some e2).1
          unfold strN at hj
          rw [List.getElem?_map, e3] at hj
          exact .inl (Option.some.inj hj).symm
        · have h3 : x ∈ strN (s.extract (i + dotB.size) s.size) := by
            rw [t2]
            exact List.mem_of_getElem? (i := j - (i + 1)) (by rw [List.getElem?_drop, show i + 1 + (j - (i + 1)) = j by omega]; exact hj)
          rcases split_chars k _ x h3 with h4 | ⟨p, hp, hx⟩
          · exact .inl h4
          · exact .inr ⟨p, List.mem_cons_of_mem _ hp, hx⟩
theorem names_chars {s : ByteArray} (h : namesB s = true) : ∀ x ∈ strN s, isLet x ∨ isDig x ∨ x = 46 := by
  intro x hx
  unfold namesB at h
  simp only [Bool.and_eq_true] at h
  rcases split_chars (Lib.countB s dotB) s x hx with h1 | ⟨p, hp, hx⟩
  · exact .inr (.inr h1)
  · have := (word_chars (List.all_eq_true.1 h.2 p hp)).2 x hx
    exact this.elim .inl (fun h => .inr (.inl h))
theorem type_chars {s : ByteArray} (h : typeB s = true) : ∀ x ∈ strN s, isLet x ∨ isDig x ∨ x = 46 := by
  intro x hx
  unfold typeB at h
  simp only [Bool.and_eq_true] at h
  have hn := names_chars h.2
  have ht : strN (trimDot s) = (Lib.trimPrefix s.data.toList [46]).map UInt8.toNat := rfl
  rw [ht] at hn
  unfold Lib.trimPrefix at hn
  split at hn
  · rename_i hp
    unfold strN at hx
    cases hl : s.data.toList with
    | nil => rw [hl] at hx; simp at hx
    | cons a r =>
      rw [hl] at hx hn hp
      have ha : 46 = a := by simpa [Lib.hasPrefix] using hp
      rw [List.map_cons] at hx
      rcases List.mem_cons.1 hx with rfl | hx
      · rw [← ha]; exact .inr (.inr rfl)
      · exact hn x hx
  · exact hn x hx
theorem first_res : firstS wReserved = wReserved := by
  unfold firstS
  rw [if_neg (by decide)]
theorem not_reserved {d : Fd} (h : inS (firstS d.ty) (refW d) = false) (hc : d.card = 1) (ho : d.oneof = 0) : strN d.ty ≠ [114, 101, 115, 101, 114, 118, 101, 100] := by
  intro e
  have e2 : d.ty = wReserved := strN_inj (e.trans rfl)
  rw [e2, first_res] at h
  unfold refW at h
  rw [if_neg (by omega), if_neg (by omega), if_neg (by omega)] at h
  unfold inS at h
  simp at h
theorem map_inj {α β : Type} {f : α → β} (hf : ∀ x y, f x = f y → x = y) : ∀ (a b : List α), a.map f = b.map f → a = b
  | [], [], _ => rfl
  | [], _ :: _, e => by simp at e
  | _ :: _, [], e => by simp at e
  | x :: a, y :: b, e => by
    obtain ⟨e1, e2⟩ := List.cons.inj e
    rw [hf x y e1, map_inj hf a b e2]
theorem strN_app (a b : ByteArray) : strN (a ++ b) = strN a ++ strN b := by simp [strN]
/-- A number's digits. -/
def digs (u : Nat) : List Nat := (Go.Lib.decDigits u).map UInt8.toNat
theorem dig1 {u : Nat} (h : u < 10) : (UInt8.ofNat (48 + u)).toNat = 48 + u := by simp; omega
theorem digs_small {u : Nat} (h : u < 10) : digs u = [48 + u] := by unfold digs; rw [Go.Lib.decDigits, dif_pos h, List.map_cons, dig1 h]; rfl
theorem digs_big {u : Nat} (h : ¬ u < 10) : digs u = digs (u / 10) ++ [48 + u % 10] := by unfold digs; rw [Go.Lib.decDigits, dif_neg h, List.map_append, List.map_cons, dig1 (by omega)]; rfl
def valD (l : List Nat) : Nat := l.foldl (fun a x => 10 * a + (x - 48)) 0
theorem digs_all : ∀ (k u : Nat), u ≤ k → digs u ≠ [] ∧ (∀ x ∈ digs u, isDig x) ∧ valD (digs u) = u
  | k, u, hk => by
    by_cases h : u < 10
    · rw [digs_small h]
      refine ⟨by simp, fun x hx => ?_, by simp [valD]⟩
      have : x = 48 + u := by simpa using hx
      unfold isDig; omega
    · match k with
      | 0 => omega
      | k + 1 =>
        obtain ⟨h1, h2, h3⟩ := digs_all k (u / 10) (by omega)
        rw [digs_big h]
        refine ⟨by simp, fun x hx => ?_, ?_⟩
        · rcases List.mem_append.1 hx with hx | hx
          · exact h2 x hx
          · have : x = 48 + u % 10 := by simpa using hx
            unfold isDig; omega
        · unfold valD at h3 ⊢
          rw [List.foldl_append, h3]
          simp
          omega
def itN (n : Int) : List Nat := strN (itoaB n)
theorem itN_eq (n : Int) : itN n = if n < 0 then 45 :: digs n.natAbs else digs n.toNat := by
  unfold itN strN itoaB Go.Lib.itoa
  split <;> rfl
theorem itN_chars (n : Int) : itN n ≠ [] ∧ ∀ x ∈ itN n, isDig x ∨ x = 45 := by
  rw [itN_eq]
  split
  · exact ⟨by simp, fun x hx => (List.mem_cons.1 hx).elim .inr (fun hx => .inl ((digs_all _ _ (Nat.le_refl _)).2.1 x hx))⟩
  · exact ⟨(digs_all _ _ (Nat.le_refl _)).1, fun x hx => .inl ((digs_all _ _ (Nat.le_refl _)).2.1 x hx)⟩
theorem itN_inj {a b : Int} (h : itN a = itN b) : a = b := by
  rw [itN_eq, itN_eq] at h
  have key : ∀ u : Nat, ∀ l, 45 :: l ≠ digs u := fun u l e => by
    have := (digs_all u u (Nat.le_refl _)).2.1 45 (e ▸ List.mem_cons_self ..)
    unfold isDig at this; omega
  have inj : ∀ u v : Nat, digs u = digs v → u = v := fun u v e => by rw [← (digs_all u u (Nat.le_refl _)).2.2, e, (digs_all v v (Nat.le_refl _)).2.2]
  split at h <;> split at h
  · have := inj _ _ (List.cons.inj h).2; omega
  · exact absurd h (key _ _)
  · exact absurd h.symm (key _ _)
  · have := inj _ _ h; omega
/-- A text with its escapes. -/
inductive Enc : List Nat → List Nat → Prop
  | nil : Enc [] []
  | plain {b : Nat} {t u : List Nat} : b ≠ 34 → b ≠ 92 → b ≠ 10 → Enc t u → Enc (b :: t) (b :: u)
  | esc {b : Nat} {t u : List Nat} : b < 256 → Enc t u → Enc (b :: t) (esc b ++ u)
def une : List Nat → Nat × List Nat
  | _ :: c :: r => if c = 92 ∨ c = 34 then (c, r) else if c = 110 then (10, r) else if c = 114 then (13, r) else if c = 116 then (9, r) else match r with
    | b :: d :: q => ((c - 48) * 64 + (b - 48) * 8 + (d - 48), q)
    | _ => (0, r)
  | _ => (0, [])
theorem une_esc {x : Nat} (h : x < 256) (A : List Nat) : une (esc x ++ A) = (x, A) := by
  unfold esc
  split
  · rename_i h1; simp only [List.cons_append, List.nil_append, une]; rw [if_pos h1]
  · split
    · rename_i h2; subst h2; simp [une]
    · split
      · rename_i h2; subst h2; simp [une]
      · split
        · rename_i h2; subst h2; simp [une]
        · simp only [List.cons_append, List.nil_append, une]
          rw [if_neg (by omega), if_neg (by omega), if_neg (by omega), if_neg (by omega)]
          congr 1
          omega
theorem esc_inj {x y : Nat} (hx : x < 256) (hy : y < 256) {A B : List Nat} (h : esc x ++ A = esc y ++ B) : x = y ∧ A = B := by
  have := congrArg une h
  rw [une_esc hx, une_esc hy] at this
  exact ⟨congrArg Prod.fst this, congrArg Prod.snd this⟩
theorem esc_head (x : Nat) : ∃ r, esc x = 92 :: r := by
  unfold esc
  repeat' split
  all_goals exact ⟨_, rfl⟩
theorem enc_inj {t u : List Nat} (h : Enc t u) : ∀ {t' u' r r' : List Nat}, Enc t' u' → u ++ 34 :: r = u' ++ 34 :: r' → t = t' ∧ r = r' := by
  induction h with
  | nil =>
    intro t' u' r r' h' e
    cases h' with
    | nil => exact ⟨rfl, by simpa using e⟩
    | plain h1 _ _ _ => exact absurd (List.cons.inj e).1.symm h1
    | @esc b t u h1 _ => obtain ⟨q, hq⟩ := esc_head b; rw [hq] at e; simp at e
  | plain h1 h2 h3 _ ih =>
    intro t' u' r r' h' e
    cases h' with
    | nil => exact absurd (List.cons.inj e).1 h1
    | plain _ _ _ k => obtain ⟨rfl, e2⟩ := List.cons.inj e; obtain ⟨rfl, e3⟩ := ih k e2; exact ⟨rfl, e3⟩
    | @esc b t u _ _ => obtain ⟨q, hq⟩ := esc_head b; rw [hq] at e; exact absurd (List.cons.inj e).1 h2
  | @esc x t u hx _ ih =>
    intro t' u' r r' h' e
    cases h' with
    | nil => obtain ⟨q, hq⟩ := esc_head x; rw [hq] at e; simp at e
    | plain _ k2 _ _ => obtain ⟨q, hq⟩ := esc_head x; rw [hq] at e; exact absurd (List.cons.inj e).1.symm k2
    | @esc y t u hy k =>
      rw [List.append_assoc, List.append_assoc] at e
      obtain ⟨rfl, e2⟩ := esc_inj hx hy e
      obtain ⟨rfl, e3⟩ := ih k e2
      exact ⟨rfl, e3⟩
theorem enc_no10 {t u : List Nat} (h : Enc t u) : 10 ∉ u := by
  induction h with
  | nil => simp
  | plain _ _ h _ ih => simp only [List.mem_cons, not_or]; exact ⟨fun e => h e.symm, ih⟩
  | @esc b _ _ hb _ ih =>
    simp only [List.mem_append, not_or]
    refine ⟨?_, ih⟩
    unfold esc
    repeat' split
    all_goals simp
    all_goals omega
theorem enc_plain {t u : List Nat} (h : Enc t u) : ∀ (A : List Nat), (∀ c ∈ A, c ≠ 34 ∧ c ≠ 0 ∧ c ≠ 10 ∧ c ≠ 92) → Enc (A ++ t) (A ++ u)
  | [], _ => h
  | a :: A, ha => .plain (ha a (List.mem_cons_self ..)).1 (ha a (List.mem_cons_self ..)).2.2.2 (ha a (List.mem_cons_self ..)).2.2.1 (enc_plain h A (fun c hc => ha c (List.mem_cons_of_mem _ hc)))
theorem enc_all (s : ByteArray) : ∀ (m k : Nat), s.size - k ≤ m → k ≤ s.size → Enc ((strN s).drop k) (qAll s k) := by
  intro m
  induction m with
  | zero =>
    intro k hm hk
    rw [qAll_end (by omega), List.drop_eq_nil_of_le (by rw [strN_len]; omega)]
    exact .nil
  | succ m ih =>
    intro k hm hk
    by_cases hlt : k < s.size
    · rw [qAll_step hlt]
      have hqn := qn_le hlt
      have hqp := qn_pos s k
      have i1 := ih (k + qn s k) (by omega) hqn
      by_cases h0 : plainK s k = 0
      · have e1 : qs s k = esc (byteAt s k) := by unfold qs; rw [if_pos h0]
        have e2 : qn s k = 1 := by unfold qn; rw [if_pos h0]
        have : (strN s).drop k = byteAt s k :: (strN s).drop (k + 1) := by
          have hk2 : k < (strN s).length := by rw [strN_len]; exact hlt
          rw [List.drop_eq_getElem_cons hk2]
          congr 1
          have := strN_at s k hlt
          rw [List.getElem?_eq_getElem hk2] at this
          exact Option.some.inj this
        rw [e2] at i1
        rw [this, e1, e2]
        exact .esc (byteAt_lt s k) i1
      · have e1 : qs s k = sub s k (plainK s k) := by unfold qs; rw [if_neg h0]
        have e2 : qn s k = plainK s k := by unfold qn; rw [if_neg h0]
        have : (strN s).drop k = sub s k (plainK s k) ++ (strN s).drop (k + plainK s k) := by
          unfold sub
          rw [← List.drop_drop, List.take_append_drop]
        rw [e2] at i1
        rw [this, e1, e2]
        exact enc_plain i1 _ (plain_bytes hlt h0)
    · rw [qAll_end hlt, List.drop_eq_nil_of_le (by rw [strN_len]; omega)]
      exact .nil
theorem encQ (s : ByteArray) : ∃ E, Enc (strN s) E ∧ strN (quoteB s) = 34 :: (E ++ [34]) := by
  refine ⟨qAll s 0, enc_all s _ 0 (Nat.le_refl _) (Nat.zero_le _), ?_⟩
  unfold quoteB
  rw [strN_ofN]
  · rfl
  · exact (byt_34.append (qAll_byt s _ 0 (Nat.le_refl _))).append byt_34
theorem quote_inj {s s' : ByteArray} {r r' : List Nat} (h : strN (quoteB s) ++ r = strN (quoteB s') ++ r') : s = s' ∧ r = r' := by
  obtain ⟨E, h1, h2⟩ := encQ s
  obtain ⟨E', k1, k2⟩ := encQ s'
  rw [h2, k2] at h
  rw [List.cons_append, List.cons_append, List.append_assoc, List.append_assoc] at h
  obtain ⟨e1, e2⟩ := enc_inj h1 k1 (List.cons.inj h).2
  exact ⟨strN_inj e1, e2⟩
theorem quote_no10 (s : ByteArray) : 10 ∉ strN (quoteB s) := by
  obtain ⟨E, h1, h2⟩ := encQ s
  rw [h2]
  have := enc_no10 h1
  simp [this]
theorem quote_head (s : ByteArray) : ∃ r, strN (quoteB s) = 34 :: r := by
  obtain ⟨E, h1, h2⟩ := encQ s
  exact ⟨_, h2⟩
/-- Texts with a comma and a blank between. -/
def jn : List (List Nat) → List Nat
  | [] => []
  | [t] => t
  | t :: r => t ++ 44 :: 32 :: jn r
theorem jn_cons (t u : List Nat) (r : List (List Nat)) : jn (t :: u :: r) = t ++ 44 :: 32 :: jn (u :: r) := rfl
theorem join_strN : ∀ ts : List ByteArray, strN (joinB ts) = jn (ts.map strN)
  | [] => rfl
  | [t] => by simp [joinB, Go.Lib.join, strN, jn]
  | t :: u :: r => by
    have ih := join_strN (u :: r)
    unfold joinB Go.Lib.join strN at ih ⊢
    simp only [List.map_cons] at ih ⊢
    rw [jn]
    · rw [← ih]
      simp [List.intercalate_cons_cons]
    · simp
theorem jn_nl : ∀ (t : List Nat) (r : List (List Nat)), jn (t :: r) ++ [44] = nl 44 (t :: r.map (32 :: ·))
  | t, [] => by simp [jn, nl]
  | t, u :: r => by
    have ih := jn_nl u r
    rw [jn, nl_cons, List.map_cons, nl_cons, List.append_assoc, List.cons_append, List.cons_append, ih, nl_cons]
    · rfl
    · simp
theorem jn_inj {a b : List (List Nat)} (ha : a ≠ []) (hb : b ≠ []) (h1 : ∀ l ∈ a, 44 ∉ l) (h2 : ∀ l ∈ b, 44 ∉ l) (h : jn a = jn b) : a = b := by
  match a, b, ha, hb with
  | t :: r, u :: q, _, _ =>
    have e : nl 44 (t :: r.map (32 :: ·)) = nl 44 (u :: q.map (32 :: ·)) := by rw [← jn_nl, ← jn_nl, h]
    have key : ∀ (t : List Nat) (r : List (List Nat)), (∀ l ∈ t :: r, 44 ∉ l) → ∀ l ∈ t :: r.map (32 :: ·), 44 ∉ l := by
      intro t r h l hl
      rcases List.mem_cons.1 hl with rfl | hl
      · exact h l (List.mem_cons_self ..)
      · obtain ⟨m, hm, rfl⟩ := List.mem_map.1 hl
        simp only [List.mem_cons, not_or]
        exact ⟨by decide, h m (List.mem_cons_of_mem _ hm)⟩
    obtain ⟨rfl, e2⟩ := List.cons.inj (nl_inj _ _ (key t r h1) (key u q h2) e)
    rw [map_inj (fun x y e => (List.cons.inj e).2) _ _ e2]
theorem jq_inj : ∀ (a b : List ByteArray), a ≠ [] → b ≠ [] → jn ((a.map quoteB).map strN) ++ [59] = jn ((b.map quoteB).map strN) ++ [59] → a = b
  | [s], [t], _, _, h => by
    simp only [List.map_cons, List.map_nil, jn] at h
    rw [(quote_inj h).1]
  | [s], t :: u :: r, _, _, h => by
    simp only [List.map_cons, List.map_nil, jn, List.append_assoc] at h
    have := (quote_inj h).2
    simp at this
  | s :: u :: r, [t], _, _, h => by
    simp only [List.map_cons, List.map_nil, jn, List.append_assoc] at h
    have := (quote_inj h).2
    simp at this
  | s :: u :: r, s' :: u' :: r', _, _, h => by
    have ih := jq_inj (u :: r) (u' :: r') (by simp) (by simp)
    simp only [List.map_cons] at ih
    simp only [List.map_cons] at h
    rw [jn_cons, jn_cons, List.append_assoc, List.append_assoc] at h
    obtain ⟨rfl, e2⟩ := quote_inj h
    rw [ih (by simpa using e2)]
/-- Rows of numbers. -/
def rowP (most : Int) (r : Int × Int) : List (List Nat) := if r.2 = r.1 then [itN r.1] else if r.2 = most then [itN r.1, [116, 111], [109, 97, 120]] else [itN r.1, [116, 111], itN r.2]
theorem row_nl (most : Int) (r : Int × Int) : strN (rowT most r) ++ [32] = nl 32 (rowP most r) := by
  unfold rowT rowP
  split
  · simp [nl, itN]
  · split
    · rw [strN_app, nl_cons, nl_cons, nl_cons, List.append_assoc]; rfl
    · rw [strN_app, strN_app, nl_cons, nl_cons, nl_cons, List.append_assoc, List.append_assoc]; rfl
theorem it_no {x : Nat} (h1 : ¬ isDig x) (h2 : x ≠ 45) (n : Int) : x ∉ itN n := fun h => ((itN_chars n).2 x h).elim h1 h2
theorem rowP_no (most : Int) (r : Int × Int) : ∀ l ∈ rowP most r, 32 ∉ l := by
  have h := fun n => it_no (x := 32) (by unfold isDig; omega) (by decide) n
  unfold rowP
  split
  · simp [h]
  · split <;> simp [h]
theorem row_inj {most : Int} {r r' : Int × Int} (e : strN (rowT most r) = strN (rowT most r')) : r = r' := by
  have e2 : nl 32 (rowP most r) = nl 32 (rowP most r') := by rw [← row_nl, ← row_nl, e]
  have e3 := nl_inj _ _ (rowP_no most r) (rowP_no most r') e2
  have nomax : ∀ n, itN n ≠ [109, 97, 120] := fun n h => by
    have := (itN_chars n).2 109 (by rw [h]; simp)
    unfold isDig at this; omega
  obtain ⟨a, b⟩ := r
  obtain ⟨a', b'⟩ := r'
  unfold rowP at e3
  simp only at e3
  repeat' split at e3
  all_goals simp only [List.cons.injEq, and_true, true_and, reduceCtorEq, and_false] at e3
  · have := itN_inj e3; subst this; rename_i h1 h2; rw [h1, h2]
  · have := itN_inj e3; subst this; simp_all
  · exact absurd e3.2.symm (nomax _)
  · exact absurd e3.2 (nomax _)
  · rw [itN_inj e3.1, itN_inj e3.2]
theorem row_chars (most : Int) (r : Int × Int) : strN (rowT most r) ≠ [] ∧ (∀ x ∈ strN (rowT most r), isDig x ∨ x = 45 ∨ x = 32 ∨ x = 116 ∨ x = 111 ∨ x = 109 ∨ x = 97 ∨ x = 120) ∧ (strN (rowT most r)).head? ≠ some 34 := by
  have key : ∀ n r, itN n ++ r ≠ [] ∧ (itN n ++ r).head? ≠ some 34 := fun n r => by
    obtain ⟨h1, h2⟩ := itN_chars n
    cases h : itN n with
    | nil => exact absurd h h1
    | cons a q =>
      refine ⟨by simp, fun e => ?_⟩
      have ha := h2 a (by rw [h]; simp)
      obtain rfl : a = 34 := by simpa using e
      unfold isDig at ha; omega
  have it : ∀ n x, x ∈ itN n → isDig x ∨ x = 45 ∨ x = 32 ∨ x = 116 ∨ x = 111 ∨ x = 109 ∨ x = 97 ∨ x = 120 := fun n x hx => ((itN_chars n).2 x hx).elim .inl (fun h => .inr (.inl h))
  unfold rowT
  split
  · have := key r.1 []
    rw [List.append_nil] at this
    exact ⟨this.1, fun x hx => it _ x hx, this.2⟩
  · split
    · rw [strN_app]
      refine ⟨(key _ _).1, fun x hx => ?_, (key _ _).2⟩
      rcases List.mem_append.1 hx with hx | hx
      · exact it _ x hx
      · have : x ∈ [32, 116, 111, 32, 109, 97, 120] := hx
        simp at this; omega
    · rw [strN_app, strN_app, List.append_assoc]
      refine ⟨(key _ _).1, fun x hx => ?_, (key _ _).2⟩
      rcases List.mem_append.1 hx with hx | hx
      · exact it _ x hx
      · rcases List.mem_append.1 hx with hx | hx
        · have : x ∈ [32, 116, 111, 32] := hx
          simp at this; omega
        · exact it _ x hx
end Go.Proofs.YtaadpiimcaabkaaGreatDoor
