import Derived.Test.YtoojchjfmnbdpabDoorDTi
namespace Go.Proofs.YtoojchjfmnbdpabDoor
open Go.RowKit

theorem snoc_take (l : List (List Nat)) (x : List Nat) : (l ++ [x]).take ((l ++ [x]).length - 1) = l ∧ (l ++ [x]).getD ((l ++ [x]).length - 1) [] = x := by
  constructor
  · simp
  · rw [List.getD_eq_getElem?_getD]
    simp
theorem way_steps : ∀ (f g : Nat) (ls : List (List Nat)) (a : Nat), ls.length ≤ f → ls.length ≤ g → (wayF f ls a).length = stepsF g a ls.length := by
  intro f
  induction f with
  | zero =>
    intro g ls a hf hg
    have h0 : ls.length = 0 := by omega
    rw [h0]
    cases g with
    | zero => rfl
    | succ g => rw [stepsF, if_pos (by omega)]; rfl
  | succ f ih =>
    intro g ls a hf hg
    by_cases h2 : ls.length < 2
    · rw [wayF, if_pos h2]
      cases g with
      | zero => rfl
      | succ g => rw [stepsF, if_pos h2]; rfl
    · obtain ⟨g, rfl⟩ : ∃ x, g = x + 1 := ⟨g - 1, by omega⟩
      have k0 := cutN_pos ls.length
      have k1 := cutN_lt (n := ls.length) (by omega)
      rw [wayF, if_neg h2, stepsF, if_neg h2]
      generalize cutN ls.length = k at *
      by_cases hlt : a < k
      · rw [if_pos hlt, if_pos hlt, List.length_append, ih g (ls.take k) a (by rw [List.length_take]; omega) (by rw [List.length_take]; omega), List.length_take, Nat.min_eq_left (by omega)]
        simp only [List.length_cons, List.length_nil]
        omega
      · rw [if_neg hlt, if_neg hlt, List.length_append, ih g (ls.drop k) (a - k) (by rw [List.length_drop]; omega) (by rw [List.length_drop]; omega), List.length_drop]
        simp only [List.length_cons, List.length_nil]
        omega
theorem come_way : ∀ (f g : Nat) (ls : List (List Nat)) (a : Nat) (leaf : List Nat), ls.length ≤ f → ls.length ≤ g → ls[a]? = some leaf → comeF g leaf a ls.length (wayF f ls a) = rootF f ls := by
  intro f
  induction f with
  | zero =>
    intro g ls a leaf hf hg ha
    have := (List.getElem?_eq_some_iff.1 ha).1
    omega
  | succ f ih =>
    intro g ls a leaf hf hg ha
    have hal := (List.getElem?_eq_some_iff.1 ha).1
    obtain ⟨g, rfl⟩ : ∃ x, g = x + 1 := ⟨g - 1, by omega⟩
    by_cases h2 : ls.length < 2
    · have h1 : ls.length = 1 := by omega
      obtain ⟨l, rfl⟩ := List.length_eq_one_iff.1 h1
      obtain rfl : a = 0 := by simpa using hal
      obtain rfl : l = leaf := by simpa using ha
      rw [comeF, if_pos (by simp), rootF, if_neg (by simp), if_pos (by simp)]
      rfl
    · have k0 := cutN_pos ls.length
      have k1 := cutN_lt (n := ls.length) (by omega)
      have eR : rootF (f + 1) ls = sha (1 :: (rootF f (ls.take (cutN ls.length)) ++ rootF f (ls.drop (cutN ls.length)))) := by rw [rootF, if_neg (by omega), if_neg (by omega)]
      have eW : wayF (f + 1) ls a = if a < cutN ls.length then wayF f (ls.take (cutN ls.length)) a ++ [rootF f (ls.drop (cutN ls.length))] else wayF f (ls.drop (cutN ls.length)) (a - cutN ls.length) ++ [rootF f (ls.take (cutN ls.length))] := by rw [wayF, if_neg h2]
      rw [comeF, if_neg h2, eR, eW]
      clear eR eW
      generalize cutN ls.length = k at *
      by_cases hlt : a < k
      · rw [if_pos hlt, if_pos hlt]
        obtain ⟨e1, e2⟩ := snoc_take (wayF f (ls.take k) a) (rootF f (ls.drop k))
        have := ih g (ls.take k) a leaf (by rw [List.length_take]; omega) (by rw [List.length_take]; omega) (by rw [List.getElem?_take, if_pos hlt]; exact ha)
        rw [List.length_take, Nat.min_eq_left (by omega)] at this
        rw [e1, e2, this]
      · rw [if_neg hlt, if_neg hlt]
        obtain ⟨e1, e2⟩ := snoc_take (wayF f (ls.drop k) (a - k)) (rootF f (ls.take k))
        have := ih g (ls.drop k) (a - k) leaf (by rw [List.length_drop]; omega) (by rw [List.length_drop]; omega) (by rw [List.getElem?_drop, Nat.add_sub_cancel' (by omega)]; exact ha)
        rw [List.length_drop] at this
        rw [e1, e2, this]
/-- What is hashed on the way up from a leaf, from the leaf on. -/
def upsF : Nat → List Nat → Nat → Nat → List (List Nat) → List (List Nat)
  | 0, leaf, _, _, _ => [0 :: leaf]
  | f + 1, leaf, a, c, pf => if c < 2 then [0 :: leaf] else if a < cutN c then upsF f leaf a (cutN c) (pf.take (pf.length - 1)) ++ [1 :: (comeF f leaf a (cutN c) (pf.take (pf.length - 1)) ++ pf.getD (pf.length - 1) [])] else upsF f leaf (a - cutN c) (c - cutN c) (pf.take (pf.length - 1)) ++ [1 :: (pf.getD (pf.length - 1) [] ++ comeF f leaf (a - cutN c) (c - cutN c) (pf.take (pf.length - 1)))]
theorem ups_len : ∀ (f : Nat) (leaf : List Nat) (a c : Nat) (pf : List (List Nat)), c ≤ f → (upsF f leaf a c pf).length = stepsF f a c + 1
  | 0, leaf, a, c, pf, _ => rfl
  | f + 1, leaf, a, c, pf, h => by
    rw [upsF, stepsF]
    by_cases h2 : c < 2
    · rw [if_pos h2, if_pos h2]; rfl
    · have k0 := cutN_pos c
      have k1 := cutN_lt (n := c) (by omega)
      rw [if_neg h2, if_neg h2]
      by_cases hlt : a < cutN c
      · rw [if_pos hlt, if_pos hlt, List.length_append, ups_len f _ _ _ _ (by omega)]
        simp only [List.length_cons, List.length_nil]
        omega
      · rw [if_neg hlt, if_neg hlt, List.length_append, ups_len f _ _ _ _ (by omega)]
        simp only [List.length_cons, List.length_nil]
        omega
theorem ups_last : ∀ (f : Nat) (leaf : List Nat) (a c : Nat) (pf : List (List Nat)), ∃ l x, upsF f leaf a c pf = l ++ [x] ∧ comeF f leaf a c pf = sha x
  | 0, leaf, a, c, pf => ⟨[], _, rfl, rfl⟩
  | f + 1, leaf, a, c, pf => by
    rw [upsF, comeF]
    by_cases h2 : c < 2
    · rw [if_pos h2, if_pos h2]; exact ⟨[], _, rfl, rfl⟩
    · rw [if_neg h2, if_neg h2]
      by_cases hlt : a < cutN c
      · rw [if_pos hlt, if_pos hlt]; exact ⟨_, _, rfl, rfl⟩
      · rw [if_neg hlt, if_neg hlt]; exact ⟨_, _, rfl, rfl⟩
/-- Who comes to the same root with another leaf shows two unlike lists of the same digest. -/
theorem binds : ∀ (f : Nat) (x y : List Nat) (a c : Nat) (p q : List (List Nat)), c ≤ f → p.length = stepsF f a c → q.length = stepsF f a c → (∀ l ∈ p, l.length = 32) → (∀ l ∈ q, l.length = 32) → comeF f x a c p = comeF f y a c q → x ≠ y → ∃ (i : Nat) (u v : List Nat), (upsF f x a c p)[i]? = some u ∧ (upsF f y a c q)[i]? = some v ∧ u ≠ v ∧ sha u = sha v := by
  intro f
  induction f with
  | zero =>
    intro x y a c p q hc hp hq hpl hql he hne
    exact ⟨0, _, _, rfl, rfl, fun e => hne (by injection e), he⟩
  | succ f ih =>
    intro x y a c p q hc hp hq hpl hql he hne
    by_cases h2 : c < 2
    · rw [comeF, if_pos h2, comeF, if_pos h2] at he
      rw [upsF, if_pos h2, upsF, if_pos h2]
      exact ⟨0, _, _, rfl, rfl, fun e => hne (by injection e), he⟩
    · have k0 := cutN_pos c
      have k1 := cutN_lt (n := c) (by omega)
      have lp : ∀ l ∈ p.take (p.length - 1), l.length = 32 := fun l hl => hpl l (List.mem_of_mem_take hl)
      have lq : ∀ l ∈ q.take (q.length - 1), l.length = 32 := fun l hl => hql l (List.mem_of_mem_take hl)
      rw [stepsF, if_neg h2] at hp hq
      by_cases hlt : a < cutN c
      · rw [if_pos hlt] at hp hq
        have np : (p.take (p.length - 1)).length = stepsF f a (cutN c) := by rw [List.length_take]; omega
        have nq : (q.take (q.length - 1)).length = stepsF f a (cutN c) := by rw [List.length_take]; omega
        rw [comeF, if_neg h2, if_pos hlt, comeF, if_neg h2, if_pos hlt] at he
        rw [upsF, if_neg h2, if_pos hlt, upsF, if_neg h2, if_pos hlt]
        have n1 := ups_len f x a (cutN c) (p.take (p.length - 1)) (by omega)
        have n2 := ups_len f y a (cutN c) (q.take (q.length - 1)) (by omega)
        by_cases hs : comeF f x a (cutN c) (p.take (p.length - 1)) = comeF f y a (cutN c) (q.take (q.length - 1))
        · obtain ⟨i, u, v, e1, e2, e3, e4⟩ := ih x y a (cutN c) _ _ (by omega) np nq lp lq hs hne
          exact ⟨i, u, v, by rw [List.getElem?_append_left (List.getElem?_eq_some_iff.1 e1).1]; exact e1, by rw [List.getElem?_append_left (List.getElem?_eq_some_iff.1 e2).1]; exact e2, e3, e4⟩
        · refine ⟨(upsF f x a (cutN c) (p.take (p.length - 1))).length, _, _, List.getElem?_concat_length, ?_, ?_, he⟩
          · rw [n1, ← n2]; exact List.getElem?_concat_length
          · intro e
            injection e with _ e
            exact hs (List.append_inj_left e (by rw [comeF_len, comeF_len]))
      · rw [if_neg hlt] at hp hq
        have np : (p.take (p.length - 1)).length = stepsF f (a - cutN c) (c - cutN c) := by rw [List.length_take]; omega
        have nq : (q.take (q.length - 1)).length = stepsF f (a - cutN c) (c - cutN c) := by rw [List.length_take]; omega
        rw [comeF, if_neg h2, if_neg hlt, comeF, if_neg h2, if_neg hlt] at he
        rw [upsF, if_neg h2, if_neg hlt, upsF, if_neg h2, if_neg hlt]
        have n1 := ups_len f x (a - cutN c) (c - cutN c) (p.take (p.length - 1)) (by omega)
        have n2 := ups_len f y (a - cutN c) (c - cutN c) (q.take (q.length - 1)) (by omega)
        by_cases hs : comeF f x (a - cutN c) (c - cutN c) (p.take (p.length - 1)) = comeF f y (a - cutN c) (c - cutN c) (q.take (q.length - 1))
        · obtain ⟨i, u, v, e1, e2, e3, e4⟩ := ih x y (a - cutN c) (c - cutN c) _ _ (by omega) np nq lp lq hs hne
          exact ⟨i, u, v, by rw [List.getElem?_append_left (List.getElem?_eq_some_iff.1 e1).1]; exact e1, by rw [List.getElem?_append_left (List.getElem?_eq_some_iff.1 e2).1]; exact e2, e3, e4⟩
        · refine ⟨(upsF f x (a - cutN c) (c - cutN c) (p.take (p.length - 1))).length, _, _, List.getElem?_concat_length, ?_, ?_, he⟩
          · rw [n1, ← n2]; exact List.getElem?_concat_length
          · intro e
            injection e with _ e
            exact hs (List.append_inj_right' e (by rw [comeF_len, comeF_len]))
end Go.Proofs.YtoojchjfmnbdpabDoor
