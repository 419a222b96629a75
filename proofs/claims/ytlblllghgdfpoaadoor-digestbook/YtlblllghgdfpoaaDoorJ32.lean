import Derived.Test.YtlblllghgdfpoaaDoorDTj
import Derived.Test.YtlblllghgdfpoaaDoorJ30
import Derived.Test.YtlblllghgdfpoaaDoorJ17

namespace Go.Proofs.YtlblllghgdfpoaaDoor
open Go.RowKit
attribute [local go_sem ↓] Go.wp_at_zero Go.wp_at_succ

/-- What Rebuild tells. -/
def rebuildA (leaf : List Nat) (z c : Int) (pf : List (List Nat)) : Int × List Nat := if c < 1 ∨ 65536 < c ∨ z < 0 ∨ c ≤ z then (32, []) else if pf.length ≠ stepsF c.toNat z.toNat c.toNat ∨ ¬ (∀ l ∈ pf, l.length = 32) then (32, []) else (0, comeF c.toNat leaf z.toNat c.toNat pf)
theorem rebuildA_byt (leaf : List Nat) (z c : Int) (pf : List (List Nat)) : Byt (rebuildA leaf z c pf).2 := by
  unfold rebuildA
  split
  · intro x hx; cases hx
  · split
    · intro x hx; cases hx
    · exact comeF_byt _ _ _ _ _
set_option maxRecDepth 100000 in
set_option maxHeartbeats 2000000 in
theorem rebuild_own {W : World} (hK : HasK W) (hS : HasS W) {v p : Value} {leaf : List Nat} {z c : Int} {pf : List (List Nat)} (hv : HasB W v leaf) (hvb : Byt leaf) (hvn : leaf.length ≤ 140737488351232) (hp : HasBB W p pf) (hpb : ∀ l ∈ pf, Byt l) :
    Calls Tryd.prog 17 #[v, .int .i64 z, .int .i64 c, p] W fun e W' => ∃ v', e = .returned (.tuple #[v', .int .i64 (rebuildA leaf z c pf).1]) ∧ (Bytes W.heap.size W' v' (rebuildA leaf z c pf).2 ∧ ∃ n m, v' = .slice n (rebuildA leaf z c pf).2.length m) ∧ Below W.heap.size W W' := by
  by_cases h1 : c < 1
  · have eA : rebuildA leaf z c pf = (32, []) := by unfold rebuildA; rw [if_pos (.inl h1)]
    rw [eA]
    obtain ⟨va, vc, rfl, _, _⟩ := hv
    obtain ⟨pa, pc, rfl, _, _⟩ := hp
    have q1 : decide (c < 1) = true := decide_eq_true h1
    clear eA
    go_enter Tryd.func17, Tryd.ntmps17
    go_wp2
    go_ret2
    exact ⟨_, rfl, ⟨bytes_nil _ _, _, _, rfl⟩, Below.refl _ _⟩
  have q1 : decide (c < 1) = false := decide_eq_false h1
  by_cases h2 : 65536 < c
  · have eA : rebuildA leaf z c pf = (32, []) := by unfold rebuildA; rw [if_pos (.inr (.inl h2))]
    rw [eA]
    obtain ⟨va, vc, rfl, _, _⟩ := hv
    obtain ⟨pa, pc, rfl, _, _⟩ := hp
    have q2 : decide (65536 < c) = true := decide_eq_true h2
    clear eA
    go_enter Tryd.func17, Tryd.ntmps17
    go_wp2
    go_ret2
    exact ⟨_, rfl, ⟨bytes_nil _ _, _, _, rfl⟩, Below.refl _ _⟩
  have q2 : decide (65536 < c) = false := decide_eq_false h2
  by_cases h3 : z < 0
  · have eA : rebuildA leaf z c pf = (32, []) := by unfold rebuildA; rw [if_pos (.inr (.inr (.inl h3)))]
    rw [eA]
    obtain ⟨va, vc, rfl, _, _⟩ := hv
    obtain ⟨pa, pc, rfl, _, _⟩ := hp
    have q3 : decide (z < 0) = true := decide_eq_true h3
    clear eA
    go_enter Tryd.func17, Tryd.ntmps17
    go_wp2
    go_ret2
    exact ⟨_, rfl, ⟨bytes_nil _ _, _, _, rfl⟩, Below.refl _ _⟩
  have q3 : decide (z < 0) = false := decide_eq_false h3
  by_cases h4 : c ≤ z
  · have eA : rebuildA leaf z c pf = (32, []) := by unfold rebuildA; rw [if_pos (.inr (.inr (.inr h4)))]
    rw [eA]
    obtain ⟨va, vc, rfl, _, _⟩ := hv
    obtain ⟨pa, pc, rfl, _, _⟩ := hp
    have q4 : decide (c ≤ z) = true := decide_eq_true h4
    clear eA
    go_enter Tryd.func17, Tryd.ntmps17
    go_wp2
    go_ret2
    exact ⟨_, rfl, ⟨bytes_nil _ _, _, _, rfl⟩, Below.refl _ _⟩
  have q4 : decide (c ≤ z) = false := decide_eq_false h4
  obtain ⟨n, hn⟩ : ∃ n : Nat, c = (n : Int) := ⟨c.toNat, by omega⟩
  obtain ⟨a, ha⟩ : ∃ a : Nat, z = (a : Int) := ⟨z.toNat, by omega⟩
  subst hn ha
  have hwl := wayLen_any (W := W) (a := a) (c := n) (by omega) (by omega)
  have hpl0 : (pf.length : Int) ≤ 9223372036854775807 := by obtain ⟨pa, pc, _, hm, _⟩ := hp; have := hm.1; have := hm.2.1; unfold maxLen at this; omega
  have hsl := stepsF_le n a n
  by_cases h5 : pf.length = stepsF n a n
  · have had := areDigests_any hp
    have q5 : ((pf.length : Int) != ((stepsF n a n : Nat) : Int)) = false := by rw [h5]; simp
    by_cases h6 : ∀ l ∈ pf, l.length = 32
    · have eA : rebuildA leaf a n pf = (0, comeF n leaf a n pf) := by
        unfold rebuildA
        rw [if_neg (by omega), if_neg (by simp only [Int.toNat_natCast]; rintro (q | q); exact q h5; exact q h6)]
        simp only [Int.toNat_natCast]
      rw [eA]
      rw [decide_eq_true h6] at had
      have hcl := climb_any n hK hS hv hvb hvn hp (fun l hl => ⟨hpb l hl, h6 l hl⟩) h5 (Nat.le_refl _) (by omega) (a := a) (by omega) (by omega)
      have Hcl := hide hcl
      have Had := hide had
      have Hwl := hide hwl
      clear hcl had hwl h5 h6 eA
      generalize stepsF n a n = S at *
      generalize comeF n leaf a n pf = C at *
      obtain ⟨va, vc, rfl, _, _⟩ := hv
      obtain ⟨pa, pc, rfl, _, _⟩ := hp
      go_enter Tryd.func17, Tryd.ntmps17
      go_wp2_with fail
      refine (unhide Hwl).mono ?_
      rintro e w' ⟨rfl, he⟩
      obtain rfl : W = w' := he.symm
      clear he
      go_wp2_with fail
      refine (unhide Had).mono ?_
      rintro e w' ⟨rfl, he⟩
      obtain rfl : W = w' := he.symm
      clear he
      go_wp2_with fail
      refine (unhide Hcl).mono ?_
      rintro e w2 ⟨v2, rfl, hB2, hb2⟩
      obtain ⟨x, y, hv⟩ : ∃ x y, v2 = .slice x C.length y := by obtain ⟨x, y, e, _⟩ := id hB2.has; exact ⟨_, _, e⟩
      subst hv
      have HB := hide hB2
      have Hb := hide hb2
      clear hB2 hb2 Hcl
      go_wp2
      go_ret2
      exact ⟨_, rfl, ⟨unhide HB, _, _, rfl⟩, unhide Hb⟩
    · have eA : rebuildA leaf a n pf = (32, []) := by
        unfold rebuildA
        rw [if_neg (by omega), if_pos (.inr h6)]
      rw [eA]
      rw [decide_eq_false h6] at had
      have Had := hide had
      have Hwl := hide hwl
      clear had hwl h5 h6 eA
      generalize stepsF n a n = S at *
      obtain ⟨va, vc, rfl, _, _⟩ := hv
      obtain ⟨pa, pc, rfl, _, _⟩ := hp
      go_enter Tryd.func17, Tryd.ntmps17
      go_wp2_with fail
      refine (unhide Hwl).mono ?_
      rintro e w' ⟨rfl, he⟩
      obtain rfl : W = w' := he.symm
      clear he
      go_wp2_with fail
      refine (unhide Had).mono ?_
      rintro e w' ⟨rfl, he⟩
      obtain rfl : W = w' := he.symm
      clear he
      go_wp2
      go_ret2
      exact ⟨_, rfl, ⟨bytes_nil _ _, _, _, rfl⟩, Below.refl _ _⟩
  · have eA : rebuildA leaf a n pf = (32, []) := by
      unfold rebuildA
      rw [if_neg (by omega), if_pos (.inl (by simpa only [Int.toNat_natCast] using h5))]
    rw [eA]
    have q5 : ((pf.length : Int) != ((stepsF n a n : Nat) : Int)) = true := by simp; omega
    have Hwl := hide hwl
    clear hwl h5 eA
    generalize stepsF n a n = S at *
    obtain ⟨va, vc, rfl, _, _⟩ := hv
    obtain ⟨pa, pc, rfl, _, _⟩ := hp
    go_enter Tryd.func17, Tryd.ntmps17
    go_wp2_with fail
    refine (unhide Hwl).mono ?_
    rintro e w' ⟨rfl, he⟩
    obtain rfl : W = w' := he.symm
    clear he
    go_wp2
    go_ret2
    exact ⟨_, rfl, ⟨bytes_nil _ _, _, _, rfl⟩, Below.refl _ _⟩
theorem rebuild_any {W : World} (hK : HasK W) (hS : HasS W) {v p : Value} {leaf : List Nat} {z c : Int} {pf : List (List Nat)} (hv : HasB W v leaf) (hvb : Byt leaf) (hvn : leaf.length ≤ 140737488351232) (hp : HasBB W p pf) (hpb : ∀ l ∈ pf, Byt l) :
    Calls Tryd.prog 17 #[v, .int .i64 z, .int .i64 c, p] W fun e W' => ∃ v', e = .returned (.tuple #[v', .int .i64 (rebuildA leaf z c pf).1]) ∧ (HasB W' v' (rebuildA leaf z c pf).2 ∧ ∃ n m, v' = .slice n (rebuildA leaf z c pf).2.length m) ∧ Below W.heap.size W W' := (rebuild_own hK hS hv hvb hvn hp hpb).mono fun _ _ ⟨v, h1, ⟨h2, h3⟩, h4⟩ => ⟨v, h1, ⟨h2.has, h3⟩, h4⟩
end Go.Proofs.YtlblllghgdfpoaaDoor

namespace Go.Proofs.YtlblllghgdfpoaaDoor
open Go.RowKit
attribute [local go_sem ↓] Go.wp_at_zero Go.wp_at_succ

def leH : List Nat := [54, 101, 51, 52, 48, 98, 57, 99, 102, 102, 98, 51, 55, 97, 57, 56, 57, 99, 97, 53, 52, 52, 101, 54, 98, 98, 55, 56, 48, 97, 50, 99, 55, 56, 57, 48, 49, 100, 51, 102, 98, 51, 51, 55, 51, 56, 55, 54, 56, 53, 49, 49, 97, 51, 48, 54, 49, 55, 97, 102, 97, 48, 49, 100]
theorem rootA_one : rootA ([] :: []) = (0, sha (0 :: [])) := by
  unfold rootA
  rw [if_neg (by decide)]
  show (0, rootF (65535 + 1) ([] :: [])) = _
  rw [rootF, if_neg (by decide), if_pos (by decide)]
  rfl
theorem le_sha : hexL (sha (0 :: [])) = leH := by
  rw [shaF_eq]
  decide +kernel
end Go.Proofs.YtlblllghgdfpoaaDoor

namespace Go.Proofs.YtlblllghgdfpoaaDoor
open Go.RowKit

theorem snoc_take (l : List (List Nat)) (x : List Nat) : (l ++ [x]).take ((l ++ [x]).length - 1) = l ∧ (l ++ [x]).getD ((l ++ [x]).length - 1) [] = x := by
  constructor
  · simp
  · rw [List.getD_eq_getElem?_getD]
    simp
theorem way_steps : ∀ (f g : Nat) (ls : List (List Nat)) (a : Nat), ls.length ≤ f → ls.length ≤ g → (wayF f ls a).length = stepsF g a ls.length := by
  intro f
  induction f with
  | zero =>
    intro g ls a hf hg
    have h0 : ls.length = 0 := by omega
    rw [h0]
    cases g with
    | zero => rfl
    | succ g => rw [stepsF, if_pos (by omega)]; rfl
  | succ f ih =>
    intro g ls a hf hg
    by_cases h2 : ls.length < 2
    · rw [wayF, if_pos h2]
      cases g with
      | zero => rfl
      | succ g => rw [stepsF, if_pos h2]; rfl
    · obtain ⟨g, rfl⟩ : ∃ x, g = x + 1 := ⟨g - 1, by omega⟩
      have k0 := cutN_pos ls.length
      have k1 := cutN_lt (n := ls.length) (by omega)
      rw [wayF, if_neg h2, stepsF, if_neg h2]
      generalize cutN ls.length = k at *
      by_cases hlt : a < k
      · rw [if_pos hlt, if_pos hlt, List.length_append, ih g (ls.take k) a (by rw [List.length_take]; omega) (by rw [List.length_take]; omega), List.length_take, Nat.min_eq_left (by omega)]
        simp only [List.length_cons, List.length_nil]
        omega
      · rw [if_neg hlt, if_neg hlt, List.length_append, ih g (ls.drop k) (a - k) (by rw [List.length_drop]; omega) (by rw [List.length_drop]; omega), List.length_drop]
        simp only [List.length_cons, List.length_nil]
        omega
theorem come_way : ∀ (f g : Nat) (ls : List (List Nat)) (a : Nat) (leaf : List Nat), ls.length ≤ f → ls.length ≤ g → ls[a]? = some leaf → comeF g leaf a ls.length (wayF f ls a) = rootF f ls := by
  intro f
  induction f with
  | zero =>
    intro g ls a leaf hf hg ha
    have := (List.getElem?_eq_some_iff.1 ha).1
    omega
  | succ f ih =>
    intro g ls a leaf hf hg ha
    have hal := (List.getElem?_eq_some_iff.1 ha).1
    obtain ⟨g, rfl⟩ : ∃ x, g = x + 1 := ⟨g - 1, by omega⟩
    by_cases h2 : ls.length < 2
    · have h1 : ls.length = 1 := by omega
      obtain ⟨l, rfl⟩ := List.length_eq_one_iff.1 h1
      obtain rfl : a = 0 := by simpa using hal
      obtain rfl : l = leaf := by simpa using ha
      rw [comeF, if_pos (by simp), rootF, if_neg (by simp), if_pos (by simp)]
      rfl
    · have k0 := cutN_pos ls.length
      have k1 := cutN_lt (n := ls.length) (by omega)
      have eR : rootF (f + 1) ls = sha (1 :: (rootF f (ls.take (cutN ls.length)) ++ rootF f (ls.drop (cutN ls.length)))) := by rw [rootF, if_neg (by omega), if_neg (by omega)]
      have eW : wayF (f + 1) ls a = if a < cutN ls.length then wayF f (ls.take (cutN ls.length)) a ++ [rootF f (ls.drop (cutN ls.length))] else wayF f (ls.drop (cutN ls.length)) (a - cutN ls.length) ++ [rootF f (ls.take (cutN ls.length))] := by rw [wayF, if_neg h2]
      rw [comeF, if_neg h2, eR, eW]
      clear eR eW
      generalize cutN ls.length = k at *
      by_cases hlt : a < k
      · rw [if_pos hlt, if_pos hlt]
        obtain ⟨e1, e2⟩ := snoc_take (wayF f (ls.take k) a) (rootF f (ls.drop k))
        have := ih g (ls.take k) a leaf (by rw [List.length_take]; omega) (by rw [List.length_take]; omega) (by rw [List.getElem?_take, if_pos hlt]; exact ha)
        rw [List.length_take, Nat.min_eq_left (by omega)] at this
        rw [e1, e2, this]
      · rw [if_neg hlt, if_neg hlt]
        obtain ⟨e1, e2⟩ := snoc_take (wayF f (ls.drop k) (a - k)) (rootF f (ls.take k))
        have := ih g (ls.drop k) (a - k) leaf (by rw [List.length_drop]; omega) (by rw [List.length_drop]; omega) (by rw [List.getElem?_drop, Nat.add_sub_cancel' (by omega)]; exact ha)
        rw [List.length_drop] at this
        rw [e1, e2, this]
/-- What is hashed on the way up from a leaf, from the leaf on. -/
def upsF : Nat → List Nat → Nat → Nat → List (List Nat) → List (List Nat)
  | 0, leaf, _, _, _ => [0 :: leaf]
  | f + 1, leaf, a, c, pf => if c < 2 then [0 :: leaf] else if a < cutN c then upsF f leaf a (cutN c) (pf.take (pf.length - 1)) ++ [1 :: (comeF f leaf a (cutN c) (pf.take (pf.length - 1)) ++ pf.getD (pf.length - 1) [])] else upsF f leaf (a - cutN c) (c - cutN c) (pf.take (pf.length - 1)) ++ [1 :: (pf.getD (pf.length - 1) [] ++ comeF f leaf (a - cutN c) (c - cutN c) (pf.take (pf.length - 1)))]
theorem ups_len : ∀ (f : Nat) (leaf : List Nat) (a c : Nat) (pf : List (List Nat)), c ≤ f → (upsF f leaf a c pf).length = stepsF f a c + 1
  | 0, leaf, a, c, pf, _ => rfl
  | f + 1, leaf, a, c, pf, h => by
    rw [upsF, stepsF]
    by_cases h2 : c < 2
    · rw [if_pos h2, if_pos h2]; rfl
    · have k0 := cutN_pos c
      have k1 := cutN_lt (n := c) (by omega)
      rw [if_neg h2, if_neg h2]
      by_cases hlt : a < cutN c
      · rw [if_pos hlt, if_pos hlt, List.length_append, ups_len f _ _ _ _ (by omega)]
        simp only [List.length_cons, List.length_nil]
        omega
      · rw [if_neg hlt, if_neg hlt, List.length_append, ups_len f _ _ _ _ (by omega)]
        simp only [List.length_cons, List.length_nil]
        omega
theorem ups_last : ∀ (f : Nat) (leaf : List Nat) (a c : Nat) (pf : List (List Nat)), ∃ l x, upsF f leaf a c pf = l ++ [x] ∧ comeF f leaf a c pf = sha x
  | 0, leaf, a, c, pf => ⟨[], _, rfl, rfl⟩
  | f + 1, leaf, a, c, pf => by
    rw [upsF, comeF]
    by_cases h2 : c < 2
    · rw [if_pos h2, if_pos h2]; exact ⟨[], _, rfl, rfl⟩
    · rw [if_neg h2, if_neg h2]
      by_cases hlt : a < cutN c
      · rw [if_pos hlt, if_pos hlt]; exact ⟨_, _, rfl, rfl⟩
      · rw [if_neg hlt, if_neg hlt]; exact ⟨_, _, rfl, rfl⟩
/-- Who comes to the same root with another leaf shows two unlike lists of the same digest. -/
theorem binds : ∀ (f : Nat) (x y : List Nat) (a c : Nat) (p q : List (List Nat)), c ≤ f → p.length = stepsF f a c → q.length = stepsF f a c → (∀ l ∈ p, l.length = 32) → (∀ l ∈ q, l.length = 32) → comeF f x a c p = comeF f y a c q → x ≠ y → ∃ (i : Nat) (u v : List Nat), (upsF f x a c p)[i]? = some u ∧ (upsF f y a c q)[i]? = some v ∧ u ≠ v ∧ sha u = sha v := by
  intro f
  induction f with
  | zero =>
    intro x y a c p q hc hp hq hpl hql he hne
    exact ⟨0, _, _, rfl, rfl, fun e => hne (by injection e), he⟩
  | succ f ih =>
    intro x y a c p q hc hp hq hpl hql he hne
    by_cases h2 : c < 2
    · rw [comeF, if_pos h2, comeF, if_pos h2] at he
      rw [upsF, if_pos h2, upsF, if_pos h2]
      exact ⟨0, _, _, rfl, rfl, fun e => hne (by injection e), he⟩
    · have k0 := cutN_pos c
      have k1 := cutN_lt (n := c) (by omega)
      have lp : ∀ l ∈ p.take (p.length - 1), l.length = 32 := fun l hl => hpl l (List.mem_of_mem_take hl)
      have lq : ∀ l ∈ q.take (q.length - 1), l.length = 32 := fun l hl => hql l (List.mem_of_mem_take hl)
      rw [stepsF, if_neg h2] at hp hq
      by_cases hlt : a < cutN c
      · rw [if_pos hlt] at hp hq
        have np : (p.take (p.length - 1)).length = stepsF f a (cutN c) := by rw [List.length_take]; omega
        have nq : (q.take (q.length - 1)).length = stepsF f a (cutN c) := by rw [List.length_take]; omega
        rw [comeF, if_neg h2, if_pos hlt, comeF, if_neg h2, if_pos hlt] at he
        rw [upsF, if_neg h2, if_pos hlt, upsF, if_neg h2, if_pos hlt]
        have n1 := ups_len f x a (cutN c) (p.take (p.length - 1)) (by omega)
        have n2 := ups_len f y a (cutN c) (q.take (q.length - 1)) (by omega)
        by_cases hs : comeF f x a (cutN c) (p.take (p.length - 1)) = comeF f y a (cutN c) (q.take (q.length - 1))
        · obtain ⟨i, u, v, e1, e2, e3, e4⟩ := ih x y a (cutN c) _ _ (by omega) np nq lp lq hs hne
          exact ⟨i, u, v, by rw [List.getElem?_append_left (List.getElem?_eq_some_iff.1 e1).1]; exact e1, by rw [List.getElem?_append_left (List.getElem?_eq_some_iff.1 e2).1]; exact e2, e3, e4⟩
        · refine ⟨(upsF f x a (cutN c) (p.take (p.length - 1))).length, _, _, List.getElem?_concat_length, ?_, ?_, he⟩
          · rw [n1, ← n2]; exact List.getElem?_concat_length
          · intro e
            injection e with _ e
            exact hs (List.append_inj_left e (by rw [comeF_len, comeF_len]))
      · rw [if_neg hlt] at hp hq
        have np : (p.take (p.length - 1)).length = stepsF f (a - cutN c) (c - cutN c) := by rw [List.length_take]; omega
        have nq : (q.take (q.length - 1)).length = stepsF f (a - cutN c) (c - cutN c) := by rw [List.length_take]; omega
        rw [comeF, if_neg h2, if_neg hlt, comeF, if_neg h2, if_neg hlt] at he
        rw [upsF, if_neg h2, if_neg hlt, upsF, if_neg h2, if_neg hlt]
        have n1 := ups_len f x (a - cutN c) (c - cutN c) (p.take (p.length - 1)) (by omega)
        have n2 := ups_len f y (a - cutN c) (c - cutN c) (q.take (q.length - 1)) (by omega)
        by_cases hs : comeF f x (a - cutN c) (c - cutN c) (p.take (p.length - 1)) = comeF f y (a - cutN c) (c - cutN c) (q.take (q.length - 1))
        · obtain ⟨i, u, v, e1, e2, e3, e4⟩ := ih x y (a - cutN c) (c - cutN c) _ _ (by omega) np nq lp lq hs hne
          exact ⟨i, u, v, by rw [List.getElem?_append_left (List.getElem?_eq_some_iff.1 e1).1]; exact e1, by rw [List.getElem?_append_left (List.getElem?_eq_some_iff.1 e2).1]; exact e2, e3, e4⟩
        · refine ⟨(upsF f x (a - cutN c) (c - cutN c) (p.take (p.length - 1))).length, _, _, List.getElem?_concat_length, ?_, ?_, he⟩
          · rw [n1, ← n2]; exact List.getElem?_concat_length
          · intro e
            injection e with _ e
            exact hs (List.append_inj_right' e (by rw [comeF_len, comeF_len]))
end Go.Proofs.YtlblllghgdfpoaaDoor
