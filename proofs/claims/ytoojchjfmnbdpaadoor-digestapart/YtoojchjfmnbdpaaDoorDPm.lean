import Derived.Test.YtoojchjfmnbdpaaDoorDFr
import Derived.Test.YtoojchjfmnbdpaaDoorDPt
namespace Go.Proofs.YtoojchjfmnbdpaaDoor

/-- The first so many parts, and what is behind them. -/
def takeParts : Nat → List Nat → Option (List (List Nat) × List Nat)
  | 0, r => some ([], r)
  | n + 1, r => match partOf r with
    | none => none
    | some (p, r') => (takeParts n r').map fun x => (p :: x.1, x.2)
/-- What Parts answers of bytes that are not too long. -/
def partsL (l : List Nat) : Option (List (List Nat)) :=
  if l.length < 4 ∨ 65536 < leN l then none else match takeParts (leN l) (l.drop 4) with
    | some (ps, []) => some ps
    | _ => none
theorem leN_front (n : Nat) (hn : n < 4294967296) (r : List Nat) : leN (le4 n ++ r) = n := by
  simp [leN, le4]
  omega
theorem le4_back {l : List Nat} (hl : Byt l) (h4 : 4 ≤ l.length) : le4 (leN l) ++ l.drop 4 = l := by
  match l, h4 with
  | a :: b :: c :: d :: r, _ =>
    have ha := hl a (by simp)
    have hb := hl b (by simp)
    have hc := hl c (by simp)
    have hd := hl d (by simp)
    simp [leN, le4]
    omega
theorem partOf_front (p r : List Nat) (hp : p.length < 4294967296) : partOf (le4 p.length ++ p ++ r) = some (p, r) := by
  unfold partOf
  have e1 : leN (le4 p.length ++ p ++ r) = p.length := by rw [List.append_assoc]; exact leN_front _ hp _
  have e2 : (le4 p.length ++ p ++ r).drop 4 = p ++ r := by rw [List.append_assoc]; exact List.drop_left' (le4_len _)
  have e3 : (le4 p.length ++ p ++ r).length = 4 + p.length + r.length := by rw [List.length_append, List.length_append, le4_len]
  rw [if_neg (by rw [e1, e3]; omega), e1, e2]
  simp
theorem takeParts_flat (r : List Nat) : ∀ ls : List (List Nat), (∀ l ∈ ls, l.length < 4294967296) → takeParts ls.length ((ls.flatMap fun l => le4 l.length ++ l) ++ r) = some (ls, r)
  | [], _ => rfl
  | l :: ls, h => by
    rw [List.flatMap_cons, List.append_assoc, List.length_cons, takeParts, partOf_front _ _ (h l (by simp))]
    show (takeParts ls.length _).map _ = _
    rw [takeParts_flat r ls (fun x hx => h x (by simp [hx]))]
    rfl
theorem parts_frame {ls : List (List Nat)} (h : ∀ l ∈ ls, l.length < 4294967296) (hn : ls.length ≤ 65536) : partsL (frameL ls) = some ls := by
  unfold partsL frameL
  have e1 := leN_front ls.length (by omega) (ls.flatMap fun l => le4 l.length ++ l)
  have e2 : (le4 ls.length ++ ls.flatMap fun l => le4 l.length ++ l).drop 4 = ls.flatMap fun l => le4 l.length ++ l := List.drop_left' (le4_len _)
  have e3 := takeParts_flat [] ls h
  rw [List.append_nil] at e3
  rw [if_neg (by rw [e1, List.length_append, le4_len]; omega), e1, e2, e3]
theorem Byt.drop {l : List Nat} (h : Byt l) (n : Nat) : Byt (l.drop n) := fun x hx => h x (List.mem_of_mem_drop hx)
theorem Byt.take {l : List Nat} (h : Byt l) (n : Nat) : Byt (l.take n) := fun x hx => h x (List.mem_of_mem_take hx)
theorem partOf_byt {l p r : List Nat} (h : Byt l) (hp : partOf l = some (p, r)) : Byt p ∧ Byt r ∧ l = le4 p.length ++ p ++ r := by
  unfold partOf at hp
  split at hp
  · cases hp
  · rename_i hno
    injection hp with hp
    injection hp with h1 h2
    subst h1 h2
    refine ⟨(h.drop 4).take _, (h.drop 4).drop _, ?_⟩
    have e : ((l.drop 4).take (leN l)).length = leN l := by rw [List.length_take, List.length_drop]; omega
    rw [e, List.append_assoc, List.take_append_drop]
    exact (le4_back h (by omega)).symm
theorem takeParts_back : ∀ (n : Nat) {r : List Nat} {ps : List (List Nat)} {z : List Nat}, Byt r → takeParts n r = some (ps, z) → ps.length = n ∧ r = (ps.flatMap fun l => le4 l.length ++ l) ++ z ∧ (∀ p ∈ ps, Byt p) ∧ Byt z
  | 0, r, ps, z, h, e => by
    injection e with e
    injection e with e1 e2
    subst e1 e2
    exact ⟨rfl, rfl, fun p hp => by simp at hp, h⟩
  | n + 1, r, ps, z, h, e => by
    rw [takeParts] at e
    split at e
    · cases e
    · rename_i p r' hp
      obtain ⟨x, hx, e2⟩ := Option.map_eq_some_iff.1 e
      injection e2 with e3 e4
      obtain ⟨h1, h2, h3⟩ := partOf_byt h hp
      obtain ⟨g1, g2, g3, g4⟩ := takeParts_back n (z := x.2) h2 (ps := x.1) hx
      subst e3 e4
      refine ⟨by simp [g1], ?_, ?_, g4⟩
      · rw [List.flatMap_cons, List.append_assoc, ← g2, h3]
      · intro q hq
        rcases List.mem_cons.1 hq with rfl | hq
        · exact h1
        · exact g3 q hq
theorem frame_parts {l : List Nat} {ps : List (List Nat)} (h : Byt l) (hp : partsL l = some ps) : frameL ps = l ∧ ps.length ≤ 65536 ∧ ∀ p ∈ ps, Byt p := by
  unfold partsL at hp
  split at hp
  · cases hp
  · rename_i hno
    split at hp
    · rename_i qs hq
      injection hp with hp
      subst hp
      obtain ⟨g1, g2, g3, _⟩ := takeParts_back _ (h.drop 4) hq
      refine ⟨?_, by omega, g3⟩
      unfold frameL
      rw [List.append_nil] at g2
      rw [g1, ← g2]
      exact le4_back h (by omega)
    · cases hp
theorem frame_inj {a b : List (List Nat)} (ha : ∀ l ∈ a, l.length < 4294967296) (hb : ∀ l ∈ b, l.length < 4294967296) (na : a.length ≤ 65536) (nb : b.length ≤ 65536) (h : frameL a = frameL b) : a = b := by
  have h1 := parts_frame ha na
  rw [h, parts_frame hb nb] at h1
  exact (Option.some.inj h1).symm
end Go.Proofs.YtoojchjfmnbdpaaDoor
