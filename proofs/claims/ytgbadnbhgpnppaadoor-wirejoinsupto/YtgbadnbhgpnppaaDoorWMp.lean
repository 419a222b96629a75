import Derived.Test.YtgbadnbhgpnppaaDoorWML
namespace Go.Proofs.YtgbadnbhgpnppaaDoor
open Go.RowKit

def plcE (k : Nat) : Nat ⊕ Nat → Nat ⊕ (Nat × Nat)
  | .inl k' => .inl k'
  | .inr c => .inr (c, k)
/-- What is behind a tag that is no group's. -/
def bodyR (s : ByteArray) (st : Bool) (k kd : Nat) : Nat ⊕ Nat := if kd = 0 then plc (vAt s st k) else if kd = 1 then plc (xAt s k 8) else if kd = 2 then plc (tAt s st k) else plc (xAt s k 4)
/-- The reference's records: fuel, group, how many are open, place. -/
def recM (s : ByteArray) (st : Bool) (most : Int) : Nat → Nat → Nat → Nat → Nat ⊕ (Nat × Nat)
  | 0, _, _, k => .inr (0, k)
  | f + 1, g, o, k => if k = s.size then (if g = 0 then .inl k else .inr (20, k)) else
    match vAt s st k with
    | .inr c => .inr (c, k)
    | .inl (u, k') => if u / 8 < 1 ∨ 536870911 < u / 8 then .inr (24, k) else if 5 < u % 8 then .inr (23, k)
      else if u % 8 = 4 then (if u / 8 = g then .inl k' else .inr (25, k))
      else if u % 8 = 3 ∧ (o : Int) = most then .inr (4, k)
      else match (if u % 8 = 3 then recM s st most f (u / 8) (o + 1) k' else plcE k' (bodyR s st k' (u % 8))) with
        | .inr x => .inr x
        | .inl k2 => recM s st most f g o k2
theorem bodyR_lt {s : ByteArray} {st : Bool} {k kd k' : Nat} (h : bodyR s st k kd = .inl k') : k ≤ k' ∧ k' ≤ s.size := by
  unfold bodyR at h
  split at h
  · obtain ⟨u, hu⟩ := plc_inl h
    have := vAt_lt hu
    omega
  · split at h
    · obtain ⟨u, hu⟩ := plc_inl h
      exact xAt_lt hu
    · split at h
      · obtain ⟨u, hu⟩ := plc_inl h
        exact tAt_lt hu
      · obtain ⟨u, hu⟩ := plc_inl h
        exact xAt_lt hu
theorem runM_nil (s : ByteArray) (st : Bool) (depth : Int) (f k num : Nat) : runM s st depth f (.inl (k, num, [])) = .inl k := by
  cases f with
  | zero => rfl
  | succ f => rw [runM, if_pos rfl]
theorem runM_err (s : ByteArray) (st : Bool) (depth : Int) (f : Nat) (x : Nat × Nat) : runM s st depth f (.inr x) = .inr x := by cases f <;> rfl
/-- The fuel does not matter where there is enough. -/
theorem runM_fuel (s : ByteArray) (st : Bool) (depth : Int) : ∀ (f f' k num : Nat) (ar : List Nat), OkM s k num ar → s.size < k + f → s.size < k + f' → runM s st depth f (.inl (k, num, ar)) = runM s st depth f' (.inl (k, num, ar)) := by
  intro f
  induction f with
  | zero => intro f' k num ar ho h1 h2; have := ho.le; omega
  | succ f ih =>
    intro f' k num ar ho h1 h2
    obtain ⟨f', rfl⟩ : ∃ q, f' = q + 1 := ⟨f' - 1, by have := ho.le; omega⟩
    rw [runM, runM]
    by_cases ha : ar = []
    · rw [if_pos ha, if_pos ha]
    · rw [if_neg ha, if_neg ha]
      generalize hr : stepM s st depth k num ar = r
      match r, hr with
      | .inr x, _ => rw [runM_err, runM_err]
      | .inl (k2, num2, ar2), hr =>
        obtain ⟨q1, q2⟩ := stepM_ok ho hr
        exact ih f' k2 num2 ar2 q2 (by omega) (by omega)
theorem vAt_end (s : ByteArray) (st : Bool) : vAt s st s.size = .inr 20 := by
  unfold vAt
  rw [vGo, if_neg (Nat.lt_irrefl _)]
def goOn (s : ByteArray) (st : Bool) (depth : Int) (f num : Nat) (ar : List Nat) : Nat ⊕ (Nat × Nat) → Nat ⊕ (Nat × Nat)
  | .inr x => .inr x
  | .inl k2 => runM s st depth f (.inl (k2, num, ar))
theorem recM_lt (s : ByteArray) (st : Bool) (most : Int) : ∀ (F g o k k2 : Nat), g ≠ 0 → k ≤ s.size → recM s st most F g o k = .inl k2 → k < k2 ∧ k2 ≤ s.size := by
  intro F
  induction F with
  | zero => intro g o k k2 _ _ h; cases h
  | succ F ih =>
    intro g o k k2 hg hk h
    rw [recM] at h
    split at h
    · first | (cases h; done) | (rw [if_neg hg] at h; cases h)
    · split at h
      · cases h
      · rename_i u k' hv
        obtain ⟨-, v1, v2⟩ := vAt_lt hv
        split at h
        · cases h
        · rename_i h24
          split at h
          · cases h
          · split at h
            · split at h
              · obtain rfl := Sum.inl.inj h
                omega
              · cases h
            · split at h
              · cases h
              · split at h
                · cases h
                · rename_i k3 h3
                  have hk3 : k' ≤ k3 ∧ k3 ≤ s.size := by
                    split at h3
                    · have := ih _ _ _ _ (by omega) v2 h3
                      omega
                    · generalize hb : bodyR s st k' (u % 8) = r at h3
                      match r, h3 with
                      | .inl q, h3 =>
                        obtain rfl := Sum.inl.inj h3
                        exact bodyR_lt hb
                  have := ih _ _ _ _ hg hk3.2 h
                  omega
theorem rec_run (s : ByteArray) (st : Bool) (depth : Int) : ∀ (F g num k f f' : Nat) (ar : List Nat), OkM s k g (ar ++ [num]) → g ≠ 0 → (ar.length : Int) < depth → s.size < k + F → s.size < k + f → s.size < k + f' →
    runM s st depth f (.inl (k, g, ar ++ [num])) = goOn s st depth f' num ar (recM s st depth F g (ar.length + 1) k) := by
  intro F
  induction F with
  | zero => intro g num k f f' ar ho _ _ h1; have := ho.le; omega
  | succ F ih =>
    intro g num k f f' ar ho hg hd h1 h2 h3
    obtain ⟨f, rfl⟩ : ∃ q, f = q + 1 := ⟨f - 1, by have := ho.le; omega⟩
    rw [runM, if_neg (by simp), recM]
    have hlen := ho.len
    rw [List.length_append, List.length_singleton] at hlen
    have hstay : ∀ k2, k < k2 → k2 ≤ s.size → OkM s k2 g (ar ++ [num]) := fun k2 q1 q2 => ⟨q2, by rw [List.length_append, List.length_singleton]; omega, fun e => by simp at e, ho.head⟩
    by_cases hke : k = s.size
    · rw [if_pos hke, if_neg hg]
      have hv : vAt s st k = .inr 20 := by rw [hke]; exact vAt_end s st
      unfold stepM
      rw [hv]
      exact runM_err _ _ _ _ _
    · rw [if_neg hke]
      unfold stepM
      generalize hv : vAt s st k = r
      match r, hv with
      | .inr c, _ => exact runM_err _ _ _ _ _
      | .inl (u, k'), hv =>
        obtain ⟨-, v1, v2⟩ := vAt_lt hv
        show runM s st depth f (if u / 8 < 1 ∨ 536870911 < u / 8 then .inr (24, k) else if 5 < u % 8 then .inr (23, k) else tkM s st depth k k' g (ar ++ [num]) (u / 8) (u % 8)) = goOn s st depth f' num ar (if u / 8 < 1 ∨ 536870911 < u / 8 then .inr (24, k) else if 5 < u % 8 then .inr (23, k) else if u % 8 = 4 then (if u / 8 = g then .inl k' else .inr (25, k)) else if u % 8 = 3 ∧ ((ar.length + 1 : Nat) : Int) = depth then .inr (4, k) else match (if u % 8 = 3 then recM s st depth F (u / 8) (ar.length + 1 + 1) k' else plcE k' (bodyR s st k' (u % 8))) with | .inr x => .inr x | .inl k2 => recM s st depth F g (ar.length + 1) k2)
        by_cases h24 : u / 8 < 1 ∨ 536870911 < u / 8
        · rw [if_pos h24, if_pos h24]
          exact runM_err _ _ _ _ _
        · rw [if_neg h24, if_neg h24]
          by_cases h23 : 5 < u % 8
          · rw [if_pos h23, if_pos h23]
            exact runM_err _ _ _ _ _
          · rw [if_neg h23, if_neg h23]
            have htk := fun k2 num2 ar2 => tkM_ok (s := s) (st := st) (depth := depth) (t := k) (k := k') (num := g) (n := u / 8) (kd := u % 8) (k2 := k2) (num2 := num2) (ar := ar ++ [num]) (ar2 := ar2) v2 (by rw [List.length_append, List.length_singleton]; omega) (fun e => by simp at e) ho.head
            by_cases h4 : u % 8 = 4
            · rw [if_pos h4]
              by_cases hg2 : u / 8 = g
              · have ht : tkM s st depth k k' g (ar ++ [num]) (u / 8) (u % 8) = .inl (k', num, ar) := by
                  unfold tkM
                  rw [if_neg (by omega), if_pos h4, if_neg (by omega)]
                  simp
                rw [if_pos hg2, ht]
                exact runM_fuel s st depth f f' k' num ar (htk _ _ _ ht).2 (by omega) (by omega)
              · have ht : tkM s st depth k k' g (ar ++ [num]) (u / 8) (u % 8) = .inr (25, k) := by
                  unfold tkM
                  rw [if_neg (by omega), if_pos h4, if_pos (by omega)]
                rw [if_neg hg2, ht]
                exact runM_err _ _ _ _ _
            · rw [if_neg h4]
              by_cases h3 : u % 8 = 3
              · by_cases hm : ((ar.length + 1 : Nat) : Int) = depth
                · have ht : tkM s st depth k k' g (ar ++ [num]) (u / 8) (u % 8) = .inr (4, k) := by
                    unfold tkM
                    rw [if_pos h3, if_pos (by rw [List.length_append, List.length_singleton]; omega)]
                  rw [if_pos ⟨h3, hm⟩, ht]
                  exact runM_err _ _ _ _ _
                · have ht : tkM s st depth k k' g (ar ++ [num]) (u / 8) (u % 8) = .inl (k', u / 8, ar ++ [num] ++ [g]) := by
                    unfold tkM
                    rw [if_pos h3, if_neg (by rw [List.length_append, List.length_singleton]; omega)]
                  rw [if_neg (fun q => hm q.2), ht, if_pos h3]
                  have q := ih (u / 8) g k' f f (ar ++ [num]) (htk _ _ _ ht).2 (by omega) (by rw [List.length_append, List.length_singleton]; omega) (by omega) (by omega) (by omega)
                  rw [q, List.length_append, List.length_singleton]
                  generalize hr : recM s st depth F (u / 8) (ar.length + 1 + 1) k' = r2
                  match r2, hr with
                  | .inr x, _ => rfl
                  | .inl k2, hr =>
                    obtain ⟨w1, w2⟩ := recM_lt s st depth F _ _ _ _ (by omega) v2 hr
                    exact ih g num k2 f f' ar (hstay k2 (by omega) w2) hg hd (by omega) (by omega) (by omega)
              · have ht : tkM s st depth k k' g (ar ++ [num]) (u / 8) (u % 8) = plcM g (ar ++ [num]) k' (bodyR s st k' (u % 8)) := by
                  unfold tkM
                  rw [if_neg h3, if_neg h4]
                  rfl
                rw [if_neg (fun q => h3 q.1), if_neg h3, ht]
                generalize hr : bodyR s st k' (u % 8) = r2
                match r2, hr with
                | .inr c, _ => exact runM_err _ _ _ _ _
                | .inl k2, hr =>
                  have w := bodyR_lt hr
                  exact ih g num k2 f f' ar (hstay k2 (by omega) w.2) hg hd (by omega) (by omega) (by omega)
#print axioms rec_run
end Go.Proofs.YtgbadnbhgpnppaaDoor
