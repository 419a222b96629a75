import Derived.Test.YtgbadnbhgpnppaaDoorWMR
namespace Go.Proofs.YtgbadnbhgpnppaaDoor
open Go.RowKit

/-- A record, with what lies in it. -/
inductive Rt where
  | mk (number kind : Nat) (num : Int) (text : ByteArray) (inner : List Rt)
def Rt.inner : Rt → List Rt | .mk _ _ _ _ l => l
def numT (n kd : Nat) : (Nat × Nat) ⊕ Nat → (Rt × Nat) ⊕ Nat
  | .inl (u, k') => .inl (.mk n kd (wrap64 (u : Int)) .empty [], k')
  | .inr c => .inr c
def texT (n : Nat) : (ByteArray × Nat) ⊕ Nat → (Rt × Nat) ⊕ Nat
  | .inl (t, k') => .inl (.mk n 2 0 t [], k')
  | .inr c => .inr c
/-- What is behind a tag that is no group's, with the record. -/
def bodyT (s : ByteArray) (st : Bool) (n k kd : Nat) : (Rt × Nat) ⊕ Nat := if kd = 0 then numT n 0 (vAt s st k) else if kd = 1 then numT n 1 (xAt s k 8) else if kd = 2 then texT n (tAt s st k) else numT n 5 (xAt s k 4)
def plcT (k : Nat) : (Rt × Nat) ⊕ Nat → (Rt × Nat) ⊕ (Nat × Nat)
  | .inl x => .inl x
  | .inr c => .inr (c, k)
def grpT (n : Nat) : (List Rt × Nat) ⊕ (Nat × Nat) → (Rt × Nat) ⊕ (Nat × Nat)
  | .inl (ts, k) => .inl (.mk n 3 0 .empty ts, k)
  | .inr x => .inr x
/-- The reference's records, with the records. -/
def recT (s : ByteArray) (st : Bool) (most : Int) : Nat → Nat → Nat → Nat → List Rt → (List Rt × Nat) ⊕ (Nat × Nat)
  | 0, _, _, k, _ => .inr (0, k)
  | f + 1, g, o, k, acc => if k = s.size then (if g = 0 then .inl (acc, k) else .inr (20, k)) else
    match tagR s st k with
    | .inr c => .inr (c, k)
    | .inl (n, kd, k') => if kd = 4 then (if n = g then .inl (acc, k') else .inr (25, k)) else if kd = 3 ∧ (o : Int) = most then .inr (4, k)
      else match (if kd = 3 then grpT n (recT s st most f n (o + 1) k' []) else plcT k' (bodyT s st n k' kd)) with
        | .inr x => .inr x
        | .inl (t, k2) => recT s st most f g o k2 (acc ++ [t])
/-- One step of the machine that keeps. -/
def tkT (s : ByteArray) (st : Bool) (depth : Int) (t k num : Nat) (acc : List Rt) (stk : List (Nat × List Rt)) (n kd : Nat) : (Nat × Nat × List Rt × List (Nat × List Rt)) ⊕ (Nat × Nat) :=
  if kd = 3 then (if depth ≤ (stk.length : Int) then .inr (4, t) else .inl (k, n, [], stk ++ [(num, acc)]))
  else if kd = 4 then (if num ≠ n then .inr (25, t) else match stk.getLast? with
    | some (x, a) => .inl (k, x, a ++ [.mk n 3 0 .empty acc], stk.dropLast)
    | none => .inr (25, t))
  else match bodyT s st n k kd with
    | .inl (r, k') => .inl (k', num, acc ++ [r], stk)
    | .inr c => .inr (c, k)
def stepT (s : ByteArray) (st : Bool) (depth : Int) (k num : Nat) (acc : List Rt) (stk : List (Nat × List Rt)) : (Nat × Nat × List Rt × List (Nat × List Rt)) ⊕ (Nat × Nat) :=
  match tagR s st k with
  | .inr c => .inr (c, k)
  | .inl (n, kd, k') => tkT s st depth k k' num acc stk n kd
def runT (s : ByteArray) (st : Bool) (depth : Int) : Nat → (Nat × Nat × List Rt × List (Nat × List Rt)) ⊕ (Nat × Nat) → (List Rt × Nat) ⊕ (Nat × Nat)
  | _, .inr x => .inr x
  | 0, .inl (k, _, _, _) => .inr (0, k)
  | f + 1, .inl (k, num, acc, stk) => if k = s.size then (if stk = [] then .inl (acc, k) else .inr (20, k)) else runT s st depth f (stepT s st depth k num acc stk)
theorem bodyT_lt {s : ByteArray} {st : Bool} {n k kd k' : Nat} {r : Rt} (h : bodyT s st n k kd = .inl (r, k')) : k ≤ k' ∧ k' ≤ s.size := by
  unfold bodyT at h
  split at h
  · generalize hv : vAt s st k = q at h
    match q, h with
    | .inl (u, k2), h =>
      have := vAt_lt hv
      obtain ⟨_, rfl⟩ := Prod.mk.inj (Sum.inl.inj h)
      omega
  · split at h
    · generalize hv : xAt s k 8 = q at h
      match q, h with
      | .inl (u, k2), h =>
        obtain ⟨_, rfl⟩ := Prod.mk.inj (Sum.inl.inj h)
        exact xAt_lt hv
    · split at h
      · generalize hv : tAt s st k = q at h
        match q, h with
        | .inl (u, k2), h =>
          obtain ⟨_, rfl⟩ := Prod.mk.inj (Sum.inl.inj h)
          exact tAt_lt hv
      · generalize hv : xAt s k 4 = q at h
        match q, h with
        | .inl (u, k2), h =>
          obtain ⟨_, rfl⟩ := Prod.mk.inj (Sum.inl.inj h)
          exact xAt_lt hv
theorem recT_lt (s : ByteArray) (st : Bool) (most : Int) : ∀ (F g o k : Nat) (acc ts : List Rt) (k2 : Nat), g ≠ 0 → k ≤ s.size → recT s st most F g o k acc = .inl (ts, k2) → k < k2 ∧ k2 ≤ s.size := by
  intro F
  induction F with
  | zero => intro g o k acc ts k2 _ _ h; cases h
  | succ F ih =>
    intro g o k acc ts k2 hg hk h
    rw [recT] at h
    split at h
    · first | (cases h; done) | (rw [if_neg hg] at h; cases h)
    · split at h
      · cases h
      · rename_i n kd k' ht
        have hb := tagR_lt ht
        split at h
        · split at h
          · obtain ⟨_, rfl⟩ := Prod.mk.inj (Sum.inl.inj h)
            omega
          · cases h
        · split at h
          · cases h
          · split at h
            · cases h
            · rename_i t k3 h3
              have hk3 : k' ≤ k3 ∧ k3 ≤ s.size := by
                split at h3
                · generalize hr : recT s st most F n (o + 1) k' [] = r at h3
                  match r, h3 with
                  | .inl (ts', k4), h3 =>
                    obtain ⟨_, rfl⟩ := Prod.mk.inj (Sum.inl.inj h3)
                    have := ih _ _ _ _ _ _ (by omega) hb.2.2.2.2 hr
                    omega
                · generalize hr : bodyT s st n k' kd = r at h3
                  match r, h3 with
                  | .inl (r', k4), h3 =>
                    obtain ⟨_, rfl⟩ := Prod.mk.inj (Sum.inl.inj h3)
                    exact bodyT_lt hr
              have := ih _ _ _ _ _ _ hg hk3.2 h
              omega
theorem runT_err (s : ByteArray) (st : Bool) (depth : Int) (f : Nat) (x : Nat × Nat) : runT s st depth f (.inr x) = .inr x := by cases f <;> rfl
theorem stepT_lt {s : ByteArray} {st : Bool} {depth : Int} {k num k2 num2 : Nat} {acc acc2 : List Rt} {stk stk2 : List (Nat × List Rt)} (h : stepT s st depth k num acc stk = .inl (k2, num2, acc2, stk2)) : k < k2 ∧ k2 ≤ s.size := by
  unfold stepT at h
  split at h
  · cases h
  · rename_i n kd k' ht
    have hb := tagR_lt ht
    unfold tkT at h
    split at h
    · split at h
      · cases h
      · obtain ⟨rfl, _⟩ := Prod.mk.inj (Sum.inl.inj h)
        omega
    · split at h
      · split at h
        · cases h
        · split at h
          · obtain ⟨rfl, _⟩ := Prod.mk.inj (Sum.inl.inj h)
            omega
          · cases h
      · split at h
        · rename_i r k4 hr
          obtain ⟨rfl, _⟩ := Prod.mk.inj (Sum.inl.inj h)
          have := bodyT_lt hr
          omega
        · cases h
/-- The fuel does not matter where there is enough. -/
theorem runT_fuel (s : ByteArray) (st : Bool) (depth : Int) : ∀ (f f' k num : Nat) (acc : List Rt) (stk : List (Nat × List Rt)), k ≤ s.size → s.size < k + f → s.size < k + f' → runT s st depth f (.inl (k, num, acc, stk)) = runT s st depth f' (.inl (k, num, acc, stk)) := by
  intro f
  induction f with
  | zero => intro f' k num acc stk hk h1 h2; omega
  | succ f ih =>
    intro f' k num acc stk hk h1 h2
    obtain ⟨f', rfl⟩ : ∃ q, f' = q + 1 := ⟨f' - 1, by omega⟩
    rw [runT, runT]
    by_cases hke : k = s.size
    · rw [if_pos hke, if_pos hke]
    · rw [if_neg hke, if_neg hke]
      generalize hr : stepT s st depth k num acc stk = r
      match r, hr with
      | .inr x, _ => rw [runT_err, runT_err]
      | .inl (k2, num2, acc2, stk2), hr =>
        have := stepT_lt hr
        exact ih f' k2 num2 acc2 stk2 this.2 (by omega) (by omega)
def goOnT (s : ByteArray) (st : Bool) (depth : Int) (f num : Nat) (acc0 : List Rt) (g : Nat) (stk : List (Nat × List Rt)) : (List Rt × Nat) ⊕ (Nat × Nat) → (List Rt × Nat) ⊕ (Nat × Nat)
  | .inr x => .inr x
  | .inl (ts, k2) => runT s st depth f (.inl (k2, num, acc0 ++ [.mk g 3 0 .empty ts], stk))
theorem recT_run (s : ByteArray) (st : Bool) (depth : Int) : ∀ (F g num k f f' : Nat) (acc acc0 : List Rt) (stk : List (Nat × List Rt)), k ≤ s.size → g ≠ 0 → (stk.length : Int) < depth → s.size < k + F → s.size < k + f → s.size < k + f' →
    runT s st depth f (.inl (k, g, acc, stk ++ [(num, acc0)])) = goOnT s st depth f' num acc0 g stk (recT s st depth F g (stk.length + 1) k acc) := by
  intro F
  induction F with
  | zero => intro g num k f f' acc acc0 stk hk _ _ h1; omega
  | succ F ih =>
    intro g num k f f' acc acc0 stk hk hg hd h1 h2 h3
    obtain ⟨f, rfl⟩ : ∃ q, f = q + 1 := ⟨f - 1, by omega⟩
    rw [runT, recT]
    by_cases hke : k = s.size
    · rw [if_pos hke, if_pos hke, if_neg (by simp), if_neg hg]
      rfl
    · rw [if_neg hke, if_neg hke]
      unfold stepT
      generalize ht : tagR s st k = r
      match r, ht with
      | .inr c, _ => exact runT_err _ _ _ _ _
      | .inl (n, kd, k'), ht =>
        have hb := tagR_lt ht
        show runT s st depth f (tkT s st depth k k' g acc (stk ++ [(num, acc0)]) n kd) = goOnT s st depth f' num acc0 g stk (if kd = 4 then (if n = g then .inl (acc, k') else .inr (25, k)) else if kd = 3 ∧ ((stk.length + 1 : Nat) : Int) = depth then .inr (4, k) else match (if kd = 3 then grpT n (recT s st depth F n (stk.length + 1 + 1) k' []) else plcT k' (bodyT s st n k' kd)) with | .inr x => .inr x | .inl (t, k2) => recT s st depth F g (stk.length + 1) k2 (acc ++ [t]))
        by_cases h4 : kd = 4
        · rw [if_pos h4]
          unfold tkT
          rw [if_neg (by omega), if_pos h4]
          by_cases hn : n = g
          · rw [if_pos hn, if_neg (by omega)]
            simp only [List.getLast?_append, List.getLast?_singleton, Option.some_or, List.dropLast_concat]
            rw [hn]
            exact runT_fuel s st depth f f' k' num _ stk hb.2.2.2.2 (by omega) (by omega)
          · rw [if_neg hn, if_pos (fun q => hn q.symm)]
            exact runT_err _ _ _ _ _
        · rw [if_neg h4]
          by_cases h3' : kd = 3
          · by_cases hm : ((stk.length + 1 : Nat) : Int) = depth
            · rw [if_pos ⟨h3', hm⟩]
              unfold tkT
              rw [if_pos h3', if_pos (by rw [List.length_append, List.length_singleton]; omega)]
              exact runT_err _ _ _ _ _
            · rw [if_neg (fun q => hm q.2), if_pos h3']
              unfold tkT
              rw [if_pos h3', if_neg (by rw [List.length_append, List.length_singleton]; omega)]
              have q := ih n g k' f f [] acc (stk ++ [(num, acc0)]) hb.2.2.2.2 (by omega) (by rw [List.length_append, List.length_singleton]; omega) (by omega) (by omega) (by omega)
              rw [q, List.length_append, List.length_singleton]
              generalize hr : recT s st depth F n (stk.length + 1 + 1) k' [] = r2
              match r2, hr with
              | .inr x, _ => rfl
              | .inl (ts, k2), hr =>
                have hk2 := recT_lt s st depth F _ _ _ _ _ _ (by omega) hb.2.2.2.2 hr
                exact ih g num k2 f f' (acc ++ [.mk n 3 0 .empty ts]) acc0 stk hk2.2 hg hd (by omega) (by omega) (by omega)
          · rw [if_neg (fun q => h3' q.1), if_neg h3']
            unfold tkT
            rw [if_neg h3', if_neg h4]
            generalize hr : bodyT s st n k' kd = r2
            match r2, hr with
            | .inr c, _ => exact runT_err _ _ _ _ _
            | .inl (t, k2), hr =>
              have hk2 := bodyT_lt hr
              exact ih g num k2 f f' (acc ++ [t]) acc0 stk hk2.2 hg hd (by omega) (by omega) (by omega)
/-- The machine from the top is the recursion. -/
theorem recT_top (s : ByteArray) (st : Bool) (depth : Int) (hd : 0 < depth) : ∀ (F k f : Nat) (acc : List Rt), k ≤ s.size → s.size < k + F → s.size < k + f → runT s st depth f (.inl (k, 0, acc, [])) = recT s st depth F 0 0 k acc := by
  intro F
  induction F with
  | zero => intro k f acc hk h1; omega
  | succ F ih =>
    intro k f acc hk h1 h2
    obtain ⟨f, rfl⟩ : ∃ q, f = q + 1 := ⟨f - 1, by omega⟩
    rw [runT, recT]
    by_cases hke : k = s.size
    · rw [if_pos hke, if_pos hke, if_pos rfl, if_pos rfl]
    · rw [if_neg hke, if_neg hke]
      unfold stepT
      generalize ht : tagR s st k = r
      match r, ht with
      | .inr c, _ => exact runT_err _ _ _ _ _
      | .inl (n, kd, k'), ht =>
        have hb := tagR_lt ht
        show runT s st depth f (tkT s st depth k k' 0 acc [] n kd) = (if kd = 4 then (if n = 0 then .inl (acc, k') else .inr (25, k)) else if kd = 3 ∧ ((0 : Nat) : Int) = depth then .inr (4, k) else match (if kd = 3 then grpT n (recT s st depth F n (0 + 1) k' []) else plcT k' (bodyT s st n k' kd)) with | .inr x => .inr x | .inl (t, k2) => recT s st depth F 0 0 k2 (acc ++ [t]))
        by_cases h4 : kd = 4
        · rw [if_pos h4, if_neg (by omega)]
          unfold tkT
          rw [if_neg (by omega), if_pos h4, if_pos (by omega)]
          exact runT_err _ _ _ _ _
        · rw [if_neg h4]
          by_cases h3' : kd = 3
          · rw [if_neg (fun q => by have := q.2; omega), if_pos h3']
            unfold tkT
            rw [if_pos h3', if_neg (by simp; omega)]
            have q := recT_run s st depth F n 0 k' f f [] acc [] hb.2.2.2.2 (by omega) (by simpa using hd) (by omega) (by omega) (by omega)
            show runT s st depth f (.inl (k', n, [], [] ++ [(0, acc)])) = _
            rw [q]
            show goOnT s st depth f 0 acc n [] (recT s st depth F n (0 + 1) k' []) = _
            generalize hr : recT s st depth F n (0 + 1) k' [] = r2
            match r2, hr with
            | .inr x, _ => rfl
            | .inl (ts, k2), hr =>
              have hk2 := recT_lt s st depth F _ _ _ _ _ _ (by omega) hb.2.2.2.2 hr
              exact ih k2 f (acc ++ [.mk n 3 0 .empty ts]) hk2.2 (by omega) (by omega)
          · rw [if_neg (fun q => h3' q.1), if_neg h3']
            unfold tkT
            rw [if_neg h3', if_neg h4]
            generalize hr : bodyT s st n k' kd = r2
            match r2, hr with
            | .inr c, _ => exact runT_err _ _ _ _ _
            | .inl (t, k2), hr =>
              have hk2 := bodyT_lt hr
              exact ih k2 f (acc ++ [t]) hk2.2 (by omega) (by omega)
#print axioms recT_top
end Go.Proofs.YtgbadnbhgpnppaaDoor
