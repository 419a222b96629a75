import Derived.Test.YtgbadnbhgpnppaaDoorWFd
import Derived.Test.YtgbadnbhgpnppaaDoorWLJ
import Derived.Test.YtgbadnbhgpnppaaDoorXH
namespace Go.Proofs.YtgbadnbhgpnppaaDoor
open Go.RowKit

/-- The low n bytes. -/
def fN (u : Nat) : Nat → List Nat
  | 0 => []
  | n + 1 => fN u n ++ [u / 256 ^ n % 256]
theorem fN_len (u : Nat) : ∀ n, (fN u n).length = n
  | 0 => rfl
  | n + 1 => by show (fN u n ++ [_]).length = n + 1; rw [List.length_append, fN_len u n]; rfl
theorem fN_get (u : Nat) : ∀ (n j x : Nat), (fN u n)[j]? = some x → j < n ∧ x = u / 256 ^ j % 256
  | 0, j, x, h => by simp [fN] at h
  | n + 1, j, x, h => by
    replace h : (fN u n ++ [u / 256 ^ n % 256])[j]? = some x := h
    by_cases hj : j < n
    · rw [List.getElem?_append_left (by rw [fN_len]; exact hj)] at h
      exact ⟨by omega, (fN_get u n j x h).2⟩
    · rw [List.getElem?_append_right (by rw [fN_len]; omega), fN_len] at h
      have hl := (List.getElem?_eq_some_iff.1 h).1
      have e : j = n := by simp at hl; omega
      subst e
      simp at h
      exact ⟨by omega, h.symm⟩
theorem fN_at (u : Nat) {n j : Nat} (h : j < n) : (fN u n)[j]? = some (u / 256 ^ j % 256) := by
  have hj : j < (fN u n).length := by rw [fN_len]; exact h
  have e := List.getElem?_eq_getElem hj
  rw [e, (fN_get u n j _ e).2]
def tN (t : ByteArray) : List Nat := t.data.toList.map (·.toNat)
theorem tN_len (t : ByteArray) : (tN t).length = t.size := by simp [tN]
theorem tN_get {t : ByteArray} {j x : Nat} (h : (tN t)[j]? = some x) : j < t.size ∧ x = bAt t j := by
  have hj := (List.getElem?_eq_some_iff.1 h).1
  rw [tN_len] at hj
  refine ⟨hj, ?_⟩
  rw [bAt_eq hj]
  have := (List.getElem?_eq_some_iff.1 h).2
  simp [tN] at this
  exact this.symm
theorem tN_at {t : ByteArray} {j : Nat} (h : j < t.size) : (tN t)[j]? = some (bAt t j) := by
  have hj : j < (tN t).length := by rw [tN_len]; exact h
  have e := List.getElem?_eq_getElem hj
  rw [e, (tN_get e).2]
/-- What is behind a record's tag. -/
def bodyN (nb kd : Nat) (x : Int) (t : ByteArray) (ys : List Nat) : List Nat := if kd = 0 then vN (un x) else if kd = 1 then fN (un x) 8 else if kd = 2 then vN t.size ++ tN t else if kd = 3 then ys ++ vN (8 * nb + 4) else fN (un x) 4
mutual
/-- The bytes of a record. -/
def encR : Rt → List Nat
  | .mk nb kd x t li => vN (8 * nb + kd) ++ bodyN nb kd x t (encL li)
/-- The bytes of records. -/
def encL : List Rt → List Nat
  | [] => []
  | t :: ts => encR t ++ encL ts
end
theorem encL_append : ∀ a b : List Rt, encL (a ++ b) = encL a ++ encL b
  | [], b => by simp [encL]
  | t :: a, b => by
    show encR t ++ encL (a ++ b) = (encR t ++ encL a) ++ encL b
    rw [encL_append a b, List.append_assoc]
theorem vN_byt (u : Nat) : ∀ x ∈ vN u, x < 256 := enc_byt (enc_vN u).1
theorem fN_byt (u n : Nat) : ∀ x ∈ fN u n, x < 256 := fun x hx => by
  obtain ⟨j, hj⟩ := List.mem_iff_getElem?.1 hx
  rw [(fN_get u n j x hj).2]
  omega
theorem tN_byt (t : ByteArray) : ∀ x ∈ tN t, x < 256 := fun x hx => by
  obtain ⟨j, hj⟩ := List.mem_iff_getElem?.1 hx
  rw [(tN_get hj).2]
  exact bAt_lt _ _
theorem bodyN_byt (nb kd : Nat) (x : Int) (t : ByteArray) {ys : List Nat} (h : ∀ z ∈ ys, z < 256) : ∀ z ∈ bodyN nb kd x t ys, z < 256 := by
  unfold bodyN
  intro z hz
  split at hz
  · exact vN_byt _ z hz
  · split at hz
    · exact fN_byt _ _ z hz
    · split at hz
      · rcases List.mem_append.1 hz with q | q
        · exact vN_byt _ z q
        · exact tN_byt _ z q
      · split at hz
        · rcases List.mem_append.1 hz with q | q
          · exact h z q
          · exact vN_byt _ z q
        · exact fN_byt _ _ z hz
mutual
theorem encR_byt : ∀ (t : Rt), ∀ z ∈ encR t, z < 256
  | .mk nb kd x t li => fun z hz => by
    rw [encR] at hz
    rcases List.mem_append.1 hz with q | q
    · exact vN_byt _ z q
    · exact bodyN_byt nb kd x t (encL_byt li) z q
theorem encL_byt : ∀ (ts : List Rt), ∀ z ∈ encL ts, z < 256
  | [] => fun z hz => by rw [encL] at hz; simp at hz
  | t :: ts => fun z hz => by
    rw [encL] at hz
    rcases List.mem_append.1 hz with q | q
    · exact encR_byt t z q
    · exact encL_byt ts z q
end
/-- A right record whose number a word holds. -/
structure WfT (nb kd : Nat) (x : Int) (t : ByteArray) (li : List Rt) : Prop where
  rg : RgT nb kd x t li
  int : -9223372036854775808 ≤ x ∧ x ≤ 9223372036854775807
inductive WfL : List Rt → Prop
  | mk (ts : List Rt) (h : ∀ (i nb kd : Nat) (x : Int) (t : ByteArray) (li : List Rt), ts[i]? = some (.mk nb kd x t li) → WfT nb kd x t li) (hi : ∀ (i : Nat) (t : Rt), ts[i]? = some t → WfL t.inner) : WfL ts
theorem WfL.at' {ts : List Rt} (h : WfL ts) {i nb kd : Nat} {x : Int} {t : ByteArray} {li : List Rt} (ht : ts[i]? = some (.mk nb kd x t li)) : WfT nb kd x t li ∧ WfL li := by
  cases h with
  | mk _ h hi => exact ⟨h i nb kd x t li ht, hi i _ ht⟩
theorem WfL.rg {ts : List Rt} (h : WfL ts) : RgL ts := by
  induction h with
  | mk ts h hi ih => exact .mk ts (fun i nb kd x t li ht => (h i nb kd x t li ht).rg) ih
theorem WfL.nil : WfL [] := .mk _ (fun i nb kd x t li h => by simp at h) (fun i t h => by simp at h)
theorem WfL.cons {nb kd : Nat} {x : Int} {t : ByteArray} {li ts : List Rt} (h : WfT nb kd x t li) (hi : WfL li) (hs : WfL ts) : WfL (.mk nb kd x t li :: ts) := by
  refine .mk _ (fun i nb' kd' x' t' li' ht => ?_) (fun i r ht => ?_)
  · cases i with
    | zero => simp at ht; obtain ⟨rfl, rfl, rfl, rfl, rfl⟩ := ht; exact h
    | succ i => rw [List.getElem?_cons_succ] at ht; exact (hs.at' ht).1
  · cases i with
    | zero => simp at ht; subst ht; exact hi
    | succ i =>
      rw [List.getElem?_cons_succ] at ht
      obtain ⟨nb', kd', x', t', li'⟩ := r
      exact (hs.at' ht).2
theorem WfL.tail {r : Rt} {ts : List Rt} (h : WfL (r :: ts)) : WfL ts := by
  cases h with
  | mk _ h hi => exact .mk _ (fun i nb kd x t li ht => h (i + 1) nb kd x t li (by simpa using ht)) (fun i t ht => hi (i + 1) t (by simpa using ht))
/-- These bytes stand at a place. -/
def At (s : ByteArray) (k : Nat) (m : List Nat) : Prop := ∀ j x, m[j]? = some x → k + j < s.size ∧ bAt s (k + j) = x
theorem At.nil (s : ByteArray) (k : Nat) : At s k [] := fun j x h => by simp at h
theorem At.left {s : ByteArray} {k : Nat} {m m' : List Nat} (h : At s k (m ++ m')) : At s k m := fun j x hx => h j x (by
  rw [List.getElem?_append_left (List.getElem?_eq_some_iff.1 hx).1]; exact hx)
theorem At.right {s : ByteArray} {k : Nat} {m m' : List Nat} (h : At s k (m ++ m')) : At s (k + m.length) m' := fun j x hx => by
  have := h (m.length + j) x (by rw [List.getElem?_append_right (by omega), Nat.add_sub_cancel_left]; exact hx)
  rwa [← Nat.add_assoc] at this
theorem At.app {s : ByteArray} {k : Nat} {m m' : List Nat} (h : At s k m) (h' : At s (k + m.length) m') : At s k (m ++ m') := fun j x hx => by
  by_cases hj : j < m.length
  · rw [List.getElem?_append_left hj] at hx
    exact h j x hx
  · rw [List.getElem?_append_right (by omega)] at hx
    have := h' _ x hx
    rwa [show k + m.length + (j - m.length) = k + j by omega] at this
theorem At.cons {s : ByteArray} {k c : Nat} {m : List Nat} (h : k < s.size) (hc : bAt s k = c) (h' : At s (k + 1) m) : At s k (c :: m) := fun j x hx => by
  cases j with
  | zero => simp at hx; subst hx; exact ⟨h, hc⟩
  | succ j =>
    rw [List.getElem?_cons_succ] at hx
    have := h' j x hx
    rwa [show k + 1 + j = k + (j + 1) by omega] at this
theorem At.pos {s : ByteArray} {k : Nat} {m : List Nat} (h : At s k m) (hm : 0 < m.length) : k + m.length ≤ s.size := by
  have := (h (m.length - 1) _ (List.getElem?_eq_getElem (by omega))).1
  omega
theorem at_self {l : List Nat} (hl : ∀ x ∈ l, x < 256) : At (sOf l) 0 l := fun j x hx => by
  rw [Nat.zero_add]
  exact ⟨by rw [sOf_size]; exact (List.getElem?_eq_some_iff.1 hx).1, sOf_at hl hx⟩
theorem at_eq {l m : List Nat} (hl : ∀ x ∈ l, x < 256) (h : At (sOf l) 0 m) (he : m.length = l.length) : m = l := by
  refine List.ext_getElem he fun i h1 h2 => ?_
  have := (h i _ (List.getElem?_eq_getElem h1)).2
  rw [Nat.zero_add, sOf_at hl (List.getElem?_eq_getElem h2)] at this
  exact this.symm
theorem vN_len {u : Nat} (h : u < 18446744073709551616) : 1 ≤ (vN u).length ∧ (vN u).length ≤ 10 := by
  have := vint_ten h
  rw [← byB_vN] at this
  simpa [byB] using this
theorem vN_pos (u : Nat) : 1 ≤ (vN u).length := enc_pos (enc_vN u).1
theorem vAt_vN {s : ByteArray} {st : Bool} {k u : Nat} (h : At s k (vN u)) (hu : u < 18446744073709551616) : vAt s st k = .inl (u, k + (vN u).length) := by
  have hl := vN_len hu
  obtain ⟨e1, e2⟩ := enc_vN u
  have := enc_go (s := s) (st := st) (vN u) u 0 k 0 e1 (by omega) (by rw [Nat.zero_add, Nat.pow_zero, Nat.mul_one]; exact hu) h
  unfold vAt
  rw [this, if_neg, Nat.zero_add, Nat.pow_zero, Nat.mul_one]
  rintro ⟨_, h2, h3⟩
  exact e2 (by omega) h3
theorem tagR_vN {s : ByteArray} {st : Bool} {k nb kd : Nat} (h : At s k (vN (8 * nb + kd))) (hn : 1 ≤ nb ∧ nb ≤ 536870911) (hk : kd ≤ 5) : tagR s st k = .inl (nb, kd, k + (vN (8 * nb + kd)).length) := by
  unfold tagR
  rw [vAt_vN h (by omega)]
  show (if _ then _ else if _ then _ else _) = _
  rw [if_neg (by omega), if_neg (by omega), show (8 * nb + kd) / 8 = nb by omega, show (8 * nb + kd) % 8 = kd by omega]
theorem fAt_fN {s : ByteArray} {k u : Nat} : ∀ n, At s k (fN u n) → fAt s k n = u % 256 ^ n
  | 0, _ => by show 0 = u % 1; omega
  | n + 1, h => by
    show fAt s k n + bAt s (k + n) * 256 ^ n = u % 256 ^ (n + 1)
    have h1 := fAt_fN n (show At s k (fN u n) from At.left (m' := [u / 256 ^ n % 256]) h)
    rw [h1, (h n _ (fN_at u (by omega))).2, Nat.mod_pow_succ, Nat.mul_comm]
theorem xAt_fN {s : ByteArray} {k u n : Nat} (h : At s k (fN u n)) (hn : 0 < n) : xAt s k n = .inl (u % 256 ^ n, k + n) := by
  have := h.pos (by rw [fN_len]; exact hn)
  rw [fN_len] at this
  unfold xAt
  rw [if_neg (by omega), fAt_fN n h]
theorem wrap_un {x : Int} (h : -9223372036854775808 ≤ x ∧ x ≤ 9223372036854775807) : wrap64 (un x : Int) = x := by rw [un_eq, wrap64_eq]; omega
end Go.Proofs.YtgbadnbhgpnppaaDoor
namespace Go.Proofs.YtgbadnbhgpnppaaDoor
open Go.RowKit

theorem text_eq {s t : ByteArray} {k : Nat} (h : At s k (tN t)) (hk : k + t.size ≤ s.size) : s.extract k (k + t.size) = t := by
  rw [ext_list _ _ _ hk, Nat.add_sub_cancel_left]
  apply ByteArray.ext
  apply Array.ext
  · simp
  · intro i h1 h2
    have hi : i < t.size := h2
    have := (h i _ (tN_at hi)).2
    simp only [List.getElem_toArray, List.getElem_map, List.getElem_range]
    rw [this, bAt_eq hi]
    simp
    rfl
theorem tAt_tN {s : ByteArray} {st : Bool} {k : Nat} {t : ByteArray} (h : At s k (vN t.size ++ tN t)) (ht : t.size < 18446744073709551616) : tAt s st k = .inl (t, k + (vN t.size ++ tN t).length) := by
  have hp := h.pos (by rw [List.length_append]; have := vN_pos t.size; omega)
  rw [List.length_append, tN_len] at hp
  unfold tAt
  rw [vAt_vN h.left ht]
  show (if s.size - (k + (vN t.size).length) < t.size then .inr 20 else .inl (s.extract (k + (vN t.size).length) (k + (vN t.size).length + t.size), k + (vN t.size).length + t.size) : (ByteArray × Nat) ⊕ Nat) = _
  rw [if_neg (by omega), text_eq h.right (by omega), List.length_append, tN_len, Nat.add_assoc]
theorem un_word {x : Int} (h : 0 ≤ x ∧ x ≤ 4294967295) : un x % 256 ^ 4 = un x := by
  have e : (256 : Nat) ^ 4 = 4294967296 := by decide
  rw [e]
  have := un_eq x
  omega
theorem un_long (x : Int) : un x % 256 ^ 8 = un x := by
  have e : (256 : Nat) ^ 8 = 18446744073709551616 := by decide
  rw [e]
  exact Nat.mod_eq_of_lt (un_lt x)
theorem bodyT_at {s : ByteArray} {st : Bool} {nb kd k : Nat} {x : Int} {t : ByteArray} {li : List Rt} {ys : List Nat} (h : WfT nb kd x t li) (h3 : kd ≠ 3) (ht : t.size < 18446744073709551616) (ha : At s k (bodyN nb kd x t ys)) :
    bodyT s st nb k kd = .inl (.mk nb kd x t li, k + (bodyN nb kd x t ys).length) := by
  obtain rfl := h.rg.inner h3
  have hk := h.rg.kind
  have hkk : kd = 0 ∨ kd = 1 ∨ kd = 2 ∨ kd = 5 := by omega
  rcases hkk with rfl | rfl | rfl | rfl
  · obtain rfl := h.rg.text (by decide)
    replace ha : At s k (vN (un x)) := ha
    show numT nb 0 (vAt s st k) = .inl (_, k + (vN (un x)).length)
    rw [vAt_vN ha (un_lt x)]
    show Sum.inl (Rt.mk nb 0 (wrap64 (un x : Int)) .empty [], k + (vN (un x)).length) = _
    rw [wrap_un h.int]
    rfl
  · obtain rfl := h.rg.text (by decide)
    replace ha : At s k (fN (un x) 8) := ha
    show numT nb 1 (xAt s k 8) = .inl (_, k + (fN (un x) 8).length)
    rw [xAt_fN ha (by decide), un_long, fN_len]
    show Sum.inl (Rt.mk nb 1 (wrap64 (un x : Int)) .empty [], k + 8) = _
    rw [wrap_un h.int]
    rfl
  · obtain rfl := h.rg.zero (.inl rfl)
    replace ha : At s k (vN t.size ++ tN t) := ha
    show texT nb (tAt s st k) = .inl (_, k + (vN t.size ++ tN t).length)
    rw [tAt_tN ha ht]
    rfl
  · obtain rfl := h.rg.text (by decide)
    replace ha : At s k (fN (un x) 4) := ha
    show numT nb 5 (xAt s k 4) = .inl (_, k + (fN (un x) 4).length)
    rw [xAt_fN ha (by decide), un_word (h.rg.word rfl), fN_len]
    show Sum.inl (Rt.mk nb 5 (wrap64 (un x : Int)) .empty [], k + 4) = _
    rw [wrap_un h.int]
    rfl
/-- The fuel does not matter where there is enough. -/
theorem recT_fuel (s : ByteArray) (st : Bool) (most : Int) : ∀ (F F' g o k : Nat) (acc : List Rt), k ≤ s.size → s.size < k + F → s.size < k + F' → recT s st most F g o k acc = recT s st most F' g o k acc := by
  intro F
  induction F with
  | zero => intro F' g o k acc hk h1; omega
  | succ F ih =>
    intro F' g o k acc hk h1 h2
    obtain ⟨F', rfl⟩ : ∃ q, F' = q + 1 := ⟨F' - 1, by omega⟩
    rw [recT, recT]
    by_cases hke : k = s.size
    · rw [if_pos hke, if_pos hke]
    · rw [if_neg hke, if_neg hke]
      generalize ht : tagR s st k = r
      match r, ht with
      | .inr c, _ => rfl
      | .inl (n, kd, k'), ht =>
        have hb := tagR_lt ht
        show (if kd = 4 then (if n = g then .inl (acc, k') else .inr (25, k)) else if kd = 3 ∧ (o : Int) = most then .inr (4, k) else match (if kd = 3 then grpT n (recT s st most F n (o + 1) k' []) else plcT k' (bodyT s st n k' kd)) with | .inr x => .inr x | .inl (t, k2) => recT s st most F g o k2 (acc ++ [t]) : (List Rt × Nat) ⊕ (Nat × Nat)) = (if kd = 4 then (if n = g then .inl (acc, k') else .inr (25, k)) else if kd = 3 ∧ (o : Int) = most then .inr (4, k) else match (if kd = 3 then grpT n (recT s st most F' n (o + 1) k' []) else plcT k' (bodyT s st n k' kd)) with | .inr x => .inr x | .inl (t, k2) => recT s st most F' g o k2 (acc ++ [t]))
        rw [ih F' n (o + 1) k' [] hb.2.2.2.2 (by omega) (by omega)]
        by_cases h4 : kd = 4
        · rw [if_pos h4, if_pos h4]
        · rw [if_neg h4, if_neg h4]
          by_cases h3 : kd = 3 ∧ (o : Int) = most
          · rw [if_pos h3, if_pos h3]
          · rw [if_neg h3, if_neg h3]
            generalize hq : (if kd = 3 then grpT n (recT s st most F' n (o + 1) k' []) else plcT k' (bodyT s st n k' kd)) = q
            match q, hq with
            | .inr x, _ => rfl
            | .inl (t, k2), hq =>
              have hk2 := plcT_le (o := o) (by omega) hb.2.2.2.2 hq
              exact ih F' g o k2 (acc ++ [t]) hk2.2 (by omega) (by omega)
theorem recT_rec {s : ByteArray} {st : Bool} {most : Int} {F g o k n kd k' k2 : Nat} {acc : List Rt} {t : Rt} (hk : k ≠ s.size) (ht : tagR s st k = .inl (n, kd, k')) (h4 : kd ≠ 4) (h3 : ¬ (kd = 3 ∧ (o : Int) = most)) (hq : (if kd = 3 then grpT n (recT s st most F n (o + 1) k' []) else plcT k' (bodyT s st n k' kd)) = .inl (t, k2)) :
    recT s st most (F + 1) g o k acc = recT s st most F g o k2 (acc ++ [t]) := by
  rw [recT, if_neg hk, ht]
  show (if kd = 4 then (if n = g then .inl (acc, k') else .inr (25, k)) else if kd = 3 ∧ (o : Int) = most then .inr (4, k) else match (if kd = 3 then grpT n (recT s st most F n (o + 1) k' []) else plcT k' (bodyT s st n k' kd)) with | .inr x => .inr x | .inl (t, k2) => recT s st most F g o k2 (acc ++ [t]) : (List Rt × Nat) ⊕ (Nat × Nat)) = _
  rw [if_neg h4, if_neg h3, hq]
theorem recT_end {s : ByteArray} {st : Bool} {most : Int} {F g o k k' : Nat} {acc : List Rt} (hk : k ≠ s.size) (ht : tagR s st k = .inl (g, 4, k')) : recT s st most (F + 1) g o k acc = .inl (acc, k') := by
  rw [recT, if_neg hk, ht]
  show (if (4 : Nat) = 4 then (if g = g then .inl (acc, k') else .inr (25, k)) else _ : (List Rt × Nat) ⊕ (Nat × Nat)) = _
  rw [if_pos rfl, if_pos rfl]
/-- What is written is read. -/
theorem read_enc (s : ByteArray) (st : Bool) (hs : s.size < 18446744073709551616) : ∀ (N : Nat) (ts : List Rt), SizeOf.sizeOf ts ≤ N → ∀ (g o k F : Nat) (acc : List Rt), WfL ts → deepL (63 - o) ts = false → o ≤ 63 → At s k (encL ts) → k + (encL ts).length ≤ s.size → s.size < k + F →
    recT s st 63 F g o k acc = recT s st 63 F g o (k + (encL ts).length) (acc ++ ts) := by
  intro N
  induction N with
  | zero =>
    intro ts hN
    cases ts with
    | nil => simp at hN
    | cons a b => simp at hN
  | succ N ih =>
    intro ts hN g o k F acc hw hd ho ha hk hF
    cases ts with
    | nil => simp [encL]
    | cons r ts =>
      obtain ⟨nb, kd, x, t, li⟩ := r
      have hN1 : SizeOf.sizeOf li ≤ N := by simp at hN; omega
      have hN2 : SizeOf.sizeOf ts ≤ N := by simp at hN; omega
      obtain ⟨hT, hLi⟩ := hw.at' (i := 0) rfl
      have hWs := hw.tail
      rw [encL, encR] at ha hk ⊢
      generalize hB : bodyN nb kd x t (encL li) = B at ha hk ⊢
      rw [List.append_assoc] at ha hk ⊢
      have hv := vN_pos (8 * nb + kd)
      simp only [List.length_append] at hk ⊢
      have htag : tagR s st k = .inl (nb, kd, k + (vN (8 * nb + kd)).length) := tagR_vN ha.left hT.rg.num hT.rg.kind.1
      have hB1 := ha.right.left
      have hR := ha.right.right
      have hd' : deepR (63 - o) (.mk nb kd x t li) = false ∧ deepL (63 - o) ts = false := by
        have : (deepR (63 - o) (.mk nb kd x t li) || deepL (63 - o) ts) = false := hd
        simpa using this
      obtain ⟨F, rfl⟩ : ∃ q, F = q + 1 := ⟨F - 1, by omega⟩
      generalize hL : (vN (8 * nb + kd)).length = L at *
      have hbody : (if kd = 3 then grpT nb (recT s st 63 F nb (o + 1) (k + L) []) else plcT (k + L) (bodyT s st nb (k + L) kd)) = .inl (.mk nb kd x t li, k + L + B.length) := by
        by_cases h3 : kd = 3
        · subst h3
          rw [if_pos rfl]
          obtain rfl := hT.rg.zero (.inr rfl)
          obtain rfl := hT.rg.text (by decide)
          have hBe : B = encL li ++ vN (8 * nb + 4) := hB.symm
          subst hBe
          have hv4 := vN_pos (8 * nb + 4)
          have hdd : ((63 - o == 0) || deepL (63 - o - 1) li) = false := by
            have := hd'.1
            simp only [deepR] at this
            simpa using this
          have ho2 : 63 - o ≠ 0 ∧ deepL (63 - o - 1) li = false := by simpa using hdd
          rw [List.length_append] at hk ⊢
          rw [ih li hN1 nb (o + 1) (k + L) F [] hLi (by rw [show 63 - (o + 1) = 63 - o - 1 by omega]; exact ho2.2) (by omega) hB1.left (by omega) (by omega)]
          obtain ⟨F, rfl⟩ : ∃ q, F = q + 1 := ⟨F - 1, by omega⟩
          rw [recT_end (by omega) (tagR_vN hB1.right hT.rg.num (by decide)), List.nil_append, ← Nat.add_assoc]
          rfl
        · rw [if_neg h3]
          have hts : t.size < 18446744073709551616 := by
            by_cases h2 : kd = 2
            · subst h2
              have hBe : B = vN t.size ++ tN t := hB.symm
              subst hBe
              rw [List.length_append, tN_len] at hk
              omega
            · rw [hT.rg.text h2]; decide
          rw [← hB] at hB1 ⊢
          rw [bodyT_at hT h3 hts hB1]
          rfl
      have h34 : ¬ (kd = 3 ∧ (o : Int) = 63) := by
        rintro ⟨rfl, h⟩
        have := hd'.1
        rw [show 63 - o = 0 by omega] at this
        simp [deepR] at this
      rw [recT_rec (by omega) htag hT.rg.kind.2 h34 hbody]
      have hle : k + L + B.length + (encL ts).length ≤ s.size := by omega
      rw [ih ts hN2 g o (k + L + B.length) F (acc ++ [Rt.mk nb kd x t li]) hWs hd'.2 ho hR hle (by omega)]
      rw [recT_fuel s st 63 F (F + 1) g o (k + L + B.length + (encL ts).length) _ hle (by omega) (by omega)]
      rw [List.append_assoc, List.singleton_append, show k + (L + (B.length + (encL ts).length)) = k + L + B.length + (encL ts).length by omega]
/-- Written, and split again. -/
theorem run_enc {ts : List Rt} (st : Bool) (hw : WfL ts) (hd : deepL 63 ts = false) (hs : (encL ts).length ≤ 1048576) : runT (sOf (encL ts)) st 63 ((sOf (encL ts)).size + 1) (.inl (0, 0, [], [])) = .inl (ts, (encL ts).length) := by
  have hz := sOf_size (encL ts)
  rw [recT_top (sOf (encL ts)) st 63 (by decide) ((sOf (encL ts)).size + 1) 0 _ [] (Nat.zero_le _) (by omega) (by omega)]
  rw [read_enc (sOf (encL ts)) st (by omega) (SizeOf.sizeOf ts) ts (Nat.le_refl _) 0 0 0 _ [] hw hd (by omega) (at_self (encL_byt ts)) (by omega) (by omega)]
  rw [recT, if_pos (by omega), if_pos rfl, List.nil_append, Nat.zero_add]
#print axioms run_enc
end Go.Proofs.YtgbadnbhgpnppaaDoor
namespace Go.Proofs.YtgbadnbhgpnppaaDoor
open Go.RowKit

theorem vN_small {w : Nat} (h : w ≤ 127) : vN w = [w] := by rw [vN, if_pos h]
theorem vN_big {c w : Nat} (hc : 128 ≤ c) (hc2 : c < 256) (hw : w ≠ 0) : vN ((c - 128) + 128 * w) = c :: vN w := by
  rw [vN, if_neg (by omega), show ((c - 128) + 128 * w) % 128 + 128 = c by omega, show ((c - 128) + 128 * w) / 128 = w by omega]
theorem vN_le {c w : Nat} (hc : 128 ≤ c) (hc2 : c < 256) : (vN ((c - 128) + 128 * w)).length ≤ 1 + (vN w).length := by
  by_cases hw : w = 0
  · subst hw
    rw [vN_small (by omega)]
    simp
  · rw [vN_big hc hc2 hw]
    simp
    omega
/-- What is read as a varint: its shortest form is no longer, and is what stands there where it is read strictly. -/
theorem vGo_enc (s : ByteArray) (st : Bool) : ∀ (f i k v u k' : Nat), vGo s st f i k v = .inl (u, k') → ∃ w, u = v + w * 128 ^ i ∧ k + (vN w).length ≤ k' ∧ (st = true → (0 < i → w ≠ 0) ∧ k' = k + (vN w).length ∧ At s k (vN w)) := by
  intro f
  induction f with
  | zero => intro i k v u k' h; cases h
  | succ f ih =>
    intro i k v u k' h
    rw [vGo] at h
    by_cases hk : k < s.size
    · rw [if_pos hk] at h
      by_cases h1 : i = 9 ∧ 1 < bAt s k
      · rw [if_pos h1] at h; cases h
      · rw [if_neg h1] at h
        by_cases h2 : 127 < bAt s k
        · rw [if_pos h2] at h
          obtain ⟨w, hu, hl, hst⟩ := ih _ _ _ _ _ h
          have hc := bAt_lt s k
          generalize hcc : bAt s k = c at *
          refine ⟨(c - 128) + 128 * w, ?_, ?_, fun hs => ?_⟩
          · rw [hu, Nat.pow_succ, Nat.add_mul, Nat.mul_comm 128 w, Nat.mul_assoc, Nat.mul_comm 128 (128 ^ i)]
            omega
          · have := vN_le (c := c) (w := w) (by omega) hc
            omega
          · obtain ⟨g1, g2, g3⟩ := hst hs
            have hw := g1 (by omega)
            rw [vN_big (by omega) hc hw]
            refine ⟨fun _ => by omega, by simp; omega, At.cons hk hcc g3⟩
        · rw [if_neg h2] at h
          by_cases h3 : st = true ∧ 0 < i ∧ bAt s k = 0
          · rw [if_pos h3] at h; cases h
          · rw [if_neg h3] at h
            obtain ⟨rfl, rfl⟩ := Prod.mk.inj (Sum.inl.inj h)
            refine ⟨bAt s k, rfl, ?_, fun hs => ⟨fun hi hz => h3 ⟨hs, hi, hz⟩, ?_, ?_⟩⟩
            · rw [vN_small (by omega)]; simp
            · rw [vN_small (by omega)]; simp
            · rw [vN_small (by omega)]
              exact At.cons hk rfl (At.nil _ _)
    · rw [if_neg hk] at h; cases h
theorem vAt_enc {s : ByteArray} {st : Bool} {k u k' : Nat} (h : vAt s st k = .inl (u, k')) : k + (vN u).length ≤ k' ∧ (st = true → k' = k + (vN u).length ∧ At s k (vN u)) := by
  obtain ⟨w, hu, hl, hst⟩ := vGo_enc s st _ _ _ _ _ _ h
  rw [Nat.zero_add, Nat.pow_zero, Nat.mul_one] at hu
  subst hu
  exact ⟨hl, fun hs => (hst hs).2⟩
theorem tagR_enc {s : ByteArray} {st : Bool} {k n kd k' : Nat} (h : tagR s st k = .inl (n, kd, k')) : k + (vN (8 * n + kd)).length ≤ k' ∧ (st = true → k' = k + (vN (8 * n + kd)).length ∧ At s k (vN (8 * n + kd))) := by
  unfold tagR at h
  split at h
  · cases h
  · rename_i u k2 hv
    split at h
    · cases h
    · split at h
      · cases h
      · obtain ⟨rfl, hp⟩ := Prod.mk.inj (Sum.inl.inj h)
        obtain ⟨rfl, rfl⟩ := Prod.mk.inj hp
        rw [show 8 * (u / 8) + u % 8 = u by omega]
        exact vAt_enc hv
theorem fAt_low {s : ByteArray} {k : Nat} : ∀ (n j : Nat), j < n → fAt s k n / 256 ^ j % 256 = bAt s (k + j)
  | 0, j, h => by omega
  | n + 1, j, h => by
    show (fAt s k n + bAt s (k + n) * 256 ^ n) / 256 ^ j % 256 = _
    have hp : 0 < 256 ^ j := Nat.pow_pos (by decide)
    by_cases hj : j < n
    · rw [← fAt_low n j hj]
      obtain ⟨d, rfl⟩ : ∃ d, n = j + (d + 1) := ⟨n - j - 1, by omega⟩
      have e : bAt s (k + (j + (d + 1))) * 256 ^ (j + (d + 1)) = 256 ^ j * (256 * (256 ^ d * bAt s (k + (j + (d + 1))))) := by
        rw [Nat.pow_add, Nat.pow_succ, Nat.mul_comm, Nat.mul_assoc (256 ^ j), Nat.mul_comm (256 ^ d) 256, Nat.mul_assoc 256]
      rw [e, Nat.add_mul_div_left _ _ hp]
      omega
    · obtain rfl : j = n := by omega
      have hl := fAt_lt s k j
      have hb := bAt_lt s (k + j)
      rw [Nat.mul_comm, Nat.add_mul_div_left _ _ hp, Nat.div_eq_of_lt hl]
      omega
theorem xAt_enc {s : ByteArray} {k n u k' : Nat} (h : xAt s k n = .inl (u, k')) : k' = k + (fN u n).length ∧ At s k (fN u n) ∧ u < 256 ^ n := by
  unfold xAt at h
  split at h
  · cases h
  · obtain ⟨rfl, rfl⟩ := Prod.mk.inj (Sum.inl.inj h)
    refine ⟨by rw [fN_len], fun j x hx => ?_, fAt_lt s k n⟩
    obtain ⟨h1, h2⟩ := fN_get _ _ _ _ hx
    exact ⟨by omega, by rw [h2, fAt_low n j h1]⟩
theorem tAt_enc {s : ByteArray} {st : Bool} {k k' : Nat} {t : ByteArray} (h : tAt s st k = .inl (t, k')) : k + (vN t.size ++ tN t).length ≤ k' ∧ (st = true → k' = k + (vN t.size ++ tN t).length ∧ At s k (vN t.size ++ tN t)) := by
  unfold tAt at h
  generalize hv : vAt s st k = r at h
  match r, h with
  | .inl (u, k1), h =>
    replace h : (if s.size - k1 < u then .inr 20 else .inl (s.extract k1 (k1 + u), k1 + u) : (ByteArray × Nat) ⊕ Nat) = .inl (t, k') := h
    have hlt := vAt_lt hv
    obtain ⟨h1, h2⟩ := vAt_enc hv
    by_cases hl : s.size - k1 < u
    · rw [if_pos hl] at h; cases h
    · rw [if_neg hl] at h
      obtain ⟨he, rfl⟩ := Prod.mk.inj (Sum.inl.inj h)
      have hts : t.size = u := by rw [← he, ByteArray.size_extract]; omega
      rw [List.length_append, tN_len, hts]
      refine ⟨by omega, fun hs => ?_⟩
      obtain ⟨g1, g2⟩ := h2 hs
      refine ⟨by omega, g2.app fun j x hx => ?_⟩
      obtain ⟨q1, q2⟩ := tN_get hx
      rw [hts] at q1
      refine ⟨by omega, ?_⟩
      rw [q2, ← g1, bAt_eq (show k1 + j < s.size by omega), bAt_eq (show j < t.size by omega)]
      clear hx q2 h1 h2 h g2
      subst he
      rw [ByteArray.getElem_extract]
theorem wrap_word {u : Nat} (h : u < 4294967296) : 0 ≤ wrap64 (u : Int) ∧ wrap64 (u : Int) ≤ 4294967295 := by rw [wrap64_eq]; omega
theorem wrap_rng (u : Nat) : -9223372036854775808 ≤ wrap64 (u : Int) ∧ wrap64 (u : Int) ≤ 9223372036854775807 := by rw [wrap64_eq]; omega
/-- What a body tells. -/
def BdE (s : ByteArray) (st : Bool) (n k kd k' : Nat) (r : Rt) (ys : List Nat) : Prop := ∃ x t, r = .mk n kd x t [] ∧ WfT n kd x t [] ∧ k + (bodyN n kd x t ys).length ≤ k' ∧ (st = true → k' = k + (bodyN n kd x t ys).length ∧ At s k (bodyN n kd x t ys))
theorem BdE.of {s : ByteArray} {st : Bool} {n k kd k' : Nat} {x : Int} {t : ByteArray} {ys m : List Nat} (hw : WfT n kd x t []) (hb : bodyN n kd x t ys = m) (h1 : k + m.length ≤ k') (h2 : st = true → k' = k + m.length ∧ At s k m) : BdE s st n k kd k' (.mk n kd x t []) ys := ⟨x, t, rfl, hw, by rw [hb]; exact h1, by rw [hb]; exact h2⟩
theorem bodyN0 (n : Nat) (x : Int) (t : ByteArray) (ys : List Nat) : bodyN n 0 x t ys = vN (un x) := by unfold bodyN; rw [if_pos rfl]
theorem bodyN1 (n : Nat) (x : Int) (t : ByteArray) (ys : List Nat) : bodyN n 1 x t ys = fN (un x) 8 := by unfold bodyN; rw [if_neg (by decide), if_pos rfl]
theorem bodyN2 (n : Nat) (x : Int) (t : ByteArray) (ys : List Nat) : bodyN n 2 x t ys = vN t.size ++ tN t := by unfold bodyN; rw [if_neg (by decide), if_neg (by decide), if_pos rfl]
theorem bodyN5 (n : Nat) (x : Int) (t : ByteArray) (ys : List Nat) : bodyN n 5 x t ys = fN (un x) 4 := by unfold bodyN; rw [if_neg (by decide), if_neg (by decide), if_neg (by decide), if_neg (by decide)]
theorem numT_at {n kd k' : Nat} {r : Rt} {q : (Nat × Nat) ⊕ Nat} (h : numT n kd q = .inl (r, k')) : ∃ u, q = .inl (u, k') ∧ r = .mk n kd (wrap64 (u : Int)) .empty [] := by
  match q, h with
  | .inl (u, k2), h =>
    obtain ⟨rfl, rfl⟩ := Prod.mk.inj (Sum.inl.inj h)
    exact ⟨u, rfl, rfl⟩
theorem texT_at {n k' : Nat} {r : Rt} {q : (ByteArray × Nat) ⊕ Nat} (h : texT n q = .inl (r, k')) : ∃ t, q = .inl (t, k') ∧ r = .mk n 2 0 t [] := by
  match q, h with
  | .inl (u, k2), h =>
    obtain ⟨rfl, rfl⟩ := Prod.mk.inj (Sum.inl.inj h)
    exact ⟨u, rfl, rfl⟩
theorem pow8 : (256 : Nat) ^ 8 = 18446744073709551616 := by decide
theorem pow4 : (256 : Nat) ^ 4 = 4294967296 := by decide
theorem bodyT_enc {s : ByteArray} {st : Bool} {n k kd k' : Nat} {r : Rt} (ys : List Nat) (hn : 1 ≤ n ∧ n ≤ 536870911) (hk : kd ≤ 5) (h4 : kd ≠ 4) (h3 : kd ≠ 3) (h : bodyT s st n k kd = .inl (r, k')) : BdE s st n k kd k' r ys := by
  have hkk : kd = 0 ∨ kd = 1 ∨ kd = 2 ∨ kd = 5 := by omega
  unfold bodyT at h
  rcases hkk with rfl | rfl | rfl | rfl
  · rw [if_pos rfl] at h
    obtain ⟨u, hv, rfl⟩ := numT_at h
    have hu := (vAt_lt hv).1
    have he := vAt_enc hv
    exact BdE.of ⟨⟨hn, by decide, fun _ => rfl, fun _ => rfl, fun q => absurd q (by decide), fun q => absurd q (by decide)⟩, wrap_rng u⟩ (by rw [bodyN0, un_wrap64 hu]) he.1 he.2
  · rw [if_neg (by decide), if_pos rfl] at h
    obtain ⟨u, hv, rfl⟩ := numT_at h
    obtain ⟨e1, e2, e3⟩ := xAt_enc hv
    rw [pow8] at e3
    exact BdE.of ⟨⟨hn, by decide, fun _ => rfl, fun _ => rfl, fun q => absurd q (by decide), fun q => absurd q (by decide)⟩, wrap_rng u⟩ (by rw [bodyN1, un_wrap64 e3]) (Nat.le_of_eq e1.symm) (fun _ => ⟨e1, e2⟩)
  · rw [if_neg (by decide), if_neg (by decide), if_pos rfl] at h
    obtain ⟨t, hv, rfl⟩ := texT_at h
    have he := tAt_enc hv
    exact BdE.of ⟨⟨hn, by decide, fun q => absurd rfl q, fun _ => rfl, fun _ => rfl, fun q => absurd q (by decide)⟩, by omega⟩ (bodyN2 _ _ _ _) he.1 he.2
  · rw [if_neg (by decide), if_neg (by decide), if_neg (by decide)] at h
    obtain ⟨u, hv, rfl⟩ := numT_at h
    obtain ⟨e1, e2, e3⟩ := xAt_enc hv
    rw [pow4] at e3
    exact BdE.of ⟨⟨hn, by decide, fun _ => rfl, fun _ => rfl, fun q => absurd q (by decide), fun _ => wrap_word e3⟩, wrap_rng u⟩ (by rw [bodyN5, un_wrap64 (Nat.lt_trans e3 (by decide))]) (Nat.le_of_eq e1.symm) (fun _ => ⟨e1, e2⟩)
/-- A group's end. -/
def endN (g : Nat) : List Nat := if g = 0 then [] else vN (8 * g + 4)
/-- What is read is right, not too deep, and written no longer; strictly read it is what stands there. -/
theorem recT_enc (s : ByteArray) (st : Bool) : ∀ (F g o k : Nat) (acc ts : List Rt) (k2 : Nat), k ≤ s.size → o ≤ 63 → recT s st 63 F g o k acc = .inl (ts, k2) →
    ∃ us, ts = acc ++ us ∧ WfL us ∧ deepL (63 - o) us = false ∧ k + (encL us ++ endN g).length ≤ k2 ∧ (st = true → k2 = k + (encL us ++ endN g).length ∧ At s k (encL us ++ endN g)) := by
  intro F
  induction F with
  | zero => intro g o k acc ts k2 _ _ h; cases h
  | succ F ih =>
    intro g o k acc ts k2 hk ho h
    rw [recT] at h
    split at h
    · rename_i hke
      split at h
      · rename_i hg
        obtain ⟨rfl, rfl⟩ := Prod.mk.inj (Sum.inl.inj h)
        subst hg
        refine ⟨[], by simp, .nil, rfl, by simp [encL, endN], fun _ => ⟨by simp [encL, endN], ?_⟩⟩
        simp only [encL, endN]
        exact At.nil _ _
      · cases h
    · split at h
      · cases h
      · rename_i n kd k' ht
        have hb := tagR_lt ht
        obtain ⟨e1, e2⟩ := tagR_enc ht
        split at h
        · rename_i h4
          split at h
          · rename_i hg
            obtain ⟨rfl, rfl⟩ := Prod.mk.inj (Sum.inl.inj h)
            subst h4 hg
            have he : endN n = vN (8 * n + 4) := by unfold endN; rw [if_neg (by omega)]
            refine ⟨[], by simp, .nil, rfl, ?_, ?_⟩
            · rw [he]; exact e1
            · rw [he]; exact e2
          · cases h
        · rename_i h4
          split at h
          · cases h
          · rename_i h3o
            split at h
            · cases h
            · rename_i t k3 hq
              have hk3 := plcT_le (o := o) (by omega) hb.2.2.2.2 hq
              obtain ⟨us, hts, hw, hd, hl, hst⟩ := ih _ _ _ _ _ _ hk3.2 ho h
              obtain ⟨x, tx, li, rfl, hT, hLi, hdr, hbl, hbs⟩ : ∃ x tx li, t = .mk n kd x tx li ∧ WfT n kd x tx li ∧ WfL li ∧ deepR (63 - o) (.mk n kd x tx li) = false ∧ k' + (bodyN n kd x tx (encL li)).length ≤ k3 ∧ (st = true → k3 = k' + (bodyN n kd x tx (encL li)).length ∧ At s k' (bodyN n kd x tx (encL li))) := by
                by_cases h3 : kd = 3
                · subst h3
                  rw [if_pos rfl] at hq
                  generalize hr : recT s st 63 F n (o + 1) k' [] = r at hq
                  match r, hq with
                  | .inl (li, k4), hq =>
                    obtain ⟨rfl, rfl⟩ := Prod.mk.inj (Sum.inl.inj hq)
                    have ho1 : o + 1 ≤ 63 := by
                      have : ¬ ((o : Int) = 63) := fun q => h3o ⟨rfl, q⟩
                      omega
                    obtain ⟨us', hts', hw', hd', hl', hst'⟩ := ih _ _ _ _ _ _ hb.2.2.2.2 ho1 hr
                    rw [List.nil_append] at hts'
                    subst hts'
                    have he : endN n = vN (8 * n + 4) := by unfold endN; rw [if_neg (by omega)]
                    rw [he] at hl' hst'
                    refine ⟨0, .empty, li, rfl, ⟨⟨⟨hb.1, hb.2.1⟩, by decide, fun _ => rfl, fun q => absurd rfl q, fun _ => rfl, fun q => by omega⟩, by decide⟩, hw', ?_, hl', hst'⟩
                    have z : (63 - o == 0) = false := by simp; omega
                    rw [show 63 - (o + 1) = 63 - o - 1 by omega] at hd'
                    simp only [deepR, z, hd']
                    simp
                · rw [if_neg h3] at hq
                  generalize hr : bodyT s st n k' kd = r at hq
                  match r, hq with
                  | .inl (r', k4), hq =>
                    obtain ⟨rfl, rfl⟩ := Prod.mk.inj (Sum.inl.inj hq)
                    obtain ⟨x, tx, rfl, hT, g1, g2⟩ := bodyT_enc (encL []) ⟨hb.1, hb.2.1⟩ hb.2.2.1 h4 h3 hr
                    refine ⟨x, tx, [], rfl, hT, .nil, ?_, g1, g2⟩
                    have z : (kd == 3) = false := by simp [h3]
                    simp [deepR, z]
              refine ⟨.mk n kd x tx li :: us, by rw [hts, List.append_assoc, List.singleton_append], .cons hT hLi hw, ?_, ?_, fun hs => ?_⟩
              · show (deepR (63 - o) (.mk n kd x tx li) || deepL (63 - o) us) = false
                rw [hdr, hd]
                rfl
              · rw [encL, encR, List.append_assoc, List.append_assoc]
                simp only [List.length_append] at hl ⊢
                omega
              · obtain ⟨p1, p2⟩ := e2 hs
                obtain ⟨q1, q2⟩ := hbs hs
                obtain ⟨r1, r2⟩ := hst hs
                rw [encL, encR, List.append_assoc, List.append_assoc]
                refine ⟨?_, p2.app ?_⟩
                · simp only [List.length_append] at r1 ⊢
                  omega
                · rw [← p1]
                  refine q2.app ?_
                  rw [← q1]
                  exact r2
/-- From the top all is read. -/
theorem top_end (s : ByteArray) (st : Bool) : ∀ (F o k : Nat) (acc ts : List Rt) (k2 : Nat), k ≤ s.size → recT s st 63 F 0 o k acc = .inl (ts, k2) → k2 = s.size := by
  intro F
  induction F with
  | zero => intro o k acc ts k2 _ h; cases h
  | succ F ih =>
    intro o k acc ts k2 hk h
    rw [recT] at h
    split at h
    · rename_i hke
      obtain ⟨_, rfl⟩ := Prod.mk.inj (Sum.inl.inj h)
      exact hke
    · split at h
      · cases h
      · rename_i n kd k' ht
        have hb := tagR_lt ht
        split at h
        · split at h
          · omega
          · cases h
        · split at h
          · cases h
          · split at h
            · cases h
            · rename_i t k3 hq
              have hk3 := plcT_le (o := o) (by omega) hb.2.2.2.2 hq
              exact ih _ _ _ _ _ hk3.2 h
/-- What Split takes. -/
theorem run_dec {l : List Nat} {st : Bool} {ts : List Rt} {k2 : Nat} (hl : ∀ x ∈ l, x < 256) (h : runT (sOf l) st 63 ((sOf l).size + 1) (.inl (0, 0, [], [])) = .inl (ts, k2)) : WfL ts ∧ deepL 63 ts = false ∧ (encL ts).length ≤ l.length ∧ (st = true → encL ts = l) := by
  rw [recT_top (sOf l) st 63 (by decide) ((sOf l).size + 1) 0 _ [] (Nat.zero_le _) (by omega) (by omega)] at h
  obtain ⟨us, hts, hw, hd, h1, h2⟩ := recT_enc (sOf l) st _ _ _ _ _ _ _ (Nat.zero_le _) (Nat.zero_le _) h
  rw [List.nil_append] at hts
  subst hts
  have he : endN 0 = [] := rfl
  rw [he, List.append_nil, Nat.zero_add] at h1 h2
  have hk2 : k2 = l.length := by
    rw [← sOf_size l]
    exact top_end _ _ _ _ _ _ _ _ (Nat.zero_le _) h
  refine ⟨hw, hd, by omega, fun hs => ?_⟩
  obtain ⟨g1, g2⟩ := h2 hs
  exact at_eq hl g2 (by omega)
#print axioms run_dec
end Go.Proofs.YtgbadnbhgpnppaaDoor
