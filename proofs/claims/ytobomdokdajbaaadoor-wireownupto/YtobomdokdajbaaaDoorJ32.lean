import Derived.Test.YtobomdokdajbaaaDoorWLe
import Derived.Test.YtobomdokdajbaaaDoorWFd
import Derived.Test.YtobomdokdajbaaaDoorJ12

namespace Go.Proofs.YtobomdokdajbaaaDoor
open Go.RowKit

def vN (u : Nat) : List Nat := if u ≤ 127 then [u] else (u % 128 + 128) :: vN (u / 128)
termination_by u
decreasing_by omega
theorem byB_vN (u : Nat) : byB (vN u) = vint u := by
  rw [vN, vint]
  split
  · rfl
  · have := byB_vN (u / 128)
    show ((u % 128 + 128 : Nat) : Int) :: byB (vN (u / 128)) = _
    rw [this]
termination_by u
decreasing_by omega
def lastN (l : List Nat) : Nat := l.getD (l.length - 1) 0
def Enc : List Nat → Nat → Prop
  | [], _ => False
  | [c], u => c = u ∧ u < 128
  | c :: d :: r, u => 128 ≤ c ∧ c < 256 ∧ ∃ u', u = (c - 128) + 128 * u' ∧ Enc (d :: r) u'
theorem enc_pos {l : List Nat} {u : Nat} (h : Enc l u) : 1 ≤ l.length := by
  cases l with
  | nil => exact h.elim
  | cons c r => simp
theorem enc_byt : ∀ {l : List Nat} {u : Nat}, Enc l u → ∀ x ∈ l, x < 256
  | [], _, h => h.elim
  | [c], u, h => fun x hx => by
    obtain rfl : x = c := by simpa using hx
    have := h.1
    have := h.2
    omega
  | c :: d :: r, u, h => fun x hx => by
    obtain ⟨h1, h2, u', h3, h4⟩ := h
    rcases List.mem_cons.1 hx with rfl | hx
    · exact h2
    · exact enc_byt h4 x hx
theorem lastN_cons (c d : Nat) (r : List Nat) : lastN (c :: d :: r) = lastN (d :: r) := by
  unfold lastN
  simp
theorem enc_last : ∀ {l : List Nat} {u : Nat}, Enc l u → lastN l < 128
  | [], _, h => h.elim
  | [c], u, h => by
    show c < 128
    have := h.1
    have := h.2
    omega
  | c :: d :: r, u, h => by
    obtain ⟨h1, h2, u', h3, h4⟩ := h
    rw [lastN_cons]
    exact enc_last h4
theorem enc_vN (u : Nat) : Enc (vN u) u ∧ (1 < (vN u).length → lastN (vN u) ≠ 0) := by
  rw [vN]
  by_cases h : u ≤ 127
  · rw [if_pos h]
    exact ⟨⟨rfl, by omega⟩, fun q => by simp at q⟩
  · rw [if_neg h]
    obtain ⟨i1, i2⟩ := enc_vN (u / 128)
    cases hv : vN (u / 128) with
    | nil => rw [hv] at i1; exact i1.elim
    | cons d r =>
      rw [hv] at i1 i2
      refine ⟨⟨by omega, by omega, u / 128, by omega, i1⟩, fun _ => ?_⟩
      rw [lastN_cons]
      by_cases hl : 1 < (d :: r).length
      · exact i2 hl
      · cases r with
        | nil =>
          show d ≠ 0
          have := i1.1
          omega
        | cons a b => simp at hl
termination_by u
decreasing_by omega
/-- One byte more than must be. -/
def ext (l : List Nat) : List Nat := l.set (l.length - 1) (lastN l + 128) ++ [0]
theorem ext_len (l : List Nat) : (ext l).length = l.length + 1 := by simp [ext]
theorem ext_last (l : List Nat) : lastN (ext l) = 0 := by
  unfold lastN
  rw [ext_len]
  simp [ext]
theorem ext_cons (c d : Nat) (r : List Nat) : ext (c :: d :: r) = c :: ext (d :: r) := by
  unfold ext
  rw [lastN_cons]
  simp
theorem enc_ext : ∀ {l : List Nat} {u : Nat}, Enc l u → Enc (ext l) u
  | [], _, h => h.elim
  | [c], u, h => by
    show Enc [c + 128, 0] u
    have h1 := h.1
    have h2 := h.2
    exact ⟨by omega, by omega, 0, by omega, rfl, by decide⟩
  | c :: d :: r, u, h => by
    obtain ⟨h1, h2, u', h3, h4⟩ := h
    rw [ext_cons]
    have := enc_ext h4
    cases he : ext (d :: r) with
    | nil => rw [he] at this; exact this.elim
    | cons a b =>
      rw [he] at this
      exact ⟨h1, h2, u', h3, this⟩
def longN : Nat → List Nat → List Nat
  | 0, l => l
  | n + 1, l => if l.length < 10 then longN n (ext l) else l
theorem long_enc : ∀ (n : Nat) {l : List Nat} {u : Nat}, Enc l u → l.length ≤ 10 → Enc (longN n l) u ∧ (longN n l).length ≤ 10 ∧ (longN n l = l ∨ (l.length < (longN n l).length ∧ lastN (longN n l) = 0))
  | 0, l, u, h, hl => ⟨h, hl, .inl rfl⟩
  | n + 1, l, u, h, hl => by
    rw [longN]
    by_cases h10 : l.length < 10
    · rw [if_pos h10]
      have hel := ext_len l
      obtain ⟨i1, i2, i3⟩ := long_enc n (enc_ext h) (by omega)
      refine ⟨i1, i2, .inr ?_⟩
      rcases i3 with i3 | ⟨i3, i4⟩
      · rw [i3]
        exact ⟨by omega, ext_last l⟩
      · exact ⟨by omega, i4⟩
    · rw [if_neg h10]
      exact ⟨h, hl, .inl rfl⟩
theorem enc_go {s : ByteArray} {st : Bool} : ∀ (l : List Nat) (u i k v : Nat), Enc l u → i + l.length ≤ 10 → v + u * 128 ^ i < 18446744073709551616 → (∀ j x, l[j]? = some x → k + j < s.size ∧ bAt s (k + j) = x) →
    vGo s st (10 - i) i k v = if st = true ∧ 0 < i + l.length - 1 ∧ lastN l = 0 then .inr 22 else .inl (v + u * 128 ^ i, k + l.length)
  | [], u, i, k, v, h, _, _, _ => h.elim
  | [c], u, i, k, v, h, hi, hb, hs => by
    obtain ⟨rfl, h2⟩ := h
    obtain ⟨k1, k2⟩ := hs 0 c rfl
    rw [Nat.add_zero] at k1 k2
    have hi9 : i ≤ 9 := by simp at hi; omega
    rw [show 10 - i = (10 - (i + 1)) + 1 by omega, vGo, if_pos k1, k2, if_neg, if_neg (by omega)]
    · rfl
    · rintro ⟨rfl, q⟩
      have e : (128 : Nat) ^ 9 = 9223372036854775808 := by decide
      rw [e] at hb
      omega
  | c :: d :: r, u, i, k, v, h, hi, hb, hs => by
    obtain ⟨h1, h2, u', rfl, h4⟩ := h
    obtain ⟨k1, k2⟩ := hs 0 c rfl
    rw [Nat.add_zero] at k1 k2
    have hi8 : i ≤ 8 := by simp at hi; omega
    have e1 : v + (c - 128 + 128 * u') * 128 ^ i = (v + (c - 128) * 128 ^ i) + u' * 128 ^ (i + 1) := by
      rw [Nat.pow_succ, Nat.add_mul, Nat.mul_comm 128 u', Nat.mul_assoc, Nat.mul_comm 128 (128 ^ i)]
      omega
    rw [show 10 - i = (10 - (i + 1)) + 1 by omega, vGo, if_pos k1, k2, if_neg (by omega), if_pos (by omega)]
    rw [enc_go (d :: r) u' (i + 1) (k + 1) _ h4 (by simp at hi ⊢; omega) (by rw [← e1]; exact hb) (fun j x hx => by
      have := hs (j + 1) x (by simpa using hx)
      rwa [show k + (j + 1) = k + 1 + j by omega] at this)]
    rw [lastN_cons, e1]
    have q1 : (0 < i + 1 + (d :: r).length - 1) ↔ (0 < i + (c :: d :: r).length - 1) := by simp only [List.length_cons]; omega
    have q2 : k + 1 + (d :: r).length = k + (c :: d :: r).length := by simp only [List.length_cons]; omega
    rw [q2]
    simp only [q1]
theorem enc_at {a b : List Nat} {st : Bool} {l : List Nat} {u : Nat} (hb : ∀ x ∈ a ++ (l ++ b), x < 256) (h : Enc l u) (hl : l.length ≤ 10) (hu : u < 18446744073709551616) :
    vAt (sOf (a ++ (l ++ b))) st a.length = if st = true ∧ 1 < l.length ∧ lastN l = 0 then .inr 22 else .inl (u, a.length + l.length) := by
  have hp := enc_pos h
  have := enc_go (s := sOf (a ++ (l ++ b))) (st := st) l u 0 a.length 0 h (by omega) (by rw [Nat.zero_add, Nat.pow_zero, Nat.mul_one]; exact hu) (fun j x hx => by
    have hj := (List.getElem?_eq_some_iff.1 hx).1
    have hat : (a ++ (l ++ b))[a.length + j]? = some x := by
      rw [List.getElem?_append_right (by omega), Nat.add_sub_cancel_left, List.getElem?_append_left hj]
      exact hx
    exact ⟨by rw [sOf_size]; exact (List.getElem?_eq_some_iff.1 hat).1, sOf_at hb hat⟩)
  unfold vAt
  rw [this, Nat.zero_add, Nat.zero_add, Nat.pow_zero, Nat.mul_one]
  have q1 : (0 < l.length - 1) ↔ (1 < l.length) := by omega
  simp only [q1]
end Go.Proofs.YtobomdokdajbaaaDoor

namespace Go.Proofs.YtobomdokdajbaaaDoor
open Go.RowKit

/-- The low n bytes. -/
def fN (u : Nat) : Nat → List Nat
  | 0 => []
  | n + 1 => fN u n ++ [u / 256 ^ n % 256]
theorem fN_len (u : Nat) : ∀ n, (fN u n).length = n
  | 0 => rfl
  | n + 1 => by show (fN u n ++ [_]).length = n + 1; rw [List.length_append, fN_len u n]; rfl
theorem fN_get (u : Nat) : ∀ (n j x : Nat), (fN u n)[j]? = some x → j < n ∧ x = u / 256 ^ j % 256
  | 0, j, x, h => by simp [fN] at h
  | n + 1, j, x, h => by
    replace h : (fN u n ++ [u / 256 ^ n % 256])[j]? = some x := h
    by_cases hj : j < n
    · rw [List.getElem?_append_left (by rw [fN_len]; exact hj)] at h
      exact ⟨by omega, (fN_get u n j x h).2⟩
    · rw [List.getElem?_append_right (by rw [fN_len]; omega), fN_len] at h
      have hl := (List.getElem?_eq_some_iff.1 h).1
      have e : j = n := by simp at hl; omega
      subst e
      simp at h
      exact ⟨by omega, h.symm⟩
theorem fN_at (u : Nat) {n j : Nat} (h : j < n) : (fN u n)[j]? = some (u / 256 ^ j % 256) := by
  have hj : j < (fN u n).length := by rw [fN_len]; exact h
  have e := List.getElem?_eq_getElem hj
  rw [e, (fN_get u n j _ e).2]
def tN (t : ByteArray) : List Nat := t.data.toList.map (·.toNat)
theorem tN_len (t : ByteArray) : (tN t).length = t.size := by simp [tN]
theorem tN_get {t : ByteArray} {j x : Nat} (h : (tN t)[j]? = some x) : j < t.size ∧ x = bAt t j := by
  have hj := (List.getElem?_eq_some_iff.1 h).1
  rw [tN_len] at hj
  refine ⟨hj, ?_⟩
  rw [bAt_eq hj]
  have := (List.getElem?_eq_some_iff.1 h).2
  simp [tN] at this
  exact this.symm
theorem tN_at {t : ByteArray} {j : Nat} (h : j < t.size) : (tN t)[j]? = some (bAt t j) := by
  have hj : j < (tN t).length := by rw [tN_len]; exact h
  have e := List.getElem?_eq_getElem hj
  rw [e, (tN_get e).2]
/-- What is behind a record's tag. -/
def bodyN (nb kd : Nat) (x : Int) (t : ByteArray) (ys : List Nat) : List Nat := if kd = 0 then vN (un x) else if kd = 1 then fN (un x) 8 else if kd = 2 then vN t.size ++ tN t else if kd = 3 then ys ++ vN (8 * nb + 4) else fN (un x) 4
mutual
/-- The bytes of a record. -/
def encR : Rt → List Nat
  | .mk nb kd x t li => vN (8 * nb + kd) ++ bodyN nb kd x t (encL li)
/-- The bytes of records. -/
def encL : List Rt → List Nat
  | [] => []
  | t :: ts => encR t ++ encL ts
end
theorem encL_append : ∀ a b : List Rt, encL (a ++ b) = encL a ++ encL b
  | [], b => by simp [encL]
  | t :: a, b => by
    show encR t ++ encL (a ++ b) = (encR t ++ encL a) ++ encL b
    rw [encL_append a b, List.append_assoc]
theorem vN_byt (u : Nat) : ∀ x ∈ vN u, x < 256 := enc_byt (enc_vN u).1
theorem fN_byt (u n : Nat) : ∀ x ∈ fN u n, x < 256 := fun x hx => by
  obtain ⟨j, hj⟩ := List.mem_iff_getElem?.1 hx
  rw [(fN_get u n j x hj).2]
  omega
theorem tN_byt (t : ByteArray) : ∀ x ∈ tN t, x < 256 := fun x hx => by
  obtain ⟨j, hj⟩ := List.mem_iff_getElem?.1 hx
  rw [(tN_get hj).2]
  exact bAt_lt _ _
theorem bodyN_byt (nb kd : Nat) (x : Int) (t : ByteArray) {ys : List Nat} (h : ∀ z ∈ ys, z < 256) : ∀ z ∈ bodyN nb kd x t ys, z < 256 := by
  unfold bodyN
  intro z hz
  split at hz
  · exact vN_byt _ z hz
  · split at hz
    · exact fN_byt _ _ z hz
    · split at hz
      · rcases List.mem_append.1 hz with q | q
        · exact vN_byt _ z q
        · exact tN_byt _ z q
      · split at hz
        · rcases List.mem_append.1 hz with q | q
          · exact h z q
          · exact vN_byt _ z q
        · exact fN_byt _ _ z hz
mutual
theorem encR_byt : ∀ (t : Rt), ∀ z ∈ encR t, z < 256
  | .mk nb kd x t li => fun z hz => by
    rw [encR] at hz
    rcases List.mem_append.1 hz with q | q
    · exact vN_byt _ z q
    · exact bodyN_byt nb kd x t (encL_byt li) z q
theorem encL_byt : ∀ (ts : List Rt), ∀ z ∈ encL ts, z < 256
  | [] => fun z hz => by rw [encL] at hz; simp at hz
  | t :: ts => fun z hz => by
    rw [encL] at hz
    rcases List.mem_append.1 hz with q | q
    · exact encR_byt t z q
    · exact encL_byt ts z q
end
/-- A right record whose number a word holds. -/
structure WfT (nb kd : Nat) (x : Int) (t : ByteArray) (li : List Rt) : Prop where
  rg : RgT nb kd x t li
  int : -9223372036854775808 ≤ x ∧ x ≤ 9223372036854775807
inductive WfL : List Rt → Prop
  | mk (ts : List Rt) (h : ∀ (i nb kd : Nat) (x : Int) (t : ByteArray) (li : List Rt), ts[i]? = some (.mk nb kd x t li) → WfT nb kd x t li) (hi : ∀ (i : Nat) (t : Rt), ts[i]? = some t → WfL t.inner) : WfL ts
theorem WfL.at' {ts : List Rt} (h : WfL ts) {i nb kd : Nat} {x : Int} {t : ByteArray} {li : List Rt} (ht : ts[i]? = some (.mk nb kd x t li)) : WfT nb kd x t li ∧ WfL li := by
  cases h with
  | mk _ h hi => exact ⟨h i nb kd x t li ht, hi i _ ht⟩
theorem WfL.rg {ts : List Rt} (h : WfL ts) : RgL ts := by
  induction h with
  | mk ts h hi ih => exact .mk ts (fun i nb kd x t li ht => (h i nb kd x t li ht).rg) ih
theorem WfL.nil : WfL [] := .mk _ (fun i nb kd x t li h => by simp at h) (fun i t h => by simp at h)
theorem WfL.cons {nb kd : Nat} {x : Int} {t : ByteArray} {li ts : List Rt} (h : WfT nb kd x t li) (hi : WfL li) (hs : WfL ts) : WfL (.mk nb kd x t li :: ts) := by
  refine .mk _ (fun i nb' kd' x' t' li' ht => ?_) (fun i r ht => ?_)
  · cases i with
    | zero => simp at ht; obtain ⟨rfl, rfl, rfl, rfl, rfl⟩ := ht; exact h
    | succ i => rw [List.getElem?_cons_succ] at ht; exact (hs.at' ht).1
  · cases i with
    | zero => simp at ht; subst ht; exact hi
    | succ i =>
      rw [List.getElem?_cons_succ] at ht
      obtain ⟨nb', kd', x', t', li'⟩ := r
      exact (hs.at' ht).2
theorem WfL.tail {r : Rt} {ts : List Rt} (h : WfL (r :: ts)) : WfL ts := by
  cases h with
  | mk _ h hi => exact .mk _ (fun i nb kd x t li ht => h (i + 1) nb kd x t li (by simpa using ht)) (fun i t ht => hi (i + 1) t (by simpa using ht))
/-- These bytes stand at a place. -/
def At (s : ByteArray) (k : Nat) (m : List Nat) : Prop := ∀ j x, m[j]? = some x → k + j < s.size ∧ bAt s (k + j) = x
theorem At.nil (s : ByteArray) (k : Nat) : At s k [] := fun j x h => by simp at h
theorem At.left {s : ByteArray} {k : Nat} {m m' : List Nat} (h : At s k (m ++ m')) : At s k m := fun j x hx => h j x (by
  rw [List.getElem?_append_left (List.getElem?_eq_some_iff.1 hx).1]; exact hx)
theorem At.right {s : ByteArray} {k : Nat} {m m' : List Nat} (h : At s k (m ++ m')) : At s (k + m.length) m' := fun j x hx => by
  have := h (m.length + j) x (by rw [List.getElem?_append_right (by omega), Nat.add_sub_cancel_left]; exact hx)
  rwa [← Nat.add_assoc] at this
theorem At.app {s : ByteArray} {k : Nat} {m m' : List Nat} (h : At s k m) (h' : At s (k + m.length) m') : At s k (m ++ m') := fun j x hx => by
  by_cases hj : j < m.length
  · rw [List.getElem?_append_left hj] at hx
    exact h j x hx
  · rw [List.getElem?_append_right (by omega)] at hx
    have := h' _ x hx
    rwa [show k + m.length + (j - m.length) = k + j by omega] at this
theorem At.cons {s : ByteArray} {k c : Nat} {m : List Nat} (h : k < s.size) (hc : bAt s k = c) (h' : At s (k + 1) m) : At s k (c :: m) := fun j x hx => by
  cases j with
  | zero => simp at hx; subst hx; exact ⟨h, hc⟩
  | succ j =>
    rw [List.getElem?_cons_succ] at hx
    have := h' j x hx
    rwa [show k + 1 + j = k + (j + 1) by omega] at this
theorem At.pos {s : ByteArray} {k : Nat} {m : List Nat} (h : At s k m) (hm : 0 < m.length) : k + m.length ≤ s.size := by
  have := (h (m.length - 1) _ (List.getElem?_eq_getElem (by omega))).1
  omega
theorem at_self {l : List Nat} (hl : ∀ x ∈ l, x < 256) : At (sOf l) 0 l := fun j x hx => by
  rw [Nat.zero_add]
  exact ⟨by rw [sOf_size]; exact (List.getElem?_eq_some_iff.1 hx).1, sOf_at hl hx⟩
theorem at_eq {l m : List Nat} (hl : ∀ x ∈ l, x < 256) (h : At (sOf l) 0 m) (he : m.length = l.length) : m = l := by
  refine List.ext_getElem he fun i h1 h2 => ?_
  have := (h i _ (List.getElem?_eq_getElem h1)).2
  rw [Nat.zero_add, sOf_at hl (List.getElem?_eq_getElem h2)] at this
  exact this.symm
theorem vN_len {u : Nat} (h : u < 18446744073709551616) : 1 ≤ (vN u).length ∧ (vN u).length ≤ 10 := by
  have := vint_ten h
  rw [← byB_vN] at this
  simpa [byB] using this
theorem vN_pos (u : Nat) : 1 ≤ (vN u).length := enc_pos (enc_vN u).1
theorem vAt_vN {s : ByteArray} {st : Bool} {k u : Nat} (h : At s k (vN u)) (hu : u < 18446744073709551616) : vAt s st k = .inl (u, k + (vN u).length) := by
  have hl := vN_len hu
  obtain ⟨e1, e2⟩ := enc_vN u
  have := enc_go (s := s) (st := st) (vN u) u 0 k 0 e1 (by omega) (by rw [Nat.zero_add, Nat.pow_zero, Nat.mul_one]; exact hu) h
  unfold vAt
  rw [this, if_neg, Nat.zero_add, Nat.pow_zero, Nat.mul_one]
  rintro ⟨_, h2, h3⟩
  exact e2 (by omega) h3
theorem tagR_vN {s : ByteArray} {st : Bool} {k nb kd : Nat} (h : At s k (vN (8 * nb + kd))) (hn : 1 ≤ nb ∧ nb ≤ 536870911) (hk : kd ≤ 5) : tagR s st k = .inl (nb, kd, k + (vN (8 * nb + kd)).length) := by
  unfold tagR
  rw [vAt_vN h (by omega)]
  show (if _ then _ else if _ then _ else _) = _
  rw [if_neg (by omega), if_neg (by omega), show (8 * nb + kd) / 8 = nb by omega, show (8 * nb + kd) % 8 = kd by omega]
theorem fAt_fN {s : ByteArray} {k u : Nat} : ∀ n, At s k (fN u n) → fAt s k n = u % 256 ^ n
  | 0, _ => by show 0 = u % 1; omega
  | n + 1, h => by
    show fAt s k n + bAt s (k + n) * 256 ^ n = u % 256 ^ (n + 1)
    have h1 := fAt_fN n (show At s k (fN u n) from At.left (m' := [u / 256 ^ n % 256]) h)
    rw [h1, (h n _ (fN_at u (by omega))).2, Nat.mod_pow_succ, Nat.mul_comm]
theorem xAt_fN {s : ByteArray} {k u n : Nat} (h : At s k (fN u n)) (hn : 0 < n) : xAt s k n = .inl (u % 256 ^ n, k + n) := by
  have := h.pos (by rw [fN_len]; exact hn)
  rw [fN_len] at this
  unfold xAt
  rw [if_neg (by omega), fAt_fN n h]
theorem wrap_un {x : Int} (h : -9223372036854775808 ≤ x ∧ x ≤ 9223372036854775807) : wrap64 (un x : Int) = x := by rw [un_eq, wrap64_eq]; omega
end Go.Proofs.YtobomdokdajbaaaDoor

namespace Go.Proofs.YtobomdokdajbaaaDoor
open Go.RowKit

theorem text_eq {s t : ByteArray} {k : Nat} (h : At s k (tN t)) (hk : k + t.size ≤ s.size) : s.extract k (k + t.size) = t := by
  rw [ext_list _ _ _ hk, Nat.add_sub_cancel_left]
  apply ByteArray.ext
  apply Array.ext
  · simp
  · intro i h1 h2
    have hi : i < t.size := h2
    have := (h i _ (tN_at hi)).2
    simp only [List.getElem_toArray, List.getElem_map, List.getElem_range]
    rw [this, bAt_eq hi]
    simp
    rfl
theorem tAt_tN {s : ByteArray} {st : Bool} {k : Nat} {t : ByteArray} (h : At s k (vN t.size ++ tN t)) (ht : t.size < 18446744073709551616) : tAt s st k = .inl (t, k + (vN t.size ++ tN t).length) := by
  have hp := h.pos (by rw [List.length_append]; have := vN_pos t.size; omega)
  rw [List.length_append, tN_len] at hp
  unfold tAt
  rw [vAt_vN h.left ht]
  show (if s.size - (k + (vN t.size).length) < t.size then .inr 20 else .inl (s.extract (k + (vN t.size).length) (k + (vN t.size).length + t.size), k + (vN t.size).length + t.size) : (ByteArray × Nat) ⊕ Nat) = _
  rw [if_neg (by omega), text_eq h.right (by omega), List.length_append, tN_len, Nat.add_assoc]
theorem un_word {x : Int} (h : 0 ≤ x ∧ x ≤ 4294967295) : un x % 256 ^ 4 = un x := by
  have e : (256 : Nat) ^ 4 = 4294967296 := by decide
  rw [e]
  have := un_eq x
  omega
theorem un_long (x : Int) : un x % 256 ^ 8 = un x := by
  have e : (256 : Nat) ^ 8 = 18446744073709551616 := by decide
  rw [e]
  exact Nat.mod_eq_of_lt (un_lt x)
theorem bodyT_at {s : ByteArray} {st : Bool} {nb kd k : Nat} {x : Int} {t : ByteArray} {li : List Rt} {ys : List Nat} (h : WfT nb kd x t li) (h3 : kd ≠ 3) (ht : t.size < 18446744073709551616) (ha : At s k (bodyN nb kd x t ys)) :
    bodyT s st nb k kd = .inl (.mk nb kd x t li, k + (bodyN nb kd x t ys).length) := by
  obtain rfl := h.rg.inner h3
  have hk := h.rg.kind
  have hkk : kd = 0 ∨ kd = 1 ∨ kd = 2 ∨ kd = 5 := by omega
  rcases hkk with rfl | rfl | rfl | rfl
  · obtain rfl := h.rg.text (by decide)
    replace ha : At s k (vN (un x)) := ha
    show numT nb 0 (vAt s st k) = .inl (_, k + (vN (un x)).length)
    rw [vAt_vN ha (un_lt x)]
    show Sum.inl (Rt.mk nb 0 (wrap64 (un x : Int)) .empty [], k + (vN (un x)).length) = _
    rw [wrap_un h.int]
    rfl
  · obtain rfl := h.rg.text (by decide)
    replace ha : At s k (fN (un x) 8) := ha
    show numT nb 1 (xAt s k 8) = .inl (_, k + (fN (un x) 8).length)
    rw [xAt_fN ha (by decide), un_long, fN_len]
    show Sum.inl (Rt.mk nb 1 (wrap64 (un x : Int)) .empty [], k + 8) = _
    rw [wrap_un h.int]
    rfl
  · obtain rfl := h.rg.zero (.inl rfl)
    replace ha : At s k (vN t.size ++ tN t) := ha
    show texT nb (tAt s st k) = .inl (_, k + (vN t.size ++ tN t).length)
    rw [tAt_tN ha ht]
    rfl
  · obtain rfl := h.rg.text (by decide)
    replace ha : At s k (fN (un x) 4) := ha
    show numT nb 5 (xAt s k 4) = .inl (_, k + (fN (un x) 4).length)
    rw [xAt_fN ha (by decide), un_word (h.rg.word rfl), fN_len]
    show Sum.inl (Rt.mk nb 5 (wrap64 (un x : Int)) .empty [], k + 4) = _
    rw [wrap_un h.int]
    rfl
/-- The fuel does not matter where there is enough. -/
theorem recT_fuel (s : ByteArray) (st : Bool) (most : Int) : ∀ (F F' g o k : Nat) (acc : List Rt), k ≤ s.size → s.size < k + F → s.size < k + F' → recT s st most F g o k acc = recT s st most F' g o k acc := by
  intro F
  induction F with
  | zero => intro F' g o k acc hk h1; omega
  | succ F ih =>
    intro F' g o k acc hk h1 h2
    obtain ⟨F', rfl⟩ : ∃ q, F' = q + 1 := ⟨F' - 1, by omega⟩
    rw [recT, recT]
    by_cases hke : k = s.size
    · rw [if_pos hke, if_pos hke]
    · rw [if_neg hke, if_neg hke]
      generalize ht : tagR s st k = r
      match r, ht with
      | .inr c, _ => rfl
      | .inl (n, kd, k'), ht =>
        have hb := tagR_lt ht
        show (if kd = 4 then (if n = g then .inl (acc, k') else .inr (25, k)) else if kd = 3 ∧ (o : Int) = most then .inr (4, k) else match (if kd = 3 then grpT n (recT s st most F n (o + 1) k' []) else plcT k' (bodyT s st n k' kd)) with | .inr x => .inr x | .inl (t, k2) => recT s st most F g o k2 (acc ++ [t]) : (List Rt × Nat) ⊕ (Nat × Nat)) = (if kd = 4 then (if n = g then .inl (acc, k') else .inr (25, k)) else if kd = 3 ∧ (o : Int) = most then .inr (4, k) else match (if kd = 3 then grpT n (recT s st most F' n (o + 1) k' []) else plcT k' (bodyT s st n k' kd)) with | .inr x => .inr x | .inl (t, k2) => recT s st most F' g o k2 (acc ++ [t]))
        rw [ih F' n (o + 1) k' [] hb.2.2.2.2 (by omega) (by omega)]
        by_cases h4 : kd = 4
        · rw [if_pos h4, if_pos h4]
        · rw [if_neg h4, if_neg h4]
          by_cases h3 : kd = 3 ∧ (o : Int) = most
          · rw [if_pos h3, if_pos h3]
          · rw [if_neg h3, if_neg h3]
            generalize hq : (if kd = 3 then grpT n (recT s st most F' n (o + 1) k' []) else plcT k' (bodyT s st n k' kd)) = q
            match q, hq with
            | .inr x, _ => rfl
            | .inl (t, k2), hq =>
              have hk2 := plcT_le (o := o) (by omega) hb.2.2.2.2 hq
              exact ih F' g o k2 (acc ++ [t]) hk2.2 (by omega) (by omega)
theorem recT_rec {s : ByteArray} {st : Bool} {most : Int} {F g o k n kd k' k2 : Nat} {acc : List Rt} {t : Rt} (hk : k ≠ s.size) (ht : tagR s st k = .inl (n, kd, k')) (h4 : kd ≠ 4) (h3 : ¬ (kd = 3 ∧ (o : Int) = most)) (hq : (if kd = 3 then grpT n (recT s st most F n (o + 1) k' []) else plcT k' (bodyT s st n k' kd)) = .inl (t, k2)) :
    recT s st most (F + 1) g o k acc = recT s st most F g o k2 (acc ++ [t]) := by
  rw [recT, if_neg hk, ht]
  show (if kd = 4 then (if n = g then .inl (acc, k') else .inr (25, k)) else if kd = 3 ∧ (o : Int) = most then .inr (4, k) else match (if kd = 3 then grpT n (recT s st most F n (o + 1) k' []) else plcT k' (bodyT s st n k' kd)) with | .inr x => .inr x | .inl (t, k2) => recT s st most F g o k2 (acc ++ [t]) : (List Rt × Nat) ⊕ (Nat × Nat)) = _
  rw [if_neg h4, if_neg h3, hq]
theorem recT_end {s : ByteArray} {st : Bool} {most : Int} {F g o k k' : Nat} {acc : List Rt} (hk : k ≠ s.size) (ht : tagR s st k = .inl (g, 4, k')) : recT s st most (F + 1) g o k acc = .inl (acc, k') := by
  rw [recT, if_neg hk, ht]
  show (if (4 : Nat) = 4 then (if g = g then .inl (acc, k') else .inr (25, k)) else _ : (List Rt × Nat) ⊕ (Nat × Nat)) = _
  rw [if_pos rfl, if_pos rfl]
/-- What is written is read. -/
theorem read_enc (s : ByteArray) (st : Bool) (hs : s.size < 18446744073709551616) : ∀ (N : Nat) (ts : List Rt), SizeOf.sizeOf ts ≤ N → ∀ (g o k F : Nat) (acc : List Rt), WfL ts → deepL (63 - o) ts = false → o ≤ 63 → At s k (encL ts) → k + (encL ts).length ≤ s.size → s.size < k + F →
    recT s st 63 F g o k acc = recT s st 63 F g o (k + (encL ts).length) (acc ++ ts) := by
  intro N
  induction N with
  | zero =>
    intro ts hN
    cases ts with
    | nil => simp at hN
    | cons a b => simp at hN
  | succ N ih =>
    intro ts hN g o k F acc hw hd ho ha hk hF
    cases ts with
    | nil => simp [encL]
    | cons r ts =>
      obtain ⟨nb, kd, x, t, li⟩ := r
      have hN1 : SizeOf.sizeOf li ≤ N := by simp at hN; omega
      have hN2 : SizeOf.sizeOf ts ≤ N := by simp at hN; omega
      obtain ⟨hT, hLi⟩ := hw.at' (i := 0) rfl
      have hWs := hw.tail
      rw [encL, encR] at ha hk ⊢
      generalize hB : bodyN nb kd x t (encL li) = B at ha hk ⊢
      rw [List.append_assoc] at ha hk ⊢
      have hv := vN_pos (8 * nb + kd)
      simp only [List.length_append] at hk ⊢
      have htag : tagR s st k = .inl (nb, kd, k + (vN (8 * nb + kd)).length) := tagR_vN ha.left hT.rg.num hT.rg.kind.1
      have hB1 := ha.right.left
      have hR := ha.right.right
      have hd' : deepR (63 - o) (.mk nb kd x t li) = false ∧ deepL (63 - o) ts = false := by
        have : (deepR (63 - o) (.mk nb kd x t li) || deepL (63 - o) ts) = false := hd
        simpa using this
      obtain ⟨F, rfl⟩ : ∃ q, F = q + 1 := ⟨F - 1, by omega⟩
      generalize hL : (vN (8 * nb + kd)).length = L at *
      have hbody : (if kd = 3 then grpT nb (recT s st 63 F nb (o + 1) (k + L) []) else plcT (k + L) (bodyT s st nb (k + L) kd)) = .inl (.mk nb kd x t li, k + L + B.length) := by
        by_cases h3 : kd = 3
        · subst h3
          rw [if_pos rfl]
          obtain rfl := hT.rg.zero (.inr rfl)
          obtain rfl := hT.rg.text (by decide)
          have hBe : B = encL li ++ vN (8 * nb + 4) := hB.symm
          subst hBe
          have hv4 := vN_pos (8 * nb + 4)
          have hdd : ((63 - o == 0) || deepL (63 - o - 1) li) = false := by
            have := hd'.1
            simp only [deepR] at this
            simpa using this
          have ho2 : 63 - o ≠ 0 ∧ deepL (63 - o - 1) li = false := by simpa using hdd
          rw [List.length_append] at hk ⊢
          rw [ih li hN1 nb (o + 1) (k + L) F [] hLi (by rw [show 63 - (o + 1) = 63 - o - 1 by omega]; exact ho2.2) (by omega) hB1.left (by omega) (by omega)]
          obtain ⟨F, rfl⟩ : ∃ q, F = q + 1 := ⟨F - 1, by omega⟩
          rw [recT_end (by omega) (tagR_vN hB1.right hT.rg.num (by decide)), List.nil_append, ← Nat.add_assoc]
          rfl
        · rw [if_neg h3]
          have hts : t.size < 18446744073709551616 := by
            by_cases h2 : kd = 2
            · subst h2
              have hBe : B = vN t.size ++ tN t := hB.symm
              subst hBe
              rw [List.length_append, tN_len] at hk
              omega
            · rw [hT.rg.text h2]; decide
          rw [← hB] at hB1 ⊢
          rw [bodyT_at hT h3 hts hB1]
          rfl
      have h34 : ¬ (kd = 3 ∧ (o : Int) = 63) := by
        rintro ⟨rfl, h⟩
        have := hd'.1
        rw [show 63 - o = 0 by omega] at this
        simp [deepR] at this
      rw [recT_rec (by omega) htag hT.rg.kind.2 h34 hbody]
      have hle : k + L + B.length + (encL ts).length ≤ s.size := by omega
      rw [ih ts hN2 g o (k + L + B.length) F (acc ++ [Rt.mk nb kd x t li]) hWs hd'.2 ho hR hle (by omega)]
      rw [recT_fuel s st 63 F (F + 1) g o (k + L + B.length + (encL ts).length) _ hle (by omega) (by omega)]
      rw [List.append_assoc, List.singleton_append, show k + (L + (B.length + (encL ts).length)) = k + L + B.length + (encL ts).length by omega]
/-- Written, and split again. -/
theorem run_enc {ts : List Rt} (st : Bool) (hw : WfL ts) (hd : deepL 63 ts = false) (hs : (encL ts).length ≤ 1048576) : runT (sOf (encL ts)) st 63 ((sOf (encL ts)).size + 1) (.inl (0, 0, [], [])) = .inl (ts, (encL ts).length) := by
  have hz := sOf_size (encL ts)
  rw [recT_top (sOf (encL ts)) st 63 (by decide) ((sOf (encL ts)).size + 1) 0 _ [] (Nat.zero_le _) (by omega) (by omega)]
  rw [read_enc (sOf (encL ts)) st (by omega) (SizeOf.sizeOf ts) ts (Nat.le_refl _) 0 0 0 _ [] hw hd (by omega) (at_self (encL_byt ts)) (by omega) (by omega)]
  rw [recT, if_pos (by omega), if_pos rfl, List.nil_append, Nat.zero_add]
#print axioms run_enc
end Go.Proofs.YtobomdokdajbaaaDoor
