import Derived.Test.YtdhncpeemcanlaaGreatDoorJ00
import Derived.Test.YtdhncpeemcanlaaGreatDoorJ01
import Derived.Deep.QuietTactic
import Derived.BigQuiet
import Derived.Deep.RegionLaw
import Derived.Deep.AppendLies
import Derived.Maps.AppendAt

namespace Go.Proofs.YtdhncpeemcanlaaGreatDoor
open Go.RowKit

/-- The worth of a digit to a base. -/
def isd (B c : Nat) : Option Nat := match dgv c with
  | none => none
  | some d => if d < B then some d else none
/-- Up to f digits in front: their worth, how many they are. -/
def drun (B : Nat) : Nat → List Nat → Nat → Nat → Nat × Nat
  | 0, _, v, n => (v, n)
  | _ + 1, [], v, n => (v, n)
  | f + 1, c :: r, v, n => match isd B c with
    | none => (v, n)
    | some d => drun B f r (v * B + d) (n + 1)
def dcnt (B : Nat) : Nat → List Nat → Nat
  | 0, _ => 0
  | _ + 1, [] => 0
  | f + 1, c :: r => match isd B c with
    | none => 0
    | some _ => dcnt B f r + 1
theorem drun_zero (B v n : Nat) (l : List Nat) : drun B 0 l v n = (v, n) := by cases l <;> rfl
theorem drun_nil (B f v n : Nat) : drun B f [] v n = (v, n) := by cases f <;> rfl
theorem drun_none {B f c v n : Nat} {r : List Nat} (h : isd B c = none) : drun B f (c :: r) v n = (v, n) := by
  cases f with
  | zero => rfl
  | succ f => simp [drun, h]
theorem drun_some {B f c v n d : Nat} {r : List Nat} (h : isd B c = some d) : drun B (f + 1) (c :: r) v n = drun B f r (v * B + d) (n + 1) := by simp [drun, h]
theorem isd_lt {B c d : Nat} (h : isd B c = some d) : d < B ∧ dgv c = some d := by
  unfold isd at h
  split at h
  · cases h
  · rename_i e he
    split at h
    · obtain rfl := Option.some.inj h
      exact ⟨by assumption, he⟩
    · cases h
theorem drun_cnt {B : Nat} : ∀ (f : Nat) (l : List Nat) (v n : Nat), (drun B f l v n).2 = n + dcnt B f l
  | 0, l, v, n => by rw [drun_zero]; cases l <;> rfl
  | f + 1, [], v, n => rfl
  | f + 1, c :: r, v, n => by
    cases h : isd B c with
    | none => simp [drun, dcnt, h]
    | some d => simp only [drun, dcnt, h]; rw [drun_cnt f r]; omega
theorem drun_mono {B : Nat} (hB : 1 ≤ B) : ∀ (f : Nat) (l : List Nat) (v n : Nat), v ≤ (drun B f l v n).1
  | 0, l, v, n => by rw [drun_zero]; exact Nat.le_refl _
  | f + 1, [], v, n => Nat.le_refl _
  | f + 1, c :: r, v, n => by
    cases h : isd B c with
    | none => simp [drun, h]
    | some d =>
      simp only [drun, h]
      have := drun_mono hB f r (v * B + d) (n + 1)
      have h2 : v * 1 ≤ v * B := Nat.mul_le_mul_left v hB
      omega
theorem drun_nval {B : Nat} (hB : 1 ≤ B) : ∀ (f : Nat) (l : List Nat) (v n : Nat), v ≤ 255 → nval B 255 (l.take (dcnt B f l)) v = if (drun B f l v n).1 ≤ 255 then some (drun B f l v n).1 else none
  | 0, l, v, n, hv => by
    rw [drun_zero]
    have : dcnt B 0 l = 0 := by cases l <;> rfl
    rw [this, if_pos hv]
    rfl
  | f + 1, [], v, n, hv => by
    show nval B 255 [] v = if v ≤ 255 then some v else none
    rw [if_pos hv]; rfl
  | f + 1, c :: r, v, n, hv => by
    cases h : isd B c with
    | none =>
      rw [drun_none h]
      have : dcnt B (f + 1) (c :: r) = 0 := by simp [dcnt, h]
      rw [this, if_pos hv]
      rfl
    | some d =>
      obtain ⟨h1, h2⟩ := isd_lt h
      rw [drun_some h]
      have : dcnt B (f + 1) (c :: r) = dcnt B f r + 1 := by simp [dcnt, h]
      rw [this, List.take_succ_cons]
      simp only [nval, h2]
      by_cases h3 : v * B + d ≤ 255
      · rw [if_pos ⟨h1, h3⟩]
        exact drun_nval hB f r _ _ h3
      · rw [if_neg (fun q => h3 q.2), if_neg]
        have := drun_mono hB f r (v * B + d) (n + 1)
        omega
theorem dcnt_le {B : Nat} : ∀ (f : Nat) (l : List Nat), dcnt B f l ≤ f ∧ dcnt B f l ≤ l.length
  | 0, l => by cases l <;> simp [dcnt]
  | f + 1, [] => by simp [dcnt]
  | f + 1, c :: r => by
    cases h : isd B c with
    | none => simp [dcnt, h]
    | some d => have := dcnt_le (B := B) f r; simp [dcnt, h]; omega
theorem drun16 (l : List Nat) : (drun 16 2 l 0 0).1 ≤ 255 := by
  cases l with
  | nil => decide
  | cons c r =>
    cases h : isd 16 c with
    | none => rw [drun_none h]; decide
    | some d =>
      rw [drun_some h]
      have h1 := (isd_lt h).1
      cases r with
      | nil => rw [drun_nil]; show 0 * 16 + d ≤ 255; omega
      | cons c' r' =>
        cases h' : isd 16 c' with
        | none => rw [drun_none h']; show 0 * 16 + d ≤ 255; omega
        | some d' =>
          have h2 := (isd_lt h').1
          rw [drun_some h', drun_zero]
          show (0 * 16 + d) * 16 + d' ≤ 255
          omega
/-- What a letter behind a backslash stands for. -/
def nameV (c : Nat) : Option Nat := if c = 97 then some 7 else if c = 98 then some 8 else if c = 102 then some 12 else if c = 110 then some 10 else if c = 114 then some 13 else if c = 116 then some 9 else if c = 118 then some 11 else if c = 92 ∨ c = 39 ∨ c = 34 then some c else none
def fin (p : Nat × Nat) (k : Nat) : Option (Nat × Nat) := if p.2 = 0 ∨ 255 < p.1 then none else some (p.1, k + p.2)
/-- The escape that a backslash begins. -/
def escL : List Nat → Option (Nat × Nat)
  | _ :: c :: r => match nameV c with
    | some v => some (v, 2)
    | none => if c = 120 ∨ c = 88 then fin (drun 16 2 r 0 0) 2 else fin (drun 8 3 (c :: r) 0 0) 1
  | _ => none
theorem escL_pos {l : List Nat} {b n : Nat} (h : escL l = some (b, n)) : 1 ≤ n ∧ n ≤ l.length ∧ b < 256 := by
  match l, h with
  | a :: c :: r, h =>
    simp only [escL] at h
    split at h
    · rename_i v hv
      obtain ⟨rfl, rfl⟩ := Prod.mk.inj (Option.some.inj h)
      refine ⟨by omega, by simp, ?_⟩
      unfold nameV at hv
      repeat' split at hv
      all_goals first | (have := Option.some.inj hv; omega) | cases hv
    · split at h
      · unfold fin at h
        split at h
        · cases h
        · rename_i hh
          obtain ⟨rfl, rfl⟩ := Prod.mk.inj (Option.some.inj h)
          have h1 := drun_cnt (B := 16) 2 r 0 0
          have h2 := dcnt_le (B := 16) 2 r
          simp only [List.length_cons]
          omega
      · unfold fin at h
        split at h
        · cases h
        · rename_i hh
          obtain ⟨rfl, rfl⟩ := Prod.mk.inj (Option.some.inj h)
          have h1 := drun_cnt (B := 8) 3 (c :: r) 0 0
          have h2 := dcnt_le (B := 8) 3 (c :: r)
          simp only [List.length_cons] at *
          omega
  | [a], h => simp [escL] at h
  | [], h => simp [escL] at h
theorem drun_le {B f : Nat} {l : List Nat} {v n : Nat} : n ≤ (drun B f l v n).2 := by rw [drun_cnt]; omega

/-- The piece of a string that stands there, not its end. -/
def pieceAt (s : ByteArray) (k : Nat) : Option (Nat × Nat) := if byteAt s k = 0 ∨ byteAt s k = 10 then none else if byteAt s k = 92 then escL ((strN s).drop k) else some (byteAt s k, 1)
theorem pieceAt_pos {s : ByteArray} {k b n : Nat} (h : pieceAt s k = some (b, n)) (hk : k < s.size) : 1 ≤ n ∧ k + n ≤ s.size ∧ b < 256 := by
  unfold pieceAt at h
  split at h
  · cases h
  · split at h
    · have := escL_pos h
      rw [List.length_drop, strN_len] at this
      omega
    · obtain ⟨rfl, rfl⟩ := Prod.mk.inj (Option.some.inj h)
      have := byteAt_lt s k
      omega
/-- The string's bytes from that place on, and the place behind its end. -/
def uqAt (s : ByteArray) (q k : Nat) : Option (List Nat × Nat) :=
  if _h : k < s.size then
    if byteAt s k = q then some ([], k + 1)
    else match pieceAt s k with
      | none => none
      | some (b, n) => if _hn : 1 ≤ n then (uqAt s q (k + n)).map fun r => (b :: r.1, r.2) else none
  else none
termination_by s.size - k
decreasing_by omega
theorem uq_end {s : ByteArray} {q k : Nat} (h : ¬ k < s.size) : uqAt s q k = none := by rw [uqAt, dif_neg h]
theorem uq_quote {s : ByteArray} {q k : Nat} (h : k < s.size) (h2 : byteAt s k = q) : uqAt s q k = some ([], k + 1) := by rw [uqAt, dif_pos h, if_pos h2]
theorem uq_bad {s : ByteArray} {q k : Nat} (h : k < s.size) (h2 : ¬ byteAt s k = q) (h3 : pieceAt s k = none) : uqAt s q k = none := by rw [uqAt, dif_pos h, if_neg h2, h3]
theorem uq_step {s : ByteArray} {q k b n : Nat} (h : k < s.size) (h2 : ¬ byteAt s k = q) (h3 : pieceAt s k = some (b, n)) : uqAt s q k = (uqAt s q (k + n)).map fun r => (b :: r.1, r.2) := by
  rw [uqAt, dif_pos h, if_neg h2, h3]
  exact dif_pos (pieceAt_pos h3 h).1
theorem uq_le {s : ByteArray} {q : Nat} : ∀ (m k : Nat) (l : List Nat) (e : Nat), s.size - k ≤ m → uqAt s q k = some (l, e) → k < e ∧ e ≤ s.size ∧ Byt l ∧ k + l.length < e := by
  intro m
  induction m with
  | zero => intro k l e hm h; rw [uq_end (by omega)] at h; cases h
  | succ m ih =>
    intro k l e hm h
    by_cases hk : k < s.size
    · by_cases hq : byteAt s k = q
      · rw [uq_quote hk hq] at h
        obtain ⟨rfl, rfl⟩ := Prod.mk.inj (Option.some.inj h)
        exact ⟨by omega, by omega, fun x hx => by simp at hx, by simp⟩
      · cases hp : pieceAt s k with
        | none => rw [uq_bad hk hq hp] at h; cases h
        | some t =>
          obtain ⟨b, n⟩ := t
          obtain ⟨p1, p2, p3⟩ := pieceAt_pos hp hk
          rw [uq_step hk hq hp] at h
          obtain ⟨⟨l', e'⟩, h1, h2⟩ := Option.map_eq_some_iff.1 h
          obtain ⟨rfl, rfl⟩ := Prod.mk.inj h2
          obtain ⟨a1, a2, a3, a4⟩ := ih (k + n) l' e' (by omega) h1
          refine ⟨by omega, a2, fun x hx => ?_, by simp only [List.length_cons]; omega⟩
          rcases List.mem_cons.1 hx with rfl | hx
          · exact p3
          · exact a3 x hx
    · rw [uq_end hk] at h; cases h
/-- The string that stands in front. -/
def unqL (s : ByteArray) : Option (List Nat × Nat) := if s.size = 0 then none else if byteAt s 0 = 39 ∨ byteAt s 0 = 34 then uqAt s (byteAt s 0) 1 else none
/-- What Unquote answers. -/
noncomputable def unqR (s : ByteArray) : ByteArray × Int := if 65536 < s.size then (.empty, 2) else if 0 ≤ utfAt s 0 then (.empty, 44) else match unqL s with
  | none => (.empty, 42)
  | some (l, e) => if e = s.size then (ofN l, 0) else (.empty, 42)
end Go.Proofs.YtdhncpeemcanlaaGreatDoor

namespace Go.Proofs.YtdhncpeemcanlaaGreatDoor
open Go.RowKit

/-- The place behind the letters and digits from k on. -/
def endRow (s : ByteArray) (k : Nat) : Nat := if h : k < s.size ∧ (isLet (byteAt s k) ∨ isDig (byteAt s k)) then endRow s (k + 1) else k
termination_by s.size - k
decreasing_by omega
/-- The next byte 10 from k on, or the end. -/
def nlAt (s : ByteArray) (k : Nat) : Nat := if h : k < s.size ∧ ¬ byteAt s k = 10 then nlAt s (k + 1) else k
termination_by s.size - k
decreasing_by omega
/-- The next star and slash from k on, or a place with less than two bytes behind it. -/
def starAt (s : ByteArray) (k : Nat) : Nat := if h : k + 2 ≤ s.size ∧ ¬ (byteAt s k = 42 ∧ byteAt s (k + 1) = 47) then starAt s (k + 1) else k
termination_by s.size - k
decreasing_by omega
theorem endRow_ge (s : ByteArray) (k : Nat) : k ≤ endRow s k := by
  rw [endRow]
  split
  · have := endRow_ge s (k + 1)
    omega
  · exact Nat.le_refl _
termination_by s.size - k
decreasing_by omega
theorem endRow_le (s : ByteArray) (k : Nat) (h : k ≤ s.size) : endRow s k ≤ s.size := by
  rw [endRow]
  split
  · exact endRow_le s (k + 1) (by omega)
  · exact h
termination_by s.size - k
decreasing_by omega
theorem nlAt_ge (s : ByteArray) (k : Nat) : k ≤ nlAt s k := by
  rw [nlAt]
  split
  · have := nlAt_ge s (k + 1)
    omega
  · exact Nat.le_refl _
termination_by s.size - k
decreasing_by omega
theorem nlAt_le (s : ByteArray) (k : Nat) (h : k ≤ s.size) : nlAt s k ≤ s.size := by
  rw [nlAt]
  split
  · exact nlAt_le s (k + 1) (by omega)
  · exact h
termination_by s.size - k
decreasing_by omega
theorem starAt_ge (s : ByteArray) (k : Nat) : k ≤ starAt s k := by
  rw [starAt]
  split
  · have := starAt_ge s (k + 1)
    omega
  · exact Nat.le_refl _
termination_by s.size - k
decreasing_by omega
theorem nlAt_lt {s : ByteArray} {k : Nat} (h : k < s.size) (h2 : byteAt s k = 47) : k < nlAt s k := by
  rw [nlAt, dif_pos ⟨h, by omega⟩]
  have := nlAt_ge s (k + 1)
  omega
def isBlk (c : Nat) : Prop := (9 ≤ c ∧ c ≤ 13) ∨ c = 32
instance (c : Nat) : Decidable (isBlk c) := by unfold isBlk; infer_instance
/-- What is passed over from k on: the place, and whether all is well. -/
def passF (s : ByteArray) : Nat → Nat → Nat × Bool
  | 0, k => (k, true)
  | f + 1, k => if k < s.size then
      if isBlk (byteAt s k) then passF s f (k + 1)
      else if k + 2 ≤ s.size ∧ byteAt s k = 47 ∧ byteAt s (k + 1) = 47 then passF s f (nlAt s k)
      else if k + 2 ≤ s.size ∧ byteAt s k = 47 ∧ byteAt s (k + 1) = 42 then
        if starAt s (k + 2) + 2 ≤ s.size then passF s f (starAt s (k + 2) + 2) else (k, false)
      else (k, true)
    else (k, true)
/-- The fuel does not matter, if it is enough. -/
theorem passF_fuel (s : ByteArray) : ∀ (f f' k : Nat), s.size - k ≤ f → s.size - k ≤ f' → passF s f k = passF s f' k := by
  intro f
  induction f with
  | zero =>
    intro f' k hf hf'
    cases f' with
    | zero => rfl
    | succ f' => rw [passF, passF, if_neg (by omega)]
  | succ f ih =>
    intro f' k hf hf'
    cases f' with
    | zero => rw [passF, passF, if_neg (by omega)]
    | succ f' =>
      rw [passF, passF]
      by_cases h : k < s.size
      · rw [if_pos h, if_pos h]
        split
        · exact ih f' (k + 1) (by omega) (by omega)
        · split
          · rename_i h2
            have := nlAt_lt h h2.2.1
            exact ih f' _ (by omega) (by omega)
          · split
            · have := starAt_ge s (k + 2)
              split
              · exact ih f' _ (by omega) (by omega)
              · rfl
            · rfl
      · rw [if_neg h, if_neg h]
theorem two_list {s : ByteArray} {k : Nat} (h : k + 2 ≤ s.size) : (s.extract k (k + 2)).data.toList = [s[k], s[k + 1]] := by
  rw [ByteArray.data_extract, Array.toList_extract]
  apply List.ext_getElem?
  intro i
  rw [List.getElem?_take, List.getElem?_drop]
  match i with
  | 0 => simp; exact Array.getElem?_eq_getElem (by show k < s.size; omega)
  | 1 => simp; exact Array.getElem?_eq_getElem (by show k + 1 < s.size; omega)
  | i + 2 => simp; omega
theorem two_eq {s : ByteArray} {k : Nat} (h : k + 2 ≤ s.size) (a b : UInt8) : ((s.extract k (k + 2)).data.toList = [a, b]) ↔ (byteAt s k = a.toNat ∧ byteAt s (k + 1) = b.toNat) := by
  rw [two_list h]
  unfold byteAt
  rw [dif_pos (by omega), dif_pos (by omega)]
  simp [UInt8.toNat_inj]
end Go.Proofs.YtdhncpeemcanlaaGreatDoor

namespace Go.Proofs.YtdhncpeemcanlaaGreatDoor
open Go.RowKit
attribute [local go_sem ↓] Go.wp_at_zero Go.wp_at_succ

/-- A scanner in memory: its text, its place, its tokens. -/
def ScanAt (W : World) (b : Nat) (s : ByteArray) (k : Nat) (v : Value) : Prop := W.heap[b]? = some (.cells #[.string s, .int .i64 (k : Int), v] 44 (0, 0))
theorem ScanAt.c0 {W : World} {b : Nat} {s : ByteArray} {k : Nat} {v : Value} (h : ScanAt W b s k v) : W.cell? ⟨b, 0, none⟩ = some (.string s) := by rw [cell_of_row _ _ _ _ _ _ h]; rfl
theorem ScanAt.c1 {W : World} {b : Nat} {s : ByteArray} {k : Nat} {v : Value} (h : ScanAt W b s k v) : W.cell? ⟨b, 1, none⟩ = some (.int .i64 (k : Int)) := by rw [cell_of_row _ _ _ _ _ _ h]; rfl
theorem ScanAt.c2 {W : World} {b : Nat} {s : ByteArray} {k : Nat} {v : Value} (h : ScanAt W b s k v) : W.cell? ⟨b, 2, none⟩ = some v := by rw [cell_of_row _ _ _ _ _ _ h]; rfl
theorem ScanAt.lt {W : World} {b : Nat} {s : ByteArray} {k : Nat} {v : Value} (h : ScanAt W b s k v) : b < W.heap.size := (Array.getElem?_eq_some_iff.1 h).1
set_option maxRecDepth 100000 in
theorem rest_any {W : World} {b : Nat} {s : ByteArray} {k : Nat} {v : Value} (h : ScanAt W b s k v) (hk : k ≤ s.size) :
    Calls Tryz.prog 27 #[.pointer (some ⟨b, 0, none⟩)] W fun e w => e = .returned (.string (s.extract k s.size)) ∧ ∃ n, w = W.drewN n := by
  have c0 := h.c0
  have c1 := h.c1
  have k0 : (0 : Int) ≤ (k : Int) := Int.natCast_nonneg _
  have k1 : (k : Int) ≤ (s.size : Int) := by omega
  clear h
  go_enter Tryz.func27, Tryz.ntmps27
  go_wp2_with fail
  go_quiet (fail)
  go_wp2
  go_ret
  exact ⟨rfl, _, rfl⟩
theorem extract_two (s : ByteArray) (k n : Nat) (h : k + n ≤ s.size) : (s.extract k s.size).extract 0 n = s.extract k (k + n) := by
  apply ByteArray.ext
  rw [ByteArray.data_extract, ByteArray.data_extract, ByteArray.data_extract]
  apply Array.ext'
  rw [Array.toList_extract, Array.toList_extract, Array.toList_extract]
  have hl : s.data.toList.length = s.size := rfl
  apply List.ext_getElem?
  intro i
  simp only [List.extract_eq_take_drop, List.getElem?_take, List.getElem?_drop]
  by_cases hi : i < n
  · rw [if_pos (by omega), if_pos (by omega), if_pos (by omega)]
    congr 1
    omega
  · rw [if_neg (by omega), if_neg (by omega)]
end Go.Proofs.YtdhncpeemcanlaaGreatDoor
