import Derived.Test.YtaadpiimcaabkaaGreatDoorYB
import Derived.Test.YtaadpiimcaabkaaGreatDoorJ08
import Derived.Test.YtaadpiimcaabkaaGreatDoorJ08
import Derived.Test.YtaadpiimcaabkaaGreatDoorJ08
import Derived.Test.YtaadpiimcaabkaaGreatDoorJ08
import Derived.Lib.SplitLaws
import Derived.Lib.CountLaws
import Derived.Test.YtaadpiimcaabkaaGreatDoorJ00
import Derived.Lib.ConvBytes
import Derived.Lib.AtoiErrMem
import Derived.Test.YtaadpiimcaabkaaGreatDoorJ03

namespace Go.Proofs.YtaadpiimcaabkaaGreatDoor
open Go.RowKit
attribute [local go_sem ↓] Go.wp_at_zero Go.wp_at_succ

/-- May the text be a name? -/
noncomputable def wordB (s : ByteArray) : Bool := @decide (IdentP s) (Classical.propDecidable _)
theorem of_word {s : ByteArray} {b : Bool} (h : b = true ↔ IdentP s) : b = wordB s := by
  unfold wordB
  cases b with
  | true => exact (@decide_eq_true _ (Classical.propDecidable _) (h.1 rfl)).symm
  | false => exact (@decide_eq_false _ (Classical.propDecidable _) (fun k => by cases h.2 k)).symm
theorem ident_w (W : World) (s : ByteArray) : Calls Tryz.prog 108 #[.string s] W fun e w => e = .returned (.bool (wordB s)) ∧ w = W := by
  refine (ident_any W s).mono ?_
  rintro e w ⟨b, rfl, rfl, h⟩
  rw [of_word h]
  exact ⟨rfl, rfl⟩
theorem xident_w (W : World) (s : ByteArray) : Calls Tryz.prog 149 #[.string s] W fun e w => e = .returned (.bool (wordB s)) ∧ w = W := by
  refine (xident_any W s).mono ?_
  rintro e w ⟨b, rfl, rfl, h⟩
  rw [of_word h]
  exact ⟨rfl, rfl⟩
set_option maxRecDepth 100000 in
theorem word_any (W : World) (s : ByteArray) : Calls Tryz.prog 64 #[.string s] W fun e w => e = .returned (.bool (wordB s)) ∧ w = W := by
  have HI := hide (ident_w W s)
  go_enter Tryz.func64, Tryz.ntmps64
  go_wp2_with fail
  refine (unhide HI).mono ?_
  rintro e w ⟨rfl, rfl⟩
  clear HI
  go_wp2
  go_ret
  exact ⟨rfl, rfl⟩
set_option maxRecDepth 100000 in
theorem rword_any (W : World) (s : ByteArray) : Calls Tryz.prog 96 #[.string s] W fun e w => e = .returned (.bool (wordB s)) ∧ w = W := by
  have HI := hide (xident_w W s)
  go_enter Tryz.func96, Tryz.ntmps96
  go_wp2_with fail
  refine (unhide HI).mono ?_
  rintro e w ⟨rfl, rfl⟩
  clear HI
  go_wp2
  go_ret
  exact ⟨rfl, rfl⟩
set_option maxRecDepth 100000 in
theorem within_any (W : World) (n lo hi : Int) : Calls Tryz.prog 67 #[.int .i64 n, .int .i64 lo, .int .i64 hi] W fun e w => e = .returned (.bool (decide (lo ≤ n) && decide (n ≤ hi))) ∧ w = W := by
  by_cases h : lo ≤ n
  · have e1 : decide (lo ≤ n) = true := decide_eq_true h
    rw [e1]
    go_enter Tryz.func67, Tryz.ntmps67
    go_wp2
    go_ret
    exact ⟨rfl, rfl⟩
  · have e1 : decide (lo ≤ n) = false := decide_eq_false h
    rw [e1]
    go_enter Tryz.func67, Tryz.ntmps67
    go_wp2
    go_ret
    exact ⟨rfl, rfl⟩
def importB (s : ByteArray) : Bool := decide ((1 : Int) ≤ (s.size : Int)) && decide ((s.size : Int) ≤ 255)
set_option maxRecDepth 100000 in
theorem import_any (W : World) (s : ByteArray) : Calls Tryz.prog 37 #[.string s] W fun e w => e = .returned (.bool (importB s)) ∧ w = W := by
  have HI := hide (within_any W (s.size : Int) 1 255)
  go_enter Tryz.func37, Tryz.ntmps37
  go_wp2_with fail
  refine (unhide HI).mono ?_
  rintro e w ⟨rfl, rfl⟩
  clear HI
  go_wp2
  go_ret
  exact ⟨rfl, rfl⟩
def dotB : ByteArray := ⟨#[46]⟩
/-- The pieces between dots. -/
def pieces (s : ByteArray) : List ByteArray := Lib.splitB dotB 0 (Lib.countB s dotB) s
end Go.Proofs.YtaadpiimcaabkaaGreatDoor

namespace Go.Proofs.YtaadpiimcaabkaaGreatDoor
open Go.RowKit
attribute [local go_sem ↓] Go.wp_at_zero Go.wp_at_succ

/-- The worth of a digit, letters too. -/
def dgv (x : Nat) : Option Nat := if 48 ≤ x ∧ x ≤ 57 then some (x - 48) else if 65 ≤ x ∧ x ≤ 90 then some (x - 55) else if 97 ≤ x ∧ x ≤ 122 then some (x - 87) else none
/-- The worth of digits to a base, up to M. -/
def nval (B M : Nat) : List Nat → Nat → Option Nat
  | [], n => some n
  | c :: r, n => match dgv c with
    | none => none
    | some d => if d < B ∧ n * B + d ≤ M then nval B M r (n * B + d) else none
def low (x : Nat) : Nat := x ||| 32
theorem low_lt {x : Nat} (h : x < 256) : low x < 256 := by
  have key : ∀ k : Fin 256, low k.val < 256 := by decide +kernel
  exact key ⟨x, h⟩
theorem low_up {x : Nat} (h1 : 65 ≤ x) (h2 : x ≤ 90) : low x = x + 32 := by
  have key : ∀ k : Fin 256, 65 ≤ k.val → k.val ≤ 90 → low k.val = k.val + 32 := by decide +kernel
  exact key ⟨x, by omega⟩ h1 h2
theorem low_down {x : Nat} (h1 : 97 ≤ x) (h2 : x ≤ 122) : low x = x := by
  have key : ∀ k : Fin 256, 97 ≤ k.val → k.val ≤ 122 → low k.val = k.val := by decide +kernel
  exact key ⟨x, by omega⟩ h1 h2
theorem low_none {x : Nat} (h : x < 256) (h1 : ¬ (65 ≤ x ∧ x ≤ 90)) (h2 : ¬ (97 ≤ x ∧ x ≤ 122)) : low x < 97 ∨ 122 < low x := by
  have key : ∀ k : Fin 256, ¬ (65 ≤ k.val ∧ k.val ≤ 90) → ¬ (97 ≤ k.val ∧ k.val ≤ 122) → low k.val < 97 ∨ 122 < low k.val := by decide +kernel
  exact key ⟨x, h⟩ h1 h2
theorem low_bits {x : Nat} (h : x < 256) : bits .or .u8 (x : Int) 32 = ((low x : Nat) : Int) := by
  have key : ∀ k : Fin 256, bits .or .u8 ((k.val : Nat) : Int) 32 = ((low k.val : Nat) : Int) := by decide +kernel
  exact key ⟨x, h⟩
set_option maxRecDepth 100000 in
theorem lower_any (W : World) (x : Nat) (hx : x < 256) : Calls Tryz.prog 203 #[.int .u8 (x : Int)] W fun e w => e = .returned (.int .u8 ((low x : Nat) : Int)) ∧ w = W := by
  have hb := low_bits hx
  go_enter Tryz.func203, Tryz.ntmps203
  go_wp2
  go_ret
  exact ⟨rfl, rfl⟩

/-- What internal/strconv.ParseUint answers. -/
def PU (W : World) (B M : Nat) (s : ByteArray) (e : Ending) (w : World) : Prop := Below W.heap.size W w ∧
  ((∃ u : Nat, e = .returned (.tuple #[.int .u64 (u : Int), .nilIface]) ∧ 0 < s.size ∧ nval B M (strN s) 0 = some u) ∨
   (∃ u c : Int, e = .returned (.tuple #[.int .u64 u, .iface 216 (.int .i64 c)]) ∧ (c = 1 ∨ c = 2) ∧ (s.size = 0 ∨ nval B M (strN s) 0 = none)))
theorem PU.bad {W w : World} {B M : Nat} {s : ByteArray} (u c : Int) (hb : Below W.heap.size W w) (hc : c = 1 ∨ c = 2) (h : s.size = 0 ∨ nval B M (strN s) 0 = none) :
    PU W B M s (.returned (.tuple #[.int .u64 u, .iface 216 (.int .i64 c)])) w := ⟨hb, .inr ⟨u, c, rfl, hc, h⟩⟩
theorem PU.good {W w : World} {B M : Nat} {s : ByteArray} (u : Nat) (hb : Below W.heap.size W w) (h0 : 0 < s.size) (h : nval B M (strN s) 0 = some u) :
    PU W B M s (.returned (.tuple #[.int .u64 (u : Int), .nilIface])) w := ⟨hb, .inl ⟨u, rfl, h0, h⟩⟩
theorem strN_getD (s : ByteArray) (j x : Nat) (h : (strN s)[j]? = some x) : (s.data.toList.getD j 0).toNat = x := by
  unfold strN at h
  rw [List.getElem?_map] at h
  obtain ⟨b, hb, rfl⟩ := Option.map_eq_some_iff.1 h
  rw [List.getD_eq_getElem?_getD, hb]
  rfl
theorem infoSerr : (Tryz.prog.info? 216).isSome = true := by kernel_rfl
end Go.Proofs.YtaadpiimcaabkaaGreatDoor

namespace Go.Proofs.YtaadpiimcaabkaaGreatDoor
open Go.RowKit

/-- The worth of a digit to a base. -/
def isd (B c : Nat) : Option Nat := match dgv c with
  | none => none
  | some d => if d < B then some d else none
/-- Up to f digits in front: their worth, how many they are. -/
def drun (B : Nat) : Nat → List Nat → Nat → Nat → Nat × Nat
  | 0, _, v, n => (v, n)
  | _ + 1, [], v, n => (v, n)
  | f + 1, c :: r, v, n => match isd B c with
    | none => (v, n)
    | some d => drun B f r (v * B + d) (n + 1)
def dcnt (B : Nat) : Nat → List Nat → Nat
  | 0, _ => 0
  | _ + 1, [] => 0
  | f + 1, c :: r => match isd B c with
    | none => 0
    | some _ => dcnt B f r + 1
theorem drun_zero (B v n : Nat) (l : List Nat) : drun B 0 l v n = (v, n) := by cases l <;> rfl
theorem drun_nil (B f v n : Nat) : drun B f [] v n = (v, n) := by cases f <;> rfl
theorem drun_none {B f c v n : Nat} {r : List Nat} (h : isd B c = none) : drun B f (c :: r) v n = (v, n) := by
  cases f with
  | zero => rfl
  | succ f => simp [drun, h]
theorem drun_some {B f c v n d : Nat} {r : List Nat} (h : isd B c = some d) : drun B (f + 1) (c :: r) v n = drun B f r (v * B + d) (n + 1) := by simp [drun, h]
theorem isd_lt {B c d : Nat} (h : isd B c = some d) : d < B ∧ dgv c = some d := by
  unfold isd at h
  split at h
  · cases h
  · rename_i e he
    split at h
    · obtain rfl := Option.some.inj h
      exact ⟨by assumption, he⟩
    · cases h
theorem drun_cnt {B : Nat} : ∀ (f : Nat) (l : List Nat) (v n : Nat), (drun B f l v n).2 = n + dcnt B f l
  | 0, l, v, n => by rw [drun_zero]; cases l <;> rfl
  | f + 1, [], v, n => rfl
  | f + 1, c :: r, v, n => by
    cases h : isd B c with
    | none => simp [drun, dcnt, h]
    | some d => simp only [drun, dcnt, h]; rw [drun_cnt f r]; omega
theorem drun_mono {B : Nat} (hB : 1 ≤ B) : ∀ (f : Nat) (l : List Nat) (v n : Nat), v ≤ (drun B f l v n).1
  | 0, l, v, n => by rw [drun_zero]; exact Nat.le_refl _
  | f + 1, [], v, n => Nat.le_refl _
  | f + 1, c :: r, v, n => by
    cases h : isd B c with
    | none => simp [drun, h]
    | some d =>
      simp only [drun, h]
      have := drun_mono hB f r (v * B + d) (n + 1)
      have h2 : v * 1 ≤ v * B := Nat.mul_le_mul_left v hB
      omega
theorem drun_nval {B : Nat} (hB : 1 ≤ B) : ∀ (f : Nat) (l : List Nat) (v n : Nat), v ≤ 255 → nval B 255 (l.take (dcnt B f l)) v = if (drun B f l v n).1 ≤ 255 then some (drun B f l v n).1 else none
  | 0, l, v, n, hv => by
    rw [drun_zero]
    have : dcnt B 0 l = 0 := by cases l <;> rfl
    rw [this, if_pos hv]
    rfl
  | f + 1, [], v, n, hv => by
    show nval B 255 [] v = if v ≤ 255 then some v else none
    rw [if_pos hv]; rfl
  | f + 1, c :: r, v, n, hv => by
    cases h : isd B c with
    | none =>
      rw [drun_none h]
      have : dcnt B (f + 1) (c :: r) = 0 := by simp [dcnt, h]
      rw [this, if_pos hv]
      rfl
    | some d =>
      obtain ⟨h1, h2⟩ := isd_lt h
      rw [drun_some h]
      have : dcnt B (f + 1) (c :: r) = dcnt B f r + 1 := by simp [dcnt, h]
      rw [this, List.take_succ_cons]
      simp only [nval, h2]
      by_cases h3 : v * B + d ≤ 255
      · rw [if_pos ⟨h1, h3⟩]
        exact drun_nval hB f r _ _ h3
      · rw [if_neg (fun q => h3 q.2), if_neg]
        have := drun_mono hB f r (v * B + d) (n + 1)
        omega
theorem dcnt_le {B : Nat} : ∀ (f : Nat) (l : List Nat), dcnt B f l ≤ f ∧ dcnt B f l ≤ l.length
  | 0, l => by cases l <;> simp [dcnt]
  | f + 1, [] => by simp [dcnt]
  | f + 1, c :: r => by
    cases h : isd B c with
    | none => simp [dcnt, h]
    | some d => have := dcnt_le (B := B) f r; simp [dcnt, h]; omega
theorem drun16 (l : List Nat) : (drun 16 2 l 0 0).1 ≤ 255 := by
  cases l with
  | nil => decide
  | cons c r =>
    cases h : isd 16 c with
    | none => rw [drun_none h]; decide
    | some d =>
      rw [drun_some h]
      have h1 := (isd_lt h).1
      cases r with
      | nil => rw [drun_nil]; show 0 * 16 + d ≤ 255; omega
      | cons c' r' =>
        cases h' : isd 16 c' with
        | none => rw [drun_none h']; show 0 * 16 + d ≤ 255; omega
        | some d' =>
          have h2 := (isd_lt h').1
          rw [drun_some h', drun_zero]
          show (0 * 16 + d) * 16 + d' ≤ 255
          omega
/-- What a letter behind a backslash stands for. -/
def nameV (c : Nat) : Option Nat := if c = 97 then some 7 else if c = 98 then some 8 else if c = 102 then some 12 else if c = 110 then some 10 else if c = 114 then some 13 else if c = 116 then some 9 else if c = 118 then some 11 else if c = 92 ∨ c = 39 ∨ c = 34 then some c else none
def fin (p : Nat × Nat) (k : Nat) : Option (Nat × Nat) := if p.2 = 0 ∨ 255 < p.1 then none else some (p.1, k + p.2)
/-- The escape that a backslash begins. -/
def escL : List Nat → Option (Nat × Nat)
  | _ :: c :: r => match nameV c with
    | some v => some (v, 2)
    | none => if c = 120 ∨ c = 88 then fin (drun 16 2 r 0 0) 2 else fin (drun 8 3 (c :: r) 0 0) 1
  | _ => none
theorem escL_pos {l : List Nat} {b n : Nat} (h : escL l = some (b, n)) : 1 ≤ n ∧ n ≤ l.length ∧ b < 256 := by
  match l, h with
  | a :: c :: r, h =>
    simp only [escL] at h
    split at h
    · rename_i v hv
      obtain ⟨rfl, rfl⟩ := Prod.mk.inj (Option.some.inj h)
      refine ⟨by omega, by simp, ?_⟩
      unfold nameV at hv
      repeat' split at hv
      all_goals first | (have := Option.some.inj hv; omega) | cases hv
    · split at h
      · unfold fin at h
        split at h
        · cases h
        · rename_i hh
          obtain ⟨rfl, rfl⟩ := Prod.mk.inj (Option.some.inj h)
          have h1 := drun_cnt (B := 16) 2 r 0 0
          have h2 := dcnt_le (B := 16) 2 r
          simp only [List.length_cons]
          omega
      · unfold fin at h
        split at h
        · cases h
        · rename_i hh
          obtain ⟨rfl, rfl⟩ := Prod.mk.inj (Option.some.inj h)
          have h1 := drun_cnt (B := 8) 3 (c :: r) 0 0
          have h2 := dcnt_le (B := 8) 3 (c :: r)
          simp only [List.length_cons] at *
          omega
  | [a], h => simp [escL] at h
  | [], h => simp [escL] at h
theorem drun_le {B f : Nat} {l : List Nat} {v n : Nat} : n ≤ (drun B f l v n).2 := by rw [drun_cnt]; omega

/-- The piece of a string that stands there, not its end. -/
def pieceAt (s : ByteArray) (k : Nat) : Option (Nat × Nat) := if byteAt s k = 0 ∨ byteAt s k = 10 then none else if byteAt s k = 92 then escL ((strN s).drop k) else some (byteAt s k, 1)
theorem pieceAt_pos {s : ByteArray} {k b n : Nat} (h : pieceAt s k = some (b, n)) (hk : k < s.size) : 1 ≤ n ∧ k + n ≤ s.size ∧ b < 256 := by
  unfold pieceAt at h
  split at h
  · cases h
  · split at h
    · have := escL_pos h
      rw [List.length_drop, strN_len] at this
      omega
    · obtain ⟨rfl, rfl⟩ := Prod.mk.inj (Option.some.inj h)
      have := byteAt_lt s k
      omega
/-- The string's bytes from that place on, and the place behind its end. -/
def uqAt (s : ByteArray) (q k : Nat) : Option (List Nat × Nat) :=
  if _h : k < s.size then
    if byteAt s k = q then some ([], k + 1)
    else match pieceAt s k with
      | none => none
      | some (b, n) => if _hn : 1 ≤ n then (uqAt s q (k + n)).map fun r => (b :: r.1, r.2) else none
  else none
termination_by s.size - k
decreasing_by omega
theorem uq_end {s : ByteArray} {q k : Nat} (h : ¬ k < s.size) : uqAt s q k = none := by rw [uqAt, dif_neg h]
theorem uq_quote {s : ByteArray} {q k : Nat} (h : k < s.size) (h2 : byteAt s k = q) : uqAt s q k = some ([], k + 1) := by rw [uqAt, dif_pos h, if_pos h2]
theorem uq_bad {s : ByteArray} {q k : Nat} (h : k < s.size) (h2 : ¬ byteAt s k = q) (h3 : pieceAt s k = none) : uqAt s q k = none := by rw [uqAt, dif_pos h, if_neg h2, h3]
theorem uq_step {s : ByteArray} {q k b n : Nat} (h : k < s.size) (h2 : ¬ byteAt s k = q) (h3 : pieceAt s k = some (b, n)) : uqAt s q k = (uqAt s q (k + n)).map fun r => (b :: r.1, r.2) := by
  rw [uqAt, dif_pos h, if_neg h2, h3]
  exact dif_pos (pieceAt_pos h3 h).1
theorem uq_le {s : ByteArray} {q : Nat} : ∀ (m k : Nat) (l : List Nat) (e : Nat), s.size - k ≤ m → uqAt s q k = some (l, e) → k < e ∧ e ≤ s.size ∧ Byt l ∧ k + l.length < e := by
  intro m
  induction m with
  | zero => intro k l e hm h; rw [uq_end (by omega)] at h; cases h
  | succ m ih =>
    intro k l e hm h
    by_cases hk : k < s.size
    · by_cases hq : byteAt s k = q
      · rw [uq_quote hk hq] at h
        obtain ⟨rfl, rfl⟩ := Prod.mk.inj (Option.some.inj h)
        exact ⟨by omega, by omega, fun x hx => by simp at hx, by simp⟩
      · cases hp : pieceAt s k with
        | none => rw [uq_bad hk hq hp] at h; cases h
        | some t =>
          obtain ⟨b, n⟩ := t
          obtain ⟨p1, p2, p3⟩ := pieceAt_pos hp hk
          rw [uq_step hk hq hp] at h
          obtain ⟨⟨l', e'⟩, h1, h2⟩ := Option.map_eq_some_iff.1 h
          obtain ⟨rfl, rfl⟩ := Prod.mk.inj h2
          obtain ⟨a1, a2, a3, a4⟩ := ih (k + n) l' e' (by omega) h1
          refine ⟨by omega, a2, fun x hx => ?_, by simp only [List.length_cons]; omega⟩
          rcases List.mem_cons.1 hx with rfl | hx
          · exact p3
          · exact a3 x hx
    · rw [uq_end hk] at h; cases h
/-- The string that stands in front. -/
def unqL (s : ByteArray) : Option (List Nat × Nat) := if s.size = 0 then none else if byteAt s 0 = 39 ∨ byteAt s 0 = 34 then uqAt s (byteAt s 0) 1 else none
/-- What Unquote answers. -/
noncomputable def unqR (s : ByteArray) : ByteArray × Int := if 65536 < s.size then (.empty, 2) else if 0 ≤ utfAt s 0 then (.empty, 44) else match unqL s with
  | none => (.empty, 42)
  | some (l, e) => if e = s.size then (ofN l, 0) else (.empty, 42)
end Go.Proofs.YtaadpiimcaabkaaGreatDoor
