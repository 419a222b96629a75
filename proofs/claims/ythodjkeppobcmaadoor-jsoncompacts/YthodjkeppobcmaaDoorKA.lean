import Derived.Test.YthodjkeppobcmaaDoorJ01

namespace Go.Proofs.YthodjkeppobcmaaDoor

/-- The byte at a place; 0 behind the end. -/
def bt (L : List Nat) (i : Nat) : Nat := L.getD i 0
/-- The place behind all that is of one kind. -/
def tw (p : Nat → Bool) (L : List Nat) (a : Nat) : Nat := a + ((L.drop a).takeWhile p).length
theorem bt_at {L : List Nat} {i x : Nat} (h : L[i]? = some x) : bt L i = x := by
  unfold bt
  rw [List.getD_eq_getElem?_getD, h]
  rfl
theorem at_bt {L : List Nat} {i : Nat} (h : i < L.length) : L[i]? = some (bt L i) := by
  rw [bt_at (List.getElem?_eq_getElem h)]
  exact List.getElem?_eq_getElem h
theorem bt_end {L : List Nat} {i : Nat} (h : L.length ≤ i) : bt L i = 0 := by
  unfold bt
  rw [List.getD_eq_getElem?_getD, List.getElem?_eq_none h]
  rfl
theorem bt_lt {L : List Nat} {i : Nat} (h : bt L i ≠ 0) : i < L.length := by
  rcases Nat.lt_or_ge i L.length with q | q
  · exact q
  · exact absurd (bt_end q) h
theorem drop_at {L : List Nat} {i : Nat} (h : i < L.length) : L.drop i = bt L i :: L.drop (i + 1) := by
  rw [List.drop_eq_getElem_cons h]
  congr 1
  exact (bt_at (List.getElem?_eq_getElem h)).symm
theorem tw_step {p : Nat → Bool} {L : List Nat} {a : Nat} (h : a < L.length) (hp : p (bt L a) = true) : tw p L a = tw p L (a + 1) := by
  unfold tw
  rw [drop_at h, List.takeWhile_cons, if_pos hp, List.length_cons]
  omega
theorem tw_stop {p : Nat → Bool} {L : List Nat} {a : Nat} (hp : p (bt L a) = false) : tw p L a = a := by
  unfold tw
  rcases Nat.lt_or_ge a L.length with h | h
  · rw [drop_at h, List.takeWhile_cons, if_neg (by rw [hp]; decide)]
    rfl
  · rw [List.drop_eq_nil_of_le h]
    rfl
theorem tw_end {p : Nat → Bool} {L : List Nat} {a : Nat} (h : L.length ≤ a) : tw p L a = a := by
  unfold tw
  rw [List.drop_eq_nil_of_le h]
  rfl
theorem tw_ge (p : Nat → Bool) (L : List Nat) (a : Nat) : a ≤ tw p L a := Nat.le_add_right _ _
theorem tw_le {p : Nat → Bool} {L : List Nat} {a : Nat} (h : a ≤ L.length) : tw p L a ≤ L.length := by
  unfold tw
  have := (List.takeWhile_sublist (l := L.drop a) p).length_le
  rw [List.length_drop] at this
  omega
/-- Where it stops, nothing of that kind stands, or the text ends. -/
theorem tw_at {p : Nat → Bool} {L : List Nat} {a : Nat} : tw p L a < L.length → p (bt L (tw p L a)) = false := by
  intro h
  by_cases hp : p (bt L a) = true ∧ a < L.length
  · obtain ⟨h1, h2⟩ := hp
    rw [tw_step h2 h1] at h ⊢
    exact tw_at h
  · have e : tw p L a = a := by
      rcases Nat.lt_or_ge a L.length with q | q
      · exact tw_stop (by have := fun k => hp ⟨k, q⟩; revert this; cases p (bt L a) <;> simp)
      · exact tw_end q
    rw [e] at h ⊢
    have := fun k => hp ⟨k, h⟩
    revert this
    cases p (bt L a) <;> simp
termination_by L.length - a
theorem tw_idem (p : Nat → Bool) (L : List Nat) (a : Nat) : tw p L (tw p L a) = tw p L a := by
  rcases Nat.lt_or_ge (tw p L a) L.length with q | q
  · exact tw_stop (tw_at q)
  · exact tw_end q
def isBl (c : Nat) : Bool := c == 32 || c == 9 || c == 10 || c == 13
def isDg (c : Nat) : Bool := decide (48 ≤ c) && decide (c ≤ 57)
def skB (L : List Nat) (a : Nat) : Nat := tw isBl L a
def dgE (L : List Nat) (a : Nat) : Nat := tw isDg L a
/-- A part of a number: behind its digits, or where it begins. -/
def prt (L : List Nat) (a d : Nat) : Nat := if d < dgE L d then dgE L d else a
def nuF (L : List Nat) (a : Nat) : Nat := if bt L a = 45 then a + 1 else a
def nu1 (L : List Nat) (f : Nat) : Nat := if bt L f = 48 then f + 1 else dgE L f
def nu2 (L : List Nat) (e : Nat) : Nat := if bt L e = 46 then prt L e (e + 1) else e
def nuK (L : List Nat) (k : Nat) : Nat := if bt L k = 43 ∨ bt L k = 45 then k + 1 else k
def nu3 (L : List Nat) (e : Nat) : Nat := if bt L e = 101 ∨ bt L e = 69 then prt L e (nuK L (e + 1)) else e
/-- The place behind a number, or the same place. -/
def numE (L : List Nat) (a : Nat) : Nat := if dgE L (nuF L a) = nuF L a then a else nu3 L (nu2 L (nu1 L (nuF L a)))
def hx4 (L : List Nat) (a : Nat) : Option Nat := if a + 4 ≤ L.length then nval 16 65535 ((L.drop a).take 4) 0 else none
def isPl (c : Nat) : Bool := c == 34 || c == 92 || c == 47 || c == 98 || c == 102 || c == 110 || c == 114 || c == 116
/-- How many bytes the second half has. -/
def escT (L : List Nat) (i : Nat) : Nat := if bt L (i + 6) = 92 ∧ bt L (i + 7) = 117 then match hx4 L (i + 8) with
  | none => 0
  | some b => if 56320 ≤ b ∧ b ≤ 57343 then 12 else 0
  else 0
/-- How many bytes an escape has; 0: none. -/
def escS (L : List Nat) (i : Nat) : Nat := if L.length < i + 2 then 0 else if isPl (bt L (i + 1)) = true then 2 else if bt L (i + 1) = 117 then match hx4 L (i + 2) with
  | none => 0
  | some a => if 56320 ≤ a ∧ a ≤ 57343 then 0 else if a < 55296 ∨ 56319 < a then 6 else escT L i
  else 0
def strG (L : List Nat) : Nat → Nat → Option Nat
  | 0, _ => none
  | f + 1, i => if i < L.length then (if bt L i < 32 then none else if bt L i = 34 then some (i + 1) else if bt L i = 92 then (if escS L i = 0 then none else strG L f (i + escS L i)) else strG L f (i + 1)) else none
theorem strG_fuel (L : List Nat) : ∀ (f g i : Nat), L.length < i + f → L.length < i + g → strG L f i = strG L g i := by
  intro f
  induction f with
  | zero =>
    intro g i h1 h2
    cases g with
    | zero => rfl
    | succ g => unfold strG; rw [if_neg (by omega)]
  | succ f ih =>
    intro g i h1 h2
    cases g with
    | zero => unfold strG; rw [if_neg (by omega)]
    | succ g =>
      unfold strG
      by_cases q : i < L.length
      · rw [if_pos q, if_pos q]
        by_cases q1 : bt L i < 32
        · rw [if_pos q1, if_pos q1]
        · rw [if_neg q1, if_neg q1]
          by_cases q2 : bt L i = 34
          · rw [if_pos q2, if_pos q2]
          · rw [if_neg q2, if_neg q2]
            by_cases q3 : bt L i = 92
            · rw [if_pos q3, if_pos q3]
              by_cases q4 : escS L i = 0
              · rw [if_pos q4, if_pos q4]
              · rw [if_neg q4, if_neg q4]
                exact ih g _ (by omega) (by omega)
            · rw [if_neg q3, if_neg q3]
              exact ih g _ (by omega) (by omega)
      · rw [if_neg q, if_neg q]
/-- The end of a string, from a place in it on. -/
def strS (L : List Nat) (i : Nat) : Option Nat := strG L (L.length + 1) i
theorem strS_end {L : List Nat} {i : Nat} (h : ¬ i < L.length) : strS L i = none := by
  unfold strS strG
  rw [if_neg h]
theorem strS_low {L : List Nat} {i : Nat} (h : i < L.length) (h1 : bt L i < 32) : strS L i = none := by
  unfold strS strG
  rw [if_pos h, if_pos h1]
theorem strS_fin {L : List Nat} {i : Nat} (h : i < L.length) (h1 : bt L i = 34) : strS L i = some (i + 1) := by
  unfold strS strG
  rw [if_pos h, if_neg (by omega), if_pos h1]
theorem strS_esc {L : List Nat} {i : Nat} (h : i < L.length) (h1 : bt L i = 92) : strS L i = if escS L i = 0 then none else strS L (i + escS L i) := by
  conv => lhs; unfold strS strG
  rw [if_pos h, if_neg (by omega), if_neg (by omega), if_pos h1]
  by_cases q : escS L i = 0
  · rw [if_pos q, if_pos q]
  · rw [if_neg q, if_neg q]
    exact strG_fuel L _ _ _ (by omega) (by omega)
theorem strS_more {L : List Nat} {i : Nat} (h : i < L.length) (h1 : ¬ bt L i < 32) (h2 : ¬ bt L i = 34) (h3 : ¬ bt L i = 92) : strS L i = strS L (i + 1) := by
  conv => lhs; unfold strS strG
  rw [if_pos h, if_neg h1, if_neg h2, if_neg h3]
  exact strG_fuel L _ _ _ (by omega) (by omega)
def strE (L : List Nat) (a : Nat) : Option Nat := strS L (a + 1)
def wrE (L : List Nat) (a : Nat) : Nat := if (L.drop a).take 4 = [116, 114, 117, 101] then a + 4 else if (L.drop a).take 5 = [102, 97, 108, 115, 101] then a + 5 else if (L.drop a).take 4 = [110, 117, 108, 108] then a + 4 else a
def isSg (c : Nat) : Bool := c == 123 || c == 125 || c == 91 || c == 93 || c == 58 || c == 44
def isWd (c : Nat) : Bool := c == 116 || c == 102 || c == 110
def isNm (c : Nat) : Bool := c == 45 || isDg c
/-- The place behind the token that begins at a place; this place, if none does. -/
def tkE (L : List Nat) (a : Nat) : Nat := if isSg (bt L a) = true then a + 1 else if isWd (bt L a) = true then wrE L a else if isNm (bt L a) = true then numE L a else if bt L a = 34 then (strE L a).getD a else a
/-- What a piece of a text comes to: its bytes without blanks and the place behind it; or the fault and its place. -/
abbrev RR := Except (Nat × Nat) (List Nat × Nat)
def RR.pre (l : List Nat) : RR → RR
  | .error e => .error e
  | .ok (b, p) => .ok (l ++ b, p)
def RR.go (r : RR) (k : Nat → RR) : RR := match r with
  | .error e => .error e
  | .ok (b, p) => RR.pre b (k p)
theorem RR.pre_pre (a b : List Nat) (r : RR) : RR.pre a (RR.pre b r) = RR.pre (a ++ b) r := by
  cases r with
  | error e => rfl
  | ok x => obtain ⟨c, p⟩ := x; simp [RR.pre]
theorem RR.pre_nil (r : RR) : RR.pre [] r = r := by
  cases r with
  | error e => rfl
  | ok x => rfl
theorem RR.pre_go (a : List Nat) (r : RR) (k : Nat → RR) : RR.pre a (RR.go r k) = RR.go (RR.pre a r) k := by
  cases r with
  | error e => rfl
  | ok x => obtain ⟨c, p⟩ := x; exact RR.pre_pre a c _
def tokR (L : List Nat) (at_ : Nat) : RR := if skB L at_ < tkE L (skB L at_) then .ok ((L.drop (skB L at_)).take (tkE L (skB L at_) - skB L at_), tkE L (skB L at_)) else .error (if bt L (skB L at_) = 34 then 125 else 120, skB L at_)
def mustR (L : List Nat) (c at_ : Nat) : RR := if bt L (skB L at_) = c then tokR L at_ else .error (120, skB L at_)
def memR (L : List Nat) (v : Nat → RR) (at_ : Nat) : RR := (mustR L 34 at_).go fun p => (mustR L 58 p).go v

def itemsR (L : List Nat) (each : Nat → RR) (to_ : Nat) : Nat → Nat → RR
  | 0, _ => .error (0, 0)
  | f + 1, at_ => (each at_).go fun p => if bt L (skB L p) = 44 then (tokR L p).go (itemsR L each to_ f) else mustR L to_ p

def moreR (L : List Nat) (each : Nat → RR) (to_ f p : Nat) : RR := if bt L (skB L p) = 44 then (tokR L p).go (itemsR L each to_ f) else mustR L to_ p
theorem items_succ (L : List Nat) (each : Nat → RR) (to_ f at_ : Nat) : itemsR L each to_ (f + 1) at_ = (each at_).go (moreR L each to_ f) := rfl
def rowR (L : List Nat) (each : Nat → RR) (from_ to_ at_ : Nat) : RR := (mustR L from_ at_).go fun p => if bt L (skB L p) = to_ then mustR L to_ p else itemsR L each to_ (L.length + 1) p
def valR (L : List Nat) : Nat → Nat → RR
  | 0, at_ => if bt L (skB L at_) = 123 ∨ bt L (skB L at_) = 91 then .error (4, skB L at_) else if isSg (bt L (skB L at_)) = true then .error (120, skB L at_) else tokR L at_
  | d + 1, at_ => if bt L (skB L at_) = 123 then rowR L (memR L (valR L d)) 123 125 at_ else if bt L (skB L at_) = 91 then rowR L (valR L d) 91 93 at_ else if isSg (bt L (skB L at_)) = true then .error (120, skB L at_) else tokR L at_
def topR (L : List Nat) : RR := (valR L 200 0).go fun p => if skB L p < L.length then .error (120, skB L p) else .ok ([], p)
end Go.Proofs.YthodjkeppobcmaaDoor
