import Derived.Test.YtaadpiimcaabkaaGreatDoorJ10
import Derived.Test.YtaadpiimcaabkaaGreatDoorJ00
import Derived.Lib.Strings
import Derived.Test.YtaadpiimcaabkaaGreatDoorJ07
import Derived.Test.YtaadpiimcaabkaaGreatDoorJ09

namespace Go.Proofs.YtaadpiimcaabkaaGreatDoor
open Go.RowKit
attribute [local go_sem ↓] Go.wp_at_zero Go.wp_at_succ

set_option maxRecDepth 100000 in
/-- No room for one more token. -/
theorem take_full {W : World} {b : Nat} {s : ByteArray} {k vc : Nat} {va : Option Addr} {kind n e : Int} (h : ScanAt W b s k (.slice va 16383 vc)) :
    Calls Tryz.prog 137 #[.pointer (some ⟨b, 0, none⟩), .int .i64 kind, .int .i64 n, .int .i64 e] W fun o w => o = .returned (.int .i64 45) ∧ w = W := by
  have c2 := h.c2
  clear h
  go_enter Tryz.func137, Tryz.ntmps137
  go_wp2
  go_ret
  exact ⟨rfl, rfl⟩
set_option maxRecDepth 100000 in
/-- A fault. -/
theorem take_err {W : World} {b : Nat} {s : ByteArray} {k m vc : Nat} {va : Option Addr} {kind n e : Int} (h : ScanAt W b s k (.slice va m vc)) (hm : m < 16383) (he : e ≠ 0) :
    Calls Tryz.prog 137 #[.pointer (some ⟨b, 0, none⟩), .int .i64 kind, .int .i64 n, .int .i64 e] W fun o w => o = .returned (.int .i64 e) ∧ w = W := by
  have c2 := h.c2
  have q1 : ((m : Int) == 16383) = false := beq_eq_false_iff_ne.2 (by omega)
  have q2 : (e != 0) = true := by simpa using he
  clear h
  go_enter Tryz.func137, Tryz.ntmps137
  go_wp2
  go_ret
  exact ⟨rfl, rfl⟩
end Go.Proofs.YtaadpiimcaabkaaGreatDoor

namespace Go.Proofs.YtaadpiimcaabkaaGreatDoor
open Go.RowKit
attribute [local go_sem ↓] Go.wp_at_zero Go.wp_at_succ

theorem ScanAt.at {W : World} {b : Nat} {s : ByteArray} {k : Nat} {v : Value} (h : ScanAt W b s k v) (j : Nat) : ScanAt (W.setCell ⟨b, 1, none⟩ (.int .i64 (j : Int))) b s j v := heap_setCell_same _ b 1 _ _ _ h
set_option maxRecDepth 100000 in
/-- The step at a blank. -/
theorem step_blank {W : World} {b : Nat} {s : ByteArray} {k : Nat} {v : Value} (h : ScanAt W b s k v) (hk : k < s.size) (hs : s.size ≤ 65536) :
    Calls Tryz.prog 138 #[.pointer (some ⟨b, 0, none⟩)] W fun e w => e = .returned (.int .i64 0) ∧ w = W.setCell ⟨b, 1, none⟩ (.int .i64 ((k + 1 : Nat) : Int)) := by
  have c1 := h.c1
  have f1 := row_frozenT 1 h
  clear h
  go_enter Tryz.func138, Tryz.ntmps138
  go_wp2
  go_ret
  exact ⟨rfl, rfl⟩
set_option maxRecDepth 100000 in
/-- The step at a sign. -/
theorem step_sign {W : World} {B b : Nat} {s : ByteArray} {k m : Nat} {v : Value} {xs : List Value} (h : ScanAt W b s k v) (hB : b < B) (hBW : B ≤ W.heap.size) (hrow : W.ownsRow B 107 3 v m xs) (hk : k + 1 ≤ s.size) (hs : s.size ≤ 65536) (hm : m < 16383) :
    Calls Tryz.prog 146 #[.pointer (some ⟨b, 0, none⟩)] W fun e w => e = .returned (.int .i64 0) ∧ ∃ v', ScanAt w b s (k + 1) v' ∧ w.ownsRow B 107 3 v' (m + 1) (xs ++ [.int .i64 4, .int .i64 (k : Int), .string (s.extract k (k + 1))]) ∧ BX B b W w := by
  have ht := take_any (n := 1) (kind := 4) h hB hBW hrow hk hs hm
  have Ht := hide ht
  clear ht h hrow
  go_enter Tryz.func146, Tryz.ntmps146
  go_wp2_with fail
  refine (unhide Ht).mono ?_
  rintro e w ⟨rfl, hx⟩
  have Hx := hide hx
  clear hx
  go_wp2
  go_ret
  exact ⟨rfl, unhide Hx⟩
end Go.Proofs.YtaadpiimcaabkaaGreatDoor

namespace Go.Proofs.YtaadpiimcaabkaaGreatDoor
open Go.RowKit
attribute [local go_sem ↓] Go.wp_at_zero Go.wp_at_succ

theorem strN_extract (s : ByteArray) (a b : Nat) : strN (s.extract a b) = ((strN s).drop a).take (b - a) := by
  unfold strN
  rw [Lib.extract_data]
  simp [List.map_take, List.map_drop]
theorem strN_inj {s t : ByteArray} (h : strN s = strN t) : s = t := by
  have h1 : s.data.toList = t.data.toList := by
    unfold strN at h
    exact (List.map_inj_right (fun a b e => UInt8.toNat_inj.1 e)).1 h
  cases s with | mk d => cases t with | mk e => cases d; cases e; simp_all
theorem list_eq_iff (s t : ByteArray) : (s.toList == t.toList) = true ↔ strN s = strN t := by
  rw [ByteArray.toList_eq, ByteArray.toList_eq]
  constructor
  · intro h
    unfold strN
    rw [eq_of_beq h]
  · intro h
    rw [strN_inj h]
    simp
/-- Does s begin so? -/
def Pre (s p : ByteArray) : Prop := (strN s).take p.size = strN p
open Classical in
noncomputable def preB (s p : ByteArray) : Bool := decide (Pre s p)
theorem preT {s p : ByteArray} (h : Pre s p) : preB s p = true := by unfold preB; simp [h]
theorem preF {s p : ByteArray} (h : ¬ Pre s p) : preB s p = false := by unfold preB; simp [h]
set_option maxRecDepth 100000 in
theorem hasPrefix0_any (W : World) (s p : ByteArray) : Calls Tryz.prog 166 #[.string s, .string p] W fun e w => e = .returned (.bool (preB s p)) ∧ w = W := by
  by_cases hl : p.size ≤ s.size
  · have e1 : decide ((p.size : Int) ≤ (s.size : Int)) = true := by simp; omega
    have hx := strN_extract s 0 p.size
    have hiff := list_eq_iff (s.extract 0 p.size) p
    have Hx := hide hx
    have Hiff := hide hiff
    clear hx hiff
    go_enter Tryz.func166, Tryz.ntmps166
    go_wp2
    go_ret
    refine ⟨?_, rfl⟩
    have : ((s.extract 0 p.size).toList == p.toList) = preB s p := by
      by_cases hpre : Pre s p
      · rw [preT hpre]
        refine (unhide Hiff).2 ?_
        rw [unhide Hx]
        simpa [Pre] using hpre
      · rw [preF hpre, ← Bool.not_eq_true]
        intro h
        have := (unhide Hiff).1 h
        rw [unhide Hx] at this
        exact hpre (by simpa [Pre] using this)
    rw [← this]
    rfl
  · have e1 : decide ((p.size : Int) ≤ (s.size : Int)) = false := by simp; omega
    have hn : ¬ Pre s p := fun h => by
      have := congrArg List.length h
      rw [List.length_take, strN_len, strN_len] at this
      omega
    rw [preF hn]
    go_enter Tryz.func166, Tryz.ntmps166
    go_wp2
    go_ret
    exact ⟨rfl, rfl⟩
set_option maxRecDepth 100000 in
theorem hasPrefix_any (W : World) (s p : ByteArray) : Calls Tryz.prog 126 #[.string s, .string p] W fun e w => e = .returned (.bool (preB s p)) ∧ w = W := by
  go_enter Tryz.func126, Tryz.ntmps126
  go_wp2_with fail
  refine (hasPrefix0_any W s p).mono ?_
  rintro e w' ⟨rfl, he⟩
  obtain rfl : W = w' := he.symm
  go_wp2
  go_ret
  exact ⟨rfl, rfl⟩
end Go.Proofs.YtaadpiimcaabkaaGreatDoor

namespace Go.Proofs.YtaadpiimcaabkaaGreatDoor
open Go.RowKit
attribute [local go_sem ↓] Go.wp_at_zero Go.wp_at_succ

theorem endRow_is (s : ByteArray) : ∀ (n k : Nat), (∀ j, j < n → k + j < s.size ∧ (isLet (byteAt s (k + j)) ∨ isDig (byteAt s (k + j)))) → (k + n < s.size → ¬ (isLet (byteAt s (k + n)) ∨ isDig (byteAt s (k + n)))) → endRow s k = k + n
  | 0, k, _, h2 => by
    rw [endRow, dif_neg (fun q => h2 q.1 q.2)]
    rfl
  | n + 1, k, h1, h2 => by
    have h0 := h1 0 (by omega)
    rw [Nat.add_zero] at h0
    rw [endRow, dif_pos h0, endRow_is s n (k + 1) (fun j hj => ?_) (fun h => ?_)]
    · omega
    · have := h1 (j + 1) (by omega)
      rwa [show k + (j + 1) = k + 1 + j by omega] at this
    · rw [show k + 1 + n = k + (n + 1) by omega] at h ⊢
      exact h2 h
theorem strN_at (s : ByteArray) (k : Nat) (h : k < s.size) : (strN s)[k]? = some (byteAt s k) := by
  unfold strN byteAt
  rw [dif_pos h, List.getElem?_map, Array.getElem?_toList, Array.getElem?_eq_getElem (by show k < s.size; exact h)]
  rfl
/-- What row says of the rest of a text. -/
theorem endRow_row {s : ByteArray} {k n : Nat} (hk : k ≤ s.size) (hn : n ≤ (s.extract k s.size).size) (h1 : ∀ j x, j < n → (strN (s.extract k s.size))[j]? = some x → isLet x ∨ isDig x) (h2 : ∀ x, (strN (s.extract k s.size))[n]? = some x → ¬ (isLet x ∨ isDig x)) : endRow s k = k + n ∧ k + n ≤ s.size := by
  have hsz : (s.extract k s.size).size = s.size - k := by rw [ByteArray.size_extract]; omega
  have he : ∀ j, k + j < s.size → (strN (s.extract k s.size))[j]? = some (byteAt s (k + j)) := fun j hj => by
    rw [strN_extract, List.getElem?_take, if_pos (by omega), List.getElem?_drop]
    exact strN_at s (k + j) hj
  refine ⟨endRow_is s n k (fun j hj => ⟨by omega, h1 j _ hj (he j (by omega))⟩) (fun h => h2 _ (he n h)), by omega⟩
set_option maxRecDepth 100000 in
/-- The step at a letter. -/
theorem step_letter {W : World} {B b : Nat} {s : ByteArray} {k m : Nat} {v : Value} {xs : List Value} (h : ScanAt W b s k v) (hB : b < B) (hBW : B ≤ W.heap.size) (hrow : W.ownsRow B 107 3 v m xs) (hk : k < s.size) (hs : s.size ≤ 65536) (hm : m < 16383) :
    Calls Tryz.prog 139 #[.pointer (some ⟨b, 0, none⟩)] W fun e w => e = .returned (.int .i64 0) ∧ ∃ v', ScanAt w b s (endRow s k) v' ∧ w.ownsRow B 107 3 v' (m + 1) (xs ++ [.int .i64 1, .int .i64 (k : Int), .string (s.extract k (endRow s k))]) ∧ BX B b W w := by
  have hr := rest_any h (by omega)
  have Hh := hide h
  have Hrow := hide hrow
  clear h hrow
  go_enter Tryz.func139, Tryz.ntmps139
  go_wp2_with fail
  refine hr.mono ?_
  rintro e w1 ⟨rfl, n1, rfl⟩
  clear hr
  have hro := row_any (W.drewN n1) (s.extract k s.size) (by rw [ByteArray.size_extract]; omega)
  go_wp2_with fail
  refine hro.mono ?_
  rintro e w2 ⟨n, rfl, hw2, hn, h1, h2⟩
  obtain rfl : W.drewN n1 = w2 := hw2.symm
  clear hw2 hro
  obtain ⟨eE, hle⟩ := endRow_row (by omega) hn h1 h2
  have ht := take_any (W := W.drewN n1) (n := n) (kind := 1) (unhide Hh) hB hBW (unhide Hrow) hle hs hm
  rw [← eE] at ht
  have Ht := hide ht
  clear ht hn h1 h2 hle eE
  go_wp2_with fail
  refine (unhide Ht).mono ?_
  rintro e w3 ⟨rfl, v', g1, g2, g4⟩
  have Hx : Hid (∃ v', ScanAt w3 b s (endRow s k) v' ∧ w3.ownsRow B 107 3 v' (m + 1) (xs ++ [.int .i64 1, .int .i64 (k : Int), .string (s.extract k (endRow s k))]) ∧ BX B b W w3) := ⟨v', g1, g2, (BX.of (below_drewN (Below.refl B _) n1) (Nat.le_refl _)).trans g4⟩
  clear g1 g2 g4
  go_wp2
  go_ret
  exact ⟨rfl, unhide Hx⟩
end Go.Proofs.YtaadpiimcaabkaaGreatDoor

namespace Go.Proofs.YtaadpiimcaabkaaGreatDoor
open Go.RowKit

def Top : Nat := 9223372036854775807
/-- The worth of a text that is just a number. -/
def wv (l : List Nat) : Option Nat :=
  if l.take 2 = [48, 120] ∨ l.take 2 = [48, 88] then (if l.length = 2 then none else nval 16 9223372036854775807 (l.drop 2) 0)
  else if l.take 1 = [48] then nval 8 9223372036854775807 l 0 else if l = [] then none else nval 10 9223372036854775807 l 0
theorem nval_le {B M : Nat} : ∀ (l : List Nat) (n u : Nat), n ≤ M → nval B M l n = some u → u ≤ M
  | [], n, u, hn, h => by
    have : n = u := by simpa [nval] using h
    omega
  | c :: r, n, u, hn, h => by
    simp only [nval] at h
    split at h
    · cases h
    · split at h
      · rename_i hc
        exact nval_le r _ u hc.2 h
      · cases h
theorem wv_le {l : List Nat} {u : Nat} (h : wv l = some u) : u ≤ 9223372036854775807 := by
  unfold wv at h
  split at h
  · split at h
    · cases h
    · exact nval_le _ 0 u (by decide) h
  · split at h
    · exact nval_le _ 0 u (by decide) h
    · split at h
      · cases h
      · exact nval_le _ 0 u (by decide) h
end Go.Proofs.YtaadpiimcaabkaaGreatDoor

namespace Go.Proofs.YtaadpiimcaabkaaGreatDoor
open Go.RowKit

/-- The token that begins at k: its kind, the place behind it; or the error. -/
def oneF (s : ByteArray) (k : Nat) : Nat × Nat × Nat :=
  if isLet (byteAt s k) then (1, endRow s k, 0)
  else if isDig (byteAt s k) then (if wv (strN (s.extract k (endRow s k))) = none then (0, 0, 41) else (2, endRow s k, 0))
  else if byteAt s k = 39 ∨ byteAt s k = 34 then (match uqAt s (byteAt s k) (k + 1) with | none => (0, 0, 42) | some (_, e) => (3, e, 0))
  else if isSgn (byteAt s k) then (4, k + 1, 0) else (0, 0, 40)
/-- A token: kind, place, text. -/
structure Tok where
  kind : Nat
  place : Nat
  text : ByteArray
def consT (t : Tok) : List Tok ⊕ (Nat × Nat) → List Tok ⊕ (Nat × Nat)
  | .inl l => .inl (t :: l)
  | .inr e => .inr e
def frontT (p : List Tok) : List Tok ⊕ (Nat × Nat) → List Tok ⊕ (Nat × Nat)
  | .inl l => .inl (p ++ l)
  | .inr e => .inr e
theorem frontT_nil (x : List Tok ⊕ (Nat × Nat)) : frontT [] x = x := by cases x <;> rfl
theorem frontT_cons (p : List Tok) (t : Tok) (x : List Tok ⊕ (Nat × Nat)) : frontT p (consT t x) = frontT (p ++ [t]) x := by
  cases x with
  | inl l => simp [frontT, consT]
  | inr e => rfl
/-- The tokens from k on, n being there; or the place of the first fault, and the error. -/
def tokF (s : ByteArray) : Nat → Nat → Nat → (List Tok ⊕ (Nat × Nat))
  | 0, _, _ => .inr (0, 0)
  | f + 1, k, n => if (passF s s.size k).2 = false then .inr ((passF s s.size k).1, 43)
    else if (passF s s.size k).1 = s.size then .inl [⟨5, (passF s s.size k).1, ⟨#[]⟩⟩]
    else if n = 16383 then .inr ((passF s s.size k).1, 45)
    else if (oneF s (passF s s.size k).1).2.2 = 0 then
      consT ⟨(oneF s (passF s s.size k).1).1, (passF s s.size k).1, s.extract (passF s s.size k).1 (oneF s (passF s s.size k).1).2.1⟩ (tokF s f (oneF s (passF s s.size k).1).2.1 (n + 1))
    else .inr ((passF s s.size k).1, (oneF s (passF s s.size k).1).2.2)
theorem starAt_le (s : ByteArray) (k : Nat) (h : k ≤ s.size) : starAt s k ≤ s.size := by
  rw [starAt]
  split
  · exact starAt_le s (k + 1) (by omega)
  · exact h
termination_by s.size - k
decreasing_by omega
theorem passF_le (s : ByteArray) : ∀ (f k : Nat), k ≤ s.size → k ≤ (passF s f k).1 ∧ (passF s f k).1 ≤ s.size := by
  intro f
  induction f with
  | zero => intro k hk; exact ⟨Nat.le_refl _, hk⟩
  | succ f ih =>
    intro k hk
    rw [passF]
    split
    · split
      · have := ih (k + 1) (by omega); omega
      · split
        · rename_i h h1 h2
          have a := nlAt_ge s k
          have b := nlAt_le s k hk
          have := ih _ b; omega
        · split
          · split
            · rename_i h5
              have a := starAt_ge s (k + 2)
              have := ih _ h5; omega
            · exact ⟨Nat.le_refl _, hk⟩
          · exact ⟨Nat.le_refl _, hk⟩
    · exact ⟨Nat.le_refl _, hk⟩
theorem endRow_gt {s : ByteArray} {k : Nat} (hk : k < s.size) (h : isLet (byteAt s k) ∨ isDig (byteAt s k)) : k < endRow s k := by
  rw [endRow, dif_pos ⟨hk, h⟩]
  have := endRow_ge s (k + 1)
  omega
theorem oneF_le {s : ByteArray} {k : Nat} (hk : k < s.size) (h : (oneF s k).2.2 = 0) : k < (oneF s k).2.1 ∧ (oneF s k).2.1 ≤ s.size := by
  unfold oneF at h ⊢
  by_cases h1 : isLet (byteAt s k)
  · rw [if_pos h1]
    exact ⟨endRow_gt hk (.inl h1), endRow_le s k (by omega)⟩
  · rw [if_neg h1] at h ⊢
    by_cases h2 : isDig (byteAt s k)
    · rw [if_pos h2] at h ⊢
      split at h
      · cases h
      · rename_i h3
        rw [if_neg h3]
        exact ⟨endRow_gt hk (.inr h2), endRow_le s k (by omega)⟩
    · rw [if_neg h2] at h ⊢
      by_cases h3 : byteAt s k = 39 ∨ byteAt s k = 34
      · rw [if_pos h3] at h ⊢
        split at h
        · cases h
        · rename_i l e he
          have := uq_le _ (k + 1) l e (Nat.le_refl _) he
          show k < e ∧ e ≤ s.size
          omega
      · rw [if_neg h3] at h ⊢
        split at h
        · rename_i h4
          rw [if_pos h4]
          show k < k + 1 ∧ k + 1 ≤ s.size
          omega
        · cases h
/-- The fuel does not matter, if it is enough. -/
theorem tokF_fuel (s : ByteArray) : ∀ (f f' k n : Nat), k ≤ s.size → s.size - k < f → s.size - k < f' → tokF s f k n = tokF s f' k n := by
  intro f
  induction f with
  | zero => intro f' k n _ hf; omega
  | succ f ih =>
    intro f' k n hk hf hf'
    cases f' with
    | zero => omega
    | succ f' =>
      rw [tokF, tokF]
      have hp := passF_le s s.size k hk
      split
      · rfl
      · split
        · rfl
        · split
          · rfl
          · split
            · rename_i h1 h2 h3 h4
              have := oneF_le (by omega) h4
              rw [ih f' _ (n + 1) this.2 (by omega) (by omega)]
            · rfl
def tk (s : ByteArray) (k n : Nat) : List Tok ⊕ (Nat × Nat) := tokF s (s.size + 1) k n
theorem tk_pass {s : ByteArray} {k k' : Nat} (n : Nat) (h : passF s s.size k = passF s s.size k') : tk s k n = tk s k' n := by
  unfold tk
  rw [tokF, tokF, h]
theorem pass_end (s : ByteArray) : passF s s.size s.size = (s.size, true) := by
  cases hz : s.size with
  | zero => rfl
  | succ n => rw [passF, if_neg (by omega)]
theorem tk_end (s : ByteArray) (n : Nat) : tk s s.size n = .inl [⟨5, s.size, ⟨#[]⟩⟩] := by
  unfold tk
  rw [tokF, pass_end, if_neg (by simp), if_pos rfl]
theorem tk_noend {s : ByteArray} {k n : Nat} (h : passF s s.size k = (k, false)) : tk s k n = .inr (k, 43) := by
  unfold tk
  rw [tokF, h, if_pos rfl]
theorem tk_full {s : ByteArray} {k : Nat} (hk : k < s.size) (h : passF s s.size k = (k, true)) : tk s k 16383 = .inr (k, 45) := by
  unfold tk
  rw [tokF, h, if_neg (by simp), if_neg (by show ¬ k = s.size; omega), if_pos rfl]
theorem tk_err {s : ByteArray} {k n c : Nat} (hk : k < s.size) (h : passF s s.size k = (k, true)) (hn : n < 16383) (h1 : (oneF s k).2.2 = c) (hc : c ≠ 0) : tk s k n = .inr (k, c) := by
  unfold tk
  rw [tokF, h, if_neg (by simp), if_neg (by show ¬ k = s.size; omega), if_neg (by omega)]
  show (if (oneF s k).2.2 = 0 then _ else Sum.inr (k, (oneF s k).2.2)) = _
  rw [h1, if_neg hc]
theorem tk_tok {s : ByteArray} {k n t e : Nat} (hk : k < s.size) (h : passF s s.size k = (k, true)) (hn : n < 16383) (h1 : oneF s k = (t, e, 0)) : tk s k n = consT ⟨t, k, s.extract k e⟩ (tk s e (n + 1)) := by
  have hle := oneF_le hk (by rw [h1])
  rw [h1] at hle
  unfold tk
  rw [tokF, h, if_neg (by simp), if_neg (by show ¬ k = s.size; omega), if_neg (by omega)]
  show (if (oneF s k).2.2 = 0 then consT ⟨(oneF s k).1, k, s.extract k (oneF s k).2.1⟩ (tokF s s.size (oneF s k).2.1 (n + 1)) else _) = _
  rw [h1, if_pos rfl]
  rw [tokF_fuel s s.size (s.size + 1) e (n + 1) hle.2 (by have := hle.1; simp at this; omega) (by omega)]
theorem pass_step {s : ByteArray} {k : Nat} (hk : k < s.size) : passF s s.size k = passF s (s.size - k - 1 + 1) k := passF_fuel s _ _ k (by omega) (by omega)
theorem pass_blank {s : ByteArray} {k : Nat} (hk : k < s.size) (h : isBlk (byteAt s k)) : passF s s.size k = passF s s.size (k + 1) := by
  rw [pass_step hk, passF, if_pos hk, if_pos h]
  exact passF_fuel s _ _ _ (by omega) (by omega)
theorem pass_line {s : ByteArray} {k : Nat} (h : k + 2 ≤ s.size) (h1 : byteAt s k = 47) (h2 : byteAt s (k + 1) = 47) : passF s s.size k = passF s s.size (nlAt s k) := by
  have hk : k < s.size := by omega
  have hnl := nlAt_lt hk h1
  rw [pass_step hk, passF, if_pos hk, if_neg (by rw [h1]; decide), if_pos ⟨h, h1, h2⟩]
  exact passF_fuel s _ _ _ (by omega) (by omega)
theorem pass_star {s : ByteArray} {k : Nat} (h : k + 2 ≤ s.size) (h1 : byteAt s k = 47) (h2 : byteAt s (k + 1) = 42) (h3 : starAt s (k + 2) + 2 ≤ s.size) : passF s s.size k = passF s s.size (starAt s (k + 2) + 2) := by
  have hk : k < s.size := by omega
  have := starAt_ge s (k + 2)
  rw [pass_step hk, passF, if_pos hk, if_neg (by rw [h1]; decide), if_neg (by omega), if_pos ⟨h, h1, h2⟩, if_pos h3]
  exact passF_fuel s _ _ _ (by omega) (by omega)
theorem pass_noend {s : ByteArray} {k : Nat} (h : k + 2 ≤ s.size) (h1 : byteAt s k = 47) (h2 : byteAt s (k + 1) = 42) (h3 : ¬ starAt s (k + 2) + 2 ≤ s.size) : passF s s.size k = (k, false) := by
  have hk : k < s.size := by omega
  rw [pass_step hk, passF, if_pos hk, if_neg (by rw [h1]; decide), if_neg (by omega), if_pos ⟨h, h1, h2⟩, if_neg h3]
theorem pass_stop {s : ByteArray} {k : Nat} (hk : k < s.size) (h : ¬ isBlk (byteAt s k)) (h1 : ¬ (k + 2 ≤ s.size ∧ byteAt s k = 47 ∧ byteAt s (k + 1) = 47)) (h2 : ¬ (k + 2 ≤ s.size ∧ byteAt s k = 47 ∧ byteAt s (k + 1) = 42)) : passF s s.size k = (k, true) := by
  rw [pass_step hk, passF, if_pos hk, if_neg h, if_neg h1, if_neg h2]
theorem pass_other {s : ByteArray} {k : Nat} (hk : k < s.size) (h : ¬ isBlk (byteAt s k)) (h1 : ¬ byteAt s k = 47) : passF s s.size k = (k, true) := pass_stop hk h (fun q => h1 q.2.1) (fun q => h1 q.2.1)
/-- What Tokens answers. -/
noncomputable def tokR (s : ByteArray) : List Tok ⊕ (Nat × Nat) := if 65536 < s.size then .inr (0, 2) else if 0 ≤ utfAt s 0 then .inr ((utfAt s 0).toNat, 44) else tk s 0 0
end Go.Proofs.YtaadpiimcaabkaaGreatDoor
