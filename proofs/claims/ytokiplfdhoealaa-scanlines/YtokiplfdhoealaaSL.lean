import Derived.Test.YtokiplfdhoealaaSC
import Derived.Test.YtokiplfdhoealaaSO
import Derived.Lib.Bytealg
import Derived.Lib.Strings
namespace Go.Proofs.Ytokiplfdhoealaa
open Go.RowKit
attribute [local go_sem ↓] Go.wp_at_zero Go.wp_at_succ

def colF (c x : Nat) : Nat := if x = 10 then 1 else c + 1
def colOf (l : List Nat) : Nat := l.foldl colF 1
def lineOf (l : List Nat) : Nat := 1 + l.count 10
theorem col_snoc (l : List Nat) (x : Nat) : colOf (l ++ [x]) = if x = 10 then 1 else colOf l + 1 := by simp [colOf, colF]
theorem line_snoc (l : List Nat) (x : Nat) : lineOf (l ++ [x]) = if x = 10 then lineOf l + 1 else lineOf l := by
  unfold lineOf
  rw [List.count_append]
  by_cases h : x = 10
  · subst h; simp; omega
  · rw [if_neg h, List.count_singleton]; simp [h]
theorem fold_no {d : List Nat} : ∀ (c : Nat), (∀ x ∈ d, ¬ x = 10) → d.foldl colF c = c + d.length := by
  induction d with
  | nil => intro c _; rfl
  | cons x r ih =>
    intro c h
    rw [List.foldl_cons, ih _ (fun y hy => h y (List.mem_cons_of_mem _ hy)), colF, if_neg (h x List.mem_cons_self), List.length_cons]
    omega
theorem col_none {l : List Nat} (h : ∀ (j x : Nat), l[j]? = some x → ¬ x = 10) : colOf l = l.length + 1 := by
  unfold colOf
  rw [fold_no 1 (fun x hx => by obtain ⟨j, hj⟩ := List.getElem?_of_mem hx; exact h j x hj)]
  omega
theorem col_last {l : List Nat} {i : Nat} (hi : l[i]? = some 10) (h : ∀ (j x : Nat), i < j → l[j]? = some x → ¬ x = 10) : colOf l = l.length - i := by
  have hlt := (List.getElem?_eq_some_iff.1 hi).1
  have e : l = l.take (i + 1) ++ l.drop (i + 1) := (List.take_append_drop _ _).symm
  have e2 : l.take (i + 1) = l.take i ++ [10] := by rw [List.take_add_one, hi]; rfl
  unfold colOf
  conv => lhs; rw [e, List.foldl_append, e2]
  rw [fold_no]
  · rw [List.foldl_append]; simp [colF]; omega
  · intro x hx
    obtain ⟨j, hj⟩ := List.getElem?_of_mem hx
    rw [List.getElem?_drop] at hj
    exact h (i + 1 + j) x (by omega) hj
theorem strN_extract (s : ByteArray) (n : Nat) : strN (s.extract 0 n) = (strN s).take n := by
  unfold strN
  rw [Lib.extract_data]
  simp [List.map_take]
theorem count_strN (s : ByteArray) : Lib.countByte s.data.toList 10 = (strN s).count 10 := by
  unfold Lib.countByte strN
  induction s.data.toList with
  | nil => rfl
  | cons a r ih =>
    rw [List.map_cons, List.count_cons, List.count_cons, ih]
    congr 1
    by_cases h : a = 10
    · subst h; rfl
    · have h2 : ¬ a.toNat = 10 := fun e => h (UInt8.toNat_inj.1 e)
      simp [h, h2]

set_option maxRecDepth 100000 in
theorem count_any (W : World) (s : ByteArray) :
    Calls Try.prog 13 #[.string s, .string ⟨#[10]⟩] W fun e w => e = .returned (.int .i64 (((strN s).count 10 : Nat) : Int)) ∧ w = W := by
  go_enter Try.func13, Try.ntmps13
  go_wp2
  rw [run_callFunc_extern Try.func17 (by kernel_rfl) (by kernel_rfl) (by kernel_rfl) (e := Extern.BytealgCount.count) (by kernel_rfl), Lib.run_countString]
  simp only [Result.andThen]
  go_wp2
  go_ret
  refine ⟨?_, rfl⟩
  rw [← count_strN]
  rfl
set_option maxRecDepth 100000 in
set_option maxHeartbeats 1000000 in
theorem last_any (W : World) (s : ByteArray) (hs : s.size ≤ 65536) :
    Calls Try.prog 19 #[.string s, .int .u8 10] W fun e w => ∃ r : Int, e = .returned (.int .i64 r) ∧ w = W ∧ -1 ≤ r ∧ r < s.size ∧ (colOf (strN s) : Int) = s.size - r := by
  go_enter Try.func19, Try.ntmps19
  go_wp2
  go_loopg [5] s.size (fun gk v5 wr => ∃ (k : Nat), v5 = .int .i64 ((k : Int) - 1) ∧ gk = k ∧ k ≤ s.size ∧ wr = W ∧ ∀ j x, k ≤ j → (strN s)[j]? = some x → ¬ x = 10)
  case atStart => exact ⟨s.size, by go_num, rfl, by omega, rfl, fun j x hj hx => by have := (List.getElem?_eq_some_iff.1 hx).1; rw [strN_len] at this; omega⟩
  case round =>
    obtain ⟨k, rfl, hgk, hk, rfl, hall⟩ := hrel
    obtain rfl : k = gk := hgk.symm
    clear hgk
    have Hall := hide hall
    clear hall
    by_cases hlt : 0 < k
    · obtain ⟨m, rfl⟩ : ∃ m, k = m + 1 := ⟨k - 1, by omega⟩
      obtain ⟨x, hx, hx2, gx⟩ := strN_ex s m (by omega)
      have Hx := hide hx
      clear hx
      have e1 : ((m + 1 : Nat) : Int) - 1 = (m : Int) := by omega
      rw [e1]
      by_cases hx10 : x = 10
      · have e2 : ((x : Int) == 10) = true := by simp; omega
        go_wp2
        go_ret
        refine ⟨m, rfl, rfl, by omega, by omega, ?_⟩
        rw [col_last (i := m) (by rw [unhide Hx, hx10]) (fun j y hj hy => unhide Hall j y (by omega) hy), strN_len]
        omega
      · have e2 := eqF (c := x) (k := 10) (by omega)
        go_wp2
        go_roundg m
        case measure => omega
        case rel =>
          refine ⟨m, by go_num, rfl, by omega, rfl, fun j y hj hy => ?_⟩
          by_cases hjm : j = m
          · subst hjm
            rw [unhide Hx] at hy
            obtain rfl := Option.some.inj hy
            exact hx10
          · exact unhide Hall j y (by omega) hy
    · obtain rfl : k = 0 := by omega
      go_wp2
      go_ret
      refine ⟨-1, rfl, rfl, by omega, by omega, ?_⟩
      rw [col_none (fun j y hy => unhide Hall j y (by omega) hy), strN_len]
      omega
set_option maxRecDepth 100000 in
theorem lastB_any (W : World) (s : ByteArray) (hs : s.size ≤ 65536) :
    Calls Try.prog 14 #[.string s, .int .u8 10] W fun e w => ∃ r : Int, e = .returned (.int .i64 r) ∧ w = W ∧ -1 ≤ r ∧ r < s.size ∧ (colOf (strN s) : Int) = s.size - r := by
  go_enter Try.func14, Try.ntmps14
  go_wp2_with fail
  refine (last_any W s hs).mono ?_
  rintro e w' ⟨r, rfl, he, h1, h2, h3⟩
  obtain rfl : W = w' := he.symm
  have H3 := hide h3
  clear h3
  go_wp2
  go_ret
  exact ⟨r, rfl, rfl, h1, h2, unhide H3⟩

/-- What Line answers. -/
inductive LineU (s : ByteArray) (p : Int) : Int → Int → Int → Prop
  | long (h : 65536 < s.size) : LineU s p 0 0 2
  | place (h : s.size ≤ 65536) (hp : p < 0 ∨ (s.size : Int) < p) : LineU s p 0 0 46
  | ok (h : s.size ≤ 65536) (n : Nat) (hn : n ≤ s.size) (hp : p = (n : Int)) : LineU s p (lineOf ((strN s).take n) : Int) (colOf ((strN s).take n) : Int) 0
theorem LineU.same {s : ByteArray} {p a b c x y z : Int} (h : LineU s p a b c) (k : LineU s p x y z) : a = x ∧ b = y ∧ c = z := by
  cases h with
  | long h => cases k with
    | long k => exact ⟨rfl, rfl, rfl⟩
    | place k _ => omega
    | ok k n hn hp => omega
  | place h hp => cases k with
    | long k => omega
    | place k _ => exact ⟨rfl, rfl, rfl⟩
    | ok k n hn hp => omega
  | ok h n hn hp => cases k with
    | long k => omega
    | place k _ => omega
    | ok k m hm hm2 =>
      obtain rfl : n = m := by omega
      exact ⟨rfl, rfl, rfl⟩
theorem count_le (l : List Nat) (n : Nat) : (l.take n).count 10 ≤ l.length := Nat.le_trans List.count_le_length (by rw [List.length_take]; omega)
set_option maxRecDepth 100000 in
set_option maxHeartbeats 1000000 in
theorem line_any (W : World) (s : ByteArray) (p : Int) (hp1 : -9223372036854775808 ≤ p) (hp2 : p ≤ 9223372036854775807) :
    Calls Try.prog 7 #[.string s, .int .i64 p] W fun e w => ∃ a b c : Int, e = .returned (.tuple #[.int .i64 a, .int .i64 b, .int .i64 c]) ∧ w = W ∧ LineU s p a b c := by
  by_cases h0 : s.size ≤ 65536
  · have e0 := ltF (a := s.size) (k := 65536) (by omega)
    by_cases h1 : p < 0
    · go_enter Try.func7, Try.ntmps7
      go_wp2
      go_ret3
      exact ⟨_, _, _, rfl, rfl, .place h0 (.inl h1)⟩
    · by_cases h2 : (s.size : Int) < p
      · go_enter Try.func7, Try.ntmps7
        go_wp2
        go_ret3
        exact ⟨_, _, _, rfl, rfl, .place h0 (.inr h2)⟩
      · obtain ⟨n, rfl⟩ : ∃ n : Nat, p = (n : Int) := ⟨p.toNat, by omega⟩
        have hn : n ≤ s.size := by omega
        clear h1 h2
        have hx := strN_extract s n
        have hxs : (s.extract 0 n).size = n := by rw [← strN_len, hx, List.length_take, strN_len]; omega
        have hc := count_le (strN s) n
        rw [strN_len] at hc
        have ef : decide ((n : Int) < 0) = false := by simp
        have ef2 : decide ((s.size : Int) < (n : Int)) = false := by simp; omega
        go_enter Try.func7, Try.ntmps7
        go_wp2_with fail
        generalize s.extract 0 n = t at *
        refine (count_any W t).mono ?_
        rintro e w' ⟨rfl, he⟩
        obtain rfl : W = w' := he.symm
        rw [hx]
        have Hx := hide hx
        clear hx
        obtain ⟨c, hcd⟩ : ∃ c, c = ((strN s).take n).count 10 := ⟨_, rfl⟩
        rw [← hcd] at hc ⊢
        have Hcd := hide hcd
        clear hcd
        go_wp2_with fail
        refine (lastB_any W t (by omega)).mono ?_
        rintro e w' ⟨r, rfl, he, r1, r2, r3⟩
        obtain rfl : W = w' := he.symm
        rw [hxs] at r2 r3
        rw [unhide Hx] at r3
        have H3 := hide r3
        clear r3 hxs
        go_wp2
        go_ret3
        refine ⟨_, _, _, rfl, rfl, ?_⟩
        have := LineU.ok h0 n hn rfl
        have e1 : (lineOf ((strN s).take n) : Int) = 1 + (c : Int) := by unfold lineOf; rw [← unhide Hcd]; omega
        rw [e1, unhide H3] at this
        exact this
  · have e0 := ltT (a := s.size) (k := 65536) (by omega)
    go_enter Try.func7, Try.ntmps7
    go_wp2
    go_ret3
    exact ⟨_, _, _, rfl, rfl, .long (by omega)⟩
theorem colOf_le (l : List Nat) : colOf l ≤ l.length + 1 := by
  unfold colOf
  have : ∀ (l : List Nat) (c : Nat), 1 ≤ c → l.foldl colF c ≤ l.length + c := by
    intro l
    induction l with
    | nil => intro c _; simp
    | cons x r ih =>
      intro c hc
      have := ih (colF c x) (by unfold colF; split <;> omega)
      rw [List.foldl_cons, List.length_cons]
      unfold colF at this ⊢
      split at this <;> split <;> omega
  exact this l 1 (by omega)
set_option maxRecDepth 100000 in
set_option maxHeartbeats 1000000 in
theorem xline_any (W : World) (s : ByteArray) (p : Int) (hp1 : -9223372036854775808 ≤ p) (hp2 : p ≤ 9223372036854775807) :
    Calls Try.prog 8 #[.string s, .int .i64 p] W fun e w => ∃ a b c : Int, e = .returned (.tuple #[.int .i64 a, .int .i64 b, .int .i64 c]) ∧ w = W ∧ LineU s p a b c := by
  by_cases h0 : s.size ≤ 65536
  · have e0 := ltF (a := s.size) (k := 65536) (by omega)
    by_cases h1 : p < 0
    · go_enter Try.func8, Try.ntmps8
      go_wp2
      go_ret3
      exact ⟨_, _, _, rfl, rfl, .place h0 (.inl h1)⟩
    · by_cases h2 : (s.size : Int) < p
      · go_enter Try.func8, Try.ntmps8
        go_wp2
        go_ret3
        exact ⟨_, _, _, rfl, rfl, .place h0 (.inr h2)⟩
      · obtain ⟨n, rfl⟩ : ∃ n : Nat, p = (n : Int) := ⟨p.toNat, by omega⟩
        have hn : n ≤ s.size := by omega
        clear h1 h2
        have ef : decide ((n : Int) < 0) = false := by simp
        have ef2 : decide ((s.size : Int) < (n : Int)) = false := by simp; omega
        go_enter Try.func8, Try.ntmps8
        go_wp2
        go_loopg [7, 8, 9] n (fun gk v7 v8 v9 wr => ∃ (k ln cl : Nat), v7 = .int .i64 (ln : Int) ∧ v8 = .int .i64 (cl : Int) ∧ v9 = .int .i64 (k : Int) ∧ gk = n - k ∧ k ≤ n ∧ ln ≤ k + 1 ∧ cl ≤ k + 1 ∧ wr = W ∧ ln = lineOf ((strN s).take k) ∧ cl = colOf ((strN s).take k))
        case atStart => exact ⟨0, 1, 1, rfl, rfl, rfl, rfl, by omega, by omega, by omega, rfl, rfl, rfl⟩
        case round =>
          obtain ⟨k, ln, cl, rfl, rfl, rfl, hgk, hk, b1, b2, rfl, hl, hcl⟩ := hrel
          have Hgk := hide hgk
          have Hl := hide hl
          have Hc := hide hcl
          clear hgk hl hcl
          by_cases hlt : k < n
          · obtain ⟨x, hx, hx2, gx⟩ := strN_ex s k (by omega)
            have ht : (strN s).take (k + 1) = (strN s).take k ++ [x] := by rw [List.take_add_one, hx]; rfl
            have Ht := hide ht
            clear hx ht
            by_cases hx10 : x = 10
            · have e2 : ((x : Int) == 10) = true := by simp; omega
              have gx' : s[k].toNat = 10 := gx.trans hx10
              go_wp2
              go_roundg (n - (k + 1))
              case measure => have := unhide Hgk; omega
              case rel =>
                refine ⟨k + 1, ln + 1, 1, by go_num, rfl, by go_num, rfl, by omega, by omega, by omega, rfl, ?_, ?_⟩
                · rw [unhide Ht, line_snoc, if_pos hx10, unhide Hl]
                · rw [unhide Ht, col_snoc, if_pos hx10]
            · have e2 := eqF (c := x) (k := 10) (by omega)
              go_wp2
              go_roundg (n - (k + 1))
              case measure => have := unhide Hgk; omega
              case rel =>
                refine ⟨k + 1, ln, cl + 1, rfl, by go_num, by go_num, rfl, by omega, by omega, by omega, rfl, ?_, ?_⟩
                · rw [unhide Ht, line_snoc, if_neg hx10, unhide Hl]
                · rw [unhide Ht, col_snoc, if_neg hx10, unhide Hc]
          · obtain rfl : k = n := by omega
            go_wp2
            go_ret3
            refine ⟨_, _, _, rfl, rfl, ?_⟩
            have := LineU.ok h0 k hn rfl
            rw [← unhide Hl, ← unhide Hc] at this
            exact this
  · have e0 := ltT (a := s.size) (k := 65536) (by omega)
    go_enter Try.func8, Try.ntmps8
    go_wp2
    go_ret3
    exact ⟨_, _, _, rfl, rfl, .long (by omega)⟩
end Go.Proofs.Ytokiplfdhoealaa
