import Derived.Test.YthodjkeppobcmaaDoorLH
import Derived.Test.YthodjkeppobcmaaDoorKZ
import Derived.Outline

namespace Go.Proofs.YthodjkeppobcmaaDoor
open Go.RowKit Go.Lib
attribute [local go_sem ↓] Go.wp_at_zero Go.wp_at_succ

/-- Bytes written on bytes of the caller's. -/
def PutB (base : Nat) (W : World) (v : Value) (xs ys : List Nat) (e : Ending) (W' : World) : Prop := ∃ v', e = .returned v' ∧ Bytes base W' v' (xs ++ ys) ∧ Ext W v W' v'
set_option maxRecDepth 100000 in
set_option maxHeartbeats 2000000 in
theorem ktoken_any {W : World} {base : Nat} {v : Value} {xs : List Nat} (h : Bytes base W v xs) (hb : base ≤ W.heap.size) (x : ByteArray) (hl : xs.length + x.size ≤ 1073741824) : Calls Tryd.prog 22 #[v, .string x] W (PutB base W v xs (strN x)) := by
  obtain ⟨i0, hi, hz0, hz1, hz2⟩ := info_parts Tryd.infoByte
  obtain ⟨va, vc, rfl⟩ := slice_of h
  have HY := hide h
  have HL := hide (strN_len x)
  clear h
  go_enter Tryd.func22, Tryd.ntmps22
  go_wp2
  go_loopg [0, 5] x.size (fun gk v0 v5 wr => ∃ k : Nat, v5 = .int .i64 (k : Int) ∧ gk = x.size - k ∧ k ≤ x.size ∧ Hid (Bytes base wr v0 (xs ++ (strN x).take k)) ∧ Hid (Ext W (.slice va xs.length vc) wr v0))
  case atStart => exact ⟨0, rfl, rfl, by omega, by rw [List.take_zero, List.append_nil]; exact HY, Ext.refl _ _⟩
  case round =>
    obtain ⟨k, rfl, hgk, hk, HB, HE⟩ := hrel
    have Hgk := hide hgk
    have k0 : (0 : Int) ≤ (k : Int) := Int.natCast_nonneg _
    obtain ⟨a2, c2, rfl⟩ := slice_of (unhide HB)
    have hlen : (xs ++ (strN x).take k).length = xs.length + k := by rw [List.length_append, List.length_take, unhide HL]; omega
    obtain ⟨n2, hn2⟩ : ∃ n, (xs ++ (strN x).take k).length = n := ⟨_, rfl⟩
    clear hgk
    by_cases hlt : k < x.size
    · obtain ⟨gx, hx⟩ := bt_str x k hlt
      have i1 : (k : Int) < (x.size : Int) := by omega
      obtain ⟨y, hy⟩ : ∃ y, bt (strN x) k = y := ⟨_, rfl⟩
      rw [hy] at gx
      have Hy := hide hy
      have o1 : (xs ++ (strN x).take k).length + 1 ≤ maxLen := by unfold maxLen; omega
      have o2 : ((xs ++ (strN x).take k).length + 1) * 1 ≤ 140737488355328 := by omega
      have hbz : base ≤ wr.heap.size := Nat.le_trans hb (unhide HE).size
      have O1 := hide o1
      have O2 := hide o2
      have Hn2 := hide hn2
      have HO := hide (unhide HB)
      unfold Bytes at HO
      rw [hn2] at HO O1 O2 HB HE ⊢
      clear hx hy o1 o2 hlen hn2
      go_wp2_with (at_builtin; refine wpList_append_own_at _ rfl _ _ 31 rfl base 5 i0 (.int .u8 0) 1 1 Tryd.underlying31 hi hz0 hz1 hz2 rfl (by decide) _ _ _ rfl ((unhide HO).alloc _) ⟨wr.heap.size, 0, none⟩ 1 1 [.int .u8 (y : Int)] rfl rfl (cells_lit _ _ _) (by simp [Value.oneCell']) (unhide O1) (unhide O2) (by rw [World.size_alloc]; omega) ?_; intro v4 w4 hown4 hgrow4 _ hat4; have HP := hide (show w4.ownsRow base 5 1 v4 (n2 + 1) (nb (xs ++ (strN x).take k) ++ [.int .u8 (y : Int)]) ∧ Ext wr (.slice a2 n2 c2) w4 v4 from ⟨hown4, Ext.grown hgrow4 hat4⟩); clear hown4 hgrow4 hat4)
      go_roundg (x.size - (k + 1))
      case measure => have := unhide Hgk; omega
      case rel =>
        have hs : (strN x).take (k + 1) = (strN x).take k ++ [y] := by
          rw [List.take_add_one, at_bt (by rw [unhide HL]; exact hlt), unhide Hy]
          rfl
        refine ⟨k + 1, by go_num, rfl, by omega, ?_, Ext.trans (unhide HE) (unhide HP).2⟩
        show Bytes _ _ _ _
        rw [hs, ← List.append_assoc]
        unfold Bytes
        rw [nb_append, List.length_append, unhide Hn2]
        exact (unhide HP).1
    · have hk2 : k = x.size := by omega
      have HB2 : Hid (Bytes base wr (.slice a2 (xs ++ (strN x).take k).length c2) (xs ++ strN x)) := by
        have := unhide HB
        show Bytes _ _ _ _
        rw [hk2, ← unhide HL, List.take_length] at this ⊢
        exact this
      have i1 : decide ((k : Int) < (x.size : Int)) = false := by simp; omega
      rw [hn2] at HB2 HE ⊢
      clear hlen hn2 HB hk2
      go_wp2
      go_ret
      exact ⟨_, rfl, unhide HB2, unhide HE⟩
end Go.Proofs.YthodjkeppobcmaaDoor

namespace Go.Proofs.YthodjkeppobcmaaDoor
open Go.RowKit Go.Lib
attribute [local go_sem ↓] Go.wp_at_zero Go.wp_at_succ

def PutT (s : ByteArray) (w0 : World) (d : NdV) (b : List Nat) : Prop := ∀ (W : World) (v : Value) (xs : List Nat), Below w0.heap.size w0 W → Bytes w0.heap.size W v xs → xs.length + b.length ≤ 1073741824 → Calls Tryd.prog 11 #[v, .string s, d.val] W (PutB w0.heap.size W v xs b)
set_option maxRecDepth 100000 in
set_option maxHeartbeats 2000000 in
theorem tight_leaf {s : ByteArray} {w0 : World} (k a e : Nat) (x : ByteArray) (an ai : Option Addr) (nn cn ni ci : Nat) (h1 : k ≠ 1) (h2 : k ≠ 2) (h3 : a ≤ e) (h4 : e ≤ s.size) : PutT s w0 ⟨k, a, e, x, .slice an nn cn, .slice ai ni ci⟩ (((strN s).drop a).take (e - a)) := by
  intro W v xs hb hy hl
  have hsz : (s.extract a e).size = e - a := extract_size _ _ _ h4
  have hst : strN (s.extract a e) = ((strN s).drop a).take (e - a) := by
    unfold strN
    rw [Lib.extract_data]
    simp [List.map_take, List.map_drop]
  have hlt : (((strN s).drop a).take (e - a)).length = e - a := by rw [← hst, strN_len, hsz]
  obtain ⟨va, vc, rfl⟩ := slice_of hy
  have hbA : Below W.heap.size W (W.alloc (.cells #[.int .i64 (k : Int), .int .i64 (a : Int), .int .i64 (e : Int), .string x, .slice an nn cn, .slice ai ni ci] 43)) := (Below.refl _ _).alloc (Nat.le_refl _) _
  have hy1 : Bytes w0.heap.size (W.alloc (.cells #[.int .i64 (k : Int), .int .i64 (a : Int), .int .i64 (e : Int), .string x, .slice an nn cn, .slice ai ni ci] 43)) (.slice va xs.length vc) xs := World.ownsRow.alloc hy _
  have HC := hide (ktoken_any hy1 (Nat.le_trans hb.size hbA.size) (s.extract a e) (by rw [hsz]; omega))
  rw [hst] at HC
  have q1 : ((k : Int) == 1) = false := by simp; omega
  have q2 : ((k : Int) == 2) = false := by simp; omega
  have q1' : ((k : Int) != 1) = true := by simp; omega
  have q2' : ((k : Int) != 2) = true := by simp; omega
  have i1 : (a : Int) ≤ (e : Int) := by omega
  have i2 : (e : Int) ≤ (s.size : Int) := by omega
  have a0 : (0 : Int) ≤ (a : Int) := Int.natCast_nonneg _
  have HE := hide (Ext.of_below hbA (.slice va xs.length vc))
  clear hbA hy1 hst hlt hsz hb hy
  unfold NdV.val
  simp only
  go_enter Tryd.func11, Tryd.ntmps11
  go_wp2_with fail
  refine (unhide HC).mono ?_
  rintro eo w2 ⟨v2, rfl, hB2, hE2⟩
  obtain ⟨a2, c2, rfl⟩ := slice_of hB2
  have HF := hide (show PutB w0.heap.size W (.slice va xs.length vc) xs (((strN s).drop a).take (e - a)) (.returned (.slice a2 (xs ++ ((strN s).drop a).take (e - a)).length c2)) w2 from ⟨_, rfl, hB2, (unhide HE).trans hE2⟩)
  obtain ⟨n2, hn2⟩ : ∃ n2, (xs ++ ((strN s).drop a).take (e - a)).length = n2 := ⟨_, rfl⟩
  rw [hn2] at HF ⊢
  clear hn2 hB2 hE2 HC HE
  go_wp2
  go_ret
  exact unhide HF
theorem itB_len (L : List Nat) (k : Nat) (i : It) : i.b.length ≤ (itB L k i).length := by
  unfold itB
  split
  · simp; omega
  · omega
theorem jn_take {xs : List (List Nat)} {i : Nat} {x : List Nat} (h : xs[i]? = some x) : jn (xs.take (i + 1)) = if i = 0 then x else jn (xs.take i) ++ 44 :: x := by
  rw [List.take_add_one, h]
  show jn (xs.take i ++ [x]) = _
  rw [jn_snoc]
  cases i with
  | zero => simp
  | succ i =>
    have hl := (List.getElem?_eq_some_iff.1 h).1
    rw [if_neg (by intro e; have := congrArg List.length e; rw [List.length_take, List.length_nil] at this; omega), if_neg (by omega)]
theorem jn_mono {xs : List (List Nat)} {i : Nat} : (jn (xs.take i)).length ≤ (jn xs).length := by
  have key : ∀ l r : List (List Nat), (jn l).length ≤ (jn (l ++ r)).length := fun l r => by
    cases l with
    | nil => simp [jn]
    | cons x l =>
      show _ ≤ (jn (x :: (l ++ r))).length
      simp only [jn, List.map_append, List.flatten_append, List.length_append]
      omega
  conv => rhs; rw [← List.take_append_drop i xs]
  exact key _ _
end Go.Proofs.YthodjkeppobcmaaDoor
