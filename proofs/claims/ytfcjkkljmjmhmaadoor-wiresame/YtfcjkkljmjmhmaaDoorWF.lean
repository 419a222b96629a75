import Derived.Test.YtfcjkkljmjmhmaaDoorWN
namespace Go.Proofs.YtfcjkkljmjmhmaaDoor
open Go.RowKit
attribute [local go_sem ↓] Go.wp_at_zero Go.wp_at_succ

/-- The lowest bytes of a number. -/
def lows (x : Int) (n : Nat) : List Int := (List.range n).map fun i => x / 2 ^ (8 * i) % 256

set_option maxRecDepth 100000 in
set_option maxHeartbeats 2000000 in
theorem putFixed_any {W : World} {base : Nat} {v : Value} {bs : List Int} (h : Bytes base W v bs) (hb : base ≤ W.heap.size) (hl : bs.length ≤ 1099511627776) (x : Int) (n : Nat) (hn : n ≤ 8) :
    Calls Tryd.prog 58 #[v, .int .i64 x, .int .i64 (n : Int)] W fun e W' => ∃ v', e = .returned v' ∧ Bytes base W' v' (bs ++ lows x n) ∧ Ext W v W' v' := by
  obtain ⟨i0, hi, hz0, hz1, hz2⟩ := info_parts Tryd.infoByte
  go_enter Tryd.func58, Tryd.ntmps58
  go_wp2
  go_loopg [0, 9] n (fun gk v0 v9 wr => ∃ (i : Nat), v9 = .int .i64 (i : Int) ∧ gk = n - i ∧ i ≤ n ∧ Bytes base wr v0 (bs ++ lows x i) ∧ Ext W v wr v0)
  case atStart => exact ⟨0, rfl, rfl, Nat.zero_le _, by simpa [lows] using h, Ext.refl _ _⟩
  case round =>
    obtain ⟨i, rfl, hgk, hin, hB, hE⟩ := hrel
    have hL : (bs ++ lows x i).length ≤ 1099511627786 := by rw [List.length_append]; simp [lows]; omega
    have Hgk := hide hgk
    clear hgk
    by_cases hlt : i < n
    · have hi1 : (i : Int) < (n : Int) := by omega
      have hi0 : (0 : Int) ≤ (i : Int) := Int.natCast_nonneg _
      unfold Bytes at hB
      go_wp2_with (at_builtin; refine wpList_append_own_at _ rfl _ _ 23 rfl base 5 i0 (.int .u8 0) 1 1 Tryd.underlying23 hi hz0 hz1 hz2 rfl (by decide) _ _ _ rfl (hB.alloc _) ⟨wr.heap.size, 0, none⟩ 1 1 [.int .u8 (x / 2 ^ (8 * i) % 256)] rfl rfl (cell_one_new _ _ _) (by simp [Value.oneCell']) (by unfold maxLen; omega) (by omega) (by have := hE.size; simp; omega) ?_; intro v4 w4 hown4 hgrow4 _ hat4; have Hown := hide hown4; have Hgrow := hide hgrow4; have Hat := hide hat4; clear hown4 hgrow4 hat4)
      go_roundg (n - (i + 1))
      case measure => have := unhide Hgk; omega
      case rel =>
        refine ⟨i + 1, by go_num, rfl, by omega, ?_, hE.trans (Ext.grown (unhide Hgrow) (unhide Hat))⟩
        have := unhide Hown
        have e : lows x (i + 1) = lows x i ++ [x / 2 ^ (8 * i) % 256] := by simp [lows, List.range_succ]
        unfold Bytes
        rw [e]
        simpa [List.append_assoc, Nat.add_assoc] using this
    · obtain rfl : i = n := by omega
      go_wp2
      go_ret
      exact ⟨_, rfl, hB, hE⟩

theorem bytes_nil (base : Nat) (W : World) : Bytes base W (.slice none 0 0) [] := ⟨rfl, .inl ⟨rfl, rfl⟩⟩
theorem Ext.fresh {A B : World} {y : Value} (h : Ext A (.slice none 0 0) B y) : Below A.heap.size A B := h.below (Nat.le_refl _) (fun b e => by cases e)

set_option maxHeartbeats 2000000 in
theorem varint_any (W : World) (x : Int) (u : Nat) (hu : IntKind.u64.wrap x = (u : Int)) (hu2 : u < 18446744073709551616) :
    Calls Tryd.prog 11 #[.int .i64 x] W fun e W' => ∃ v', e = .returned v' ∧ Bytes W.heap.size W' v' (vint u) ∧ Below W.heap.size W W' := by
  go_enter Tryd.func11, Tryd.ntmps11
  go_wp2_with fail
  refine (putVarint_any (bytes_nil W.heap.size W) (Nat.le_refl _) (by simp) x u hu hu2).mono ?_
  rintro e W' ⟨v', rfl, hB, hE⟩
  go_wp2
  go_ret
  exact ⟨_, rfl, by simpa using hB, hE.fresh⟩

set_option maxHeartbeats 2000000 in
theorem fixed_any (W : World) (x : Int) (n : Nat) (hn : n = 4 ∧ 0 ≤ x ∧ x ≤ 4294967295 ∨ n = 8) :
    Calls Tryd.prog 26 #[.int .i64 x, .int .i64 (n : Int)] W fun e W' => ∃ v', e = .returned (.tuple #[v', .int .i64 0]) ∧ Bytes W.heap.size W' v' (lows x n) ∧ Below W.heap.size W W' := by
  rcases hn with ⟨rfl, h1, h2⟩ | rfl
  · go_enter Tryd.func26, Tryd.ntmps26
    go_wp2_with fail
    refine (word_any W x).mono ?_
    rintro e w' ⟨rfl, he⟩
    obtain rfl : W = w' := he.symm
    go_wp2_with fail
    refine (putFixed_any (bytes_nil W.heap.size W) (Nat.le_refl _) (by simp) x 4 (by decide)).mono ?_
    rintro e W' ⟨v', rfl, hB, hE⟩
    go_wp2
    go_ret2
    exact ⟨_, rfl, by simpa using hB, hE.fresh⟩
  · go_enter Tryd.func26, Tryd.ntmps26
    go_wp2_with fail
    refine (putFixed_any (bytes_nil W.heap.size W) (Nat.le_refl _) (by simp) x 8 (by decide)).mono ?_
    rintro e W' ⟨v', rfl, hB, hE⟩
    go_wp2
    go_ret2
    exact ⟨_, rfl, by simpa using hB, hE.fresh⟩

set_option maxHeartbeats 2000000 in
theorem tagW_any (W : World) (n k : Nat) (hn : 1 ≤ n ∧ n ≤ 536870911) (hk : k ≤ 5) :
    Calls Tryd.prog 10 #[.int .i64 (n : Int), .int .i64 (k : Int)] W fun e W' => ∃ v', e = .returned (.tuple #[v', .int .i64 0]) ∧ Bytes W.heap.size W' v' (vint (8 * n + k)) ∧ Below W.heap.size W W' := by
  go_enter Tryd.func10, Tryd.ntmps10
  go_wp2_with fail
  refine (tag_any W n k).mono ?_
  rintro e w' ⟨rfl, he⟩
  obtain rfl : W = w' := he.symm
  rw [if_neg (by omega), if_neg (by omega)]
  go_wp2_with fail
  refine (putTag_any (bytes_nil W.heap.size W) (Nat.le_refl _) (by simp) n k hn.2 (by omega)).mono ?_
  rintro e W' ⟨v', rfl, hB, hE⟩
  go_wp2
  go_ret2
  exact ⟨_, rfl, by simpa using hB, hE.fresh⟩

/-- Bytes that can be read. -/
def HasB (W : World) (v : Value) (bs : List Int) : Prop := ∃ a c, v = .slice a bs.length c ∧ bs.length ≤ maxLen ∧ (0 < bs.length → ∃ g off, a = some ⟨g, off, none⟩ ∧ g < W.heap.size ∧ ∀ i b, bs[i]? = some b → W.cell? ⟨g, off + i, none⟩ = some (.int .u8 b))
theorem Bytes.has {base : Nat} {W : World} {v : Value} {bs : List Int} (h : Bytes base W v bs) : HasB W v bs := by
  unfold Bytes at h
  have h' := h
  obtain ⟨_, ⟨rfl, h0⟩ | ⟨g, c, cur, rfl, _, _, hc1, hc2, _⟩⟩ := h
  · exact ⟨none, 0, by rw [h0], by rw [h0]; exact Nat.zero_le _, fun hp => by omega⟩
  · refine ⟨some ⟨g, 0, none⟩, c, rfl, by omega, fun _ => ⟨g, 0, rfl, (h'.lt g rfl).2, fun i b hb => ?_⟩⟩
    have := h'.cells (g := g) rfl i (.int .u8 b) (by simp [hb])
    rwa [Go.WideShapes.add_plain] at this
theorem HasB.up {W w : World} {v : Value} {bs : List Int} (h : HasB W v bs) (hb : Below W.heap.size W w) : HasB w v bs := by
  obtain ⟨a, c, rfl, hm, h3⟩ := h
  refine ⟨a, c, rfl, hm, fun hp => ?_⟩
  obtain ⟨g, off, rfl, h4, h5⟩ := h3 hp
  exact ⟨g, off, rfl, Nat.lt_of_lt_of_le h4 hb.size, fun i k hk => (hb.cell (p := ⟨g, off + i, none⟩) h4).trans (h5 i k hk)⟩

set_option maxRecDepth 100000 in
set_option maxHeartbeats 2000000 in
theorem same_any {W : World} {v u : Value} {l : List Int} (h : HasB W v l) (h' : HasB W u l) :
    Calls Tryd.prog 40 #[v, u] W fun o W' => o = .returned (.bool true) ∧ Below W.heap.size W W' := by
  obtain ⟨a, c, rfl, hm, h3⟩ := h
  obtain ⟨a', c', rfl, _, h3'⟩ := h'
  unfold maxLen at hm
  have H3 := hide h3
  have H3' := hide h3'
  clear h3 h3'
  have d0 : ((l.length : Int) != (l.length : Int)) = false := by simp
  go_enter Tryd.func40, Tryd.ntmps40
  go_wp2
  go_loopg [5] l.length (fun gk v5 wr => ∃ (i : Nat), v5 = .int .i64 (i : Int) ∧ gk = l.length - i ∧ i ≤ l.length ∧ Below W.heap.size W wr)
  case atStart => exact ⟨0, rfl, rfl, Nat.zero_le _, Below.refl _ _⟩
  case round =>
    obtain ⟨i, rfl, hgk, hin, hB⟩ := hrel
    have Hgk := hide hgk
    clear hgk
    by_cases hlt : i < l.length
    · obtain ⟨g, off, rfl, hg, hc⟩ := unhide H3 (by omega)
      obtain ⟨g', off', rfl, hg', hc'⟩ := unhide H3' (by omega)
      obtain ⟨x, hx⟩ : ∃ x, l[i]? = some x := ⟨_, List.getElem?_eq_getElem hlt⟩
      have c0 := (hB.cell (p := ⟨g, off + i, none⟩) hg).trans (hc i x hx)
      have c1 := (hB.cell (p := ⟨g', off' + i, none⟩) hg').trans (hc' i x hx)
      have hi0 : (0 : Int) ≤ (i : Int) := Int.natCast_nonneg _
      have hi1 : (i : Int) < (l.length : Int) := by omega
      have e1 : (x != x) = false := by simp
      clear hc hc' hx
      go_wp2_with fail
      go_quiet (fail)
      go_wp2
      go_roundg (l.length - (i + 1))
      case measure => have := unhide Hgk; omega
      case rel => exact ⟨i + 1, by go_num, rfl, by omega, ⟨hB.os, hB.tape, hB.output, hB.size, hB.block⟩⟩
    · obtain rfl : i = l.length := by omega
      go_wp2
      go_ret
      exact ⟨rfl, hB⟩
end Go.Proofs.YtfcjkkljmjmhmaaDoor
