import Derived.Test.YtaadpiimcaabkaaGreatDoorJ19

namespace Go.Proofs.YtaadpiimcaabkaaGreatDoor
open Go.RowKit
attribute [local go_sem ↓] Go.wp_at_zero Go.wp_at_succ

/-- A row of numbers. -/
def rowB (lo hi : Int) (r : Int × Int) : Bool := decide (lo ≤ r.1) && decide (r.1 ≤ r.2) && decide (r.2 ≤ hi)
/-- Two blocks that hold a number each. -/
def JRow (g h : Nat) (lo hi : Int) (_ : Unit) (w : World) : Prop := w.heap[g]? = some (.cells #[.int .i64 lo] 3 (0, 0)) ∧ w.heap[h]? = some (.cells #[.int .i64 hi] 3 (0, 0))
theorem stb_row (g h : Nat) (lo hi : Int) : Stb (JRow g h lo hi) := fun _ _ _ hj hg => ⟨(hg.block _ (Array.getElem?_eq_some_iff.1 hj.1).1 (by simp)).trans hj.1, (hg.block _ (Array.getElem?_eq_some_iff.1 hj.2).1 (by simp)).trans hj.2⟩
set_option maxRecDepth 100000 in
set_option maxHeartbeats 1000000 in
theorem row_1 {W : World} {g h : Nat} {lo hi : Int} (hj : JRow g h lo hi () W) (a b : Int) : Calls Tryz.prog 120 #[.agg #[.int .i64 a, .int .i64 b], .pointer (some ⟨g, 0, none⟩), .pointer (some ⟨h, 0, none⟩)] W fun e w => e = .returned (.bool (rowB lo hi (a, b))) ∧ W.grownBy w none := by
  have hn := heap_new W (.cells #[.int .i64 a, .int .i64 b] 111)
  have c0 : (W.alloc (.cells #[.int .i64 a, .int .i64 b] 111)).cell? ⟨W.heap.size, 0, none⟩ = some (.int .i64 a) := cell_of_row _ _ _ _ _ _ hn
  have c1 : (W.alloc (.cells #[.int .i64 a, .int .i64 b] 111)).cell? ⟨W.heap.size, 1, none⟩ = some (.int .i64 b) := cell_of_row _ _ _ _ _ _ hn
  have g0 : (W.alloc (.cells #[.int .i64 a, .int .i64 b] 111)).cell? ⟨g, 0, none⟩ = some (.int .i64 lo) := cell_of_row _ _ _ _ _ _ ((Below.heap_alloc _ _ _ (Array.getElem?_eq_some_iff.1 hj.1).1).trans hj.1)
  have h0 : (W.alloc (.cells #[.int .i64 a, .int .i64 b] 111)).cell? ⟨h, 0, none⟩ = some (.int .i64 hi) := cell_of_row _ _ _ _ _ _ ((Below.heap_alloc _ _ _ (Array.getElem?_eq_some_iff.1 hj.2).1).trans hj.2)
  have HG := hide (World.grownBy_alloc W (.cells #[.int .i64 a, .int .i64 b] 111) none)
  unfold rowB
  simp only
  clear hn hj
  obtain ⟨q1, h1⟩ : ∃ q, decide (lo ≤ a) = q := ⟨_, rfl⟩
  obtain ⟨q2, h2⟩ : ∃ q, decide (a ≤ b) = q := ⟨_, rfl⟩
  rw [h1, h2]
  cases q1 with
  | false =>
    clear h2
    go_enter Tryz.func120, Tryz.ntmps120
    go_wp2
    go_ret
    exact ⟨rfl, unhide HG⟩
  | true =>
    cases q2 with
    | false =>
      go_enter Tryz.func120, Tryz.ntmps120
      go_wp2
      go_ret
      exact ⟨rfl, unhide HG⟩
    | true =>
      go_enter Tryz.func120, Tryz.ntmps120
      go_wp2
      go_ret
      exact ⟨rfl, unhide HG⟩
set_option maxRecDepth 100000 in
theorem isRow_any (W : World) (lo hi : Int) : Calls Tryz.prog 74 #[.int .i64 lo, .int .i64 hi] W fun e w => e = .returned (.func (.func 120) #[] #[.pointer (some ⟨W.heap.size, 0, none⟩), .pointer (some ⟨W.heap.size + 1, 0, none⟩)]) ∧ w = (W.alloc (.cells #[.int .i64 lo] 3)).alloc (.cells #[.int .i64 hi] 3) := by
  go_enter Tryz.func74, Tryz.ntmps74
  go_wp2
  go_ret
  exact ⟨rfl, rfl⟩
/-- print.all of rows by what isRow made. -/
theorem all_row {W : World} {v : Value} {l : List (Int × Int)} {g h : Nat} {lo hi : Int} (hv : Rl W v l.length (rgC l)) (w0 : World) (hw : Below W.heap.size W w0) (hj : JRow g h lo hi () w0) :
    Calls Tryz.prog 73 #[v, .func (.func 120) #[] #[.pointer (some ⟨g, 0, none⟩), .pointer (some ⟨h, 0, none⟩)]] w0 fun e w => e = .returned (.bool (l.all (rowB lo hi))) ∧ Below w0.heap.size w0 w := by
  have hS : Says false W.heap.size W none (JRow g h lo hi) ⟨120, #[], #[.pointer (some ⟨g, 0, none⟩), .pointer (some ⟨h, 0, none⟩)]⟩ (elA 2 (rgC l)) l.length (fun i => yes (((l[i]?).map (rowB lo hi)).getD false)) := by
    intro i hi2 s w _ hjw
    obtain ⟨a, b, e1, y0, y1⟩ := el_2 (rgC_len l) hi2
    have hl := List.getElem?_eq_getElem hi2
    have z0 := (rgC_at hl (j := 0) (by decide)).symm.trans y0
    have z1 := (rgC_at hl (j := 1) (by decide)).symm.trans y1
    obtain rfl := Option.some.inj z0
    obtain rfl := Option.some.inj z1
    have e2 : ((l[i]?).map (rowB lo hi)).getD false = rowB lo hi l[i] := by rw [hl]; rfl
    simp only [e1, e2, yes_is, Bool.false_bne]
    show Calls Tryz.prog 120 #[.agg #[.int .i64 l[i].1, .int .i64 l[i].2], .pointer (some ⟨g, 0, none⟩), .pointer (some ⟨h, 0, none⟩)] w _
    refine (row_1 hjw l[i].1 l[i].2).mono ?_
    rintro e w' ⟨rfl, hg⟩
    exact ⟨rfl, fun _ _ => stb_row g h lo hi _ _ _ hjw hg, hg⟩
  have := allR_any hv (fun vs w => by kernel_rfl) hS (fun _ e => by cases e) (rgC_len l) w0 () hw hj (stb_row g h lo hi) (fun _ e => by cases e)
  refine this.mono ?_
  rintro e w ⟨rfl, _, hg⟩
  rw [allN_list (l := l) (q := rowB lo hi) (fun i x hx => by simp [hx]) rfl]
  exact ⟨rfl, hg.os, hg.tape, hg.output, hg.size, fun k hk => hg.block k hk (by simp)⟩
/-- A value of an enum. -/
noncomputable def valueB (v : ByteArray × Int) : Bool := wordB v.1 && !(v.1.toList == wOption.toList) && !(v.1.toList == wReserved.toList) && (decide (-2147483648 ≤ v.2) && decide (v.2 ≤ 2147483647))
set_option maxRecDepth 100000 in
set_option maxHeartbeats 1000000 in
theorem value_any (W : World) (s : ByteArray) (n : Int) : Calls Tryz.prog 79 #[.agg #[.string s, .int .i64 n]] W fun e w => e = .returned (.bool (valueB (s, n))) ∧ W.grownBy w none := by
  have hn := heap_new W (.cells #[.string s, .int .i64 n] 74)
  have c0 : (W.alloc (.cells #[.string s, .int .i64 n] 74)).cell? ⟨W.heap.size, 0, none⟩ = some (.string s) := cell_of_row _ _ _ _ _ _ hn
  have c1 : (W.alloc (.cells #[.string s, .int .i64 n] 74)).cell? ⟨W.heap.size, 1, none⟩ = some (.int .i64 n) := cell_of_row _ _ _ _ _ _ hn
  have HG := hide (World.grownBy_alloc W (.cells #[.string s, .int .i64 n] 74) none)
  have HW := hide (fun w => word_any w s)
  have HN := hide (fun w => within_any w n (-2147483648) 2147483647)
  unfold valueB
  simp only
  obtain ⟨q1, h1⟩ : ∃ q, wordB s = q := ⟨_, rfl⟩
  obtain ⟨q2, h2⟩ : ∃ q, (s.toList == [111, 112, 116, 105, 111, 110]) = q := ⟨_, rfl⟩
  obtain ⟨q3, h3⟩ : ∃ q, (s.toList == [114, 101, 115, 101, 114, 118, 101, 100]) = q := ⟨_, rfl⟩
  obtain ⟨q4, h4⟩ : ∃ q, (decide (-2147483648 ≤ n) && decide (n ≤ 2147483647)) = q := ⟨_, rfl⟩
  have e2 : (s.toList == wOption.toList) = q2 := by rw [← h2, toList_data wOption]; rfl
  have e3 : (s.toList == wReserved.toList) = q3 := by rw [← h3, toList_data wReserved]; rfl
  rw [h1] at HW ⊢
  rw [h4] at HN ⊢
  rw [e2, e3]
  clear h1 h4 e2 e3 hn
  go_enter Tryz.func79, Tryz.ntmps79
  go_wp2_with fail
  refine (unhide HW _).mono ?_
  rintro e w ⟨rfl, rfl⟩
  cases q1 with
  | false =>
    go_wp2
    go_ret
    exact ⟨rfl, unhide HG⟩
  | true =>
  cases q2 with
  | true =>
    go_wp2
    go_ret
    exact ⟨rfl, unhide HG⟩
  | false =>
  cases q3 with
  | true =>
    go_wp2
    go_ret
    exact ⟨rfl, unhide HG⟩
  | false =>
  go_wp2_with fail
  refine (unhide HN _).mono ?_
  rintro e w' ⟨rfl, rfl⟩
  go_wp2
  go_ret
  exact ⟨rfl, unhide HG⟩
theorem all_val {W : World} {v : Value} {l : List (ByteArray × Int)} (hv : Rl W v l.length (evC l)) (w0 : World) (hw : Below W.heap.size W w0) :
    Calls Tryz.prog 78 #[v, .func (.func 79) #[] #[]] w0 fun e w => e = .returned (.bool (l.all valueB)) ∧ Below w0.heap.size w0 w := by
  have hS : Says false W.heap.size W none NoJ ⟨79, #[], #[]⟩ (elA 2 (evC l)) l.length (fun i => yes (((l[i]?).map valueB).getD false)) := by
    intro i hi2 s w _ _
    obtain ⟨a, b, e1, y0, y1⟩ := el_2 (evC_len l) hi2
    have hl := List.getElem?_eq_getElem hi2
    have z0 := (evC_at hl (j := 0) (by decide)).symm.trans y0
    have z1 := (evC_at hl (j := 1) (by decide)).symm.trans y1
    obtain rfl := Option.some.inj z0
    obtain rfl := Option.some.inj z1
    have e2 : ((l[i]?).map valueB).getD false = valueB l[i] := by rw [hl]; rfl
    simp only [e1, e2, yes_is, Bool.false_bne]
    show Calls Tryz.prog 79 #[.agg #[.string l[i].1, .int .i64 l[i].2]] w _
    refine (value_any w l[i].1 l[i].2).mono ?_
    rintro e w' ⟨rfl, hg⟩
    exact ⟨rfl, fun _ _ => trivial, hg⟩
  have := allV_any hv (fun vs w => by kernel_rfl) hS (fun _ e => by cases e) (evC_len l) w0 () hw trivial stb_no (fun _ e => by cases e)
  refine this.mono ?_
  rintro e w ⟨rfl, _, hg⟩
  rw [allN_list (l := l) (q := valueB) (fun i x hx => by simp [hx]) rfl]
  exact ⟨rfl, hg.os, hg.tape, hg.output, hg.size, fun k hk => hg.block k hk (by simp)⟩
end Go.Proofs.YtaadpiimcaabkaaGreatDoor

namespace Go.Proofs.YtaadpiimcaabkaaGreatDoor
open Go.RowKit
attribute [local go_sem ↓] Go.wp_at_zero Go.wp_at_succ

theorem all_fld {W : World} (hM : HasM W) {v : Value} {l : List Fd} (hv : Rl W v l.length (fldC l)) (hsz : ∀ d ∈ l, d.ty.size ≤ 281474976710656) (w0 : World) (hw : Below W.heap.size W w0) :
    Calls Tryz.prog 70 #[v, .func (.func 71) #[] #[]] w0 fun e w => e = .returned (.bool (l.all fieldB)) ∧ Below w0.heap.size w0 w := by
  have hS : Says false W.heap.size W none NoJ ⟨71, #[], #[]⟩ (elA 6 (fldC l)) l.length (fun i => yes (((l[i]?).map fieldB).getD false)) := by
    intro i hi2 s w hb _
    obtain ⟨a0, a1, a2, a3, a4, a5, e1, y0, y1, y2, y3, y4, y5⟩ := el_6 (fldC_len l) hi2
    have hl := List.getElem?_eq_getElem hi2
    obtain rfl := Option.some.inj ((fldC_at hl (j := 0) (by decide)).symm.trans y0)
    obtain rfl := Option.some.inj ((fldC_at hl (j := 1) (by decide)).symm.trans y1)
    obtain rfl := Option.some.inj ((fldC_at hl (j := 2) (by decide)).symm.trans y2)
    obtain rfl := Option.some.inj ((fldC_at hl (j := 3) (by decide)).symm.trans y3)
    obtain rfl := Option.some.inj ((fldC_at hl (j := 4) (by decide)).symm.trans y4)
    obtain rfl := Option.some.inj ((fldC_at hl (j := 5) (by decide)).symm.trans y5)
    have e2 : ((l[i]?).map fieldB).getD false = fieldB l[i] := by rw [hl]; rfl
    simp only [e1, e2, yes_is, Bool.false_bne]
    show Calls Tryz.prog 71 #[.agg (Fd.cs l[i]).toArray] w _
    refine (field_any (hM.up hb hM.1) l[i] (hsz _ (List.getElem_mem hi2))).mono ?_
    rintro e w' ⟨rfl, hg⟩
    exact ⟨rfl, fun _ _ => trivial, hg.os, hg.tape, hg.output, hg.size, fun k hk _ => hg.block k hk⟩
  have := allF_any hv (fun vs w => by kernel_rfl) hS (fun _ e => by cases e) (fldC_len l) w0 () hw trivial stb_no (fun _ e => by cases e)
  refine this.mono ?_
  rintro e w ⟨rfl, _, hg⟩
  rw [allN_list (l := l) (q := fieldB) (fun i x hx => by simp [hx]) rfl]
  exact ⟨rfl, hg.os, hg.tape, hg.output, hg.size, fun k hk => hg.block k hk (by simp)⟩
/-- How many oneofs begin; none: they don't stand in a row. -/
def onG : List Fd → Int → Int → Option Int
  | [], _, b => some b
  | d :: r, h, b => if d.oneof ≠ 0 ∧ d.oneof ≠ h then (if d.oneof ≠ b + 1 then none else onG r d.oneof (b + 1)) else onG r d.oneof b
def onB (l : List Fd) (n : Int) : Bool := match onG l 0 0 with
  | none => false
  | some b => b == n
theorem onG_le : ∀ (l : List Fd) (h b : Int) (r : Int), onG l h b = some r → b ≤ r ∧ r ≤ b + l.length
  | [], h, b, r, e => by obtain rfl := Option.some.inj e; simp
  | d :: l, h, b, r, e => by
    unfold onG at e
    rw [List.length_cons]
    split at e
    · split at e
      · cases e
      · have := onG_le l _ _ _ e; omega
    · have := onG_le l _ _ _ e; omega
theorem onG_step {l : List Fd} {i : Nat} {d : Fd} (h : l[i]? = some d) (hh b : Int) : onG (l.drop i) hh b = if d.oneof ≠ 0 ∧ d.oneof ≠ hh then (if d.oneof ≠ b + 1 then none else onG (l.drop (i + 1)) d.oneof (b + 1)) else onG (l.drop (i + 1)) d.oneof b := by
  obtain ⟨hi, rfl⟩ := List.getElem?_eq_some_iff.1 h
  rw [List.drop_eq_getElem_cons hi]
  rfl
theorem below_al {n : Nat} {A w : World} (h : Below n A w) (hn : n ≤ w.heap.size) (o : Obj) : Below n A (w.alloc o) := h.alloc hn o
set_option maxRecDepth 100000 in
set_option maxHeartbeats 2000000 in
theorem inOneofs_any {W : World} {v : Value} {l : List Fd} (hv : Rl W v l.length (fldC l)) (n : Nat) (w0 : World) (hw : Below W.heap.size W w0) : Calls Tryz.prog 72 #[v, .int .i64 (n : Int)] w0 fun e w => e = .returned (.bool (onB l n)) ∧ Below w0.heap.size w0 w := by
  obtain ⟨a, c, rfl, hn, h2⟩ := hv
  have H2 := hide h2
  have HW := hide hw
  clear h2 hw
  go_enter Tryz.func72, Tryz.ntmps72
  go_wp2
  go_loopg [5, 6, 8, 11] l.length (fun gk v5 v6 _ v11 wr => ∃ (i : Nat) (hh b : Int), v5 = .int .i64 hh ∧ v6 = .int .i64 b ∧ v11 = .int .i64 (i : Int) ∧ gk = l.length - i ∧ i ≤ l.length ∧ (0 ≤ b ∧ b ≤ (i : Int)) ∧ Hid (Below w0.heap.size w0 wr) ∧ Hid (onG l 0 0 = onG (l.drop i) hh b))
  case atStart => exact ⟨0, 0, 0, rfl, rfl, rfl, rfl, by omega, by omega, Below.refl _ _, rfl⟩
  case round =>
    obtain ⟨i, hh, b, rfl, rfl, rfl, hgk, hi, hb, HB, HA⟩ := hrel
    have Hgk := hide hgk
    clear hgk
    by_cases hlt : i < l.length
    · obtain ⟨g, o, rfl, hg, hc⟩ := unhide H2 (by omega)
      have hl := List.getElem?_eq_getElem hlt
      obtain ⟨d, hd⟩ : ∃ d, l[i] = d := ⟨_, rfl⟩
      rw [hd] at hl
      have HS := hide ((unhide HA).trans (onG_step hl hh b))
      have hcc : ∀ j, j < 6 → wr.cell? ⟨g, o + (i * 6 + j), none⟩ = d.cs[j]? := by
        intro j hj
        have e := fldC_at hl hj
        obtain ⟨x, hx⟩ : ∃ x, d.cs[j]? = some x := ⟨_, List.getElem?_eq_getElem (by unfold Fd.cs; exact hj)⟩
        rw [hx] at e ⊢
        have hbW : Below W.heap.size W wr := (unhide HW).trans ((unhide HB).mono (unhide HW).size)
        exact (hbW.cell (p := ⟨g, o + (i * 6 + j), none⟩) hg).trans (hc _ _ e)
      obtain ⟨card, key, ty, nm, num, oneof⟩ := d
      unfold Fd.cs at hcc
      have x0 := hcc 0 (by decide)
      have x1 := hcc 1 (by decide)
      have x2 := hcc 2 (by decide)
      have x3 := hcc 3 (by decide)
      have x4 := hcc 4 (by decide)
      have x5 := hcc 5 (by decide)
      rw [Nat.add_zero] at x0
      rw [← Nat.add_assoc] at x1 x2 x3 x4 x5
      simp only [List.getElem?_cons_zero, List.getElem?_cons_succ] at x0 x1 x2 x3 x4 x5
      obtain ⟨⟨c0, c1, c2, c3, c4, c5⟩, -, hb2⟩ := fd_cells wr card num oneof key ty nm
      have HB2 := hide ((unhide HB).trans (hb2.mono (unhide HB).size))
      have i0 : (0 : Int) ≤ (i : Int) := Int.natCast_nonneg _
      have i1 : (i : Int) < (l.length : Int) := by omega
      have Hlt := hide hlt
      have Hbb := hide hb
      have b0 : 0 ≤ b := hb.1
      have b1 : b ≤ 140737488355328 := by omega
      clear hc hcc hl hd hb2 hlt hb HA c0 c1 c2 c3 c4 HB
      simp only at HS
      by_cases h1 : oneof ≠ 0 ∧ oneof ≠ hh
      · obtain ⟨ha, hb⟩ := h1
        have ea : (oneof != 0) = true := by simpa using ha
        have eb : (oneof != hh) = true := by simpa using hb
        rw [if_pos ⟨ha, hb⟩] at HS
        by_cases h3 : oneof = b + 1
        · rw [if_neg (fun k => k h3)] at HS
          have e3 : (oneof != b + 1) = false := by simpa using h3
          have Hoo := hide (show 0 ≤ b + 1 ∧ b + 1 ≤ ((i + 1 : Nat) : Int) by have := unhide Hbb; omega)
          clear ha hb h3
          go_wp2
          go_roundg (l.length - (i + 1))
          case measure => have := unhide Hgk; have := unhide Hlt; omega
          case rel => exact ⟨i + 1, _, _, rfl, rfl, by go_num, rfl, unhide Hlt, unhide Hoo, HB2, HS⟩
        · rw [if_pos h3] at HS
          have e3 : (oneof != b + 1) = true := by simpa using h3
          have HF := hide (show onB l n = false by unfold onB; rw [unhide HS])
          clear ha hb h3
          go_wp2
          go_ret
          rw [unhide HF]
          exact ⟨rfl, unhide HB2⟩
      · rw [if_neg h1] at HS
        have Hoo := hide (show 0 ≤ b ∧ b ≤ ((i + 1 : Nat) : Int) by have := unhide Hbb; omega)
        by_cases ha : oneof = 0
        · have ea : (oneof != 0) = false := by simpa using ha
          clear h1 ha
          go_wp2
          go_roundg (l.length - (i + 1))
          case measure => have := unhide Hgk; have := unhide Hlt; omega
          case rel => exact ⟨i + 1, _, _, rfl, rfl, by go_num, rfl, unhide Hlt, unhide Hoo, HB2, HS⟩
        · have ea : (oneof != 0) = true := by simpa using ha
          have eb : (oneof != hh) = false := by
            have : ¬ oneof ≠ hh := fun k => h1 ⟨ha, k⟩
            simpa using this
          clear h1 ha
          go_wp2
          go_roundg (l.length - (i + 1))
          case measure => have := unhide Hgk; have := unhide Hlt; omega
          case rel => exact ⟨i + 1, _, _, rfl, rfl, by go_num, rfl, unhide Hlt, unhide Hoo, HB2, HS⟩
    · obtain rfl : i = l.length := by omega
      have HF := hide (show onB l n = (b == (n : Int)) by unfold onB; rw [unhide HA, List.drop_length]; rfl)
      clear HA
      go_wp2
      go_ret
      rw [unhide HF]
      exact ⟨rfl, unhide HB⟩
end Go.Proofs.YtaadpiimcaabkaaGreatDoor
