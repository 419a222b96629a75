import Derived.Test.YtaadpiimcaabkaaGreatDoorJ18

namespace Go.Proofs.YtaadpiimcaabkaaGreatDoor
open Go.RowKit
attribute [local go_sem ↓] Go.wp_at_zero Go.wp_at_succ

/-- Is the text one of these? -/
def inS (x : ByteArray) (l : List ByteArray) : Bool := l.any fun t => x.toList == t.toList
theorem inS_step {x : ByteArray} {l : List ByteArray} {i : Nat} {t : ByteArray} (h : l[i]? = some t) : inS x (l.drop i) = ((x.toList == t.toList) || inS x (l.drop (i + 1))) := by
  obtain ⟨hi, rfl⟩ := List.getElem?_eq_some_iff.1 h
  unfold inS
  rw [List.drop_eq_getElem_cons hi, List.any_cons]
set_option maxRecDepth 100000 in
set_option maxHeartbeats 1000000 in
theorem sindex_any {W : World} {v : Value} {l : List ByteArray} (hv : Rl W v l.length (strC l)) (x : ByteArray) : Calls Tryz.prog 160 #[v, .string x] W fun e w => ∃ r : Int, e = .returned (.int .i64 r) ∧ decide (0 ≤ r) = inS x l ∧ w = W := by
  obtain ⟨a, c, rfl, hn, h2⟩ := hv
  have H2 := hide h2
  clear h2
  go_enter Tryz.func160, Tryz.ntmps160
  go_wp2
  go_loopg [5, 8] l.length (fun gk _ v8 wr => ∃ (i : Nat), v8 = .int .i64 (i : Int) ∧ gk = l.length - i ∧ i ≤ l.length ∧ wr = W ∧ Hid (inS x l = inS x (l.drop i)))
  case atStart => exact ⟨0, rfl, rfl, by omega, rfl, rfl⟩
  case round =>
    obtain ⟨i, rfl, hgk, hi, rfl, HA⟩ := hrel
    have Hgk := hide hgk
    clear hgk
    by_cases hlt : i < l.length
    · obtain ⟨g, o, rfl, hg, hc⟩ := unhide H2 (by omega)
      obtain ⟨t, ht⟩ : ∃ t, l[i]? = some t := ⟨_, List.getElem?_eq_getElem hlt⟩
      have x0 := hc _ _ (strC_at ht)
      have HS := hide (inS_step (x := x) ht)
      have i0 : (0 : Int) ≤ (i : Int) := Int.natCast_nonneg _
      have i1 : (i : Int) < (l.length : Int) := by omega
      obtain ⟨q, hq⟩ : ∃ q, (x.toList == t.toList) = q := ⟨_, rfl⟩
      rw [hq] at HS
      clear hc ht
      cases q with
      | true =>
        go_wp2
        go_ret
        refine ⟨(i : Int), rfl, ?_, rfl⟩
        rw [unhide HA, unhide HS, Bool.true_or]
        simp
      | false =>
        have Hlt := hide hlt
        clear hlt
        go_wp2
        go_roundg (l.length - (i + 1))
        case measure => have := unhide Hgk; have := unhide Hlt; omega
        case rel => exact ⟨i + 1, by go_num, rfl, unhide Hlt, rfl, (unhide HA).trans ((unhide HS).trans (Bool.false_or _))⟩
    · obtain rfl : i = l.length := by omega
      have HN := hide (show inS x l = false by rw [unhide HA, List.drop_length]; rfl)
      go_wp2
      go_ret
      refine ⟨-1, rfl, ?_, rfl⟩
      rw [unhide HN]
      rfl
set_option maxRecDepth 100000 in
theorem contains_any {W : World} {v : Value} {l : List ByteArray} (hv : Rl W v l.length (strC l)) (x : ByteArray) : Calls Tryz.prog 116 #[v, .string x] W fun e w => e = .returned (.bool (inS x l)) ∧ w = W := by
  have HI := hide (sindex_any hv x)
  obtain ⟨a, c, rfl, hn, h2⟩ := hv
  obtain ⟨q, hq⟩ : ∃ q, inS x l = q := ⟨_, rfl⟩
  rw [hq] at HI ⊢
  clear h2 hq
  go_enter Tryz.func116, Tryz.ntmps116
  go_wp2_with fail
  refine (unhide HI).mono ?_
  rintro e w ⟨r, rfl, hr, rfl⟩
  have HR := hide hr
  clear hr HI
  go_wp2
  go_ret
  refine ⟨?_, rfl⟩
  rw [← unhide HR]
  rfl
def wGroup : ByteArray := ⟨#[103, 114, 111, 117, 112]⟩
def wOption : ByteArray := ⟨#[111, 112, 116, 105, 111, 110]⟩
def wOptional : ByteArray := ⟨#[111, 112, 116, 105, 111, 110, 97, 108]⟩
def wRepeated : ByteArray := ⟨#[114, 101, 112, 101, 97, 116, 101, 100]⟩
def wRequired : ByteArray := ⟨#[114, 101, 113, 117, 105, 114, 101, 100]⟩
def wOneof : ByteArray := ⟨#[111, 110, 101, 111, 102]⟩
def wMessage : ByteArray := ⟨#[109, 101, 115, 115, 97, 103, 101]⟩
def wEnum : ByteArray := ⟨#[101, 110, 117, 109]⟩
def wReserved : ByteArray := ⟨#[114, 101, 115, 101, 114, 118, 101, 100]⟩
def wExtend : ByteArray := ⟨#[101, 120, 116, 101, 110, 100]⟩
def wExtensions : ByteArray := ⟨#[101, 120, 116, 101, 110, 115, 105, 111, 110, 115]⟩
/-- The words that a field's type may not begin with. -/
def refW (d : Fd) : List ByteArray := if d.card = 4 then [] else if d.card ≠ 1 then [wGroup] else if d.oneof ≠ 0 then [wOption, wGroup, wOptional, wRepeated, wRequired, wOneof, wMessage, wEnum, wReserved] else [wMessage, wEnum, wOneof, wReserved, wOptional, wRepeated, wOption, wExtend, wExtensions, wGroup, wRequired]
theorem rl_new {W : World} {xs : List Value} {n c g : Nat} {t : TypeId} (hg : g = W.heap.size) (hn : n ≤ 140737488355328) : Rl (W.alloc (.cells xs.toArray t)) (.slice (some ⟨g, 0, none⟩) n c) n xs := by
  subst hg
  refine ⟨_, c, rfl, hn, fun _ => ⟨W.heap.size, 0, rfl, by rw [World.size_alloc]; omega, fun j x hx => ?_⟩⟩
  rw [Nat.zero_add, cell_of_row _ _ _ _ _ _ (heap_new W _)]
  simpa using hx
theorem rl_nil (W : World) (xs : List Value) : Rl W (.slice none 0 0) 0 xs := ⟨none, 0, rfl, by omega, fun h => absurd h (by omega)⟩
set_option maxRecDepth 100000 in
set_option maxHeartbeats 1000000 in
theorem refused_any {W : World} (d : Fd) : Calls Tryz.prog 117 #[.agg d.cs.toArray] W fun e w => ∃ v, e = .returned v ∧ Rl w v (refW d).length (strC (refW d)) ∧ Below W.heap.size W w := by
  obtain ⟨card, key, ty, nm, num, oneof⟩ := d
  unfold Fd.cs refW
  simp only
  have hn := heap_new W (.cells #[.int .i64 card, .string key, .string ty, .string nm, .int .i64 num, .int .i64 oneof] 42)
  have c0 : (W.alloc (.cells #[.int .i64 card, .string key, .string ty, .string nm, .int .i64 num, .int .i64 oneof] 42)).cell? ⟨W.heap.size, 0, none⟩ = some (.int .i64 card) := cell_of_row _ _ _ _ _ _ hn
  have c5 : (W.alloc (.cells #[.int .i64 card, .string key, .string ty, .string nm, .int .i64 num, .int .i64 oneof] 42)).cell? ⟨W.heap.size, 5, none⟩ = some (.int .i64 oneof) := cell_of_row _ _ _ _ _ _ hn
  have HB : Hid (Below W.heap.size W (W.alloc (.cells #[.int .i64 card, .string key, .string ty, .string nm, .int .i64 num, .int .i64 oneof] 42))) := (Below.refl _ _).alloc (Nat.le_refl _) _
  clear hn
  by_cases h4 : card = 4
  · subst h4
    rw [if_pos rfl]
    go_enter Tryz.func117, Tryz.ntmps117
    go_wp2
    go_ret
    exact ⟨_, rfl, rl_nil _ _, unhide HB⟩
  · rw [if_neg h4]
    have e4 : (card == 4) = false := beq_eq_false_iff_ne.2 h4
    by_cases h1 : card = 1
    · subst h1
      rw [if_neg (by decide)]
      by_cases h0 : oneof = 0
      · subst h0
        rw [if_neg (by decide)]
        go_enter Tryz.func117, Tryz.ntmps117
        go_wp2
        go_ret
        refine ⟨_, rfl, ?_, (unhide HB).alloc (unhide HB).size _⟩
        refine rl_new (g := W.heap.size + 1) (xs := strC ([wMessage, wEnum, wOneof, wReserved, wOptional, wRepeated, wOption, wExtend, wExtensions, wGroup, wRequired])) (World.size_alloc _ _).symm ?_
        decide
      · rw [if_pos h0]
        have e0 : (oneof != 0) = true := by simpa using h0
        go_enter Tryz.func117, Tryz.ntmps117
        go_wp2
        go_ret
        refine ⟨_, rfl, ?_, (unhide HB).alloc (unhide HB).size _⟩
        refine rl_new (g := W.heap.size + 1) (xs := strC ([wOption, wGroup, wOptional, wRepeated, wRequired, wOneof, wMessage, wEnum, wReserved])) (World.size_alloc _ _).symm ?_
        decide
    · rw [if_pos h1]
      have e1 : (card != 1) = true := by simpa using h1
      go_enter Tryz.func117, Tryz.ntmps117
      go_wp2
      go_ret
      refine ⟨_, rfl, ?_, (unhide HB).alloc (unhide HB).size _⟩
      refine rl_new (g := W.heap.size + 1) (xs := strC ([wGroup])) (World.size_alloc _ _).symm ?_
      decide
end Go.Proofs.YtaadpiimcaabkaaGreatDoor

namespace Go.Proofs.YtaadpiimcaabkaaGreatDoor
open Go.RowKit
attribute [local go_sem ↓] Go.wp_at_zero Go.wp_at_succ

theorem fd_cells (W : World) (card num oneof : Int) (key ty nm : ByteArray) : ((W.alloc (.cells #[.int .i64 card, .string key, .string ty, .string nm, .int .i64 num, .int .i64 oneof] 42)).cell? ⟨W.heap.size, 0, none⟩ = some (.int .i64 card) ∧ (W.alloc (.cells #[.int .i64 card, .string key, .string ty, .string nm, .int .i64 num, .int .i64 oneof] 42)).cell? ⟨W.heap.size, 1, none⟩ = some (.string key) ∧ (W.alloc (.cells #[.int .i64 card, .string key, .string ty, .string nm, .int .i64 num, .int .i64 oneof] 42)).cell? ⟨W.heap.size, 2, none⟩ = some (.string ty) ∧ (W.alloc (.cells #[.int .i64 card, .string key, .string ty, .string nm, .int .i64 num, .int .i64 oneof] 42)).cell? ⟨W.heap.size, 3, none⟩ = some (.string nm) ∧ (W.alloc (.cells #[.int .i64 card, .string key, .string ty, .string nm, .int .i64 num, .int .i64 oneof] 42)).cell? ⟨W.heap.size, 4, none⟩ = some (.int .i64 num) ∧ (W.alloc (.cells #[.int .i64 card, .string key, .string ty, .string nm, .int .i64 num, .int .i64 oneof] 42)).cell? ⟨W.heap.size, 5, none⟩ = some (.int .i64 oneof)) ∧ (W.alloc (.cells #[.int .i64 card, .string key, .string ty, .string nm, .int .i64 num, .int .i64 oneof] 42)).heap[W.heap.size]? = some (.cells #[.int .i64 card, .string key, .string ty, .string nm, .int .i64 num, .int .i64 oneof] 42 (0, 0)) ∧ Below W.heap.size W (W.alloc (.cells #[.int .i64 card, .string key, .string ty, .string nm, .int .i64 num, .int .i64 oneof] 42)) := by
  have hn := heap_new W (.cells #[.int .i64 card, .string key, .string ty, .string nm, .int .i64 num, .int .i64 oneof] 42)
  exact ⟨⟨cell_of_row _ _ _ _ _ _ hn, cell_of_row _ _ _ _ _ _ hn, cell_of_row _ _ _ _ _ _ hn, cell_of_row _ _ _ _ _ _ hn, cell_of_row _ _ _ _ _ _ hn, cell_of_row _ _ _ _ _ _ hn⟩, hn, (Below.refl _ _).alloc (Nat.le_refl _) _⟩
theorem fd_of {w : World} {b : Nat} {card num oneof : Int} {key ty nm : ByteArray} (hn : w.heap[b]? = some (.cells #[.int .i64 card, .string key, .string ty, .string nm, .int .i64 num, .int .i64 oneof] 42 (0, 0))) : w.cell? ⟨b, 0, none⟩ = some (.int .i64 card) ∧ w.cell? ⟨b, 1, none⟩ = some (.string key) ∧ w.cell? ⟨b, 2, none⟩ = some (.string ty) ∧ w.cell? ⟨b, 3, none⟩ = some (.string nm) ∧ w.cell? ⟨b, 4, none⟩ = some (.int .i64 num) ∧ w.cell? ⟨b, 5, none⟩ = some (.int .i64 oneof) :=
  ⟨cell_of_row _ _ _ _ _ _ hn, cell_of_row _ _ _ _ _ _ hn, cell_of_row _ _ _ _ _ _ hn, cell_of_row _ _ _ _ _ _ hn, cell_of_row _ _ _ _ _ _ hn, cell_of_row _ _ _ _ _ _ hn⟩
/-- Does a field's card go with its key and its oneof? -/
noncomputable def cardB (d : Fd) : Bool := if d.card = 1 then d.key.toList.isEmpty else if d.card = 2 ∨ d.card = 3 then d.key.toList.isEmpty && (d.oneof == 0) else if d.card = 4 then typeB d.key && (d.oneof == 0) else false
set_option maxRecDepth 100000 in
set_option maxHeartbeats 1000000 in
theorem card_any {W : World} (hM : HasM W) (d : Fd) : Calls Tryz.prog 115 #[.agg d.cs.toArray] W fun e w => e = .returned (.bool (cardB d)) ∧ Below W.heap.size W w := by
  obtain ⟨card, key, ty, nm, num, oneof⟩ := d
  unfold Fd.cs cardB
  simp only
  obtain ⟨⟨c0, c1, c2, c3, c4, c5⟩, -, hb⟩ := fd_cells W card num oneof key ty nm
  have HT := hide (type_any (hM.up hb hM.1) key)
  have HB := hide hb
  obtain ⟨qt, hqt⟩ : ∃ q, typeB key = q := ⟨_, rfl⟩
  rw [hqt] at HT ⊢
  clear hb hM hqt c2 c3 c4
  obtain ⟨qk, hqk⟩ : ∃ q, key.toList.isEmpty = q := ⟨_, rfl⟩
  obtain ⟨qo, hqo⟩ : ∃ q, (oneof == 0) = q := ⟨_, rfl⟩
  rw [hqk, hqo]
  by_cases h1 : card = 1
  · subst h1
    rw [if_pos rfl]
    clear HT hqo
    go_enter Tryz.func115, Tryz.ntmps115
    go_wp2
    go_ret
    exact ⟨rfl, unhide HB⟩
  · rw [if_neg h1]
    have e1 : (card == 1) = false := beq_eq_false_iff_ne.2 h1
    by_cases h2 : card = 2
    · subst h2
      rw [if_pos (.inl rfl)]
      clear HT h1 e1
      cases qk with
      | false =>
        go_enter Tryz.func115, Tryz.ntmps115
        go_wp2
        go_ret
        exact ⟨rfl, unhide HB⟩
      | true =>
        go_enter Tryz.func115, Tryz.ntmps115
        go_wp2
        go_ret
        exact ⟨rfl, unhide HB⟩
    · have e2 : (card == 2) = false := beq_eq_false_iff_ne.2 h2
      by_cases h3 : card = 3
      · subst h3
        rw [if_pos (.inr rfl)]
        clear HT h1 e1 h2 e2
        cases qk with
        | false =>
          go_enter Tryz.func115, Tryz.ntmps115
          go_wp2
          go_ret
          exact ⟨rfl, unhide HB⟩
        | true =>
          go_enter Tryz.func115, Tryz.ntmps115
          go_wp2
          go_ret
          exact ⟨rfl, unhide HB⟩
      · rw [if_neg (by omega)]
        have e3 : (card == 3) = false := beq_eq_false_iff_ne.2 h3
        by_cases h4 : card = 4
        · subst h4
          rw [if_pos rfl]
          clear h1 e1 h2 e2 h3 e3 hqk
          go_enter Tryz.func115, Tryz.ntmps115
          go_wp2_with fail
          refine (unhide HT).mono ?_
          rintro e w1 ⟨rfl, hb1⟩
          have HB1 := hide ((unhide HB).trans (hb1.mono (unhide HB).size))
          have c5' := (hb1.cell (p := ⟨W.heap.size, 5, none⟩) (by rw [World.size_alloc]; exact Nat.lt_succ_self _)).trans c5
          clear HT HB hb1
          cases qt with
          | false =>
            go_wp2
            go_ret
            exact ⟨rfl, unhide HB1⟩
          | true =>
            go_wp2
            go_ret
            exact ⟨rfl, unhide HB1⟩
        · rw [if_neg h4]
          have e4 : (card == 4) = false := beq_eq_false_iff_ne.2 h4
          clear HT h1 h2 h3 h4
          go_enter Tryz.func115, Tryz.ntmps115
          go_wp2
          go_ret
          exact ⟨rfl, unhide HB⟩
/-- May a field be, by itself? -/
noncomputable def fieldB (d : Fd) : Bool := wordB d.name && (decide (0 ≤ d.num) && decide (d.num ≤ 2147483647)) && typeB d.ty && cardB d && !inS (firstS d.ty) (refW d)
set_option maxRecDepth 100000 in
set_option maxHeartbeats 2000000 in
theorem field_any {W : World} (hM : HasM W) (d : Fd) (hs : d.ty.size ≤ 281474976710656) : Calls Tryz.prog 71 #[.agg d.cs.toArray] W fun e w => e = .returned (.bool (fieldB d)) ∧ Below W.heap.size W w := by
  obtain ⟨card, key, ty, nm, num, oneof⟩ := d
  obtain ⟨⟨c0, c1, c2, c3, c4, c5⟩, kb, hb⟩ := fd_cells W card num oneof key ty nm
  have HC := hide (fun w => cut_any w ty hs)
  have HW := hide (fun w => word_any w nm)
  have HN := hide (fun w => within_any w num 0 2147483647)
  have HT := hide (fun w (h : HasM w) => type_any h ty)
  have HD := hide (fun w (h : HasM w) => card_any h ⟨card, key, ty, nm, num, oneof⟩)
  have HR := hide (fun w => refused_any (W := w) ⟨card, key, ty, nm, num, oneof⟩)
  have HI := hide (fun w v hv => contains_any (W := w) (v := v) (l := refW ⟨card, key, ty, nm, num, oneof⟩) hv (firstS ty))
  unfold fieldB
  simp only at hs ⊢
  obtain ⟨q1, h1⟩ : ∃ q, wordB nm = q := ⟨_, rfl⟩
  obtain ⟨q2, h2⟩ : ∃ q, (decide (0 ≤ num) && decide (num ≤ 2147483647)) = q := ⟨_, rfl⟩
  obtain ⟨q3, h3⟩ : ∃ q, typeB ty = q := ⟨_, rfl⟩
  obtain ⟨q4, h4⟩ : ∃ q, cardB ⟨card, key, ty, nm, num, oneof⟩ = q := ⟨_, rfl⟩
  obtain ⟨q5, h5⟩ : ∃ q, inS (firstS ty) (refW ⟨card, key, ty, nm, num, oneof⟩) = q := ⟨_, rfl⟩
  rw [h1] at HW ⊢
  rw [h2] at HN ⊢
  rw [h3] at HT ⊢
  rw [h4] at HD ⊢
  rw [h5] at HI ⊢
  obtain ⟨fy, hfy⟩ : ∃ x, firstS ty = x := ⟨_, rfl⟩
  rw [hfy] at HC HI
  obtain ⟨V, hV⟩ : ∃ V, (W.alloc (.cells #[.int .i64 card, .string key, .string ty, .string nm, .int .i64 num, .int .i64 oneof] 42)) = V := ⟨_, rfl⟩
  have HM := hide (hM.up hb hM.1)
  have HB := hide hb
  rw [hV] at HM HB c0 c1 c2 c3 c4 c5 kb
  unfold Fd.cs at HD HR ⊢
  simp only at HD HR ⊢
  clear h1 h2 h3 h4 h5 hfy hM hb hs
  go_enter Tryz.func71, Tryz.ntmps71
  go_wp2_with fail
  refine (unhide HC _).mono ?_
  rintro e w1 ⟨⟨ca, cb, rfl⟩, n1, rfl⟩
  have HK := hide (show (V.drewN n1).heap[W.heap.size]? = _ from kb)
  have HB1 : Hid (Below W.heap.size W (V.drewN n1)) := below_drewN (unhide HB) n1
  have HM1 : Hid (HasM (V.drewN n1)) := unhide HM
  clear HB HM kb HC
  go_wp2_with fail
  obtain ⟨w1, hw1⟩ : ∃ w, V.drewN n1 = w := ⟨_, rfl⟩
  rw [hw1] at HK HB1 HM1
  rw [hw1]
  clear hw1 c0 c1 c2 c3 c4 c5 hV
  refine (unhide HW _).mono ?_
  rintro e w ⟨rfl, rfl⟩
  cases q1 with
  | false =>
    go_wp2
    go_ret
    exact ⟨rfl, unhide HB1⟩
  | true =>
  obtain ⟨c0, c1, c2, c3, c4, c5⟩ := fd_of (unhide HK)
  go_wp2_with fail
  refine (unhide HN _).mono ?_
  rintro e w' ⟨rfl, rfl⟩
  cases q2 with
  | false =>
    go_wp2
    go_ret
    exact ⟨rfl, unhide HB1⟩
  | true =>
  go_wp2_with fail
  refine (unhide HT _ (unhide HM1)).mono ?_
  rintro e w2 ⟨rfl, hb2⟩
  have HK2 := hide ((hb2.block _ (Array.getElem?_eq_some_iff.1 (unhide HK)).1).trans (unhide HK))
  have HM2 := hide ((unhide HM1).up hb2 (unhide HM1).1)
  have HB2 := hide ((unhide HB1).trans (hb2.mono (unhide HB1).size))
  clear hb2 HK HM1 HB1 c0 c1 c2 c3 c4 c5 HT
  cases q3 with
  | false =>
    go_wp2
    go_ret
    exact ⟨rfl, unhide HB2⟩
  | true =>
  obtain ⟨c0, c1, c2, c3, c4, c5⟩ := fd_of (unhide HK2)
  go_wp2_with fail
  refine (unhide HD _ (unhide HM2)).mono ?_
  rintro e w3 ⟨rfl, hb3⟩
  have HK3 := hide ((hb3.block _ (Array.getElem?_eq_some_iff.1 (unhide HK2)).1).trans (unhide HK2))
  have HB3 := hide ((unhide HB2).trans (hb3.mono (unhide HB2).size))
  clear hb3 HK2 HM2 HB2 c0 c1 c2 c3 c4 c5 HD
  cases q4 with
  | false =>
    go_wp2
    go_ret
    exact ⟨rfl, unhide HB3⟩
  | true =>
  obtain ⟨c0, c1, c2, c3, c4, c5⟩ := fd_of (unhide HK3)
  go_wp2_with fail
  refine (unhide HR _).mono ?_
  rintro e w4 ⟨v4, rfl, hv4, hb4⟩
  have HI4 := hide (unhide HI _ v4 hv4)
  have HB4 := hide ((unhide HB3).trans (hb4.mono (unhide HB3).size))
  clear hb4 HK3 HB3 c0 c1 c2 c3 c4 c5 HR HI hv4
  go_wp2_with fail
  refine (unhide HI4).mono ?_
  rintro e w5 ⟨rfl, rfl⟩
  clear HI4
  go_wp2
  go_ret
  exact ⟨rfl, unhide HB4⟩
end Go.Proofs.YtaadpiimcaabkaaGreatDoor
