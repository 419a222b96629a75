import Derived.Test.YtgbadnbhgpnppaaDoorWMK
namespace Go.Proofs.YtgbadnbhgpnppaaDoor
open Go.RowKit
attribute [local go_sem ↓] Go.wp_at_zero Go.wp_at_succ

/-- The groups around, as they lie in memory when nothing is kept. -/
def gcells : List Nat → List Value
  | [] => []
  | x :: ar => .int .i64 (x : Int) :: .slice none 0 0 :: gcells ar
theorem gcells_snoc (x : Nat) : ∀ ar : List Nat, gcells (ar ++ [x]) = gcells ar ++ [.int .i64 (x : Int), .slice none 0 0]
  | [] => rfl
  | a :: ar => by
    show Value.int .i64 (a : Int) :: .slice none 0 0 :: gcells (ar ++ [x]) = _
    rw [gcells_snoc x ar]
    rfl
theorem gcells_len : ∀ ar : List Nat, (gcells ar).length = ar.length * 2
  | [] => rfl
  | a :: ar => by
    have h := gcells_len ar
    simp only [gcells, List.length_cons]
    omega
/-- All blocks below B but two are as they were. -/
structure BZ (B b c : Nat) (w w' : World) : Prop where
  os : w'.os = w.os
  tape : w'.tape = w.tape
  output : w'.output = w.output
  size : w.heap.size ≤ w'.heap.size
  block : ∀ q, q < B → q ≠ b → q ≠ c → w'.heap[q]? = w.heap[q]?
theorem BZ.refl (B b c : Nat) (w : World) : BZ B b c w w := ⟨rfl, rfl, rfl, Nat.le_refl _, fun _ _ _ _ => rfl⟩
theorem BZ.trans {B b c : Nat} {u v w : World} (h : BZ B b c u v) (k : BZ B b c v w) : BZ B b c u w := ⟨k.os.trans h.os, k.tape.trans h.tape, k.output.trans h.output, Nat.le_trans h.size k.size, fun i hi h1 h2 => (k.block i hi h1 h2).trans (h.block i hi h1 h2)⟩
theorem BZ.of {n B b c : Nat} {u w : World} (h : Below n u w) (hn : B ≤ n) : BZ B b c u w := ⟨h.os, h.tape, h.output, h.size, fun q hq _ _ => h.block q (by omega)⟩
theorem BZ.ofX {B b c : Nat} {u w : World} (h : BX B c u w) : BZ B b c u w := ⟨h.os, h.tape, h.output, h.size, fun q hq _ h2 => h.block q hq h2⟩
theorem BZ.ofU {B b c : Nat} {o : Obj} {u w : World} (h : Upd u b o w) (hB : B ≤ u.heap.size) : BZ B b c u w := ⟨h.os, h.tape, h.output, h.size, fun q hq h1 _ => h.far q (by omega) h1⟩
/-- A reader and a walk that keeps nothing, in memory. -/
structure SkSt (W : World) (B b wb : Nat) (s : ByteArray) (st : Bool) (t : Nat) (depth : Int) (k num : Nat) (ar : List Nat) : Prop where
  rd : RdAt W b s k st
  wk : ∃ ag, WkS W wb b (t : Int) depth (num : Int) (.slice none 0 0) ag ∧ W.ownsRow B 97 2 ag ar.length (gcells ar)
  hb : b < B
  hwb : wb < B
  hne : wb ≠ b
  hB : B ≤ W.heap.size
theorem rowUpd {B b : Nat} {o : Obj} {W w : World} {e : TypeId} {z m : Nat} {v : Value} {xs : List Value} (h : W.ownsRow B e z v m xs) (hb : Upd W b o w) (hB : b < B) : w.ownsRow B e z v m xs := by
  obtain ⟨h1, ⟨rfl, h0⟩ | ⟨g, c, cur, rfl, h2, h3, h4⟩⟩ := h
  · exact ⟨h1, .inl ⟨rfl, h0⟩⟩
  · exact ⟨h1, .inr ⟨g, c, cur, rfl, h2, (hb.far g (Array.getElem?_eq_some_iff.1 h3).1 (by omega)).trans h3, h4⟩⟩
theorem SkSt.up {W X : World} {B b wb t k num : Nat} {s : ByteArray} {st : Bool} {depth : Int} {ar : List Nat} (h : SkSt W B b wb s st t depth k num ar) (hb : Below W.heap.size W X) : SkSt X B b wb s st t depth k num ar := by
  obtain ⟨ag, h1, h2⟩ := h.wk
  exact ⟨(hb.block b (Array.getElem?_eq_some_iff.1 h.rd).1).trans h.rd, ⟨ag, (hb.block wb (Array.getElem?_eq_some_iff.1 h1).1).trans h1, rowUp h2 hb⟩, h.hb, h.hwb, h.hne, Nat.le_trans h.hB hb.size⟩
theorem SkSt.upd {W X : World} {B b wb t k k' num : Nat} {s : ByteArray} {st : Bool} {depth : Int} {ar : List Nat} (h : SkSt W B b wb s st t depth k num ar) (hU : Upd W b (.cells #[.string s, .int .i64 (k' : Int), .bool st] 70 (0, 0)) X) : SkSt X B b wb s st t depth k' num ar := by
  obtain ⟨ag, h1, h2⟩ := h.wk
  exact ⟨hU.at', ⟨ag, (hU.far wb (Array.getElem?_eq_some_iff.1 h1).1 h.hne).trans h1, rowUpd h2 hU h.hb⟩, h.hb, h.hwb, h.hne, Nat.le_trans h.hB hU.size⟩
/-- What is behind a tag, taken off: the place, the group, those around it; or the error and its place. -/
def plcM (num : Nat) (ar : List Nat) (k : Nat) : Nat ⊕ Nat → (Nat × Nat × List Nat) ⊕ (Nat × Nat)
  | .inl k' => .inl (k', num, ar)
  | .inr c => .inr (c, k)
def tkM (s : ByteArray) (st : Bool) (depth : Int) (t k num : Nat) (ar : List Nat) (n kd : Nat) : (Nat × Nat × List Nat) ⊕ (Nat × Nat) :=
  if kd = 3 then (if depth ≤ (ar.length : Int) then .inr (4, t) else .inl (k, n, ar ++ [num]))
  else if kd = 4 then (if num ≠ n then .inr (25, t) else match ar.getLast? with
    | some x => .inl (k, x, ar.dropLast)
    | none => .inr (25, t))
  else plcM num ar k (if kd = 0 then plc (vAt s st k) else if kd = 1 then plc (xAt s k 8) else if kd = 2 then plc (tAt s st k) else plc (xAt s k 4))
def MA (W : World) (B b wb : Nat) (s : ByteArray) (st : Bool) (t : Nat) (depth : Int) (e : Ending) (w : World) : (Nat × Nat × List Nat) ⊕ (Nat × Nat) → Prop
  | .inl (k', num', ar') => e = .returned (.int .i64 0) ∧ SkSt w B b wb s st t depth k' num' ar' ∧ BZ B b wb W w
  | .inr (c, p) => e = .returned (.int .i64 (c : Int)) ∧ c ≠ 0 ∧ RdAt w b s p st ∧ BZ B b wb W w
theorem MA.ret {W : World} {B b wb : Nat} {s : ByteArray} {st : Bool} {t : Nat} {depth : Int} {e : Ending} {w : World} {r : (Nat × Nat × List Nat) ⊕ (Nat × Nat)} (h : MA W B b wb s st t depth e w r) : ∃ c : Int, e = .returned (.int .i64 c) := by
  match r, h with
  | .inl (_, _, _), h => exact ⟨_, h.1⟩
  | .inr (_, _), h => exact ⟨_, h.1⟩
theorem MA.of {W X : World} {B b wb : Nat} {s : ByteArray} {st : Bool} {t : Nat} {depth : Int} {e : Ending} {w : World} {r : (Nat × Nat × List Nat) ⊕ (Nat × Nat)} (hX : BZ B b wb W X) (h : MA X B b wb s st t depth e w r) : MA W B b wb s st t depth e w r := by
  match r, h with
  | .inl (_, _, _), h => exact ⟨h.1, h.2.1, hX.trans h.2.2⟩
  | .inr (_, _), h => exact ⟨h.1, h.2.1, h.2.2.1, hX.trans h.2.2.2⟩
theorem plain_take {W : World} {B b wb t k num : Nat} {s : ByteArray} {st : Bool} {depth : Int} {ar : List Nat} {e : Ending} {w : World} {r : Nat ⊕ Nat} (h : SkSt W B b wb s st t depth k num ar) (hT : TkA W b s k st e w r) : MA W B b wb s st t depth e w (plcM num ar k r) := by
  match r, hT with
  | .inl k', hT => exact ⟨hT.1, h.upd hT.2, .ofU hT.2 h.hB⟩
  | .inr c, hT => exact ⟨hT.1, hT.2.1, hT.2.2.at', .ofU hT.2.2 h.hB⟩
/-- Take, of a walk that keeps nothing. -/
theorem wtake_skip {W : World} {B b wb t k num n kd : Nat} {s : ByteArray} {st : Bool} {depth : Int} {ar : List Nat} (h : SkSt W B b wb s st t depth k num ar) (hk : k ≤ s.size) (hs : s.size ≤ 1048576) (hkd : kd ≤ 5) (har : ar.length ≤ 2097152) (hnum : ar = [] → num ≠ n) :
    Calls Tryd.prog 63 #[.pointer (some ⟨wb, 0, none⟩), .int .i64 (n : Int), .int .i64 (kd : Int)] W fun e w => MA W B b wb s st t depth e w (tkM s st depth t k num ar n kd) := by
  have key : ∀ {f : Nat} {i : Int}, (∀ {R : World → Ending → World → Prop}, (∀ X, Below W.heap.size W X → Calls Tryd.prog f #[.pointer (some ⟨wb, 0, none⟩), .int .i64 (n : Int)] X (R X)) → (∀ X e w, R X e w → ∃ c : Int, e = .returned (.int .i64 c)) → Calls Tryd.prog 63 #[.pointer (some ⟨wb, 0, none⟩), .int .i64 (n : Int), .int .i64 i] W fun e W' => ∃ X, Below W.heap.size W X ∧ R X e W') → (∀ X, SkSt X B b wb s st t depth k num ar → Calls Tryd.prog f #[.pointer (some ⟨wb, 0, none⟩), .int .i64 (n : Int)] X fun e w => MA X B b wb s st t depth e w (tkM s st depth t k num ar n kd)) → Calls Tryd.prog 63 #[.pointer (some ⟨wb, 0, none⟩), .int .i64 (n : Int), .int .i64 i] W fun e w => MA W B b wb s st t depth e w (tkM s st depth t k num ar n kd) := by
    intro f i hw hR
    have q := hw (R := fun X e w => Below W.heap.size W X ∧ MA X B b wb s st t depth e w (tkM s st depth t k num ar n kd)) (fun X hX => (hR X (h.up hX)).mono fun e w hM => ⟨hX, hM⟩) (fun X e w hM => hM.2.ret)
    exact q.mono fun e w ⟨X, hX, _, hM⟩ => hM.of (.of hX h.hB)
  have h6 : kd = 0 ∨ kd = 1 ∨ kd = 2 ∨ kd = 5 ∨ kd = 3 ∨ kd = 4 := by omega
  rcases h6 with rfl | rfl | rfl | rfl | rfl | rfl
  · refine key (fun a b => wtake_any a b) fun X hX => ?_
    obtain ⟨ag, h1, h2⟩ := hX.wk
    unfold tkM
    rw [if_neg (by decide), if_neg (by decide), if_pos rfl]
    exact (take0_skip hX.rd hk hs h1).mono fun e w hT => plain_take hX hT
  · refine key (fun a b => wtake1 a b) fun X hX => ?_
    obtain ⟨ag, h1, h2⟩ := hX.wk
    unfold tkM
    rw [if_neg (by decide), if_neg (by decide), if_neg (by decide), if_pos rfl]
    exact (take1_skip hX.rd hk hs h1).mono fun e w hT => plain_take hX hT
  · refine key (fun a b => wtake2 a b) fun X hX => ?_
    obtain ⟨ag, h1, h2⟩ := hX.wk
    unfold tkM
    rw [if_neg (by decide), if_neg (by decide), if_neg (by decide), if_neg (by decide), if_pos rfl]
    exact (take2_skip hX.rd hk hs h1).mono fun e w hT => plain_take hX hT
  · refine key (fun a b => wtake5 a b) fun X hX => ?_
    obtain ⟨ag, h1, h2⟩ := hX.wk
    unfold tkM
    rw [if_neg (by decide), if_neg (by decide), if_neg (by decide), if_neg (by decide), if_neg (by decide)]
    exact (take5_skip hX.rd hk hs h1).mono fun e w hT => plain_take hX hT
  · refine key (fun a b => wtake3 a b) fun X hX => ?_
    obtain ⟨ag, h1, h2⟩ := hX.wk
    unfold tkM
    rw [if_pos rfl]
    by_cases hd : depth ≤ (ar.length : Int)
    · rw [if_pos hd]
      obtain ⟨va, vc, rfl⟩ : ∃ a c, ag = .slice a ar.length c := by
        obtain ⟨_, ⟨e, h0⟩ | ⟨g, c, _, e, _⟩⟩ := h2
        · exact ⟨none, 0, by rw [e, h0]⟩
        · exact ⟨_, _, e⟩
      exact (begin_deep hX.rd h1 hd).mono fun e w hT => ⟨hT.1, hT.2.1, hT.2.2.at', .ofU hT.2.2 hX.hB⟩
    · rw [if_neg hd]
      refine (begin_any (kp := false) h1 hX.hwb hX.hB h2 (by omega) har).mono ?_
      rintro e w ⟨rfl, ag', q1, q2, q3⟩
      refine ⟨rfl, ⟨(q3.block b hX.hb (fun e => hX.hne e.symm)).trans hX.rd, ⟨ag', q1, ?_⟩, hX.hb, hX.hwb, hX.hne, Nat.le_trans hX.hB q3.size⟩, .ofX q3⟩
      rw [gcells_snoc, List.length_append]
      exact q2
  · refine key (fun a b => wtake4 a b) fun X hX => ?_
    obtain ⟨ag, h1, h2⟩ := hX.wk
    unfold tkM
    rw [if_neg (by decide), if_pos rfl]
    by_cases hd : num ≠ n
    · rw [if_pos hd]
      exact (end_wrong hX.rd h1 (by omega)).mono fun e w hT => ⟨hT.1, hT.2.1, hT.2.2.at', .ofU hT.2.2 hX.hB⟩
    · rw [if_neg hd]
      obtain rfl : num = n := by omega
      rcases List.eq_nil_or_concat ar with rfl | ⟨l, x, rfl⟩
      · exact absurd rfl (hnum rfl)
      · rw [List.concat_eq_append] at *
        simp only [List.getLast?_append, List.getLast?_singleton, Option.some_or, List.dropLast_concat]
        rw [gcells_snoc, List.length_append] at h2
        obtain ⟨g, c, rfl⟩ : ∃ g c, ag = .slice (some ⟨g, 0, none⟩) (l.length + 1) c := by
          obtain ⟨_, ⟨e, h0⟩ | ⟨g, c, _, e, _⟩⟩ := h2
          · simp at h0
          · exact ⟨_, _, e⟩
        refine (end_any h1 hX.hwb hX.hB (gcells_len l) h2 (by simp at har; omega)).mono ?_
        rintro e w ⟨rfl, q1, q2, q3⟩
        exact ⟨rfl, ⟨(q3.block b hX.hb (fun e => hX.hne e.symm)).trans hX.rd, ⟨_, q1, q2⟩, hX.hb, hX.hwb, hX.hne, Nat.le_trans hX.hB q3.size⟩, .ofX q3⟩
#print axioms wtake_skip
end Go.Proofs.YtgbadnbhgpnppaaDoor
namespace Go.Proofs.YtgbadnbhgpnppaaDoor
open Go.RowKit
attribute [local go_sem ↓] Go.wp_at_zero Go.wp_at_succ

theorem rowSetB {B c i : Nat} {u : Value} {W : World} {e : TypeId} {z m : Nat} {v : Value} {xs : List Value} (h : W.ownsRow B e z v m xs) (hc : c < B) : (W.setCell ⟨c, i, none⟩ u).ownsRow B e z v m xs := by
  obtain ⟨h1, ⟨rfl, h0⟩ | ⟨g, cc, cur, rfl, h2, h3, h4⟩⟩ := h
  · exact ⟨h1, .inl ⟨rfl, h0⟩⟩
  · exact ⟨h1, .inr ⟨g, cc, cur, rfl, h2, (heap_setCell_other W ⟨c, i, none⟩ g u (by show g ≠ c; omega)).trans h3, h4⟩⟩
theorem SkSt.tag {W : World} {B b wb t k num : Nat} {s : ByteArray} {st : Bool} {depth : Int} {ar : List Nat} (h : SkSt W B b wb s st t depth k num ar) (t' : Nat) : SkSt (W.setCell ⟨wb, 1, none⟩ (.int .i64 (t' : Int))) B b wb s st t' depth k num ar := by
  obtain ⟨ag, h1, h2⟩ := h.wk
  exact ⟨(heap_setCell_other W ⟨wb, 1, none⟩ b _ (fun e => h.hne e.symm)).trans h.rd, ⟨ag, heap_setCell_same W wb 1 _ _ _ h1, rowSetB h2 h.hwb⟩, h.hb, h.hwb, h.hne, by rw [World.size_setCell]; exact h.hB⟩
theorem bz_set {B b wb i : Nat} {W : World} {u : Value} : BZ B b wb W (W.setCell ⟨wb, i, none⟩ u) := ⟨rfl, rfl, rfl, by rw [World.size_setCell]; exact Nat.le_refl _, fun q _ _ h2 => heap_setCell_other W ⟨wb, i, none⟩ q u h2⟩
theorem BZ.drewN {B b wb : Nat} {W w : World} (h : BZ B b wb W w) (n : Nat) : BZ B b wb W (w.drewN n) := ⟨h.os, h.tape, h.output, h.size, h.block⟩
/-- One step of the walk, by what the varint at the place is. -/
def stepR (s : ByteArray) (st : Bool) (depth : Int) (k num : Nat) (ar : List Nat) : (Nat × Nat) ⊕ Nat → (Nat × Nat × List Nat) ⊕ (Nat × Nat)
  | .inr c => .inr (c, k)
  | .inl (u, k') => if u / 8 < 1 ∨ 536870911 < u / 8 then .inr (24, k) else if 5 < u % 8 then .inr (23, k) else tkM s st depth k k' num ar (u / 8) (u % 8)
def stepM (s : ByteArray) (st : Bool) (depth : Int) (k num : Nat) (ar : List Nat) : (Nat × Nat × List Nat) ⊕ (Nat × Nat) := stepR s st depth k num ar (vAt s st k)
set_option maxRecDepth 100000 in
set_option maxHeartbeats 4000000 in
theorem wstep_skip {W : World} {B b wb t k num : Nat} {s : ByteArray} {st : Bool} {depth : Int} {ar : List Nat} (h : SkSt W B b wb s st t depth k num ar) (hk : k ≤ s.size) (hs : s.size ≤ 1048576) (har : ar.length ≤ 2097152) (hnum : ar = [] → num = 0) :
    Calls Tryd.prog 55 #[.pointer (some ⟨wb, 0, none⟩)] W fun e w => MA W B b wb s st k depth e w (stepM s st depth k num ar) := by
  unfold stepM
  have hlt : ∀ u k', vAt s st k = .inl (u, k') → u < 18446744073709551616 ∧ k < k' ∧ k' ≤ s.size := fun u k' h => vAt_lt h
  obtain ⟨S, hS⟩ : ∃ S, W.setCell ⟨wb, 1, none⟩ (.int .i64 (k : Int)) = S := ⟨_, rfl⟩
  have hSk : SkSt S B b wb s st k depth k num ar := by rw [← hS]; exact h.tag k
  have hSB : BZ B b wb W S := by rw [← hS]; exact bz_set
  have ht := rTag_any hSk.rd hk hs
  obtain ⟨R, hR⟩ : ∃ R, vAt s st k = R := ⟨_, rfl⟩
  rw [hR] at ht hlt ⊢
  obtain ⟨ag, h1, h2⟩ := h.wk
  obtain ⟨c0, c1, c2, c3, c4, c5, c6, f1⟩ := walk_cells h1
  obtain ⟨d0, d1, d2, _⟩ := cells3_of h.rd
  obtain ⟨ag', g1, g2⟩ := hSk.wk
  have e0 := (walk_cells g1).1
  have Ht := hide ht
  have Hlt := hide hlt
  have HS := hide hS
  have HSk := hide hSk
  have HSB := hide hSB
  have Hnum := hide hnum
  clear ht hlt hS hSk hSB hR h1 h2 h g1 g2 hnum
  go_enter Tryd.func55, Tryd.ntmps55
  go_wp2_with fail
  rw [unhide HS]
  refine (unhide Ht).mono ?_
  intro e w1 hq
  clear c0 c1 c2 c3 c4 c5 c6 f1 d0 d1 d2 Ht HS
  cases R with
  | inr c =>
    obtain ⟨rfl, hc, n1, rfl⟩ := hq
    have qc : ((c : Int) != 0) = true := by simp; omega
    have Hend : Hid (MA W B b wb s st k depth (.returned (.int .i64 (c : Int))) (S.drewN n1) (.inr (c, k))) := ⟨rfl, hc, (unhide HSk).rd, (unhide HSB).drewN n1⟩
    go_wp2
    go_ret
    exact unhide Hend
  | inl p =>
    obtain ⟨u, k'⟩ := p
    obtain ⟨hu, hk1, hk2⟩ := unhide Hlt u k' rfl
    replace hq : if u / 8 < 1 ∨ 536870911 < u / 8 then (e = .returned (.tuple #[.int .i64 0, .int .i64 0, .int .i64 24]) ∧ Upd S b (.cells #[.string s, .int .i64 (k : Int), .bool st] 70 (0, 0)) w1) else if 5 < u % 8 then (e = .returned (.tuple #[.int .i64 0, .int .i64 0, .int .i64 23]) ∧ Upd S b (.cells #[.string s, .int .i64 (k : Int), .bool st] 70 (0, 0)) w1) else (e = .returned (.tuple #[.int .i64 ((u / 8 : Nat) : Int), .int .i64 ((u % 8 : Nat) : Int), .int .i64 0]) ∧ Upd S b (.cells #[.string s, .int .i64 (k' : Int), .bool st] 70 (0, 0)) w1) := hq
    have HM : Hid (∀ e w, MA W B b wb s st k depth e w (if u / 8 < 1 ∨ 536870911 < u / 8 then .inr (24, k) else if 5 < u % 8 then .inr (23, k) else tkM s st depth k k' num ar (u / 8) (u % 8)) → MA W B b wb s st k depth e w (stepR s st depth k num ar (.inl (u, k')))) := fun e w h => h
    have h5 : u % 8 < 8 := Nat.mod_lt _ (by decide)
    generalize u / 8 = n at *
    generalize u % 8 = kd at *
    clear Hlt hu
    by_cases h24 : n < 1 ∨ 536870911 < n
    · rw [if_pos h24] at hq
      obtain ⟨rfl, hU⟩ := hq
      have Hend : Hid (MA W B b wb s st k depth (.returned (.int .i64 24)) w1 (stepR s st depth k num ar (.inl (u, k')))) := unhide HM _ _ (by rw [if_pos h24]; exact ⟨rfl, by decide, hU.at', (unhide HSB).trans (.ofU hU (unhide HSk).hB)⟩)
      clear HM hU h24 h5
      go_wp2
      go_ret
      exact unhide Hend
    · rw [if_neg h24] at hq
      by_cases h23 : 5 < kd
      · rw [if_pos h23] at hq
        obtain ⟨rfl, hU⟩ := hq
        have Hend : Hid (MA W B b wb s st k depth (.returned (.int .i64 23)) w1 (stepR s st depth k num ar (.inl (u, k')))) := unhide HM _ _ (by rw [if_neg h24, if_pos h23]; exact ⟨rfl, by decide, hU.at', (unhide HSB).trans (.ofU hU (unhide HSk).hB)⟩)
        clear HM hU h24 h23 h5
        go_wp2
        go_ret
        exact unhide Hend
      · rw [if_neg h23] at hq
        obtain ⟨rfl, hU⟩ := hq
        have hE : ∀ e w, MA w1 B b wb s st k depth e w (tkM s st depth k k' num ar n kd) → MA W B b wb s st k depth e w (stepR s st depth k num ar (.inl (u, k'))) := fun e w h => unhide HM e w (by rw [if_neg h24, if_neg h23]; exact h.of ((unhide HSB).trans (.ofU hU (unhide HSk).hB)))
        have hT := wtake_skip (n := n) (kd := kd) ((unhide HSk).upd hU) hk2 hs (by omega) har (fun e => by have := unhide Hnum e; omega)
        have HT := hide hT
        have HE := hide hE
        clear hT hE HM hU h24 h23 h5
        go_wp2_with fail
        refine (unhide HT).mono ?_
        intro e w2 hq
        obtain ⟨c, rfl⟩ := hq.ret
        have Hq := hide (unhide HE _ _ hq)
        clear hq HT HE
        go_wp2
        go_ret
        exact unhide Hq
#print axioms wstep_skip
end Go.Proofs.YtgbadnbhgpnppaaDoor
namespace Go.Proofs.YtgbadnbhgpnppaaDoor
open Go.RowKit
attribute [local go_sem ↓] Go.wp_at_zero Go.wp_at_succ

/-- The walk's run till no group is open. -/
def runM (s : ByteArray) (st : Bool) (depth : Int) : Nat → (Nat × Nat × List Nat) ⊕ (Nat × Nat) → Nat ⊕ (Nat × Nat)
  | _, .inr x => .inr x
  | 0, .inl (k, _, _) => .inl k
  | f + 1, .inl (k, num, ar) => if ar = [] then .inl k else runM s st depth f (stepM s st depth k num ar)
structure OkM (s : ByteArray) (k num : Nat) (ar : List Nat) : Prop where
  le : k ≤ s.size
  len : ar.length ≤ k + 1
  top : ar = [] → num = 0
  head : ar ≠ [] → ar.head? = some 0
theorem xAt_lt {s : ByteArray} {k n u k' : Nat} (h : xAt s k n = .inl (u, k')) : k ≤ k' ∧ k' ≤ s.size := by
  unfold xAt at h
  split at h
  · cases h
  · obtain ⟨-, rfl⟩ := Prod.mk.inj (Sum.inl.inj h)
    omega
theorem tAt_lt {s : ByteArray} {st : Bool} {k k' : Nat} {t : ByteArray} (h : tAt s st k = .inl (t, k')) : k ≤ k' ∧ k' ≤ s.size := by
  unfold tAt at h
  split at h
  · cases h
  · rename_i u k1 hv
    have := vAt_lt hv
    split at h
    · cases h
    · obtain ⟨-, rfl⟩ := Prod.mk.inj (Sum.inl.inj h)
      omega
theorem plc_inl {α : Type} {r : (α × Nat) ⊕ Nat} {k' : Nat} (h : plc r = .inl k') : ∃ u, r = .inl (u, k') := by
  match r, h with
  | .inl (u, _), h => exact ⟨u, by rw [Sum.inl.inj h]⟩
theorem tkM_ok {s : ByteArray} {st : Bool} {depth : Int} {t k num n kd k2 num2 : Nat} {ar ar2 : List Nat} (hk : k ≤ s.size) (hl : ar.length ≤ k) (ht : ar = [] → num = 0) (hh : ar ≠ [] → ar.head? = some 0) (h : tkM s st depth t k num ar n kd = .inl (k2, num2, ar2)) : k ≤ k2 ∧ OkM s k2 num2 ar2 := by
  unfold tkM at h
  split at h
  · split at h
    · cases h
    · obtain ⟨rfl, hp⟩ := Prod.mk.inj (Sum.inl.inj h)
      obtain ⟨rfl, rfl⟩ := Prod.mk.inj hp
      refine ⟨Nat.le_refl _, hk, by simp; omega, fun e => by simp at e, fun _ => ?_⟩
      cases ar with
      | nil => simp [ht rfl]
      | cons a ar => simpa using hh (by simp)
  · split at h
    · split at h
      · cases h
      · rcases List.eq_nil_or_concat ar with rfl | ⟨l, x, rfl⟩
        · simp at h
        · rw [List.concat_eq_append] at *
          simp only [List.getLast?_append, List.getLast?_singleton, Option.some_or, List.dropLast_concat] at h
          obtain ⟨rfl, hp⟩ := Prod.mk.inj (Sum.inl.inj h)
          obtain ⟨rfl, rfl⟩ := Prod.mk.inj hp
          refine ⟨Nat.le_refl _, hk, by simp at hl; omega, fun e => ?_, fun e => ?_⟩
          · subst e
            simpa using hh (by simp)
          · cases l with
            | nil => exact absurd rfl e
            | cons a l => simpa using hh (by simp)
    · generalize hr : (if kd = 0 then plc (vAt s st k) else if kd = 1 then plc (xAt s k 8) else if kd = 2 then plc (tAt s st k) else plc (xAt s k 4)) = r at h
      match r, h with
      | .inl k', h =>
        obtain ⟨rfl, hp⟩ := Prod.mk.inj (Sum.inl.inj h)
        obtain ⟨rfl, rfl⟩ := Prod.mk.inj hp
        have hkk : k ≤ k' ∧ k' ≤ s.size := by
          split at hr
          · obtain ⟨u, hu⟩ := plc_inl hr
            have := vAt_lt hu
            omega
          · split at hr
            · obtain ⟨u, hu⟩ := plc_inl hr
              exact xAt_lt hu
            · split at hr
              · obtain ⟨u, hu⟩ := plc_inl hr
                exact tAt_lt hu
              · obtain ⟨u, hu⟩ := plc_inl hr
                exact xAt_lt hu
        exact ⟨hkk.1, hkk.2, by omega, ht, hh⟩
      | .inr c, h => cases h
theorem stepM_ok {s : ByteArray} {st : Bool} {depth : Int} {k num k2 num2 : Nat} {ar ar2 : List Nat} (ho : OkM s k num ar) (h : stepM s st depth k num ar = .inl (k2, num2, ar2)) : k < k2 ∧ OkM s k2 num2 ar2 := by
  unfold stepM at h
  generalize hv : vAt s st k = r at h
  match r, h with
  | .inr c, h => cases h
  | .inl (u, k'), h =>
    obtain ⟨-, h1, h2⟩ := vAt_lt hv
    replace h : (if u / 8 < 1 ∨ 536870911 < u / 8 then .inr (24, k) else if 5 < u % 8 then .inr (23, k) else tkM s st depth k k' num ar (u / 8) (u % 8) : (Nat × Nat × List Nat) ⊕ (Nat × Nat)) = .inl (k2, num2, ar2) := h
    split at h
    · cases h
    · split at h
      · cases h
      · obtain ⟨q1, q2⟩ := tkM_ok h2 (by have := ho.len; omega) ho.top ho.head h
        exact ⟨by omega, q2⟩
set_option maxRecDepth 100000 in
theorem inGroup_any {W : World} {wb b m gc : Nat} {tag depth num0 : Int} {v : Value} {ga : Option Addr} (hw : WkS W wb b tag depth num0 v (.slice ga m gc)) :
    Calls Tryd.prog 54 #[.pointer (some ⟨wb, 0, none⟩)] W fun e W' => e = .returned (.bool (decide (0 < m))) ∧ W' = W := by
  obtain ⟨c0, c1, c2, c3, c4, c5, c6, f1⟩ := walk_cells hw
  go_enter Tryd.func54, Tryd.ntmps54
  go_wp2
  go_ret
  exact ⟨by first | rfl | simp, rfl⟩
set_option maxRecDepth 100000 in
theorem newWalk_skip {W : World} {b k : Nat} {s : ByteArray} {st : Bool} {depth : Int} (h : RdAt W b s k st) :
    Calls Tryd.prog 53 #[.pointer (some ⟨b, 0, none⟩), .int .i64 depth, .bool false] W fun e W' => e = .returned (.pointer (some ⟨W.heap.size, 0, none⟩)) ∧ SkSt W' (W.heap.size + 1) b W.heap.size s st k depth k 0 [] ∧ Below W.heap.size W W' := by
  obtain ⟨d0, d1, d2, _⟩ := cells3_of h
  have hb := (Array.getElem?_eq_some_iff.1 h).1
  have hnw := heap_alloc_new W (.cells #[.pointer (some ⟨b, 0, none⟩), .int .i64 (k : Int), .int .i64 depth, .bool false, .int .i64 0, .slice none 0 0, .slice none 0 0] 100)
  have hB : Below W.heap.size W (W.alloc (.cells #[.pointer (some ⟨b, 0, none⟩), .int .i64 (k : Int), .int .i64 depth, .bool false, .int .i64 0, .slice none 0 0, .slice none 0 0] 100)) := (Below.refl _ _).alloc (Nat.le_refl _) _
  have hS : SkSt (W.alloc (.cells #[.pointer (some ⟨b, 0, none⟩), .int .i64 (k : Int), .int .i64 depth, .bool false, .int .i64 0, .slice none 0 0, .slice none 0 0] 100)) (W.heap.size + 1) b W.heap.size s st k depth k 0 [] := ⟨(hB.block b hb).trans h, ⟨_, hnw, World.ownsRow_nil _ _ _ _⟩, by omega, by omega, by omega, by rw [World.size_alloc]; exact Nat.le_refl _⟩
  have HB := hide hB
  have HS := hide hS
  clear hnw hB hS h
  go_enter Tryd.func53, Tryd.ntmps53
  go_wp2
  go_ret
  exact ⟨rfl, unhide HS, unhide HB⟩
end Go.Proofs.YtgbadnbhgpnppaaDoor
