import Derived.Test.YtpmdfgoajffmeaaILink

namespace Go.Proofs.Ytpmdfgoajffmeaa
open Go.RowKit
attribute [local go_sem ↓] Go.wp_at_zero Go.wp_at_succ

theorem zero2_new (W : World) (x y : Value) (t : TypeId) : ((W.alloc (.cells #[x, y] t)).cell? ⟨W.heap.size, 0, none⟩ = some x ∧ (W.alloc (.cells #[x, y] t)).cell? ⟨W.heap.size, 1, none⟩ = some y) ∧ (W.alloc (.cells #[x, y] t)).frozen? ⟨W.heap.size, 0, none⟩ = false ∧ (W.alloc (.cells #[x, y] t)).frozen? ⟨W.heap.size, 1, none⟩ = false := by
  refine ⟨cell2_new W x y t, ?_⟩
  have h := World.alloc_heap_new W (.cells #[x, y] t)
  unfold World.frozen?
  rw [h]
  exact ⟨rfl, rfl⟩

theorem set_other (W : World) (B o k : Nat) (v : Value) (h : o ≠ k) : (W.setCell ⟨B, o, none⟩ v).cell? ⟨B, k, none⟩ = W.cell? ⟨B, k, none⟩ := by
  apply World.cell?_setCell_other
  intro e
  exact h (congrArg Addr.off e)
theorem set2_cells {W0 : World} {B : Nat} {a b : Value} (x y : Value) (h0 : W0.cell? ⟨B, 0, none⟩ = some a) (h1 : W0.cell? ⟨B, 1, none⟩ = some b) : ((W0.setCell ⟨B, 0, none⟩ x).setCell ⟨B, 1, none⟩ y).cell? ⟨B, 0, none⟩ = some x ∧ ((W0.setCell ⟨B, 0, none⟩ x).setCell ⟨B, 1, none⟩ y).cell? ⟨B, 1, none⟩ = some y := by
  have e0 : (W0.setCell ⟨B, 0, none⟩ x).cell? ⟨B, 0, none⟩ = some x := World.cell?_setCell_same' _ _ _ (by rw [h0]; rfl)
  have e1 : (W0.setCell ⟨B, 0, none⟩ x).cell? ⟨B, 1, none⟩ = some b := (set_other W0 B 0 1 x (by omega)).trans h1
  refine ⟨(set_other _ B 1 0 y (by omega)).trans e0, World.cell?_setCell_same' _ _ _ (by rw [e1]; rfl)⟩

theorem cell4_new (W : World) (x y : Value) (t : TypeId) : (W.alloc (.cells #[x, y] t)).cell? ⟨W.heap.size, 4, none⟩ = none := by
  have h := World.alloc_heap_new W (.cells #[x, y] t)
  unfold World.cell?
  rw [h]
  rfl
/-- A store into a block that is no node leaves the tree. -/
theorem IsT.setCell {n₀ B o : Nat} {A : World} {v : Value} (h4 : A.cell? ⟨B, 4, none⟩ = none) : ∀ {p : Option Addr} {T : BT}, IsT n₀ A p T → IsT n₀ (A.setCell ⟨B, o, none⟩ v) p T
  | _, .leaf, ht => ht
  | _, .node _ _ _, ⟨b, pl, pr, hp, hb, g0, g1, g2, g3, g4, hl, hr⟩ => by
    have hne : B ≠ b := fun e => by subst e; rw [h4] at g4; cases g4
    have far : ∀ k, (A.setCell ⟨B, o, none⟩ v).cell? ⟨b, k, none⟩ = A.cell? ⟨b, k, none⟩ := fun k => World.cell?_setCell_far _ _ _ _ hne
    exact ⟨b, pl, pr, hp, hb, (far 0).trans g0, (far 1).trans g1, (far 2).trans g2, (far 3).trans g3, (far 4).trans g4, IsT.setCell h4 hl, IsT.setCell h4 hr⟩

set_option maxRecDepth 100000 in
set_option maxHeartbeats 4000000 in
theorem takeFirst_any (T : BT) : ∀ (W : World) (p : Option Addr), T ≠ .leaf → IsT W.heap.size W p T → (T.io.length : Int) ≤ 1152921504606846976 →
    Calls Try.prog 36 #[.pointer p] W fun o W' => ∃ x p' T', o = .returned (.tuple #[.agg #[.int .i64 x.1, .int .i64 x.2], .pointer p']) ∧ IsT W'.heap.size W' p' T' ∧ T.io = x :: T'.io ∧ Below W.heap.size W W' := by
  induction T with
  | leaf => intro W p h; exact (h rfl).elim
  | node l ne r ihl _ =>
    intro W p _ ht hsz
    rw [BT.io_len] at hsz
    have hz := zero2_new W (.int .i64 0) (.int .i64 0) 54
    have hz4 := cell4_new W (.int .i64 0) (.int .i64 0) 54
    have hB0 : Below W.heap.size W (W.alloc (.cells #[.int .i64 0, .int .i64 0] 54)) := (Below.refl _ W).alloc (Nat.le_refl _) _
    have hs0 : (W.alloc (.cells #[.int .i64 0, .int .i64 0] 54)).heap.size = W.heap.size + 1 := World.size_alloc _ _
    obtain ⟨b, pl, pr, rfl, hb, h0, h1, h2, h3, h4, hl, hr⟩ := ht
    have HS : Hid (∀ w', Below W.heap.size W w' → (w'.cell? ⟨b, 0, none⟩ = some (.int .i64 ne.1) ∧ w'.cell? ⟨b, 1, none⟩ = some (.int .i64 ne.2) ∧ w'.cell? ⟨b, 2, none⟩ = some (.pointer pl) ∧ w'.cell? ⟨b, 3, none⟩ = some (.pointer pr)) ∧ Below W.heap.size W w') := fun w' h => ⟨⟨(h.cell (p := ⟨b, 0, none⟩) hb).trans h0, (h.cell (p := ⟨b, 1, none⟩) hb).trans h1, (h.cell (p := ⟨b, 2, none⟩) hb).trans h2, (h.cell (p := ⟨b, 3, none⟩) hb).trans h3⟩, h⟩
    cases l with
    | leaf =>
      obtain rfl : pl = none := hl
      have Ih := hide ihl
      clear ihl
      obtain ⟨⟨g0, g1, g2, g3⟩, _⟩ := HS.out _ hB0
      go_enter Try.func36, Try.ntmps36
      go_wp2
      generalize W.alloc (.cells #[.int .i64 0, .int .i64 0] 54) = W0 at *
      obtain ⟨⟨hx0, hx1⟩, hf0, hf1⟩ := hz
      clear h0 h1 h2 h3 h4
      go_region_held3 (fun w' => (w'.cell? ⟨b, 0, none⟩ = some (.int .i64 ne.1) ∧ w'.cell? ⟨b, 1, none⟩ = some (.int .i64 ne.2) ∧ w'.cell? ⟨b, 2, none⟩ = some (.pointer none) ∧ w'.cell? ⟨b, 3, none⟩ = some (.pointer pr)) ∧ Below W.heap.size W w') ((refine HS.out _ ?_; first | exact (Below.refl _ _).drew | exact hB0.drew | exact (hB0.drew.setCell (p := ⟨W.heap.size, 0, none⟩) (Nat.le_refl _) _).setCell (p := ⟨W.heap.size, 1, none⟩) (Nat.le_refl _) _ | exact hB2 | exact hB1 | exact Below.refl _ _)) (fail)
      go_wp2
      have q := set2_cells (.int .i64 ne.1) (.int .i64 ne.2) hx0 hx1
      have hB9 : Below W.heap.size W ((W0.setCell ⟨W.heap.size, 0, none⟩ (.int .i64 ne.1)).setCell ⟨W.heap.size, 1, none⟩ (.int .i64 ne.2)) := (hB0.setCell (p := ⟨W.heap.size, 0, none⟩) (Nat.le_refl _) _).setCell (p := ⟨W.heap.size, 1, none⟩) (Nat.le_refl _) _
      generalize (W0.setCell ⟨W.heap.size, 0, none⟩ (.int .i64 ne.1)).setCell ⟨W.heap.size, 1, none⟩ (.int .i64 ne.2) = W9 at *
      obtain ⟨q0, q1⟩ := q
      exact bodyPost_ret (v := .tuple #[.agg #[.int .i64 ne.1, .int .i64 ne.2], .pointer pr]) (by simp [results, Try.results36, go_sem, q0, q1]) rfl ⟨ne, pr, r, rfl, hr.up hB9.drew, by simp [BT.io], hB9.drew⟩
    | node a be c =>
      have Ih := hide ihl
      clear ihl
      obtain ⟨⟨g0, g1, g2, g3⟩, _⟩ := HS.out _ hB0
      have hl' := hl
      obtain ⟨bl, _, _, rfl, _⟩ := hl'
      go_enter Try.func36, Try.ntmps36
      go_wp2_with fail
      generalize W.alloc (.cells #[.int .i64 0, .int .i64 0] 54) = W0 at *
      obtain ⟨⟨hx0, hx1⟩, hf0, hf1⟩ := hz
      refine (unhide Ih W0 _ (by simp) (hl.up hB0) (by omega)).mono ?_
      rintro o W1 ⟨x, p1, T1, rfl, ht1, hi1, hb1⟩
      have hB1 : Below W.heap.size W W1 := hB0.trans (hb1.mono hB0.size)
      have hn1 : (T1.io.length : Int) + 1 = ((BT.node a be c).io.length : Int) := by rw [hi1]; simp
      have Hi1 := hide hi1
      clear hi1
      go_wp2
      have hz2 := cell2_new W1 (.int .i64 x.1) (.int .i64 x.2) 54
      have hb2 : Below W1.heap.size W1 (W1.alloc (.cells #[.int .i64 x.1, .int .i64 x.2] 54)) := (Below.refl _ W1).alloc (Nat.le_refl _) _
      have hs2 : (W1.alloc (.cells #[.int .i64 x.1, .int .i64 x.2] 54)).heap.size = W1.heap.size + 1 := World.size_alloc _ _
      generalize W1.alloc (.cells #[.int .i64 x.1, .int .i64 x.2] 54) = W2 at *
      have hlt1 : W.heap.size < W1.heap.size := by have := hb1.size; omega
      have ne1 : W.heap.size ≠ W1.heap.size := by omega
      have ne2 : W.heap.size ≠ b := by omega
      have hB2 : Below W.heap.size W W2 := hB1.trans (hb2.mono hB1.size)
      have f0 : W2.frozen? ⟨W.heap.size, 0, none⟩ = false := ((hb2.frozen (p := ⟨W.heap.size, 0, none⟩) hlt1).trans (hb1.frozen (p := ⟨W.heap.size, 0, none⟩) (by show W.heap.size < _; omega))).trans hf0
      have f1 : W2.frozen? ⟨W.heap.size, 1, none⟩ = false := ((hb2.frozen (p := ⟨W.heap.size, 1, none⟩) hlt1).trans (hb1.frozen (p := ⟨W.heap.size, 1, none⟩) (by show W.heap.size < _; omega))).trans hf1
      have c0 : W2.cell? ⟨W.heap.size, 0, none⟩ = some (.int .i64 0) := ((hb2.cell (p := ⟨W.heap.size, 0, none⟩) hlt1).trans (hb1.cell (p := ⟨W.heap.size, 0, none⟩) (by show W.heap.size < _; omega))).trans hx0
      have c1 : W2.cell? ⟨W.heap.size, 1, none⟩ = some (.int .i64 0) := ((hb2.cell (p := ⟨W.heap.size, 1, none⟩) hlt1).trans (hb1.cell (p := ⟨W.heap.size, 1, none⟩) (by show W.heap.size < _; omega))).trans hx1
      have ht2 := ht1.up hb2
      have hr2 := hr.up hB2
      obtain ⟨z0, z1⟩ := hz2
      have hw2 : W1.heap.size < W2.heap.size := by omega
      have HS2 : Hid (∀ w', Below W2.heap.size W2 w' → (w'.cell? ⟨W1.heap.size, 0, none⟩ = some (.int .i64 x.1) ∧ w'.cell? ⟨W1.heap.size, 1, none⟩ = some (.int .i64 x.2)) ∧ w'.cell? ⟨b, 0, none⟩ = some (.int .i64 ne.1) ∧ w'.cell? ⟨b, 1, none⟩ = some (.int .i64 ne.2) ∧ w'.cell? ⟨b, 2, none⟩ = some (.pointer (some ⟨bl, 0, none⟩)) ∧ w'.cell? ⟨b, 3, none⟩ = some (.pointer pr)) := fun w' h => ⟨⟨(h.cell (p := ⟨W1.heap.size, 0, none⟩) hw2).trans z0, (h.cell (p := ⟨W1.heap.size, 1, none⟩) hw2).trans z1⟩, (HS.out w' (hB2.trans (h.mono hB2.size))).1⟩
      clear h0 h1 h2 h3 h4 g0 g1 g2 g3 hx0 hx1 hf0 hf1
      go_region_held3 (fun w' => (w'.cell? ⟨W1.heap.size, 0, none⟩ = some (.int .i64 x.1) ∧ w'.cell? ⟨W1.heap.size, 1, none⟩ = some (.int .i64 x.2)) ∧ w'.cell? ⟨b, 0, none⟩ = some (.int .i64 ne.1) ∧ w'.cell? ⟨b, 1, none⟩ = some (.int .i64 ne.2) ∧ w'.cell? ⟨b, 2, none⟩ = some (.pointer (some ⟨bl, 0, none⟩)) ∧ w'.cell? ⟨b, 3, none⟩ = some (.pointer pr))
        (first | exact HS2.out _ (Below.refl _ _).drew | exact HS2.out _ hb3 | (refine ⟨⟨?_, ?_⟩, ?_, ?_, ?_, ?_⟩ <;> go_keep))
        (first
          | (go_at_call 31; refine (level_any ne (L := T1) (R := r) (ht2.up (Below.refl _ _).drew) (hr2.up (Below.refl _ _).drew) (by omega)).mono ?_; rintro o W3 ⟨p3, T3, rfl, ht3, hi3, hb3'⟩; have hb3 : Below W2.heap.size W2 W3 := ((Below.refl _ W2).drew).trans hb3'; clear hb3'; have Hi3 := hide hi3; clear hi3; have k0 := (hb3.cell (p := ⟨W.heap.size, 0, none⟩) (by show W.heap.size < _; omega)).trans c0; have k1 := (hb3.cell (p := ⟨W.heap.size, 1, none⟩) (by show W.heap.size < _; omega)).trans c1; have k2 := (hb3.frozen (p := ⟨W.heap.size, 0, none⟩) (by show W.heap.size < _; omega)).trans f0; have k3 := (hb3.frozen (p := ⟨W.heap.size, 1, none⟩) (by show W.heap.size < _; omega)).trans f1; obtain ⟨⟨y0, y1⟩, y2, y3, y4, y5⟩ := HS2.out W3 hb3))
      go_wp2
      have n4 : W3.cell? ⟨W.heap.size, 4, none⟩ = none := ((hb3.cell (p := ⟨W.heap.size, 4, none⟩) (by show W.heap.size < _; omega)).trans (hb2.cell (p := ⟨W.heap.size, 4, none⟩) hlt1)).trans ((hb1.cell (p := ⟨W.heap.size, 4, none⟩) (by show W.heap.size < _; omega)).trans hz4)
      have q := set2_cells (.int .i64 x.1) (.int .i64 x.2) k0 k1
      have hB3 : Below W.heap.size W W3 := hB2.trans (hb3.mono hB2.size)
      have hB9 : Below W.heap.size W ((W3.setCell ⟨W.heap.size, 0, none⟩ (.int .i64 x.1)).setCell ⟨W.heap.size, 1, none⟩ (.int .i64 x.2)) := (hB3.setCell (p := ⟨W.heap.size, 0, none⟩) (Nat.le_refl _) _).setCell (p := ⟨W.heap.size, 1, none⟩) (Nat.le_refl _) _
      have ht9 : IsT ((W3.setCell ⟨W.heap.size, 0, none⟩ (.int .i64 x.1)).setCell ⟨W.heap.size, 1, none⟩ (.int .i64 x.2)).heap.size ((W3.setCell ⟨W.heap.size, 0, none⟩ (.int .i64 x.1)).setCell ⟨W.heap.size, 1, none⟩ (.int .i64 x.2)) p3 T3 := by
        have e4 : (W3.setCell ⟨W.heap.size, 0, none⟩ (.int .i64 x.1)).cell? ⟨W.heap.size, 4, none⟩ = none := (set_other W3 W.heap.size 0 4 _ (by omega)).trans n4
        rw [World.size_setCell, World.size_setCell]
        exact IsT.setCell e4 (IsT.setCell n4 ht3)
      clear y0 y1 y2 y3 y4 y5 k0 k1 k2 k3
      generalize (W3.setCell ⟨W.heap.size, 0, none⟩ (.int .i64 x.1)).setCell ⟨W.heap.size, 1, none⟩ (.int .i64 x.2) = W9 at *
      obtain ⟨q0, q1⟩ := q
      exact bodyPost_ret (v := .tuple #[.agg #[.int .i64 x.1, .int .i64 x.2], .pointer p3]) (by simp [results, Try.results36, go_sem, q0, q1]) rfl ⟨x, p3, T3, rfl, ht9, by rw [unhide Hi3, ← List.cons_append, ← unhide Hi1]; rfl, hB9⟩

set_option maxRecDepth 100000 in
set_option maxHeartbeats 4000000 in
theorem glue_any {W : World} {pl pr : Option Addr} {L R : BT} (hl : IsT W.heap.size W pl L) (hr : IsT W.heap.size W pr R) (hsz : (L.io.length : Int) + (R.io.length : Int) ≤ 1152921504606846976) :
    Calls Try.prog 33 #[.pointer pl, .pointer pr] W (Gives W (L.io ++ R.io)) := by
  cases R with
  | leaf =>
    obtain rfl : pr = none := hr
    have Hl := hide hl
    clear hl
    go_enter Try.func33, Try.ntmps33
    go_wp2
    go_ret
    exact ⟨_, _, rfl, unhide Hl, by simp [BT.io], Below.refl _ _⟩
  | node a ne c =>
    have hr' := hr
    obtain ⟨b, _, _, rfl, _⟩ := hr'
    have hz : (BT.node a ne c) ≠ .leaf := by simp
    go_enter Try.func33, Try.ntmps33
    go_wp2_with fail
    refine (takeFirst_any _ W _ hz hr (by omega)).mono ?_
    rintro o W1 ⟨x, p1, T1, rfl, ht1, hi1, hb1⟩
    have hn1 : (T1.io.length : Int) + 1 = ((BT.node a ne c).io.length : Int) := by rw [hi1]; simp
    have Hi1 := hide hi1
    clear hi1
    go_wp2_with fail
    have hz2 := cell2_new W1 (.int .i64 x.1) (.int .i64 x.2) 54
    have hb2 : Below W1.heap.size W1 (W1.alloc (.cells #[.int .i64 x.1, .int .i64 x.2] 54)) := (Below.refl _ W1).alloc (Nat.le_refl _) _
    generalize W1.alloc (.cells #[.int .i64 x.1, .int .i64 x.2] 54) = W2 at *
    obtain ⟨z0, z1⟩ := hz2
    go_wp2_with fail
    refine (link_any _ L T1 (Nat.le_refl _) W2 _ _ x (hl.up (hb1.trans (hb2.mono hb1.size))) (ht1.up hb2) (by omega)).mono ?_
    rintro o W3 ⟨p3, T3, rfl, ht3, hi3, hb3⟩
    have Hi3 := hide hi3
    clear hi3
    go_wp2
    go_ret
    exact ⟨_, _, rfl, ht3, by rw [unhide Hi3, unhide Hi1], (hb1.trans (hb2.mono hb1.size)).trans (hb3.mono (hb1.trans (hb2.mono hb1.size)).size)⟩

/-- One entry taken out. -/
theorem del_left {l r l' : List Ent} {k : KT} {x : Ent} (hs : Srt (l ++ x :: r)) (hlt : k < x.1) (hs' : Srt l') (hm : ∀ y, y ∈ l' ↔ y ∈ l ∧ y.1 ≠ k) :
    Srt (l' ++ x :: r) ∧ ∀ y, y ∈ l' ++ x :: r ↔ y ∈ l ++ x :: r ∧ y.1 ≠ k := by
  obtain ⟨h1, h2, h3, h4⟩ := srt_mid.1 hs
  refine ⟨srt_mid.2 ⟨hs', h2, fun y hy => h3 y ((hm y).1 hy).1, h4⟩, fun y => ?_⟩
  simp only [List.mem_append, List.mem_cons, hm]
  constructor
  · rintro (⟨hy, hne⟩ | rfl | hy)
    · exact ⟨.inl hy, hne⟩
    · exact ⟨.inr (.inl rfl), fun e' => klt_irrefl (e' ▸ hlt)⟩
    · exact ⟨.inr (.inr hy), fun e' => klt_irrefl (klt_trans (e' ▸ h4 y hy) hlt)⟩
  · rintro ⟨hy | rfl | hy, hne⟩
    · exact .inl ⟨hy, hne⟩
    · exact .inr (.inl rfl)
    · exact .inr (.inr hy)
theorem del_right {l r r' : List Ent} {k : KT} {x : Ent} (hs : Srt (l ++ x :: r)) (hlt : x.1 < k) (hs' : Srt r') (hm : ∀ y, y ∈ r' ↔ y ∈ r ∧ y.1 ≠ k) :
    Srt (l ++ x :: r') ∧ ∀ y, y ∈ l ++ x :: r' ↔ y ∈ l ++ x :: r ∧ y.1 ≠ k := by
  obtain ⟨h1, h2, h3, h4⟩ := srt_mid.1 hs
  refine ⟨srt_mid.2 ⟨h1, hs', h3, fun y hy => h4 y ((hm y).1 hy).1⟩, fun y => ?_⟩
  simp only [List.mem_append, List.mem_cons, hm]
  constructor
  · rintro (hy | rfl | ⟨hy, hne⟩)
    · exact ⟨.inl hy, fun e' => klt_irrefl (klt_trans (e' ▸ h3 y hy) hlt)⟩
    · exact ⟨.inr (.inl rfl), fun e' => klt_irrefl (e' ▸ hlt)⟩
    · exact ⟨.inr (.inr hy), hne⟩
  · rintro ⟨hy | rfl | hy, hne⟩
    · exact .inl hy
    · exact .inr (.inl rfl)
    · exact .inr (.inr ⟨hy, hne⟩)
theorem del_here {l r : List Ent} {k : KT} {x : Ent} (hs : Srt (l ++ x :: r)) (heq : x.1 = k) :
    Srt (l ++ r) ∧ ∀ y, y ∈ l ++ r ↔ y ∈ l ++ x :: r ∧ y.1 ≠ k := by
  obtain ⟨h1, h2, h3, h4⟩ := srt_mid.1 hs
  refine ⟨srt_app.2 ⟨h1, h2, fun y hy z hz => klt_trans (h3 y hy) (h4 z hz)⟩, fun y => ?_⟩
  rw [heq] at h3 h4
  simp only [List.mem_append, List.mem_cons]
  constructor
  · rintro (hy | hy)
    · exact ⟨.inl hy, fun e' => klt_irrefl (e' ▸ h3 y hy)⟩
    · exact ⟨.inr (.inr hy), fun e' => klt_irrefl (e' ▸ h4 y hy)⟩
  · rintro ⟨hy | rfl | hy, hne⟩
    · exact .inl hy
    · exact (hne heq).elim
    · exact .inr hy
theorem del_len {l' l : List Ent} {k : KT} (hs : Srt l') (hm : ∀ y, y ∈ l' ↔ y ∈ l ∧ y.1 ≠ k) : l'.length ≤ l.length := hs.len_le fun x hx => ((hm x).1 hx).1

set_option maxRecDepth 100000 in
set_option maxHeartbeats 4000000 in
theorem drop_any (k : KT) (T : BT) : ∀ (W : World) (p : Option Addr), IsT W.heap.size W p T → Srt T.io → HasKey T.io k → (T.io.length : Int) ≤ 1152921504606846976 →
    Calls Try.prog 29 #[.pointer p, .int .i64 k] W (GivesM W fun x => x ∈ T.io ∧ x.1 ≠ k) := by
  induction T with
  | leaf => rintro W p _ _ ⟨x, hx, _⟩ _; simp [BT.io] at hx
  | node l ne r ihl ihr =>
    intro W p ht hs hk hsz
    have hsr := srt_mid.1 (show Srt (l.io ++ ne :: r.io) from hs)
    have hsz' := hsz
    rw [BT.io_len] at hsz'
    obtain ⟨b, pl, pr, rfl, hb, h0, h1, h2, h3, h4, hl, hr⟩ := ht
    have HS : Hid (∀ w', Below W.heap.size W w' → (w'.cell? ⟨b, 0, none⟩ = some (.int .i64 ne.1) ∧ w'.cell? ⟨b, 1, none⟩ = some (.int .i64 ne.2) ∧ w'.cell? ⟨b, 2, none⟩ = some (.pointer pl) ∧ w'.cell? ⟨b, 3, none⟩ = some (.pointer pr)) ∧ Below W.heap.size W w') := fun w' h => ⟨⟨(h.cell (p := ⟨b, 0, none⟩) hb).trans h0, (h.cell (p := ⟨b, 1, none⟩) hb).trans h1, (h.cell (p := ⟨b, 2, none⟩) hb).trans h2, (h.cell (p := ⟨b, 3, none⟩) hb).trans h3⟩, h⟩
    have Hs := hide hs
    have Hsr := hide hsr
    by_cases hlt : k < ne.1
    · have Hk : Hid (HasKey l.io k) := by
        obtain ⟨x, hx, e'⟩ := hk
        rcases List.mem_append.1 hx with h | h
        · exact ⟨x, h, e'⟩
        · rcases List.mem_cons.1 h with rfl | h
          · exact (klt_irrefl (e' ▸ hlt)).elim
          · exact (klt_irrefl (klt_trans (e' ▸ hsr.2.2.2 x h) hlt)).elim
      have Ih := hide ihl
      clear ihl ihr hs hsr hk h4
      go_enter Try.func29, Try.ntmps29
      go_wp2
      go_region_held3 (fun w' => (w'.cell? ⟨b, 0, none⟩ = some (.int .i64 ne.1) ∧ w'.cell? ⟨b, 1, none⟩ = some (.int .i64 ne.2) ∧ w'.cell? ⟨b, 2, none⟩ = some (.pointer pl) ∧ w'.cell? ⟨b, 3, none⟩ = some (.pointer pr)) ∧ Below W.heap.size W w') ((refine HS.out _ ?_; first | exact (Below.refl _ _).drew | exact (Below.refl _ _).drew.drew | exact hB2 | exact hB1 | exact Below.refl _ _))
        (first
          | (go_at_call 29; refine (unhide Ih _ _ (hl.up (Below.refl _ _).drew) (unhide Hsr).1 (unhide Hk) (by omega)).mono ?_; rintro o W1 ⟨p1, T1, rfl, ht1, hs1, hm1, hb1⟩; have hB1 : Below W.heap.size W W1 := ((Below.refl _ W).drew).trans hb1; have hn1 := del_len hs1 hm1; have Hm1 := hide hm1; have Hs1 := hide hs1; clear hm1 hs1)
          | (go_at_call 31; refine (level_any ne (L := T1) (R := r) ht1 (hr.up hB1) (by omega)).mono ?_; rintro o W2 ⟨p2, T2, rfl, ht2, hi2, hb2⟩; have Hi2 := hide hi2; clear hi2; have hB2 : Below W.heap.size W W2 := hB1.trans (hb2.mono hB1.size)))
      go_wp2
      go_ret
      obtain ⟨q1, q2⟩ := del_left (show Srt (l.io ++ ne :: r.io) from unhide Hs) hlt (unhide Hs1) (unhide Hm1)
      exact ⟨_, _, rfl, ht2, by rw [unhide Hi2]; exact q1, by rw [unhide Hi2]; exact q2, hB2⟩
    · have hd1 : decide (k < ne.1) = false := decide_eq_false hlt
      by_cases hgt : ne.1 < k
      · have Hk : Hid (HasKey r.io k) := by
          obtain ⟨x, hx, e'⟩ := hk
          rcases List.mem_append.1 hx with h | h
          · exact (klt_irrefl (klt_trans (e' ▸ hsr.2.2.1 x h) hgt)).elim
          · rcases List.mem_cons.1 h with rfl | h
            · exact (klt_irrefl (e' ▸ hgt)).elim
            · exact ⟨x, h, e'⟩
        have Ih := hide ihr
        clear ihl ihr hs hsr hk h4 hlt
        go_enter Try.func29, Try.ntmps29
        go_wp2
        go_region_held3 (fun w' => (w'.cell? ⟨b, 0, none⟩ = some (.int .i64 ne.1) ∧ w'.cell? ⟨b, 1, none⟩ = some (.int .i64 ne.2) ∧ w'.cell? ⟨b, 2, none⟩ = some (.pointer pl) ∧ w'.cell? ⟨b, 3, none⟩ = some (.pointer pr)) ∧ Below W.heap.size W w') ((refine HS.out _ ?_; first | exact (Below.refl _ _).drew | exact (Below.refl _ _).drew.drew | exact hB2 | exact hB1 | exact Below.refl _ _))
          (first
            | (go_at_call 29; refine (unhide Ih _ _ (hr.up (Below.refl _ _).drew) (unhide Hsr).2.1 (unhide Hk) (by omega)).mono ?_; rintro o W1 ⟨p1, T1, rfl, ht1, hs1, hm1, hb1⟩; have hB1 : Below W.heap.size W W1 := ((Below.refl _ W).drew).trans hb1; have hn1 := del_len hs1 hm1; have Hm1 := hide hm1; have Hs1 := hide hs1; clear hm1 hs1)
            | (go_at_call 31; refine (level_any ne (L := l) (R := T1) (hl.up hB1) ht1 (by omega)).mono ?_; rintro o W2 ⟨p2, T2, rfl, ht2, hi2, hb2⟩; have Hi2 := hide hi2; clear hi2; have hB2 : Below W.heap.size W W2 := hB1.trans (hb2.mono hB1.size)))
        go_wp2
        go_ret
        obtain ⟨q1, q2⟩ := del_right (show Srt (l.io ++ ne :: r.io) from unhide Hs) hgt (unhide Hs1) (unhide Hm1)
        exact ⟨_, _, rfl, ht2, by rw [unhide Hi2]; exact q1, by rw [unhide Hi2]; exact q2, hB2⟩
      · have hd2 : decide (ne.1 < k) = false := decide_eq_false hgt
        have Heq := hide (keq_of hgt hlt)
        clear ihl ihr hs hsr hk h4 hlt hgt
        go_enter Try.func29, Try.ntmps29
        go_wp2
        go_region_held3 (fun w' => (w'.cell? ⟨b, 0, none⟩ = some (.int .i64 ne.1) ∧ w'.cell? ⟨b, 1, none⟩ = some (.int .i64 ne.2) ∧ w'.cell? ⟨b, 2, none⟩ = some (.pointer pl) ∧ w'.cell? ⟨b, 3, none⟩ = some (.pointer pr)) ∧ Below W.heap.size W w') ((refine HS.out _ ?_; first | exact (Below.refl _ _).drew | exact (Below.refl _ _).drew.drew | exact hB2 | exact hB1 | exact Below.refl _ _))
          (first
            | (go_at_call 33; refine (glue_any (hl.up (Below.refl _ _).drew) (hr.up (Below.refl _ _).drew) (by omega)).mono ?_; rintro o W1 ⟨p1, T1, rfl, ht1, hi1, hb1⟩; have hB1 : Below W.heap.size W W1 := ((Below.refl _ W).drew).trans hb1; have Hi1 := hide hi1; clear hi1))
        go_wp2
        go_ret
        obtain ⟨q1, q2⟩ := del_here (show Srt (l.io ++ ne :: r.io) from unhide Hs) (unhide Heq)
        exact ⟨_, _, rfl, ht1, by rw [unhide Hi1]; exact q1, by rw [unhide Hi1]; exact q2, hB1⟩
end Go.Proofs.Ytpmdfgoajffmeaa
