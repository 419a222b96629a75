import Derived.Test.YtpmdfgoajffmeaaILevel

namespace Go.Proofs.Ytpmdfgoajffmeaa
open Go.RowKit
attribute [local go_sem ↓] Go.wp_at_zero Go.wp_at_succ

/-- A tree is handed back whose entries rise, and are just those of which P holds. -/
def GivesM (W : World) (P : Ent → Prop) (o : Ending) (W' : World) : Prop := ∃ p' T', o = .returned (.pointer p') ∧ IsT W'.heap.size W' p' T' ∧ Srt T'.io ∧ (∀ x, x ∈ T'.io ↔ P x) ∧ Below W.heap.size W W'

theorem put_len {T' : List Ent} {e : Ent} {xs : List Ent} (hs : Srt T') (hm : ∀ x, x ∈ T' ↔ x = e ∨ x ∈ xs ∧ x.1 ≠ e.1) : T'.length ≤ xs.length + 1 :=
  hs.len_le (z := e :: xs) fun x hx => by
    rcases (hm x).1 hx with rfl | h
    · exact List.mem_cons_self
    · exact List.mem_cons_of_mem _ h.1

theorem put_left {l r l' : List Ent} {e x : Ent} (hs : Srt (l ++ x :: r)) (hlt : e.1 < x.1) (hs' : Srt l') (hm : ∀ y, y ∈ l' ↔ y = e ∨ y ∈ l ∧ y.1 ≠ e.1) :
    Srt (l' ++ x :: r) ∧ ∀ y, y ∈ l' ++ x :: r ↔ y = e ∨ y ∈ l ++ x :: r ∧ y.1 ≠ e.1 := by
  obtain ⟨h1, h2, h3, h4⟩ := srt_mid.1 hs
  refine ⟨srt_mid.2 ⟨hs', h2, fun y hy => ?_, h4⟩, fun y => ?_⟩
  · rcases (hm y).1 hy with rfl | hy
    · exact hlt
    · exact h3 y hy.1
  · simp only [List.mem_append, List.mem_cons, hm]
    constructor
    · rintro ((rfl | ⟨hy, hne⟩) | rfl | hy)
      · exact .inl rfl
      · exact .inr ⟨.inl hy, hne⟩
      · exact .inr ⟨.inr (.inl rfl), fun e' => klt_irrefl (e' ▸ hlt)⟩
      · exact .inr ⟨.inr (.inr hy), fun e' => klt_irrefl (klt_trans (e' ▸ h4 y hy) hlt)⟩
    · rintro (rfl | ⟨hy | rfl | hy, hne⟩)
      · exact .inl (.inl rfl)
      · exact .inl (.inr ⟨hy, hne⟩)
      · exact .inr (.inl rfl)
      · exact .inr (.inr hy)
theorem put_right {l r r' : List Ent} {e x : Ent} (hs : Srt (l ++ x :: r)) (hlt : x.1 < e.1) (hs' : Srt r') (hm : ∀ y, y ∈ r' ↔ y = e ∨ y ∈ r ∧ y.1 ≠ e.1) :
    Srt (l ++ x :: r') ∧ ∀ y, y ∈ l ++ x :: r' ↔ y = e ∨ y ∈ l ++ x :: r ∧ y.1 ≠ e.1 := by
  obtain ⟨h1, h2, h3, h4⟩ := srt_mid.1 hs
  refine ⟨srt_mid.2 ⟨h1, hs', h3, fun y hy => ?_⟩, fun y => ?_⟩
  · rcases (hm y).1 hy with rfl | hy
    · exact hlt
    · exact h4 y hy.1
  · simp only [List.mem_append, List.mem_cons, hm]
    constructor
    · rintro (hy | rfl | rfl | ⟨hy, hne⟩)
      · exact .inr ⟨.inl hy, fun e' => klt_irrefl (klt_trans (e' ▸ h3 y hy) hlt)⟩
      · exact .inr ⟨.inr (.inl rfl), fun e' => klt_irrefl (e' ▸ hlt)⟩
      · exact .inl rfl
      · exact .inr ⟨.inr (.inr hy), hne⟩
    · rintro (rfl | ⟨hy | rfl | hy, hne⟩)
      · exact .inr (.inr (.inl rfl))
      · exact .inl hy
      · exact .inr (.inl rfl)
      · exact .inr (.inr (.inr ⟨hy, hne⟩))
theorem put_here {l r : List Ent} {e x : Ent} (hs : Srt (l ++ x :: r)) (heq : x.1 = e.1) :
    Srt (l ++ e :: r) ∧ ∀ y, y ∈ l ++ e :: r ↔ y = e ∨ y ∈ l ++ x :: r ∧ y.1 ≠ e.1 := by
  obtain ⟨h1, h2, h3, h4⟩ := srt_mid.1 hs
  rw [heq] at h3 h4
  refine ⟨srt_mid.2 ⟨h1, h2, h3, h4⟩, fun y => ?_⟩
  simp only [List.mem_append, List.mem_cons]
  constructor
  · rintro (hy | rfl | hy)
    · exact .inr ⟨.inl hy, fun e' => klt_irrefl (e' ▸ h3 y hy)⟩
    · exact .inl rfl
    · exact .inr ⟨.inr (.inr hy), fun e' => klt_irrefl (e' ▸ h4 y hy)⟩
  · rintro (rfl | ⟨hy | rfl | hy, hne⟩)
    · exact .inr (.inl rfl)
    · exact .inl hy
    · exact (hne heq).elim
    · exact .inr (.inr hy)

set_option maxRecDepth 100000 in
set_option maxHeartbeats 4000000 in
theorem put_any (e : Ent) (T : BT) : ∀ (W : World) (p : Option Addr), IsT W.heap.size W p T → Srt T.io → (T.io.length : Int) + 1 ≤ 1152921504606846976 →
    Calls Try.prog 19 #[.pointer p, .agg #[.int .i64 e.1, .int .i64 e.2]] W (GivesM W fun x => x = e ∨ x ∈ T.io ∧ x.1 ≠ e.1) := by
  induction T with
  | leaf =>
    intro W p ht _ _
    obtain rfl : p = none := ht
    have hB0 : Below W.heap.size W (W.alloc (.cells #[.int .i64 e.1, .int .i64 e.2] 54)) := (Below.refl _ W).alloc (Nat.le_refl _) _; have hx := cell2_new W (.int .i64 e.1) (.int .i64 e.2) 54; have hs0 : (W.alloc (.cells #[.int .i64 e.1, .int .i64 e.2] 54)).heap.size = W.heap.size + 1 := World.size_alloc _ _
    go_enter Try.func19, Try.ntmps19
    go_wp2_with (go_at_call 30; refine (fork_node e (L := .leaf) (R := .leaf) rfl rfl (by simp [BT.io])).mono ?_; rintro o W1 ⟨p1, rfl, ht1, hb1⟩)
    go_ret
    exact ⟨_, _, rfl, ht1, by simp [BT.io, Srt], by simp [BT.io], hB0.trans (hb1.mono hB0.size)⟩
  | node l ne r ihl ihr =>
    intro W p ht hs hsz
    have hB0 : Below W.heap.size W (W.alloc (.cells #[.int .i64 e.1, .int .i64 e.2] 54)) := (Below.refl _ W).alloc (Nat.le_refl _) _; have hx := cell2_new W (.int .i64 e.1) (.int .i64 e.2) 54; have hs0 : (W.alloc (.cells #[.int .i64 e.1, .int .i64 e.2] 54)).heap.size = W.heap.size + 1 := World.size_alloc _ _
    have hsr := srt_mid.1 (show Srt (l.io ++ ne :: r.io) from hs)
    have hsz' := hsz
    rw [BT.io_len] at hsz'
    by_cases hlt : e.1 < ne.1
    · go_enter Try.func19, Try.ntmps19
      obtain ⟨b, pl, pr, rfl, hb, h0, h1, h2, h3, h4, hl, hr⟩ := ht.up hB0
      go_wp2
      generalize W.alloc (.cells #[.int .i64 e.1, .int .i64 e.2] 54) = W0 at *
      obtain ⟨hx0, hx1⟩ := hx
      have hxB : W.heap.size < W0.heap.size := by omega
      have HS : Hid (∀ w', Below W0.heap.size W0 w' → (w'.cell? ⟨W.heap.size, 0, none⟩ = some (.int .i64 e.1) ∧ w'.cell? ⟨W.heap.size, 1, none⟩ = some (.int .i64 e.2) ∧ w'.cell? ⟨b, 0, none⟩ = some (.int .i64 ne.1) ∧ w'.cell? ⟨b, 1, none⟩ = some (.int .i64 ne.2) ∧ w'.cell? ⟨b, 2, none⟩ = some (.pointer pl) ∧ w'.cell? ⟨b, 3, none⟩ = some (.pointer pr)) ∧ Below W0.heap.size W0 w') := fun w' h => ⟨⟨(h.cell (p := ⟨W.heap.size, 0, none⟩) hxB).trans hx0, (h.cell (p := ⟨W.heap.size, 1, none⟩) hxB).trans hx1, (h.cell (p := ⟨b, 0, none⟩) hb).trans h0, (h.cell (p := ⟨b, 1, none⟩) hb).trans h1, (h.cell (p := ⟨b, 2, none⟩) hb).trans h2, (h.cell (p := ⟨b, 3, none⟩) hb).trans h3⟩, h⟩
      clear ht h4
      have Ih := hide ihl
      have Hs := hide hs
      have Hsr := hide hsr
      clear ihl ihr hs hsr
      go_region_held3 (fun w' => (w'.cell? ⟨W.heap.size, 0, none⟩ = some (.int .i64 e.1) ∧ w'.cell? ⟨W.heap.size, 1, none⟩ = some (.int .i64 e.2) ∧ w'.cell? ⟨b, 0, none⟩ = some (.int .i64 ne.1) ∧ w'.cell? ⟨b, 1, none⟩ = some (.int .i64 ne.2) ∧ w'.cell? ⟨b, 2, none⟩ = some (.pointer pl) ∧ w'.cell? ⟨b, 3, none⟩ = some (.pointer pr)) ∧ Below W0.heap.size W0 w') ((refine HS.out _ ?_; first | exact (Below.refl _ _).drew | exact (Below.refl _ _).drew.drew | exact (Below.refl _ _).drew.drew.drew | exact hB2 | exact hB1 | exact Below.refl _ _)) (fail)
      go_wp2
      go_region_held3 (fun w' => (w'.cell? ⟨W.heap.size, 0, none⟩ = some (.int .i64 e.1) ∧ w'.cell? ⟨W.heap.size, 1, none⟩ = some (.int .i64 e.2) ∧ w'.cell? ⟨b, 0, none⟩ = some (.int .i64 ne.1) ∧ w'.cell? ⟨b, 1, none⟩ = some (.int .i64 ne.2) ∧ w'.cell? ⟨b, 2, none⟩ = some (.pointer pl) ∧ w'.cell? ⟨b, 3, none⟩ = some (.pointer pr)) ∧ Below W0.heap.size W0 w') ((refine HS.out _ ?_; first | exact (Below.refl _ _).drew | exact (Below.refl _ _).drew.drew | exact (Below.refl _ _).drew.drew.drew | exact hB2 | exact hB1 | exact Below.refl _ _))
        (first
          | (go_at_call 19; refine (unhide Ih _ _ (hl.up (Below.refl _ _).drew.drew) (unhide Hsr).1 (by omega)).mono ?_; rintro o W1 ⟨p1, T1, rfl, ht1, hs1, hm1, hb1⟩; have hB1 : Below W0.heap.size W0 W1 := ((Below.refl _ W0).drew.drew).trans hb1; have hn1 := put_len hs1 hm1; have Hm1 := hide hm1; have Hs1 := hide hs1; clear hm1 hs1)
          | (go_at_call 31; refine (level_any ne (L := T1) (R := r) ht1 (hr.up hB1) (by omega)).mono ?_; rintro o W2 ⟨p2, T2, rfl, ht2, hi2, hb2⟩; have Hi2 := hide hi2; clear hi2; have hB2 : Below W0.heap.size W0 W2 := hB1.trans (hb2.mono hB1.size)))
      go_wp2
      go_ret
      obtain ⟨q1, q2⟩ := put_left (show Srt (l.io ++ ne :: r.io) from unhide Hs) hlt (unhide Hs1) (unhide Hm1)
      exact ⟨_, _, rfl, ht2, by rw [unhide Hi2]; exact q1, by rw [unhide Hi2]; exact q2, hB0.trans (hB2.mono hB0.size)⟩
    · have hd1 : decide (e.1 < ne.1) = false := decide_eq_false hlt
      by_cases hgt : ne.1 < e.1
      · clear hlt
        go_enter Try.func19, Try.ntmps19
        obtain ⟨b, pl, pr, rfl, hb, h0, h1, h2, h3, h4, hl, hr⟩ := ht.up hB0
        go_wp2
        generalize W.alloc (.cells #[.int .i64 e.1, .int .i64 e.2] 54) = W0 at *
        obtain ⟨hx0, hx1⟩ := hx
        have hxB : W.heap.size < W0.heap.size := by omega
        have HS : Hid (∀ w', Below W0.heap.size W0 w' → (w'.cell? ⟨W.heap.size, 0, none⟩ = some (.int .i64 e.1) ∧ w'.cell? ⟨W.heap.size, 1, none⟩ = some (.int .i64 e.2) ∧ w'.cell? ⟨b, 0, none⟩ = some (.int .i64 ne.1) ∧ w'.cell? ⟨b, 1, none⟩ = some (.int .i64 ne.2) ∧ w'.cell? ⟨b, 2, none⟩ = some (.pointer pl) ∧ w'.cell? ⟨b, 3, none⟩ = some (.pointer pr)) ∧ Below W0.heap.size W0 w') := fun w' h => ⟨⟨(h.cell (p := ⟨W.heap.size, 0, none⟩) hxB).trans hx0, (h.cell (p := ⟨W.heap.size, 1, none⟩) hxB).trans hx1, (h.cell (p := ⟨b, 0, none⟩) hb).trans h0, (h.cell (p := ⟨b, 1, none⟩) hb).trans h1, (h.cell (p := ⟨b, 2, none⟩) hb).trans h2, (h.cell (p := ⟨b, 3, none⟩) hb).trans h3⟩, h⟩
        clear ht h4
        have Ih := hide ihr
        have Hs := hide hs
        have Hsr := hide hsr
        clear ihl ihr hs hsr
        go_region_held3 (fun w' => (w'.cell? ⟨W.heap.size, 0, none⟩ = some (.int .i64 e.1) ∧ w'.cell? ⟨W.heap.size, 1, none⟩ = some (.int .i64 e.2) ∧ w'.cell? ⟨b, 0, none⟩ = some (.int .i64 ne.1) ∧ w'.cell? ⟨b, 1, none⟩ = some (.int .i64 ne.2) ∧ w'.cell? ⟨b, 2, none⟩ = some (.pointer pl) ∧ w'.cell? ⟨b, 3, none⟩ = some (.pointer pr)) ∧ Below W0.heap.size W0 w') ((refine HS.out _ ?_; first | exact (Below.refl _ _).drew | exact (Below.refl _ _).drew.drew | exact (Below.refl _ _).drew.drew.drew | exact hB2 | exact hB1 | exact Below.refl _ _)) (fail)
        go_wp2
        go_region_held3 (fun w' => (w'.cell? ⟨W.heap.size, 0, none⟩ = some (.int .i64 e.1) ∧ w'.cell? ⟨W.heap.size, 1, none⟩ = some (.int .i64 e.2) ∧ w'.cell? ⟨b, 0, none⟩ = some (.int .i64 ne.1) ∧ w'.cell? ⟨b, 1, none⟩ = some (.int .i64 ne.2) ∧ w'.cell? ⟨b, 2, none⟩ = some (.pointer pl) ∧ w'.cell? ⟨b, 3, none⟩ = some (.pointer pr)) ∧ Below W0.heap.size W0 w') ((refine HS.out _ ?_; first | exact (Below.refl _ _).drew | exact (Below.refl _ _).drew.drew | exact (Below.refl _ _).drew.drew.drew | exact hB2 | exact hB1 | exact Below.refl _ _)) (fail)
        go_wp2
        go_region_held3 (fun w' => (w'.cell? ⟨W.heap.size, 0, none⟩ = some (.int .i64 e.1) ∧ w'.cell? ⟨W.heap.size, 1, none⟩ = some (.int .i64 e.2) ∧ w'.cell? ⟨b, 0, none⟩ = some (.int .i64 ne.1) ∧ w'.cell? ⟨b, 1, none⟩ = some (.int .i64 ne.2) ∧ w'.cell? ⟨b, 2, none⟩ = some (.pointer pl) ∧ w'.cell? ⟨b, 3, none⟩ = some (.pointer pr)) ∧ Below W0.heap.size W0 w') ((refine HS.out _ ?_; first | exact (Below.refl _ _).drew | exact (Below.refl _ _).drew.drew | exact (Below.refl _ _).drew.drew.drew | exact hB2 | exact hB1 | exact Below.refl _ _))
          (first
            | (go_at_call 19; refine (unhide Ih _ _ (hr.up (Below.refl _ _).drew.drew.drew) (unhide Hsr).2.1 (by omega)).mono ?_; rintro o W1 ⟨p1, T1, rfl, ht1, hs1, hm1, hb1⟩; have hB1 : Below W0.heap.size W0 W1 := ((Below.refl _ W0).drew.drew.drew).trans hb1; have hn1 := put_len hs1 hm1; have Hm1 := hide hm1; have Hs1 := hide hs1; clear hm1 hs1)
            | (go_at_call 31; refine (level_any ne (L := l) (R := T1) (hl.up hB1) ht1 (by omega)).mono ?_; rintro o W2 ⟨p2, T2, rfl, ht2, hi2, hb2⟩; have Hi2 := hide hi2; clear hi2; have hB2 : Below W0.heap.size W0 W2 := hB1.trans (hb2.mono hB1.size)))
        go_wp2
        go_ret
        obtain ⟨q1, q2⟩ := put_right (show Srt (l.io ++ ne :: r.io) from unhide Hs) hgt (unhide Hs1) (unhide Hm1)
        exact ⟨_, _, rfl, ht2, by rw [unhide Hi2]; exact q1, by rw [unhide Hi2]; exact q2, hB0.trans (hB2.mono hB0.size)⟩
      · have hd2 : decide (ne.1 < e.1) = false := decide_eq_false hgt
        have Heq := hide (keq_of hgt hlt)
        clear hgt hlt
        go_enter Try.func19, Try.ntmps19
        obtain ⟨b, pl, pr, rfl, hb, h0, h1, h2, h3, h4, hl, hr⟩ := ht.up hB0
        go_wp2
        generalize W.alloc (.cells #[.int .i64 e.1, .int .i64 e.2] 54) = W0 at *
        obtain ⟨hx0, hx1⟩ := hx
        have hxB : W.heap.size < W0.heap.size := by omega
        have HS : Hid (∀ w', Below W0.heap.size W0 w' → (w'.cell? ⟨W.heap.size, 0, none⟩ = some (.int .i64 e.1) ∧ w'.cell? ⟨W.heap.size, 1, none⟩ = some (.int .i64 e.2) ∧ w'.cell? ⟨b, 0, none⟩ = some (.int .i64 ne.1) ∧ w'.cell? ⟨b, 1, none⟩ = some (.int .i64 ne.2) ∧ w'.cell? ⟨b, 2, none⟩ = some (.pointer pl) ∧ w'.cell? ⟨b, 3, none⟩ = some (.pointer pr)) ∧ Below W0.heap.size W0 w') := fun w' h => ⟨⟨(h.cell (p := ⟨W.heap.size, 0, none⟩) hxB).trans hx0, (h.cell (p := ⟨W.heap.size, 1, none⟩) hxB).trans hx1, (h.cell (p := ⟨b, 0, none⟩) hb).trans h0, (h.cell (p := ⟨b, 1, none⟩) hb).trans h1, (h.cell (p := ⟨b, 2, none⟩) hb).trans h2, (h.cell (p := ⟨b, 3, none⟩) hb).trans h3⟩, h⟩
        clear ht h4
        have Ih := hide ihr
        have Hs := hide hs
        have Hsr := hide hsr
        clear ihl ihr hs hsr
        go_region_held3 (fun w' => (w'.cell? ⟨W.heap.size, 0, none⟩ = some (.int .i64 e.1) ∧ w'.cell? ⟨W.heap.size, 1, none⟩ = some (.int .i64 e.2) ∧ w'.cell? ⟨b, 0, none⟩ = some (.int .i64 ne.1) ∧ w'.cell? ⟨b, 1, none⟩ = some (.int .i64 ne.2) ∧ w'.cell? ⟨b, 2, none⟩ = some (.pointer pl) ∧ w'.cell? ⟨b, 3, none⟩ = some (.pointer pr)) ∧ Below W0.heap.size W0 w') ((refine HS.out _ ?_; first | exact (Below.refl _ _).drew | exact (Below.refl _ _).drew.drew | exact (Below.refl _ _).drew.drew.drew | exact hB2 | exact hB1 | exact Below.refl _ _)) (fail)
        go_wp2
        go_region_held3 (fun w' => (w'.cell? ⟨W.heap.size, 0, none⟩ = some (.int .i64 e.1) ∧ w'.cell? ⟨W.heap.size, 1, none⟩ = some (.int .i64 e.2) ∧ w'.cell? ⟨b, 0, none⟩ = some (.int .i64 ne.1) ∧ w'.cell? ⟨b, 1, none⟩ = some (.int .i64 ne.2) ∧ w'.cell? ⟨b, 2, none⟩ = some (.pointer pl) ∧ w'.cell? ⟨b, 3, none⟩ = some (.pointer pr)) ∧ Below W0.heap.size W0 w') ((refine HS.out _ ?_; first | exact (Below.refl _ _).drew | exact (Below.refl _ _).drew.drew | exact (Below.refl _ _).drew.drew.drew | exact hB2 | exact hB1 | exact Below.refl _ _)) (fail)
        go_wp2
        go_region_held3 (fun w' => (w'.cell? ⟨W.heap.size, 0, none⟩ = some (.int .i64 e.1) ∧ w'.cell? ⟨W.heap.size, 1, none⟩ = some (.int .i64 e.2) ∧ w'.cell? ⟨b, 0, none⟩ = some (.int .i64 ne.1) ∧ w'.cell? ⟨b, 1, none⟩ = some (.int .i64 ne.2) ∧ w'.cell? ⟨b, 2, none⟩ = some (.pointer pl) ∧ w'.cell? ⟨b, 3, none⟩ = some (.pointer pr)) ∧ Below W0.heap.size W0 w') ((refine HS.out _ ?_; first | exact (Below.refl _ _).drew | exact (Below.refl _ _).drew.drew | exact (Below.refl _ _).drew.drew.drew | exact hB2 | exact hB1 | exact Below.refl _ _))
          (first
            | (go_at_call 30; refine (fork_node e (L := l) (R := r) (hl.up (Below.refl _ _).drew.drew.drew) (hr.up (Below.refl _ _).drew.drew.drew) (by omega)).mono ?_; rintro o W1 ⟨p1, rfl, ht1, hb1⟩; have hB1 : Below W0.heap.size W0 W1 := ((Below.refl _ W0).drew.drew.drew).trans hb1))
        go_wp2
        go_ret
        obtain ⟨q1, q2⟩ := put_here (e := e) (show Srt (l.io ++ ne :: r.io) from unhide Hs) (unhide Heq)
        exact ⟨_, _, rfl, ht1, q1, q2, hB0.trans (hB1.mono hB0.size)⟩
end Go.Proofs.Ytpmdfgoajffmeaa
