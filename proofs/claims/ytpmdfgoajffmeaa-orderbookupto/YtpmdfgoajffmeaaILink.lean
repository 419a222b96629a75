import Derived.Test.YtpmdfgoajffmeaaIPut
import Derived.Test.YtpmdfgoajffmeaaIFind

namespace Go.Proofs.Ytpmdfgoajffmeaa
open Go.RowKit
attribute [local go_sem ↓] Go.wp_at_zero Go.wp_at_succ


set_option maxRecDepth 100000 in
set_option maxHeartbeats 4000000 in
theorem link_any (n : Nat) : ∀ (L R : BT), L.height + R.height ≤ n → ∀ (W : World) (pl pr : Option Addr) (e : Ent), IsT W.heap.size W pl L → IsT W.heap.size W pr R → (L.io.length : Int) + 1 + (R.io.length : Int) ≤ 1152921504606846976 →
    Calls Try.prog 37 #[.pointer pl, .agg #[.int .i64 e.1, .int .i64 e.2], .pointer pr] W (Gives W (L.io ++ e :: R.io)) := by
  induction n with
  | zero =>
    intro L R hn W pl pr e hl hr hsz
    have hB0 : Below W.heap.size W (W.alloc (.cells #[.int .i64 e.1, .int .i64 e.2] 54)) := (Below.refl _ W).alloc (Nat.le_refl _) _; have hx := cell2_new W (.int .i64 e.1) (.int .i64 e.2) 54; have hs0 : (W.alloc (.cells #[.int .i64 e.1, .int .i64 e.2] 54)).heap.size = W.heap.size + 1 := World.size_alloc _ _
    cases L with
    | node _ _ _ => simp [BT.height] at hn
    | leaf =>
      cases R with
      | node _ _ _ => simp [BT.height] at hn
      | leaf =>
        go_enter Try.func37, Try.ntmps37
        go_wp2_with fail
        generalize W.alloc (.cells #[.int .i64 e.1, .int .i64 e.2] 54) = W0 at *
        replace hl := hl.up hB0
        replace hr := hr.up hB0
        obtain ⟨hx0, hx1⟩ := hx
        refine (count_any (T := .leaf) hl).mono ?_
        rintro o w' ⟨rfl, rfl⟩
        have hz : ((BT.leaf).io.length : Int) = 0 := rfl
        go_wp2_with (first | (go_at_call_of 20 (Value.pointer pr); refine (count_any (T := .leaf) hr).mono ?_; rintro o w' ⟨rfl, rfl⟩) | (go_at_call 30; refine (fork_node e hl hr hsz).mono ?_; rintro o W1 ⟨p1, rfl, ht1, hb1⟩))
        go_ret
        exact ⟨_, _, rfl, ht1, by simp [BT.io], hB0.trans (hb1.mono hB0.size)⟩
  | succ n ih =>
    intro L R hn W pl pr e hl hr hsz
    have Ih := hide ih
    clear ih
    have hB0 : Below W.heap.size W (W.alloc (.cells #[.int .i64 e.1, .int .i64 e.2] 54)) := (Below.refl _ W).alloc (Nat.le_refl _) _; have hx := cell2_new W (.int .i64 e.1) (.int .i64 e.2) 54; have hs0 : (W.alloc (.cells #[.int .i64 e.1, .int .i64 e.2] 54)).heap.size = W.heap.size + 1 := World.size_alloc _ _
    by_cases ha : 3 * (L.io.length : Int) < (R.io.length : Int)
    · cases R with
      | leaf => simp [BT.io] at ha; omega
      | node A ne B =>
        have hn' : L.height + A.height ≤ n := by simp only [BT.height] at hn; omega
        have hsz' := hsz
        rw [BT.io_len] at hsz'
        go_enter Try.func37, Try.ntmps37
        go_wp2_with fail
        generalize W.alloc (.cells #[.int .i64 e.1, .int .i64 e.2] 54) = W0 at *
        replace hl := hl.up hB0
        replace hr := hr.up hB0
        have hr' := hr
        obtain ⟨b, qa, qb, rfl, hb, h0, h1, h2, h3, h4, hA, hB⟩ := hr'
        obtain ⟨hx0, hx1⟩ := hx
        have hxB : W.heap.size < W0.heap.size := by omega
        have HS : Hid (∀ w', Below W0.heap.size W0 w' → (w'.cell? ⟨W.heap.size, 0, none⟩ = some (.int .i64 e.1) ∧ w'.cell? ⟨W.heap.size, 1, none⟩ = some (.int .i64 e.2) ∧ w'.cell? ⟨b, 0, none⟩ = some (.int .i64 ne.1) ∧ w'.cell? ⟨b, 1, none⟩ = some (.int .i64 ne.2) ∧ w'.cell? ⟨b, 2, none⟩ = some (.pointer qa) ∧ w'.cell? ⟨b, 3, none⟩ = some (.pointer qb)) ∧ Below W0.heap.size W0 w') := fun w' h => ⟨⟨(h.cell (p := ⟨W.heap.size, 0, none⟩) hxB).trans hx0, (h.cell (p := ⟨W.heap.size, 1, none⟩) hxB).trans hx1, (h.cell (p := ⟨b, 0, none⟩) hb).trans h0, (h.cell (p := ⟨b, 1, none⟩) hb).trans h1, (h.cell (p := ⟨b, 2, none⟩) hb).trans h2, (h.cell (p := ⟨b, 3, none⟩) hb).trans h3⟩, h⟩
        clear h4
        refine (count_any (T := L) hl).mono ?_
        rintro o w' ⟨rfl, he⟩
        obtain rfl : W0 = w' := he.symm
        go_wp2_with (first | (go_at_call_of 20 (Value.pointer (some ⟨b, 0, none⟩)); refine (count_any (T := (.node A ne B)) hr).mono ?_; rintro o w' ⟨rfl, he⟩; obtain rfl : W0 = w' := he.symm))
        go_region_held3 (fun w' => (w'.cell? ⟨W.heap.size, 0, none⟩ = some (.int .i64 e.1) ∧ w'.cell? ⟨W.heap.size, 1, none⟩ = some (.int .i64 e.2) ∧ w'.cell? ⟨b, 0, none⟩ = some (.int .i64 ne.1) ∧ w'.cell? ⟨b, 1, none⟩ = some (.int .i64 ne.2) ∧ w'.cell? ⟨b, 2, none⟩ = some (.pointer qa) ∧ w'.cell? ⟨b, 3, none⟩ = some (.pointer qb)) ∧ Below W0.heap.size W0 w') ((refine HS.out _ ?_; first | exact (Below.refl _ _).drew | exact (Below.refl _ _).drew.drew | exact hB3 | exact hB2 | exact hB1 | exact Below.refl _ _))
          (first
            | (go_at_call 37; refine (unhide Ih L A hn' _ _ _ e (hl.up (Below.refl _ _).drew) (hA.up (Below.refl _ _).drew) (by omega)).mono ?_; rintro o W1 ⟨p1, T1, rfl, ht1, hi1, hb1⟩; have hB1 : Below W0.heap.size W0 W1 := ((Below.refl _ W0).drew).trans hb1; have hn1 : (T1.io.length : Int) = (L.io.length : Int) + 1 + (A.io.length : Int) := (by rw [hi1]; simp; omega); have Hi1 := hide hi1; clear hi1)
            | (go_at_call 31; refine (level_any ne (L := T1) (R := B) ht1 (hB.up hB1) (by omega)).mono ?_; rintro o W2 ⟨p2, T2, rfl, ht2, hi2, hb2⟩; have Hi2 := hide hi2; clear hi2; have hB2 : Below W0.heap.size W0 W2 := hB1.trans (hb2.mono hB1.size)))
        go_wp2
        go_ret
        exact ⟨_, _, rfl, ht2, by rw [unhide Hi2, unhide Hi1]; simp [BT.io], hB0.trans (hB2.mono hB0.size)⟩
    · by_cases hb' : 3 * (R.io.length : Int) < (L.io.length : Int)
      · cases L with
        | leaf => simp [BT.io] at hb'; omega
        | node A ne B =>
          have hn' : B.height + R.height ≤ n := by simp only [BT.height] at hn; omega
          have hsz' := hsz
          rw [BT.io_len] at hsz'
          go_enter Try.func37, Try.ntmps37
          go_wp2_with fail
          generalize W.alloc (.cells #[.int .i64 e.1, .int .i64 e.2] 54) = W0 at *
          replace hl := hl.up hB0
          replace hr := hr.up hB0
          have hl' := hl
          obtain ⟨b, qa, qb, rfl, hb, h0, h1, h2, h3, h4, hA, hB⟩ := hl'
          obtain ⟨hx0, hx1⟩ := hx
          have hxB : W.heap.size < W0.heap.size := by omega
          have HS : Hid (∀ w', Below W0.heap.size W0 w' → (w'.cell? ⟨W.heap.size, 0, none⟩ = some (.int .i64 e.1) ∧ w'.cell? ⟨W.heap.size, 1, none⟩ = some (.int .i64 e.2) ∧ w'.cell? ⟨b, 0, none⟩ = some (.int .i64 ne.1) ∧ w'.cell? ⟨b, 1, none⟩ = some (.int .i64 ne.2) ∧ w'.cell? ⟨b, 2, none⟩ = some (.pointer qa) ∧ w'.cell? ⟨b, 3, none⟩ = some (.pointer qb)) ∧ Below W0.heap.size W0 w') := fun w' h => ⟨⟨(h.cell (p := ⟨W.heap.size, 0, none⟩) hxB).trans hx0, (h.cell (p := ⟨W.heap.size, 1, none⟩) hxB).trans hx1, (h.cell (p := ⟨b, 0, none⟩) hb).trans h0, (h.cell (p := ⟨b, 1, none⟩) hb).trans h1, (h.cell (p := ⟨b, 2, none⟩) hb).trans h2, (h.cell (p := ⟨b, 3, none⟩) hb).trans h3⟩, h⟩
          clear h4
          refine (count_any (T := .node A ne B) hl).mono ?_
          rintro o w' ⟨rfl, he⟩
          obtain rfl : W0 = w' := he.symm
          go_wp2_with (first | (go_at_call_of 20 (Value.pointer pr); refine (count_any (T := R) hr).mono ?_; rintro o w' ⟨rfl, he⟩; obtain rfl : W0 = w' := he.symm))
          go_region_held3 (fun w' => (w'.cell? ⟨W.heap.size, 0, none⟩ = some (.int .i64 e.1) ∧ w'.cell? ⟨W.heap.size, 1, none⟩ = some (.int .i64 e.2) ∧ w'.cell? ⟨b, 0, none⟩ = some (.int .i64 ne.1) ∧ w'.cell? ⟨b, 1, none⟩ = some (.int .i64 ne.2) ∧ w'.cell? ⟨b, 2, none⟩ = some (.pointer qa) ∧ w'.cell? ⟨b, 3, none⟩ = some (.pointer qb)) ∧ Below W0.heap.size W0 w') ((refine HS.out _ ?_; first | exact (Below.refl _ _).drew | exact (Below.refl _ _).drew.drew | exact hB3 | exact hB2 | exact hB1 | exact Below.refl _ _))
            (first
              | (go_at_call 37; refine (unhide Ih B R hn' _ _ _ e (hB.up (Below.refl _ _).drew) (hr.up (Below.refl _ _).drew) (by omega)).mono ?_; rintro o W1 ⟨p1, T1, rfl, ht1, hi1, hb1⟩; have hB1 : Below W0.heap.size W0 W1 := ((Below.refl _ W0).drew).trans hb1; have hn1 : (T1.io.length : Int) = (B.io.length : Int) + 1 + (R.io.length : Int) := (by rw [hi1]; simp; omega); have Hi1 := hide hi1; clear hi1)
              | (go_at_call 31; refine (level_any ne (L := A) (R := T1) (hA.up hB1) ht1 (by omega)).mono ?_; rintro o W2 ⟨p2, T2, rfl, ht2, hi2, hb2⟩; have Hi2 := hide hi2; clear hi2; have hB2 : Below W0.heap.size W0 W2 := hB1.trans (hb2.mono hB1.size)))
          go_wp2
          go_ret
          exact ⟨_, _, rfl, ht2, by rw [unhide Hi2, unhide Hi1]; simp [BT.io], hB0.trans (hB2.mono hB0.size)⟩
      · go_enter Try.func37, Try.ntmps37
        go_wp2_with fail
        generalize W.alloc (.cells #[.int .i64 e.1, .int .i64 e.2] 54) = W0 at *
        replace hl := hl.up hB0
        replace hr := hr.up hB0
        obtain ⟨hx0, hx1⟩ := hx
        refine (count_any (T := L) hl).mono ?_
        rintro o w' ⟨rfl, rfl⟩
        go_wp2_with (first | (go_at_call_of 20 (Value.pointer pr); refine (count_any (T := R) hr).mono ?_; rintro o w' ⟨rfl, rfl⟩) | (go_at_call 30; refine (fork_node e hl hr hsz).mono ?_; rintro o W1 ⟨p1, rfl, ht1, hb1⟩))
        go_ret
        exact ⟨_, _, rfl, ht1, by simp [BT.io], hB0.trans (hb1.mono hB0.size)⟩
end Go.Proofs.Ytpmdfgoajffmeaa
