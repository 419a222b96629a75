import Derived.Test.YtpmdfgoajffmeaaITree

namespace Go.Proofs.Ytpmdfgoajffmeaa
open Go.RowKit
attribute [local go_sem ↓] Go.wp_at_zero Go.wp_at_succ

set_option maxRecDepth 100000 in
set_option maxHeartbeats 2000000 in
theorem turnLeft1 {W : World} {pl pr : Option Addr} {L I O : BT} (e re : Ent) (hl : IsT W.heap.size W pl L) (hr : IsT W.heap.size W pr (.node I re O)) (hsz : (L.io.length : Int) + 1 + ((BT.node I re O).io.length : Int) ≤ 1152921504606846976)
    (hc : (I.io.length : Int) < 2 * (O.io.length : Int)) :
    Calls Try.prog 34 #[.pointer pl, .agg #[.int .i64 e.1, .int .i64 e.2], .pointer pr] W (Gives W (L.io ++ e :: (BT.node I re O).io)) := by
  have hB0 : Below W.heap.size W (W.alloc (.cells #[.int .i64 e.1, .int .i64 e.2] 54)) := (Below.refl _ W).alloc (Nat.le_refl _) _; have hx := cell2_new W (.int .i64 e.1) (.int .i64 e.2) 54; have hs0 : (W.alloc (.cells #[.int .i64 e.1, .int .i64 e.2] 54)).heap.size = W.heap.size + 1 := World.size_alloc _ _
  rw [BT.io_len] at hsz
  go_enter Try.func34, Try.ntmps34
  go_wp2
  generalize W.alloc (.cells #[.int .i64 e.1, .int .i64 e.2] 54) = W0 at *
  replace hl := hl.up hB0
  obtain ⟨b, pi, po, rfl, hb, h0, h1, h2, h3, h4, hi, ho⟩ := hr.up hB0
  obtain ⟨hx0, hx1⟩ := hx
  have hxB : W.heap.size < W0.heap.size := by omega
  clear hr h4
  have HS : Hid (∀ w', Below W0.heap.size W0 w' → (w'.cell? ⟨W.heap.size, 0, none⟩ = some (.int .i64 e.1) ∧ w'.cell? ⟨W.heap.size, 1, none⟩ = some (.int .i64 e.2) ∧ w'.cell? ⟨b, 0, none⟩ = some (.int .i64 re.1) ∧ w'.cell? ⟨b, 1, none⟩ = some (.int .i64 re.2) ∧ w'.cell? ⟨b, 2, none⟩ = some (.pointer pi) ∧ w'.cell? ⟨b, 3, none⟩ = some (.pointer po)) ∧ Below W0.heap.size W0 w') := fun w' h => ⟨⟨(h.cell (p := ⟨W.heap.size, 0, none⟩) hxB).trans hx0, (h.cell (p := ⟨W.heap.size, 1, none⟩) hxB).trans hx1, (h.cell (p := ⟨b, 0, none⟩) hb).trans h0, (h.cell (p := ⟨b, 1, none⟩) hb).trans h1, (h.cell (p := ⟨b, 2, none⟩) hb).trans h2, (h.cell (p := ⟨b, 3, none⟩) hb).trans h3⟩, h⟩
  go_region_held3 (fun w' => (w'.cell? ⟨W.heap.size, 0, none⟩ = some (.int .i64 e.1) ∧ w'.cell? ⟨W.heap.size, 1, none⟩ = some (.int .i64 e.2) ∧ w'.cell? ⟨b, 0, none⟩ = some (.int .i64 re.1) ∧ w'.cell? ⟨b, 1, none⟩ = some (.int .i64 re.2) ∧ w'.cell? ⟨b, 2, none⟩ = some (.pointer pi) ∧ w'.cell? ⟨b, 3, none⟩ = some (.pointer po)) ∧ Below W0.heap.size W0 w') ((refine HS.out _ ?_; first | exact (Below.refl _ _).drew | exact (Below.refl _ _).drew.drew | exact hB3 | exact hB2 | exact hB1 | exact Below.refl _ _)) (fail)
  go_wp2_with (first | (go_at_call_of 20 (Value.pointer pi); refine (count_any (n₀ := W0.heap.size) (T := I) ?_).mono ?_; (exact hi.below (Below.refl _ _).drew); rintro o w' ⟨rfl, rfl⟩) | (go_at_call_of 20 (Value.pointer po); refine (count_any (n₀ := W0.heap.size) (T := O) ?_).mono ?_; (exact ho.below (Below.refl _ _).drew); rintro o w' ⟨rfl, rfl⟩))
  go_region_held3 (fun w' => (w'.cell? ⟨W.heap.size, 0, none⟩ = some (.int .i64 e.1) ∧ w'.cell? ⟨W.heap.size, 1, none⟩ = some (.int .i64 e.2) ∧ w'.cell? ⟨b, 0, none⟩ = some (.int .i64 re.1) ∧ w'.cell? ⟨b, 1, none⟩ = some (.int .i64 re.2) ∧ w'.cell? ⟨b, 2, none⟩ = some (.pointer pi) ∧ w'.cell? ⟨b, 3, none⟩ = some (.pointer po)) ∧ Below W0.heap.size W0 w') ((refine HS.out _ ?_; first | exact (Below.refl _ _).drew | exact (Below.refl _ _).drew.drew | exact hB3 | exact hB2 | exact hB1 | exact Below.refl _ _))
    (first
      | (go_at_call_of 30 (Value.agg #[.int .i64 e.1, Value.int IntKind.i64 e.2]); refine (fork_node e (L := L) (R := I) ?_ ?_ ?_).mono ?_; (exact hl.up (Below.refl _ _).drew.drew); (exact hi.up (Below.refl _ _).drew.drew); (omega); rintro o W1 ⟨p1, rfl, ht1, hb1⟩; have hB1 : Below W0.heap.size W0 W1 := ((Below.refl _ W0).drew.drew).trans hb1)
      | (go_at_call_of 30 (Value.agg #[.int .i64 re.1, Value.int IntKind.i64 re.2]); refine (fork_node re (L := .node L e I) (R := O) ?_ ?_ ?_).mono ?_; (exact ht1); (exact ho.up hB1); (rw [BT.io_len]; omega); rintro o W2 ⟨p2, rfl, ht2, hb2⟩; have hB2 : Below W0.heap.size W0 W2 := hB1.trans (hb2.mono hB1.size)))
  go_wp2
  go_ret
  exact ⟨_, _, rfl, ht2, by simp [BT.io], hB0.trans (hB2.mono hB0.size)⟩

set_option maxRecDepth 100000 in
set_option maxHeartbeats 4000000 in
theorem turnLeft2 {W : World} {pl pr : Option Addr} {L I1 I2 O : BT} (e re ie : Ent) (hl : IsT W.heap.size W pl L) (hr : IsT W.heap.size W pr (.node (.node I1 ie I2) re O)) (hsz : (L.io.length : Int) + 1 + ((BT.node (.node I1 ie I2) re O).io.length : Int) ≤ 1152921504606846976)
    (hc : ¬ ((BT.node I1 ie I2).io.length : Int) < 2 * (O.io.length : Int)) :
    Calls Try.prog 34 #[.pointer pl, .agg #[.int .i64 e.1, .int .i64 e.2], .pointer pr] W (Gives W (L.io ++ e :: (BT.node (.node I1 ie I2) re O).io)) := by
  have hB0 : Below W.heap.size W (W.alloc (.cells #[.int .i64 e.1, .int .i64 e.2] 54)) := (Below.refl _ W).alloc (Nat.le_refl _) _; have hx := cell2_new W (.int .i64 e.1) (.int .i64 e.2) 54; have hs0 : (W.alloc (.cells #[.int .i64 e.1, .int .i64 e.2] 54)).heap.size = W.heap.size + 1 := World.size_alloc _ _
  have hsz' := hsz
  rw [BT.io_len, BT.io_len] at hsz'
  rw [BT.io_len] at hsz
  go_enter Try.func34, Try.ntmps34
  go_wp2
  generalize W.alloc (.cells #[.int .i64 e.1, .int .i64 e.2] 54) = W0 at *
  replace hl := hl.up hB0
  obtain ⟨b, pi, po, rfl, hb, h0, h1, h2, h3, h4, hi, ho⟩ := hr.up hB0
  have hi' := hi
  obtain ⟨c, p1', p2', rfl, hcb, g0, g1, g2, g3, g4, hi1, hi2⟩ := hi'
  obtain ⟨hx0, hx1⟩ := hx
  have hxB : W.heap.size < W0.heap.size := by omega
  clear hr h4 g4
  have HS : Hid (∀ w', Below W0.heap.size W0 w' → (w'.cell? ⟨W.heap.size, 0, none⟩ = some (.int .i64 e.1) ∧ w'.cell? ⟨W.heap.size, 1, none⟩ = some (.int .i64 e.2) ∧ (w'.cell? ⟨b, 0, none⟩ = some (.int .i64 re.1) ∧ w'.cell? ⟨b, 1, none⟩ = some (.int .i64 re.2) ∧ w'.cell? ⟨b, 2, none⟩ = some (.pointer (some ⟨c, 0, none⟩)) ∧ w'.cell? ⟨b, 3, none⟩ = some (.pointer po)) ∧ w'.cell? ⟨c, 0, none⟩ = some (.int .i64 ie.1) ∧ w'.cell? ⟨c, 1, none⟩ = some (.int .i64 ie.2) ∧ w'.cell? ⟨c, 2, none⟩ = some (.pointer p1') ∧ w'.cell? ⟨c, 3, none⟩ = some (.pointer p2')) ∧ Below W0.heap.size W0 w') := fun w' h => ⟨⟨(h.cell (p := ⟨W.heap.size, 0, none⟩) hxB).trans hx0, (h.cell (p := ⟨W.heap.size, 1, none⟩) hxB).trans hx1, ⟨(h.cell (p := ⟨b, 0, none⟩) hb).trans h0, (h.cell (p := ⟨b, 1, none⟩) hb).trans h1, (h.cell (p := ⟨b, 2, none⟩) hb).trans h2, (h.cell (p := ⟨b, 3, none⟩) hb).trans h3⟩, (h.cell (p := ⟨c, 0, none⟩) hcb).trans g0, (h.cell (p := ⟨c, 1, none⟩) hcb).trans g1, (h.cell (p := ⟨c, 2, none⟩) hcb).trans g2, (h.cell (p := ⟨c, 3, none⟩) hcb).trans g3⟩, h⟩
  go_region_held3 (fun w' => (w'.cell? ⟨W.heap.size, 0, none⟩ = some (.int .i64 e.1) ∧ w'.cell? ⟨W.heap.size, 1, none⟩ = some (.int .i64 e.2) ∧ (w'.cell? ⟨b, 0, none⟩ = some (.int .i64 re.1) ∧ w'.cell? ⟨b, 1, none⟩ = some (.int .i64 re.2) ∧ w'.cell? ⟨b, 2, none⟩ = some (.pointer (some ⟨c, 0, none⟩)) ∧ w'.cell? ⟨b, 3, none⟩ = some (.pointer po)) ∧ w'.cell? ⟨c, 0, none⟩ = some (.int .i64 ie.1) ∧ w'.cell? ⟨c, 1, none⟩ = some (.int .i64 ie.2) ∧ w'.cell? ⟨c, 2, none⟩ = some (.pointer p1') ∧ w'.cell? ⟨c, 3, none⟩ = some (.pointer p2')) ∧ Below W0.heap.size W0 w') ((refine HS.out _ ?_; first | exact (Below.refl _ _).drew | exact (Below.refl _ _).drew.drew | exact hB3 | exact hB2 | exact hB1 | exact Below.refl _ _)) (fail)
  go_wp2_with (first | (go_at_call_of 20 (Value.pointer (some ⟨c, 0, none⟩)); refine (count_any (n₀ := W0.heap.size) (T := (BT.node I1 ie I2)) ?_).mono ?_; (exact hi.below (Below.refl _ _).drew); rintro o w' ⟨rfl, rfl⟩) | (go_at_call_of 20 (Value.pointer po); refine (count_any (n₀ := W0.heap.size) (T := O) ?_).mono ?_; (exact ho.below (Below.refl _ _).drew); rintro o w' ⟨rfl, rfl⟩))
  go_region_held3 (fun w' => (w'.cell? ⟨W.heap.size, 0, none⟩ = some (.int .i64 e.1) ∧ w'.cell? ⟨W.heap.size, 1, none⟩ = some (.int .i64 e.2) ∧ (w'.cell? ⟨b, 0, none⟩ = some (.int .i64 re.1) ∧ w'.cell? ⟨b, 1, none⟩ = some (.int .i64 re.2) ∧ w'.cell? ⟨b, 2, none⟩ = some (.pointer (some ⟨c, 0, none⟩)) ∧ w'.cell? ⟨b, 3, none⟩ = some (.pointer po)) ∧ w'.cell? ⟨c, 0, none⟩ = some (.int .i64 ie.1) ∧ w'.cell? ⟨c, 1, none⟩ = some (.int .i64 ie.2) ∧ w'.cell? ⟨c, 2, none⟩ = some (.pointer p1') ∧ w'.cell? ⟨c, 3, none⟩ = some (.pointer p2')) ∧ Below W0.heap.size W0 w') ((refine HS.out _ ?_; first | exact (Below.refl _ _).drew | exact (Below.refl _ _).drew.drew | exact hB3 | exact hB2 | exact hB1 | exact Below.refl _ _))
    (first
      | (go_at_call_of 30 (Value.agg #[.int .i64 e.1, Value.int IntKind.i64 e.2]); refine (fork_node e (L := L) (R := I1) ?_ ?_ ?_).mono ?_; (exact hl.up (Below.refl _ _).drew.drew); (exact hi1.up (Below.refl _ _).drew.drew); (omega); rintro o W1 ⟨p1, rfl, ht1, hb1⟩; have hB1 : Below W0.heap.size W0 W1 := ((Below.refl _ W0).drew.drew).trans hb1)
      | (go_at_call_of 30 (Value.agg #[.int .i64 re.1, Value.int IntKind.i64 re.2]); refine (fork_node re (L := I2) (R := O) ?_ ?_ ?_).mono ?_; (exact hi2.up hB1); (exact ho.up hB1); (omega); rintro o W2 ⟨p2, rfl, ht2, hb2⟩; have hB2 : Below W0.heap.size W0 W2 := hB1.trans (hb2.mono hB1.size))
      | (go_at_call_of 30 (Value.agg #[.int .i64 ie.1, Value.int IntKind.i64 ie.2]); refine (fork_node ie (L := .node L e I1) (R := .node I2 re O) ?_ ?_ ?_).mono ?_; (exact ht1.up hb2); (exact ht2); (rw [BT.io_len, BT.io_len]; omega); rintro o W3 ⟨p3, rfl, ht3, hb3⟩; have hB3 : Below W0.heap.size W0 W3 := hB2.trans (hb3.mono hB2.size)))
  go_wp2
  go_ret
  exact ⟨_, _, rfl, ht3, by simp [BT.io], hB0.trans (hB3.mono hB0.size)⟩
set_option maxRecDepth 100000 in
set_option maxHeartbeats 2000000 in
theorem turnRight1 {W : World} {pl pr : Option Addr} {R I O : BT} (e le : Ent) (hl : IsT W.heap.size W pl (.node O le I)) (hr : IsT W.heap.size W pr R) (hsz : ((BT.node O le I).io.length : Int) + 1 + (R.io.length : Int) ≤ 1152921504606846976)
    (hc : (I.io.length : Int) < 2 * (O.io.length : Int)) :
    Calls Try.prog 35 #[.pointer pl, .agg #[.int .i64 e.1, .int .i64 e.2], .pointer pr] W (Gives W ((BT.node O le I).io ++ e :: R.io)) := by
  have hB0 : Below W.heap.size W (W.alloc (.cells #[.int .i64 e.1, .int .i64 e.2] 54)) := (Below.refl _ W).alloc (Nat.le_refl _) _; have hx := cell2_new W (.int .i64 e.1) (.int .i64 e.2) 54; have hs0 : (W.alloc (.cells #[.int .i64 e.1, .int .i64 e.2] 54)).heap.size = W.heap.size + 1 := World.size_alloc _ _
  rw [BT.io_len] at hsz
  go_enter Try.func35, Try.ntmps35
  go_wp2
  generalize W.alloc (.cells #[.int .i64 e.1, .int .i64 e.2] 54) = W0 at *
  replace hr := hr.up hB0
  obtain ⟨b, po, pi, rfl, hb, h0, h1, h2, h3, h4, ho, hi⟩ := hl.up hB0
  obtain ⟨hx0, hx1⟩ := hx
  have hxB : W.heap.size < W0.heap.size := by omega
  clear hl h4
  have HS : Hid (∀ w', Below W0.heap.size W0 w' → (w'.cell? ⟨W.heap.size, 0, none⟩ = some (.int .i64 e.1) ∧ w'.cell? ⟨W.heap.size, 1, none⟩ = some (.int .i64 e.2) ∧ w'.cell? ⟨b, 0, none⟩ = some (.int .i64 le.1) ∧ w'.cell? ⟨b, 1, none⟩ = some (.int .i64 le.2) ∧ w'.cell? ⟨b, 2, none⟩ = some (.pointer po) ∧ w'.cell? ⟨b, 3, none⟩ = some (.pointer pi)) ∧ Below W0.heap.size W0 w') := fun w' h => ⟨⟨(h.cell (p := ⟨W.heap.size, 0, none⟩) hxB).trans hx0, (h.cell (p := ⟨W.heap.size, 1, none⟩) hxB).trans hx1, (h.cell (p := ⟨b, 0, none⟩) hb).trans h0, (h.cell (p := ⟨b, 1, none⟩) hb).trans h1, (h.cell (p := ⟨b, 2, none⟩) hb).trans h2, (h.cell (p := ⟨b, 3, none⟩) hb).trans h3⟩, h⟩
  go_region_held3 (fun w' => (w'.cell? ⟨W.heap.size, 0, none⟩ = some (.int .i64 e.1) ∧ w'.cell? ⟨W.heap.size, 1, none⟩ = some (.int .i64 e.2) ∧ w'.cell? ⟨b, 0, none⟩ = some (.int .i64 le.1) ∧ w'.cell? ⟨b, 1, none⟩ = some (.int .i64 le.2) ∧ w'.cell? ⟨b, 2, none⟩ = some (.pointer po) ∧ w'.cell? ⟨b, 3, none⟩ = some (.pointer pi)) ∧ Below W0.heap.size W0 w') ((refine HS.out _ ?_; first | exact (Below.refl _ _).drew | exact (Below.refl _ _).drew.drew | exact hB3 | exact hB2 | exact hB1 | exact Below.refl _ _)) (fail)
  go_wp2_with (first | (go_at_call_of 20 (Value.pointer pi); refine (count_any (n₀ := W0.heap.size) (T := I) ?_).mono ?_; (exact hi.below (Below.refl _ _).drew); rintro o w' ⟨rfl, rfl⟩) | (go_at_call_of 20 (Value.pointer po); refine (count_any (n₀ := W0.heap.size) (T := O) ?_).mono ?_; (exact ho.below (Below.refl _ _).drew); rintro o w' ⟨rfl, rfl⟩))
  go_region_held3 (fun w' => (w'.cell? ⟨W.heap.size, 0, none⟩ = some (.int .i64 e.1) ∧ w'.cell? ⟨W.heap.size, 1, none⟩ = some (.int .i64 e.2) ∧ w'.cell? ⟨b, 0, none⟩ = some (.int .i64 le.1) ∧ w'.cell? ⟨b, 1, none⟩ = some (.int .i64 le.2) ∧ w'.cell? ⟨b, 2, none⟩ = some (.pointer po) ∧ w'.cell? ⟨b, 3, none⟩ = some (.pointer pi)) ∧ Below W0.heap.size W0 w') ((refine HS.out _ ?_; first | exact (Below.refl _ _).drew | exact (Below.refl _ _).drew.drew | exact hB3 | exact hB2 | exact hB1 | exact Below.refl _ _))
    (first
      | (go_at_call_of 30 (Value.agg #[.int .i64 e.1, Value.int IntKind.i64 e.2]); refine (fork_node e (L := I) (R := R) ?_ ?_ ?_).mono ?_; (exact hi.up (Below.refl _ _).drew.drew); (exact hr.up (Below.refl _ _).drew.drew); (omega); rintro o W1 ⟨p1, rfl, ht1, hb1⟩; have hB1 : Below W0.heap.size W0 W1 := ((Below.refl _ W0).drew.drew).trans hb1)
      | (go_at_call_of 30 (Value.agg #[.int .i64 le.1, Value.int IntKind.i64 le.2]); refine (fork_node le (L := O) (R := .node I e R) ?_ ?_ ?_).mono ?_; (exact ho.up hB1); (exact ht1); (rw [BT.io_len]; omega); rintro o W2 ⟨p2, rfl, ht2, hb2⟩; have hB2 : Below W0.heap.size W0 W2 := hB1.trans (hb2.mono hB1.size)))
  go_wp2
  go_ret
  exact ⟨_, _, rfl, ht2, by simp [BT.io], hB0.trans (hB2.mono hB0.size)⟩

set_option maxRecDepth 100000 in
set_option maxHeartbeats 4000000 in
theorem turnRight2 {W : World} {pl pr : Option Addr} {R I1 I2 O : BT} (e le ie : Ent) (hl : IsT W.heap.size W pl (.node O le (.node I1 ie I2))) (hr : IsT W.heap.size W pr R) (hsz : ((BT.node O le (.node I1 ie I2)).io.length : Int) + 1 + (R.io.length : Int) ≤ 1152921504606846976)
    (hc : ¬ ((BT.node I1 ie I2).io.length : Int) < 2 * (O.io.length : Int)) :
    Calls Try.prog 35 #[.pointer pl, .agg #[.int .i64 e.1, .int .i64 e.2], .pointer pr] W (Gives W ((BT.node O le (.node I1 ie I2)).io ++ e :: R.io)) := by
  have hB0 : Below W.heap.size W (W.alloc (.cells #[.int .i64 e.1, .int .i64 e.2] 54)) := (Below.refl _ W).alloc (Nat.le_refl _) _; have hx := cell2_new W (.int .i64 e.1) (.int .i64 e.2) 54; have hs0 : (W.alloc (.cells #[.int .i64 e.1, .int .i64 e.2] 54)).heap.size = W.heap.size + 1 := World.size_alloc _ _
  have hsz' := hsz
  rw [BT.io_len, BT.io_len] at hsz'
  rw [BT.io_len] at hsz
  go_enter Try.func35, Try.ntmps35
  go_wp2
  generalize W.alloc (.cells #[.int .i64 e.1, .int .i64 e.2] 54) = W0 at *
  replace hr := hr.up hB0
  obtain ⟨b, po, pi, rfl, hb, h0, h1, h2, h3, h4, ho, hi⟩ := hl.up hB0
  have hi' := hi
  obtain ⟨c, p1', p2', rfl, hcb, g0, g1, g2, g3, g4, hi1, hi2⟩ := hi'
  obtain ⟨hx0, hx1⟩ := hx
  have hxB : W.heap.size < W0.heap.size := by omega
  clear hl h4 g4
  have HS : Hid (∀ w', Below W0.heap.size W0 w' → (w'.cell? ⟨W.heap.size, 0, none⟩ = some (.int .i64 e.1) ∧ w'.cell? ⟨W.heap.size, 1, none⟩ = some (.int .i64 e.2) ∧ (w'.cell? ⟨b, 0, none⟩ = some (.int .i64 le.1) ∧ w'.cell? ⟨b, 1, none⟩ = some (.int .i64 le.2) ∧ w'.cell? ⟨b, 2, none⟩ = some (.pointer po) ∧ w'.cell? ⟨b, 3, none⟩ = some (.pointer (some ⟨c, 0, none⟩))) ∧ w'.cell? ⟨c, 0, none⟩ = some (.int .i64 ie.1) ∧ w'.cell? ⟨c, 1, none⟩ = some (.int .i64 ie.2) ∧ w'.cell? ⟨c, 2, none⟩ = some (.pointer p1') ∧ w'.cell? ⟨c, 3, none⟩ = some (.pointer p2')) ∧ Below W0.heap.size W0 w') := fun w' h => ⟨⟨(h.cell (p := ⟨W.heap.size, 0, none⟩) hxB).trans hx0, (h.cell (p := ⟨W.heap.size, 1, none⟩) hxB).trans hx1, ⟨(h.cell (p := ⟨b, 0, none⟩) hb).trans h0, (h.cell (p := ⟨b, 1, none⟩) hb).trans h1, (h.cell (p := ⟨b, 2, none⟩) hb).trans h2, (h.cell (p := ⟨b, 3, none⟩) hb).trans h3⟩, (h.cell (p := ⟨c, 0, none⟩) hcb).trans g0, (h.cell (p := ⟨c, 1, none⟩) hcb).trans g1, (h.cell (p := ⟨c, 2, none⟩) hcb).trans g2, (h.cell (p := ⟨c, 3, none⟩) hcb).trans g3⟩, h⟩
  go_region_held3 (fun w' => (w'.cell? ⟨W.heap.size, 0, none⟩ = some (.int .i64 e.1) ∧ w'.cell? ⟨W.heap.size, 1, none⟩ = some (.int .i64 e.2) ∧ (w'.cell? ⟨b, 0, none⟩ = some (.int .i64 le.1) ∧ w'.cell? ⟨b, 1, none⟩ = some (.int .i64 le.2) ∧ w'.cell? ⟨b, 2, none⟩ = some (.pointer po) ∧ w'.cell? ⟨b, 3, none⟩ = some (.pointer (some ⟨c, 0, none⟩))) ∧ w'.cell? ⟨c, 0, none⟩ = some (.int .i64 ie.1) ∧ w'.cell? ⟨c, 1, none⟩ = some (.int .i64 ie.2) ∧ w'.cell? ⟨c, 2, none⟩ = some (.pointer p1') ∧ w'.cell? ⟨c, 3, none⟩ = some (.pointer p2')) ∧ Below W0.heap.size W0 w') ((refine HS.out _ ?_; first | exact (Below.refl _ _).drew | exact (Below.refl _ _).drew.drew | exact hB3 | exact hB2 | exact hB1 | exact Below.refl _ _)) (fail)
  go_wp2_with (first | (go_at_call_of 20 (Value.pointer (some ⟨c, 0, none⟩)); refine (count_any (n₀ := W0.heap.size) (T := (BT.node I1 ie I2)) ?_).mono ?_; (exact hi.below (Below.refl _ _).drew); rintro o w' ⟨rfl, rfl⟩) | (go_at_call_of 20 (Value.pointer po); refine (count_any (n₀ := W0.heap.size) (T := O) ?_).mono ?_; (exact ho.below (Below.refl _ _).drew); rintro o w' ⟨rfl, rfl⟩))
  go_region_held3 (fun w' => (w'.cell? ⟨W.heap.size, 0, none⟩ = some (.int .i64 e.1) ∧ w'.cell? ⟨W.heap.size, 1, none⟩ = some (.int .i64 e.2) ∧ (w'.cell? ⟨b, 0, none⟩ = some (.int .i64 le.1) ∧ w'.cell? ⟨b, 1, none⟩ = some (.int .i64 le.2) ∧ w'.cell? ⟨b, 2, none⟩ = some (.pointer po) ∧ w'.cell? ⟨b, 3, none⟩ = some (.pointer (some ⟨c, 0, none⟩))) ∧ w'.cell? ⟨c, 0, none⟩ = some (.int .i64 ie.1) ∧ w'.cell? ⟨c, 1, none⟩ = some (.int .i64 ie.2) ∧ w'.cell? ⟨c, 2, none⟩ = some (.pointer p1') ∧ w'.cell? ⟨c, 3, none⟩ = some (.pointer p2')) ∧ Below W0.heap.size W0 w') ((refine HS.out _ ?_; first | exact (Below.refl _ _).drew | exact (Below.refl _ _).drew.drew | exact hB3 | exact hB2 | exact hB1 | exact Below.refl _ _))
    (first
      | (go_at_call_of 30 (Value.agg #[.int .i64 le.1, Value.int IntKind.i64 le.2]); refine (fork_node le (L := O) (R := I1) ?_ ?_ ?_).mono ?_; (exact ho.up (Below.refl _ _).drew.drew); (exact hi1.up (Below.refl _ _).drew.drew); (omega); rintro o W1 ⟨p1, rfl, ht1, hb1⟩; have hB1 : Below W0.heap.size W0 W1 := ((Below.refl _ W0).drew.drew).trans hb1)
      | (go_at_call_of 30 (Value.agg #[.int .i64 e.1, Value.int IntKind.i64 e.2]); refine (fork_node e (L := I2) (R := R) ?_ ?_ ?_).mono ?_; (exact hi2.up hB1); (exact hr.up hB1); (omega); rintro o W2 ⟨p2, rfl, ht2, hb2⟩; have hB2 : Below W0.heap.size W0 W2 := hB1.trans (hb2.mono hB1.size))
      | (go_at_call_of 30 (Value.agg #[.int .i64 ie.1, Value.int IntKind.i64 ie.2]); refine (fork_node ie (L := .node O le I1) (R := .node I2 e R) ?_ ?_ ?_).mono ?_; (exact ht1.up hb2); (exact ht2); (rw [BT.io_len, BT.io_len]; omega); rintro o W3 ⟨p3, rfl, ht3, hb3⟩; have hB3 : Below W0.heap.size W0 W3 := hB2.trans (hb3.mono hB2.size)))
  go_wp2
  go_ret
  exact ⟨_, _, rfl, ht3, by simp [BT.io], hB0.trans (hB3.mono hB0.size)⟩

theorem turnLeft_any {W : World} {pl pr : Option Addr} {L I O : BT} (e re : Ent) (hl : IsT W.heap.size W pl L) (hr : IsT W.heap.size W pr (.node I re O)) (hsz : (L.io.length : Int) + 1 + ((BT.node I re O).io.length : Int) ≤ 1152921504606846976)
    (hn : 2 ≤ ((BT.node I re O).io.length : Int)) : Calls Try.prog 34 #[.pointer pl, .agg #[.int .i64 e.1, .int .i64 e.2], .pointer pr] W (Gives W (L.io ++ e :: (BT.node I re O).io)) := by
  by_cases hc : (I.io.length : Int) < 2 * (O.io.length : Int)
  · exact turnLeft1 e re hl hr hsz hc
  · cases I with
    | leaf => rw [BT.io_len] at hn; simp [BT.io] at hn hc; omega
    | node I1 ie I2 => exact turnLeft2 e re ie hl hr hsz hc
theorem turnRight_any {W : World} {pl pr : Option Addr} {R I O : BT} (e le : Ent) (hl : IsT W.heap.size W pl (.node O le I)) (hr : IsT W.heap.size W pr R) (hsz : ((BT.node O le I).io.length : Int) + 1 + (R.io.length : Int) ≤ 1152921504606846976)
    (hn : 2 ≤ ((BT.node O le I).io.length : Int)) : Calls Try.prog 35 #[.pointer pl, .agg #[.int .i64 e.1, .int .i64 e.2], .pointer pr] W (Gives W ((BT.node O le I).io ++ e :: R.io)) := by
  by_cases hc : (I.io.length : Int) < 2 * (O.io.length : Int)
  · exact turnRight1 e le hl hr hsz hc
  · cases I with
    | leaf => rw [BT.io_len] at hn; simp [BT.io] at hn hc; omega
    | node I1 ie I2 => exact turnRight2 e le ie hl hr hsz hc
end Go.Proofs.Ytpmdfgoajffmeaa
