import Derived.Test.YtphccijiniolcaaDoorWY
namespace Go.Proofs.YtphccijiniolcaaDoor
open Go.RowKit
attribute [local go_sem ↓] Go.wp_at_zero Go.wp_at_succ

set_option maxRecDepth 100000 in
set_option maxHeartbeats 4000000 in
theorem split0 (hadd : AddNil) {W : World} {g : Nat} {off cap : Nat} (h0 : W.cell? ⟨g, off, none⟩ = some (.int .u8 8)) (h1 : W.cell? ⟨g, off + 1, none⟩ = some (.int .u8 150)) (h2 : W.cell? ⟨g, off + 2, none⟩ = some (.int .u8 1)) :
    Calls Tryd.prog 10 #[.slice (some ⟨g, off, none⟩) 3 cap, .bool true] W fun e W' => ∃ v, e = .returned (.tuple #[v, .int .i64 0, .int .i64 0]) ∧ HasR W' v [⟨1, 0, 150, .empty, none, 0⟩] ∧ Below W.heap.size W W' := by
  go_enter Tryd.func10, Tryd.ntmps10
  go_wp2_with fail
  refine (read0 h0 h1 h2).mono ?_
  rintro e w1 ⟨rfl, hr, hb1⟩
  have hz1 := (Array.getElem?_eq_some_iff.1 hr).1
  go_wp2_with fail
  refine (newWalk0 hr).mono ?_
  rintro e w2 ⟨rfl, hw, hb2⟩
  have hr2 := (hb2.block W.heap.size hz1).trans hr
  have hB2 := hb1.trans (hb2.mono hb1.size)
  clear h0 h1 h2 hb1
  go_wp2_with fail
  refine wp_loop_rounds 2 ?_
  rw [rounds_succ]
  go_wp2_with fail
  refine (more0 (n := 0) (r := true) hr2 rfl).mono ?_
  rintro e w3 ⟨rfl, k3, rfl⟩
  go_wp2_with fail
  refine (wstep0 hadd (W := w2.drewN k3) hr2 hw).mono ?_
  rintro e w4 ⟨rfl, v, hr4, hw4, hR4, hB4⟩
  have hB4' : Below W.heap.size W w4 := hB2.trans (by have := hB4 W.heap.size (by have := hB2.size; exact this) (Nat.le_refl _) (by omega); exact ⟨this.os, this.tape, this.output, this.size, this.block⟩)
  clear hr2 hw hB4
  go_wp2_with fail
  rw [rounds_succ]
  go_wp2_with fail
  refine (more0 (n := 3) (r := false) hr4 rfl).mono ?_
  rintro e w5 ⟨rfl, k5, rfl⟩
  go_wp2_with fail
  refine (ingroup0 (W := w4.drewN k5) hw4).mono ?_
  rintro e w' ⟨rfl, rfl⟩
  obtain ⟨c0, c1, c2, c3, c4, c5, c6, f1⟩ := walk_cells (W := w4.drewN k5) hw4
  have hR5 : HasR (w4.drewN k5) v [⟨1, 0, 150, .empty, none, 0⟩] := hR4
  have hB5 : Below W.heap.size W (w4.drewN k5) := ⟨hB4'.os, hB4'.tape, hB4'.output, hB4'.size, hB4'.block⟩
  generalize w4.drewN k5 = Z at *
  go_wp2
  go_ret3
  exact ⟨v, rfl, hR5, hB5⟩
end Go.Proofs.YtphccijiniolcaaDoor
