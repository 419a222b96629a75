import Derived.Test.YtaadpiimcaabkaaGreatDoorJ31
import Derived.Test.YtaadpiimcaabkaaGreatDoorYZ
import Derived.Test.YtaadpiimcaabkaaGreatDoorJ05

namespace Go.Proofs.YtaadpiimcaabkaaGreatDoor
open Go.RowKit
attribute [local go_sem ↓] Go.wp_at_zero Go.wp_at_succ

/-- How many more there may be. -/
def JL (b : Nat) (x : Int) (w : World) : Prop := w.heap[b]? = some (.cells #[.int .i64 x] 76 (0, 0)) ∧ 0 ≤ x ∧ x ≤ 4096
theorem stb_jl (b : Nat) : Stb (JL b) := fun _ _ _ hj hg => ⟨(hg.block _ (Array.getElem?_eq_some_iff.1 hj.1).1 (by simp)).trans hj.1, hj.2⟩
/-- So many less. -/
def lessJ (n : Nat) (x : Int) : Option Int := if 0 ≤ x - n then some (x - n) else none
set_option maxRecDepth 100000 in
set_option maxHeartbeats 1000000 in
theorem count_any {w : World} {b : Nat} {x : Int} (hj : JL b x w) (n : Nat) (hn : n ≤ 1125899906842624) : Calls Tryz.prog 35 #[.pointer (some ⟨b, 0, none⟩), .int .i64 (n : Int)] w (AllQ w (some b) (JL b) (lessJ n x)) := by
  obtain ⟨hb, hx0, hx1⟩ := hj
  have c0 : w.cell? ⟨b, 0, none⟩ = some (.int .i64 x) := cell_of_row _ _ _ _ _ _ hb
  have f0 : w.frozen? ⟨b, 0, none⟩ = false := by simp [World.frozen?, hb]
  obtain ⟨r1, r2⟩ := set_block (j := 0) hb (.int .i64 (x - n))
  have R1 := hide (show (w.setCell ⟨b, 0, none⟩ (.int .i64 (x - n))).heap[b]? = some (.cells #[.int .i64 (x - n)] 76 (0, 0)) from r1)
  have R2 := hide r2
  have c1 : (w.setCell ⟨b, 0, none⟩ (.int .i64 (x - n))).cell? ⟨b, 0, none⟩ = some (.int .i64 (x - n)) := cell_of_row _ _ _ _ _ _ (unhide R1)
  have HX := hide (show x - n ≤ 4096 by omega)
  clear r1 r2
  go_enter Tryz.func35, Tryz.ntmps35
  go_wp2
  go_ret
  unfold lessJ
  by_cases h : 0 ≤ x - n
  · rw [if_pos h]
    refine ⟨?_, fun s' e => ?_, unhide R2⟩
    · simp; omega
    · obtain rfl := Option.some.inj e
      exact ⟨unhide R1, h, unhide HX⟩
  · rw [if_neg h]
    refine ⟨?_, fun s' e => (by cases e), unhide R2⟩
    simp; omega
/-- Where a judge stands: what lies below is as it was, so many are left, and a block that only is read. -/
structure Jd (W w0 : World) (b g : Nat) (cs : Array Value) (t : TypeId) (x : Int) (w : World) : Prop where
  bel : Below W.heap.size W w
  jl : JL b x w
  blk : w.heap[g]? = some (.cells cs t (0, 0))
  grw : w0.grownBy w (some b)
theorem Jd.below {W w0 w w' : World} {b g : Nat} {cs : Array Value} {t : TypeId} {x : Int} (h : Jd W w0 b g cs t x w) (hb : Below w.heap.size w w') : Jd W w0 b g cs t x w' := by
  have hg : w.grownBy w' none := ⟨hb.os, hb.tape, hb.output, hb.size, fun k hk _ => hb.block k hk⟩
  exact ⟨h.bel.trans (hb.mono h.bel.size), stb_jl b _ _ _ h.jl hg, (hb.block _ (Array.getElem?_eq_some_iff.1 h.blk).1).trans h.blk, h.grw.trans ⟨hg.os, hg.tape, hg.output, hg.size, fun k hk _ => hb.block k hk⟩⟩
/-- A call that writes the judge alone. -/
theorem Jd.go {W w0 w w' : World} {b g : Nat} {cs : Array Value} {t : TypeId} {x x' : Int} (h : Jd W w0 b g cs t x w) (hlo : W.heap.size ≤ b) (hbg : b ≠ g) (hg : w.grownBy w' (some b)) (hj : JL b x' w') : Jd W w0 b g cs t x' w' :=
  ⟨grown_below h.bel hg h.bel.size (fun k e => by obtain rfl := Option.some.inj e; exact hlo), hj, (hg.block _ (Array.getElem?_eq_some_iff.1 h.blk).1 (by simpa using fun e => hbg e.symm)).trans h.blk, h.grw.trans hg⟩
theorem Jd.no {W w0 w : World} {b g : Nat} {cs : Array Value} {t : TypeId} {x : Int} (h : Jd W w0 b g cs t x w) : AllQ w0 (some b) (JL b) none (.returned (.bool false)) w := ⟨rfl, fun _ e => (by cases e), h.grw⟩
theorem Jd.yes {W w0 w : World} {b g : Nat} {cs : Array Value} {t : TypeId} {x : Int} (h : Jd W w0 b g cs t x w) : AllQ w0 (some b) (JL b) (some x) (.returned (.bool true)) w := ⟨rfl, fun _ e => (by obtain rfl := Option.some.inj e; exact h.jl), h.grw⟩
/-- An enum, so many being left. -/
noncomputable def enumOk (e : En) : Bool := wordB e.name && decide (0 < e.vals.length) && e.vals.all valueB && e.res.all (rowB (-2147483648) 2147483647) && e.gone.all wordB
noncomputable def enumJ (e : En) (x : Int) : Option Int := match lessJ (e.vals.length + e.res.length + e.gone.length) x with
  | none => none
  | some x1 => if enumOk e then some x1 else none
theorem en_of {w : World} {b : Nat} {v0 v1 v2 v3 : Value} {t : TypeId} (hn : w.heap[b]? = some (.cells #[v0, v1, v2, v3] t (0, 0))) : w.cell? ⟨b, 0, none⟩ = some v0 ∧ w.cell? ⟨b, 1, none⟩ = some v1 ∧ w.cell? ⟨b, 2, none⟩ = some v2 ∧ w.cell? ⟨b, 3, none⟩ = some v3 :=
  ⟨cell_of_row _ _ _ _ _ _ hn, cell_of_row _ _ _ _ _ _ hn, cell_of_row _ _ _ _ _ _ hn, cell_of_row _ _ _ _ _ _ hn⟩
set_option maxRecDepth 100000 in
set_option maxHeartbeats 2000000 in
theorem enum_any {W : World} {e : En} {vv vr vg : Value} (hv : Rl W vv e.vals.length (evC e.vals)) (hr : Rl W vr e.res.length (rgC e.res)) (hg : Rl W vg e.gone.length (strC e.gone)) {b : Nat} (hlo : W.heap.size ≤ b) (w0 : World) (x : Int) (hw : Below W.heap.size W w0) (hj : JL b x w0) :
    Calls Tryz.prog 42 #[.pointer (some ⟨b, 0, none⟩), .agg #[.string e.name, vv, vr, vg]] w0 (AllQ w0 (some b) (JL b) (enumJ e x)) := by
  have hbw : b < w0.heap.size := (Array.getElem?_eq_some_iff.1 hj.1).1
  have HJ : Hid (Jd W w0 b w0.heap.size #[.string e.name, vv, vr, vg] 67 x (w0.alloc (.cells #[.string e.name, vv, vr, vg] 67))) := ⟨hw.alloc hw.size _, stb_jl b _ _ _ hj (World.grownBy_alloc _ _ _), heap_new _ _, World.grownBy_alloc _ _ _⟩
  have HV := hide (fun w h => all_val hv w h)
  have HR := hide (fun g h w k j => all_row (g := g) (h := h) (lo := -2147483648) (hi := 2147483647) hr w k j)
  have HG := hide (fun w h => all_str hg (fun vs w => by kernel_rfl) word_any w h)
  have HW := hide (fun w => word_any w e.name)
  obtain ⟨av, cv, rfl, hnv, -⟩ := hv
  obtain ⟨ar, cr, rfl, hnr, -⟩ := hr
  obtain ⟨ag, cg, rfl, hng, -⟩ := hg
  have HC := hide (fun w hjw => count_any (w := w) (b := b) (x := x) hjw (e.vals.length + e.res.length + e.gone.length) (by omega))
  have Hbg := hide (show b ≠ w0.heap.size by omega)
  have Hlo := hide hlo
  unfold enumJ enumOk
  obtain ⟨en, ev, er, eg⟩ := e
  simp only at *
  obtain ⟨q1, h1⟩ : ∃ q, wordB en = q := ⟨_, rfl⟩
  obtain ⟨q2, h2⟩ : ∃ q, decide (0 < ev.length) = q := ⟨_, rfl⟩
  obtain ⟨q3, h3⟩ : ∃ q, ev.all valueB = q := ⟨_, rfl⟩
  obtain ⟨q4, h4⟩ : ∃ q, er.all (rowB (-2147483648) 2147483647) = q := ⟨_, rfl⟩
  obtain ⟨q5, h5⟩ : ∃ q, eg.all wordB = q := ⟨_, rfl⟩
  obtain ⟨lx, hlx⟩ : ∃ l, lessJ (ev.length + er.length + eg.length) x = l := ⟨_, rfl⟩
  have e2 := hide h2
  rw [h1] at HW ⊢
  rw [h3] at HV ⊢
  rw [h4] at HR ⊢
  rw [h5] at HG ⊢
  rw [hlx] at HC ⊢
  rw [h2]
  obtain ⟨V, hV⟩ : ∃ V, w0.alloc (.cells #[.string en, .slice av ev.length cv, .slice ar er.length cr, .slice ag eg.length cg] 67) = V := ⟨_, rfl⟩
  rw [hV] at HJ
  obtain ⟨c0, c1, c2, c3⟩ := en_of (unhide HJ).blk
  clear h1 h2 h3 h4 h5 hlx hlo hbw hw hj
  have HJD := hide ((unhide HJ).below (below_drewN (Below.refl _ _) 1))
  have hT : (fun w : World => w.cell? ⟨w0.heap.size, 0, none⟩ = some (.string en) ∧ w.cell? ⟨w0.heap.size, 1, none⟩ = some (.slice av ev.length cv) ∧ w.cell? ⟨w0.heap.size, 2, none⟩ = some (.slice ar er.length cr) ∧ w.cell? ⟨w0.heap.size, 3, none⟩ = some (.slice ag eg.length cg)) V.drew := en_of (unhide HJD).blk
  go_enter Tryz.func42, Tryz.ntmps42
  go_upto_region 1 with fail
  refine wp_region_any (by kernel_rfl) (wpAny_of_Z (z := 99) (T := fun w => w.cell? ⟨w0.heap.size, 0, none⟩ = some (.string en) ∧ w.cell? ⟨w0.heap.size, 1, none⟩ = some (.slice av ev.length cv) ∧ w.cell? ⟨w0.heap.size, 2, none⟩ = some (.slice ar er.length cr) ∧ w.cell? ⟨w0.heap.size, 3, none⟩ = some (.slice ag eg.length cg)) _ _ _ _ ?_)
  try (change wpAnyZ _ _ _ _ _ _ _ _ _ (World.drew _))
  refine wpAnyZ_tk 0 (.pointer (some ⟨b, 0, none⟩)) 5 rfl rfl (Or.inl ⟨by rfl, fun w hw => by obtain ⟨hw0, hw1, hw2, hw3⟩ := hw; go_simp⟩) hT ?_
  simp only [Act.put, List.setIfInBounds_toArray, List.set_cons_zero, List.set_cons_succ]
  refine wpAnyZ_tk 1 (.pointer (some ⟨w0.heap.size, 1, none⟩)) 6 rfl rfl (Or.inl ⟨by rfl, fun w hw => by obtain ⟨hw0, hw1, hw2, hw3⟩ := hw; go_simp⟩) hT ?_
  simp only [Act.put, List.setIfInBounds_toArray, List.set_cons_zero, List.set_cons_succ]
  refine wpAnyZ_tk 2 (.slice av ev.length cv) 7 rfl rfl (Or.inl ⟨by rfl, fun w hw => by obtain ⟨hw0, hw1, hw2, hw3⟩ := hw; go_simp⟩) hT ?_
  simp only [Act.put, List.setIfInBounds_toArray, List.set_cons_zero, List.set_cons_succ]
  refine wpAnyZ_tk 3 (.int .i64 ((ev.length : Nat) : Int)) 8 rfl rfl (Or.inl ⟨by rfl, fun w hw => by obtain ⟨hw0, hw1, hw2, hw3⟩ := hw; go_simp⟩) hT ?_
  simp only [Act.put, List.setIfInBounds_toArray, List.set_cons_zero, List.set_cons_succ]
  refine wpAnyZ_tk 4 (.pointer (some ⟨w0.heap.size, 2, none⟩)) 9 rfl rfl (Or.inl ⟨by rfl, fun w hw => by obtain ⟨hw0, hw1, hw2, hw3⟩ := hw; go_simp⟩) hT ?_
  simp only [Act.put, List.setIfInBounds_toArray, List.set_cons_zero, List.set_cons_succ]
  refine wpAnyZ_tk 5 (.slice ar er.length cr) 10 rfl rfl (Or.inl ⟨by rfl, fun w hw => by obtain ⟨hw0, hw1, hw2, hw3⟩ := hw; go_simp⟩) hT ?_
  simp only [Act.put, List.setIfInBounds_toArray, List.set_cons_zero, List.set_cons_succ]
  refine wpAnyZ_tk 6 (.int .i64 ((er.length : Nat) : Int)) 11 rfl rfl (Or.inl ⟨by rfl, fun w hw => by obtain ⟨hw0, hw1, hw2, hw3⟩ := hw; go_simp⟩) hT ?_
  simp only [Act.put, List.setIfInBounds_toArray, List.set_cons_zero, List.set_cons_succ]
  refine wpAnyZ_tk 7 (.int .i64 ((ev.length + er.length : Nat) : Int)) 12 rfl rfl (Or.inl ⟨by rfl, fun w hw => by obtain ⟨hw0, hw1, hw2, hw3⟩ := hw; go_simp; exact IntWalk.i64_in _ (by omega)⟩) hT ?_
  simp only [Act.put, List.setIfInBounds_toArray, List.set_cons_zero, List.set_cons_succ]
  refine wpAnyZ_tk 8 (.pointer (some ⟨w0.heap.size, 3, none⟩)) 13 rfl rfl (Or.inl ⟨by rfl, fun w hw => by obtain ⟨hw0, hw1, hw2, hw3⟩ := hw; go_simp⟩) hT ?_
  simp only [Act.put, List.setIfInBounds_toArray, List.set_cons_zero, List.set_cons_succ]
  refine wpAnyZ_tk 9 (.slice ag eg.length cg) 14 rfl rfl (Or.inl ⟨by rfl, fun w hw => by obtain ⟨hw0, hw1, hw2, hw3⟩ := hw; go_simp⟩) hT ?_
  simp only [Act.put, List.setIfInBounds_toArray, List.set_cons_zero, List.set_cons_succ]
  refine wpAnyZ_tk 10 (.int .i64 ((eg.length : Nat) : Int)) 15 rfl rfl (Or.inl ⟨by rfl, fun w hw => by obtain ⟨hw0, hw1, hw2, hw3⟩ := hw; go_simp⟩) hT ?_
  simp only [Act.put, List.setIfInBounds_toArray, List.set_cons_zero, List.set_cons_succ]
  refine wpAnyZ_tk 11 (.int .i64 ((ev.length + er.length + eg.length : Nat) : Int)) 16 rfl rfl (Or.inl ⟨by rfl, fun w hw => by obtain ⟨hw0, hw1, hw2, hw3⟩ := hw; go_simp; exact IntWalk.i64_in _ (by omega)⟩) hT ?_
  simp only [Act.put, List.setIfInBounds_toArray, List.set_cons_zero, List.set_cons_succ]
  refine wpAnyZ_one 12 (by kernel_rfl) rfl (fun K hK => ?_)
  refine step_callD 17 rfl rfl 35 (fun vs => by kernel_rfl) #[.tmp 5, .tmp 16] #[113, 3] rfl #[.pointer (some ⟨b, 0, none⟩), .int .i64 ((ev.length + er.length + eg.length : Nat) : Int)] (by first | rfl | simp [Act.eval]) (unhide HC _ (unhide HJD).jl) ?_
  rintro e w1 ⟨rfl, hj1, hg1⟩
  cases lx with
  | none =>
    have HN := hide (show w0.grownBy w1 (some b) from (unhide HJD).grw.trans hg1)
    have hT1 : (fun w : World => w.cell? ⟨w0.heap.size, 0, none⟩ = some (.string en) ∧ w.cell? ⟨w0.heap.size, 1, none⟩ = some (.slice av ev.length cv) ∧ w.cell? ⟨w0.heap.size, 2, none⟩ = some (.slice ar er.length cr) ∧ w.cell? ⟨w0.heap.size, 3, none⟩ = some (.slice ag eg.length cg)) w1 := en_of ((hg1.block _ (Array.getElem?_eq_some_iff.1 (unhide HJD).blk).1 (by simpa using fun e => unhide Hbg e.symm)).trans (unhide HJD).blk)
    refine ⟨_, rfl, hK _ _ ⟨fun _ => hT1, ?_⟩⟩
    clear hK K hT hj1 hg1
    have hT := hT1
    clear hT1
    simp only [Option.isSome_none]
    simp only [Act.put, List.setIfInBounds_toArray, List.set_cons_zero, List.set_cons_succ]
    refine wpAnyZ_no [13, 14, 15, 16, 17, 18, 19, 20, 21, 22, 23, 24, 25, 26, 27, 28, 29, 30, 31, 32, 33, 34, 35, 36, 37, 38, 39, 40] 4 hT (by kernel_rfl) (fun t' ht => ?_) (by decide) (by kernel_rfl) (fun _ _ _ _ _ h => h)
    go_wp2
    go_ret
    rw [ht]
    exact ⟨rfl, fun _ e => (by cases e), unhide HN⟩
  | some x1 =>
  simp only [Option.isSome_some]
  have HJ1 := hide ((unhide HJD).go (unhide Hlo) (unhide Hbg) hg1 (hj1 _ rfl))
  have hT1 : (fun w : World => w.cell? ⟨w0.heap.size, 0, none⟩ = some (.string en) ∧ w.cell? ⟨w0.heap.size, 1, none⟩ = some (.slice av ev.length cv) ∧ w.cell? ⟨w0.heap.size, 2, none⟩ = some (.slice ar er.length cr) ∧ w.cell? ⟨w0.heap.size, 3, none⟩ = some (.slice ag eg.length cg)) w1 := en_of (unhide HJ1).blk
  refine ⟨_, rfl, hK _ _ ⟨fun _ => hT1, ?_⟩⟩
  clear hK K hT
  have hT := hT1
  clear hT1
  simp only [Act.put, List.setIfInBounds_toArray, List.set_cons_zero, List.set_cons_succ]
  clear hj1 hg1 HJD HC
  refine wpAnyZ_tk 13 (.bool true) 18 rfl rfl (Or.inl ⟨by rfl, fun w hw => by obtain ⟨hw0, hw1, hw2, hw3⟩ := hw; go_simp⟩) hT ?_
  simp only [Act.put, List.setIfInBounds_toArray, List.set_cons_zero, List.set_cons_succ]
  refine wpAnyZ_tk 14 (.pointer (some ⟨w0.heap.size, 0, none⟩)) 19 rfl rfl (Or.inl ⟨by rfl, fun w hw => by obtain ⟨hw0, hw1, hw2, hw3⟩ := hw; go_simp⟩) hT ?_
  simp only [Act.put, List.setIfInBounds_toArray, List.set_cons_zero, List.set_cons_succ]
  refine wpAnyZ_tk 15 (.string en) 20 rfl rfl (Or.inl ⟨by rfl, fun w hw => by obtain ⟨hw0, hw1, hw2, hw3⟩ := hw; go_simp⟩) hT ?_
  simp only [Act.put, List.setIfInBounds_toArray, List.set_cons_zero, List.set_cons_succ]
  refine wpAnyZ_one 16 (by kernel_rfl) rfl (fun K hK => ?_)
  refine step_callG 21 rfl 64 (fun vs => by kernel_rfl) #[.tmp 20] #[9] rfl #[.string en] (by first | rfl | simp [Act.eval]) (unhide HW _) (by rfl) ?_
  rintro e w2 ⟨rfl, rfl⟩
  refine ⟨_, rfl, hK _ _ ⟨fun _ => hT, ?_⟩⟩
  clear hK K HW
  simp only [Act.put, List.setIfInBounds_toArray, List.set_cons_zero, List.set_cons_succ]
  cases q1 with
  | false =>
    refine wpAnyZ_no [17, 18, 19, 20, 21, 22, 23, 24, 25, 26, 27, 28, 29, 30, 31, 32, 33, 34, 35, 36, 37, 38, 39, 40] 4 hT (by kernel_rfl) (fun t' ht => ?_) (by decide) (by kernel_rfl) (fun _ _ _ _ _ h => h)
    go_wp2
    go_ret
    rw [ht]
    exact (unhide HJ1).no
  | true =>
  refine wpAnyZ_tk 17 (.bool true) 22 rfl rfl (Or.inl ⟨by rfl, fun w hw => by obtain ⟨hw0, hw1, hw2, hw3⟩ := hw; go_simp⟩) hT ?_
  simp only [Act.put, List.setIfInBounds_toArray, List.set_cons_zero, List.set_cons_succ]
  refine wpAnyZ_tk 18 (.bool true) 23 rfl rfl (Or.inl ⟨by rfl, fun w hw => by obtain ⟨hw0, hw1, hw2, hw3⟩ := hw; go_simp⟩) hT ?_
  simp only [Act.put, List.setIfInBounds_toArray, List.set_cons_zero, List.set_cons_succ]
  refine wpAnyZ_tk 19 (.pointer (some ⟨w0.heap.size, 1, none⟩)) 24 rfl rfl (Or.inl ⟨by rfl, fun w hw => by obtain ⟨hw0, hw1, hw2, hw3⟩ := hw; go_simp⟩) hT ?_
  simp only [Act.put, List.setIfInBounds_toArray, List.set_cons_zero, List.set_cons_succ]
  refine wpAnyZ_tk 20 (.slice av ev.length cv) 25 rfl rfl (Or.inl ⟨by rfl, fun w hw => by obtain ⟨hw0, hw1, hw2, hw3⟩ := hw; go_simp⟩) hT ?_
  simp only [Act.put, List.setIfInBounds_toArray, List.set_cons_zero, List.set_cons_succ]
  refine wpAnyZ_tk 21 (.int .i64 ((ev.length : Nat) : Int)) 26 rfl rfl (Or.inl ⟨by rfl, fun w hw => by obtain ⟨hw0, hw1, hw2, hw3⟩ := hw; go_simp⟩) hT ?_
  simp only [Act.put, List.setIfInBounds_toArray, List.set_cons_zero, List.set_cons_succ]
  refine wpAnyZ_tk 22 (.bool q2) 27 rfl rfl (Or.inl ⟨by rfl, fun w hw => by obtain ⟨hw0, hw1, hw2, hw3⟩ := hw; go_simp; exact e2⟩) hT ?_
  simp only [Act.put, List.setIfInBounds_toArray, List.set_cons_zero, List.set_cons_succ]
  cases q2 with
  | false =>
    refine wpAnyZ_no [23, 24, 25, 26, 27, 28, 29, 30, 31, 32, 33, 34, 35, 36, 37, 38, 39, 40] 4 hT (by kernel_rfl) (fun t' ht => ?_) (by decide) (by kernel_rfl) (fun _ _ _ _ _ h => h)
    go_wp2
    go_ret
    rw [ht]
    exact (unhide HJ1).no
  | true =>
  refine wpAnyZ_tk 23 (.bool true) 28 rfl rfl (Or.inl ⟨by rfl, fun w hw => by obtain ⟨hw0, hw1, hw2, hw3⟩ := hw; go_simp⟩) hT ?_
  simp only [Act.put, List.setIfInBounds_toArray, List.set_cons_zero, List.set_cons_succ]
  refine wpAnyZ_tk 24 (.bool true) 29 rfl rfl (Or.inl ⟨by rfl, fun w hw => by obtain ⟨hw0, hw1, hw2, hw3⟩ := hw; go_simp⟩) hT ?_
  simp only [Act.put, List.setIfInBounds_toArray, List.set_cons_zero, List.set_cons_succ]
  refine wpAnyZ_tk 25 (.pointer (some ⟨w0.heap.size, 1, none⟩)) 30 rfl rfl (Or.inl ⟨by rfl, fun w hw => by obtain ⟨hw0, hw1, hw2, hw3⟩ := hw; go_simp⟩) hT ?_
  simp only [Act.put, List.setIfInBounds_toArray, List.set_cons_zero, List.set_cons_succ]
  refine wpAnyZ_tk 26 (.slice av ev.length cv) 31 rfl rfl (Or.inl ⟨by rfl, fun w hw => by obtain ⟨hw0, hw1, hw2, hw3⟩ := hw; go_simp⟩) hT ?_
  simp only [Act.put, List.setIfInBounds_toArray, List.set_cons_zero, List.set_cons_succ]
  refine wpAnyZ_one 27 (by kernel_rfl) rfl (fun K hK => ?_)
  refine step_callG 32 rfl 78 (fun vs => by kernel_rfl) #[.tmp 31, .func 79] #[65, 122] rfl #[.slice av ev.length cv, .func (.func 79) #[] #[]] (by first | rfl | simp [Act.eval]) (unhide HV _ (unhide HJ1).bel) (by rfl) ?_
  rintro e w3 ⟨rfl, hb3⟩
  have HJ3 := hide ((unhide HJ1).below hb3)
  have hT3 : (fun w : World => w.cell? ⟨w0.heap.size, 0, none⟩ = some (.string en) ∧ w.cell? ⟨w0.heap.size, 1, none⟩ = some (.slice av ev.length cv) ∧ w.cell? ⟨w0.heap.size, 2, none⟩ = some (.slice ar er.length cr) ∧ w.cell? ⟨w0.heap.size, 3, none⟩ = some (.slice ag eg.length cg)) w3 := en_of (unhide HJ3).blk
  refine ⟨_, rfl, hK _ _ ⟨fun _ => hT3, ?_⟩⟩
  clear hK K hT
  have hT := hT3
  clear hT3
  simp only [Act.put, List.setIfInBounds_toArray, List.set_cons_zero, List.set_cons_succ]
  clear hb3 HJ1 HV
  cases q3 with
  | false =>
    refine wpAnyZ_no [28, 29, 30, 31, 32, 33, 34, 35, 36, 37, 38, 39, 40] 4 hT (by kernel_rfl) (fun t' ht => ?_) (by decide) (by kernel_rfl) (fun _ _ _ _ _ h => h)
    go_wp2
    go_ret
    rw [ht]
    exact (unhide HJ3).no
  | true =>
  refine wpAnyZ_tk 28 (.bool true) 33 rfl rfl (Or.inl ⟨by rfl, fun w hw => by obtain ⟨hw0, hw1, hw2, hw3⟩ := hw; go_simp⟩) hT ?_
  simp only [Act.put, List.setIfInBounds_toArray, List.set_cons_zero, List.set_cons_succ]
  refine wpAnyZ_tk 29 (.bool true) 34 rfl rfl (Or.inl ⟨by rfl, fun w hw => by obtain ⟨hw0, hw1, hw2, hw3⟩ := hw; go_simp⟩) hT ?_
  simp only [Act.put, List.setIfInBounds_toArray, List.set_cons_zero, List.set_cons_succ]
  refine wpAnyZ_tk 30 (.pointer (some ⟨w0.heap.size, 2, none⟩)) 35 rfl rfl (Or.inl ⟨by rfl, fun w hw => by obtain ⟨hw0, hw1, hw2, hw3⟩ := hw; go_simp⟩) hT ?_
  simp only [Act.put, List.setIfInBounds_toArray, List.set_cons_zero, List.set_cons_succ]
  refine wpAnyZ_tk 31 (.slice ar er.length cr) 36 rfl rfl (Or.inl ⟨by rfl, fun w hw => by obtain ⟨hw0, hw1, hw2, hw3⟩ := hw; go_simp⟩) hT ?_
  simp only [Act.put, List.setIfInBounds_toArray, List.set_cons_zero, List.set_cons_succ]
  refine wpAnyZ_one 32 (by kernel_rfl) rfl (fun K hK => ?_)
  refine step_callG 37 rfl 74 (fun vs => by kernel_rfl) #[.const (.int .i64 (-2147483648)), .const (.int .i64 2147483647)] #[3, 3] rfl #[.int .i64 (-2147483648), .int .i64 2147483647] (by first | rfl | simp [Act.eval]) (isRow_any _ _ _) (by rfl) ?_
  rintro e w4 ⟨rfl, hw4⟩
  have hb4 : Below w3.heap.size w3 w4 := by rw [hw4]; exact ((Below.refl _ _).alloc (Nat.le_refl _) _).alloc (by rw [World.size_alloc]; omega) _
  have HR4 : Hid (JRow w3.heap.size (w3.heap.size + 1) (-2147483648) 2147483647 () w4) := by
    rw [hw4]
    refine ⟨(Below.heap_alloc _ _ _ (by rw [World.size_alloc]; omega)).trans (heap_new _ _), ?_⟩
    have := heap_new (w3.alloc (.cells #[.int .i64 (-2147483648)] 3)) (.cells #[.int .i64 2147483647] 3)
    rw [World.size_alloc] at this
    exact this
  have HJ4 := hide ((unhide HJ3).below hb4)
  have hT4 : (fun w : World => w.cell? ⟨w0.heap.size, 0, none⟩ = some (.string en) ∧ w.cell? ⟨w0.heap.size, 1, none⟩ = some (.slice av ev.length cv) ∧ w.cell? ⟨w0.heap.size, 2, none⟩ = some (.slice ar er.length cr) ∧ w.cell? ⟨w0.heap.size, 3, none⟩ = some (.slice ag eg.length cg)) w4 := en_of (unhide HJ4).blk
  refine ⟨_, rfl, hK _ _ ⟨fun _ => hT4, ?_⟩⟩
  clear hK K hT
  have hT := hT4
  clear hT4
  simp only [Act.put, List.setIfInBounds_toArray, List.set_cons_zero, List.set_cons_succ]
  clear hb4 HJ3 hw4
  refine wpAnyZ_one 33 (by kernel_rfl) rfl (fun K hK => ?_)
  refine step_callG 38 rfl 73 (fun vs => by kernel_rfl) #[.tmp 36, .tmp 37] #[44, 119] rfl #[.slice ar er.length cr, .func (.func 120) #[] #[.pointer (some ⟨w3.heap.size, 0, none⟩), .pointer (some ⟨w3.heap.size + 1, 0, none⟩)]] (by first | rfl | simp [Act.eval]) (unhide HR _ _ _ (unhide HJ4).bel (unhide HR4)) (by rfl) ?_
  rintro e w5 ⟨rfl, hb5⟩
  have HJ5 := hide ((unhide HJ4).below hb5)
  have hT5 : (fun w : World => w.cell? ⟨w0.heap.size, 0, none⟩ = some (.string en) ∧ w.cell? ⟨w0.heap.size, 1, none⟩ = some (.slice av ev.length cv) ∧ w.cell? ⟨w0.heap.size, 2, none⟩ = some (.slice ar er.length cr) ∧ w.cell? ⟨w0.heap.size, 3, none⟩ = some (.slice ag eg.length cg)) w5 := en_of (unhide HJ5).blk
  refine ⟨_, rfl, hK _ _ ⟨fun _ => hT5, ?_⟩⟩
  clear hK K hT
  have hT := hT5
  clear hT5
  simp only [Act.put, List.setIfInBounds_toArray, List.set_cons_zero, List.set_cons_succ]
  clear hb5 HJ4 HR HR4
  cases q4 with
  | false =>
    refine wpAnyZ_no [34, 35, 36, 37, 38, 39, 40] 4 hT (by kernel_rfl) (fun t' ht => ?_) (by decide) (by kernel_rfl) (fun _ _ _ _ _ h => h)
    go_wp2
    go_ret
    rw [ht]
    exact (unhide HJ5).no
  | true =>
  refine wpAnyZ_tk 34 (.bool true) 39 rfl rfl (Or.inl ⟨by rfl, fun w hw => by obtain ⟨hw0, hw1, hw2, hw3⟩ := hw; go_simp⟩) hT ?_
  simp only [Act.put, List.setIfInBounds_toArray, List.set_cons_zero, List.set_cons_succ]
  refine wpAnyZ_tk 35 (.bool true) 40 rfl rfl (Or.inl ⟨by rfl, fun w hw => by obtain ⟨hw0, hw1, hw2, hw3⟩ := hw; go_simp⟩) hT ?_
  simp only [Act.put, List.setIfInBounds_toArray, List.set_cons_zero, List.set_cons_succ]
  refine wpAnyZ_tk 36 (.pointer (some ⟨w0.heap.size, 3, none⟩)) 41 rfl rfl (Or.inl ⟨by rfl, fun w hw => by obtain ⟨hw0, hw1, hw2, hw3⟩ := hw; go_simp⟩) hT ?_
  simp only [Act.put, List.setIfInBounds_toArray, List.set_cons_zero, List.set_cons_succ]
  refine wpAnyZ_tk 37 (.slice ag eg.length cg) 42 rfl rfl (Or.inl ⟨by rfl, fun w hw => by obtain ⟨hw0, hw1, hw2, hw3⟩ := hw; go_simp⟩) hT ?_
  simp only [Act.put, List.setIfInBounds_toArray, List.set_cons_zero, List.set_cons_succ]
  refine wpAnyZ_one 38 (by kernel_rfl) rfl (fun K hK => ?_)
  refine step_callG 43 rfl 36 (fun vs => by kernel_rfl) #[.tmp 42, .func 64] #[22, 77] rfl #[.slice ag eg.length cg, .func (.func 64) #[] #[]] (by first | rfl | simp [Act.eval]) (unhide HG _ (unhide HJ5).bel) (by rfl) ?_
  rintro e w6 ⟨rfl, hb6⟩
  have HJ6 := hide ((unhide HJ5).below hb6)
  have hT6 : (fun w : World => w.cell? ⟨w0.heap.size, 0, none⟩ = some (.string en) ∧ w.cell? ⟨w0.heap.size, 1, none⟩ = some (.slice av ev.length cv) ∧ w.cell? ⟨w0.heap.size, 2, none⟩ = some (.slice ar er.length cr) ∧ w.cell? ⟨w0.heap.size, 3, none⟩ = some (.slice ag eg.length cg)) w6 := en_of (unhide HJ6).blk
  refine ⟨_, rfl, hK _ _ ⟨fun _ => hT6, ?_⟩⟩
  clear hK K hT
  have hT := hT6
  clear hT6
  simp only [Act.put, List.setIfInBounds_toArray, List.set_cons_zero, List.set_cons_succ]
  clear hb6 HJ5 HG
  cases q5 with
  | false =>
    refine wpAnyZ_no [39, 40] 4 hT (by kernel_rfl) (fun t' ht => ?_) (by decide) (by kernel_rfl) (fun _ _ _ _ _ h => h)
    go_wp2
    go_ret
    rw [ht]
    exact (unhide HJ6).no
  | true =>
  refine wpAnyZ_tk 39 (.bool true) 44 rfl rfl (Or.inl ⟨by rfl, fun w hw => by obtain ⟨hw0, hw1, hw2, hw3⟩ := hw; go_simp⟩) hT ?_
  simp only [Act.put, List.setIfInBounds_toArray, List.set_cons_zero, List.set_cons_succ]
  refine wpAnyZ_tk 40 (.bool true) 4 rfl rfl (Or.inl ⟨by rfl, fun w hw => by obtain ⟨hw0, hw1, hw2, hw3⟩ := hw; go_simp⟩) hT ?_
  simp only [Act.put, List.setIfInBounds_toArray, List.set_cons_zero, List.set_cons_succ]
  refine wpAnyZ_done (by kernel_rfl) ?_
  go_wp2
  go_ret
  exact (unhide HJ6).yes
end Go.Proofs.YtaadpiimcaabkaaGreatDoor
