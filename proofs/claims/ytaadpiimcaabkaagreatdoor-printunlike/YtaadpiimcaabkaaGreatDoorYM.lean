import Derived.Test.YtaadpiimcaabkaaGreatDoorYL

namespace Go.Proofs.YtaadpiimcaabkaaGreatDoor
open Go.RowKit
attribute [local go_sem ↓] Go.wp_at_zero Go.wp_at_succ

/-- Where a judge stands in a message. -/
structure Jf (W w0 : World) (b g : Nat) (cs : Array Value) (t : TypeId) (g1 g2 : Nat) (deep x : Int) (w : World) : Prop where
  bel : Below W.heap.size W w
  jm : JM b g1 g2 deep x w
  blk : w.heap[g]? = some (.cells cs t (0, 0))
  grw : w0.grownBy w (some b)
theorem Jf.below {W w0 w w' : World} {b g g1 g2 : Nat} {cs : Array Value} {t : TypeId} {deep x : Int} (h : Jf W w0 b g cs t g1 g2 deep x w) (hb : Below w.heap.size w w') : Jf W w0 b g cs t g1 g2 deep x w' := by
  have hg : w.grownBy w' none := ⟨hb.os, hb.tape, hb.output, hb.size, fun k hk _ => hb.block k hk⟩
  exact ⟨h.bel.trans (hb.mono h.bel.size), stb_jm b g1 g2 deep _ _ _ h.jm hg, (hb.block _ (Array.getElem?_eq_some_iff.1 h.blk).1).trans h.blk, h.grw.trans ⟨hg.os, hg.tape, hg.output, hg.size, fun k hk _ => hb.block k hk⟩⟩
theorem Jf.go {W w0 w w' : World} {b g g1 g2 : Nat} {cs : Array Value} {t : TypeId} {deep x x' : Int} (h : Jf W w0 b g cs t g1 g2 deep x w) (hlo : W.heap.size ≤ b) (hbg : b ≠ g) (h1 : b ≠ g1) (h2 : b ≠ g2) (hg : w.grownBy w' (some b)) (hj : JL b x' w') : Jf W w0 b g cs t g1 g2 deep x' w' :=
  ⟨grown_below h.bel hg h.bel.size (fun k e => by obtain rfl := Option.some.inj e; exact hlo), ⟨hj, (hg.block _ (Array.getElem?_eq_some_iff.1 h.jm.2.1).1 (by simpa using fun e => h1 e.symm)).trans h.jm.2.1, (hg.block _ (Array.getElem?_eq_some_iff.1 h.jm.2.2).1 (by simpa using fun e => h2 e.symm)).trans h.jm.2.2⟩, (hg.block _ (Array.getElem?_eq_some_iff.1 h.blk).1 (by simpa using fun e => hbg e.symm)).trans h.blk, h.grw.trans hg⟩
theorem Jf.no {W w0 w : World} {b g g1 g2 : Nat} {cs : Array Value} {t : TypeId} {deep x : Int} (h : Jf W w0 b g cs t g1 g2 deep x w) : AllQ w0 (some b) (JL b) none (.returned (.bool false)) w := ⟨rfl, fun _ e => (by cases e), h.grw⟩
theorem Jf.yes {W w0 w : World} {b g g1 g2 : Nat} {cs : Array Value} {t : TypeId} {deep x : Int} (h : Jf W w0 b g cs t g1 g2 deep x w) : AllQ w0 (some b) (JL b) (some x) (.returned (.bool true)) w := ⟨rfl, fun _ e => (by obtain rfl := Option.some.inj e; exact h.jm.1), h.grw⟩
theorem Jf.T {W w0 w : World} {b g g1 g2 : Nat} {v0 v1 v2 v3 v4 v5 v6 : Value} {t : TypeId} {deep x : Int} (h : Jf W w0 b g #[v0, v1, v2, v3, v4, v5, v6] t g1 g2 deep x w) : w.cell? ⟨g, 0, none⟩ = some v0 ∧ w.cell? ⟨g, 1, none⟩ = some v1 ∧ w.cell? ⟨g, 2, none⟩ = some v2 ∧ w.cell? ⟨g, 3, none⟩ = some v3 ∧ w.cell? ⟨g, 4, none⟩ = some v4 ∧ w.cell? ⟨g, 5, none⟩ = some v5 ∧ w.cell? ⟨g, 6, none⟩ = some v6 ∧ w.cell? ⟨g1, 0, none⟩ = some (.pointer (some ⟨b, 0, none⟩)) ∧ w.cell? ⟨g2, 0, none⟩ = some (.int .i64 deep) := by
  obtain ⟨c0, c1, c2, c3, c4, c5, c6⟩ := ms_of h.blk
  exact ⟨c0, c1, c2, c3, c4, c5, c6, cell_of_row _ _ _ _ _ _ h.jm.2.1, cell_of_row _ _ _ _ _ _ h.jm.2.2⟩
theorem jf_new {W w0 : World} {b : Nat} {cs : Array Value} {deep x : Int} (hw : Below W.heap.size W w0) (hj : JL b x w0) : Jf W w0 b (w0.heap.size + 1) cs 46 w0.heap.size (w0.heap.size + 1 + 1) deep x (((w0.alloc (.cells #[.pointer (some ⟨b, 0, none⟩)] 113)).alloc (.cells cs 46)).alloc (.cells #[.int .i64 deep] 3)) := by
  have hg : w0.grownBy (((w0.alloc (.cells #[.pointer (some ⟨b, 0, none⟩)] 113)).alloc (.cells cs 46)).alloc (.cells #[.int .i64 deep] 3)) none := ((World.grownBy_alloc _ _ _).trans (World.grownBy_alloc _ _ _)).trans (World.grownBy_alloc _ _ _)
  have s1 := World.size_alloc w0 (.cells #[.pointer (some ⟨b, 0, none⟩)] 113)
  have s2 := World.size_alloc (w0.alloc (.cells #[.pointer (some ⟨b, 0, none⟩)] 113)) (.cells cs 46)
  have n2 := heap_new (w0.alloc (.cells #[.pointer (some ⟨b, 0, none⟩)] 113)) (.cells cs 46)
  have n3 := heap_new ((w0.alloc (.cells #[.pointer (some ⟨b, 0, none⟩)] 113)).alloc (.cells cs 46)) (.cells #[.int .i64 deep] 3)
  rw [s1] at n2
  rw [s2, s1] at n3
  refine ⟨⟨hw.os.symm ▸ hg.os, hw.tape.symm ▸ hg.tape, hw.output.symm ▸ hg.output, Nat.le_trans hw.size hg.size, fun k hk => (hg.block k (Nat.lt_of_lt_of_le hk hw.size) (by simp)).trans (hw.block k hk)⟩, ⟨stb_jl b _ _ _ hj hg, ?_, n3⟩, ?_, hg.but (some b)⟩
  · rw [Below.heap_alloc _ _ _ (by rw [s2, s1]; omega), Below.heap_alloc _ _ _ (by rw [s1]; omega)]
    exact heap_new _ _
  · rw [Below.heap_alloc _ _ _ (by rw [s2, s1]; omega)]
    exact n2
set_option maxRecDepth 100000 in
set_option maxHeartbeats 8000000 in
theorem message_succ (f : Nat) (hf : f < 32) (ih : MsgC f) : MsgC (f + 1) := by
  intro W b m vf vo vm ve vr vg nm fs os ms es rs gs cm ce hlo hM hV hs w0 x hw hj
  obtain ⟨rfl, hvf, hvo, hvm, hms, hve, hes, hvr, hvg⟩ := hV
  obtain ⟨hsf, hsm⟩ := hs
  have hbw : b < w0.heap.size := (Array.getElem?_eq_some_iff.1 hj.1).1
  have HW := hide (fun w => word_any w nm)
  have HO := hide (fun w h => all_str hvo (fun vs w => by kernel_rfl) word_any w h)
  have HFd := hide (fun w h => all_fld hM hvf hsf w h)
  have HI := hide (fun w h => inOneofs_any hvf os.length w h)
  have HR := hide (fun g h w k j => all_row (g := g) (h := h) (lo := 1) (hi := 536870911) hvr w k j)
  have HG := hide (fun w h => all_str hvg (fun vs w => by kernel_rfl) word_any w h)
  have HMs := hide (fun g h hbg hbh w x k j => all_ms (g := g) (h := h) (by omega) ih hM hvm hms hsm hlo hbg hbh w x k j)
  have HEn := hide (fun w x k j => all_en hve hes hlo w x k j)
  obtain ⟨af, cf, rfl, hnf, -⟩ := hvf
  obtain ⟨ao, co, rfl, hno, -⟩ := hvo
  obtain ⟨am, cm', rfl, hnm, -⟩ := hvm
  obtain ⟨ae, ce', rfl, hne, -⟩ := hve
  obtain ⟨ar, cr, rfl, hnr, -⟩ := hvr
  obtain ⟨ag, cg, rfl, hng, -⟩ := hvg
  have HC := hide (fun w hjw => count_any (w := w) (b := b) (x := x) hjw (fs.length + os.length + ms.length + es.length + rs.length + gs.length) (by omega))
  have H1 := hide (show b ≠ w0.heap.size + 1 by omega)
  have H2 := hide (show b ≠ w0.heap.size by omega)
  have H3 := hide (show b ≠ w0.heap.size + 1 + 1 by omega)
  have Hlo := hide hlo
  have HJ := hide (jf_new (cs := #[.string nm, .slice af fs.length cf, .slice ao os.length co, .slice am ms.length cm', .slice ae es.length ce', .slice ar rs.length cr, .slice ag gs.length cg]) (deep := 32 - (f : Int)) hw hj)
  rw [show (33 : Int) - ((f + 1 : Nat) : Int) = 32 - (f : Int) by omega]
  unfold msJ msOk
  obtain ⟨q1, h1⟩ : ∃ q, wordB nm = q := ⟨_, rfl⟩
  obtain ⟨q2, h2⟩ : ∃ q, os.all wordB = q := ⟨_, rfl⟩
  obtain ⟨q3, h3⟩ : ∃ q, fs.all fieldB = q := ⟨_, rfl⟩
  obtain ⟨q4, h4⟩ : ∃ q, onB fs os.length = q := ⟨_, rfl⟩
  obtain ⟨q5, h5⟩ : ∃ q, rs.all (rowB 1 536870911) = q := ⟨_, rfl⟩
  obtain ⟨q6, h6⟩ : ∃ q, gs.all wordB = q := ⟨_, rfl⟩
  obtain ⟨lx, hlx⟩ : ∃ l, lessJ (fs.length + os.length + ms.length + es.length + rs.length + gs.length) x = l := ⟨_, rfl⟩
  obtain ⟨am1, ham1⟩ : ∃ l, allL (msJ f) ms = l := ⟨_, rfl⟩
  obtain ⟨ae1, hae1⟩ : ∃ l, allL enumJ es = l := ⟨_, rfl⟩
  rw [h1] at HW ⊢
  rw [h2] at HO ⊢
  rw [h3] at HFd ⊢
  rw [h4] at HI ⊢
  rw [h5] at HR ⊢
  rw [h6] at HG ⊢
  rw [hlx] at HC ⊢
  rw [ham1] at HMs ⊢
  rw [hae1] at HEn ⊢
  obtain ⟨V, hV⟩ : ∃ V, ((w0.alloc (.cells #[.pointer (some ⟨b, 0, none⟩)] 113)).alloc (.cells #[.string nm, .slice af fs.length cf, .slice ao os.length co, .slice am ms.length cm', .slice ae es.length ce', .slice ar rs.length cr, .slice ag gs.length cg] 46)).alloc (.cells #[.int .i64 (32 - (f : Int))] 3) = V := ⟨_, rfl⟩
  rw [hV] at HJ
  have hdp : 32 - (f : Int) ≤ 32 := by omega
  clear hlo hw hj hbw hsf hsm hM hms hes ih h1 h2 h3 h4 h5 h6 hlx ham1 hae1
  have HJD := hide ((unhide HJ).below (below_drewN (Below.refl _ _) 1))
  have hT : (fun w : World => w.cell? ⟨w0.heap.size + 1, 0, none⟩ = some (.string nm) ∧ w.cell? ⟨w0.heap.size + 1, 1, none⟩ = some (.slice af fs.length cf) ∧ w.cell? ⟨w0.heap.size + 1, 2, none⟩ = some (.slice ao os.length co) ∧ w.cell? ⟨w0.heap.size + 1, 3, none⟩ = some (.slice am ms.length cm') ∧ w.cell? ⟨w0.heap.size + 1, 4, none⟩ = some (.slice ae es.length ce') ∧ w.cell? ⟨w0.heap.size + 1, 5, none⟩ = some (.slice ar rs.length cr) ∧ w.cell? ⟨w0.heap.size + 1, 6, none⟩ = some (.slice ag gs.length cg) ∧ w.cell? ⟨w0.heap.size, 0, none⟩ = some (.pointer (some ⟨b, 0, none⟩)) ∧ w.cell? ⟨w0.heap.size + 1 + 1, 0, none⟩ = some (.int .i64 (32 - (f : Int)))) V.drew := (unhide HJD).T
  go_enter Tryz.func40, Tryz.ntmps40
  go_upto_region 1 with fail
  refine wp_region_any (by kernel_rfl) (wpAny_of_Z (z := 199) (T := fun w => w.cell? ⟨w0.heap.size + 1, 0, none⟩ = some (.string nm) ∧ w.cell? ⟨w0.heap.size + 1, 1, none⟩ = some (.slice af fs.length cf) ∧ w.cell? ⟨w0.heap.size + 1, 2, none⟩ = some (.slice ao os.length co) ∧ w.cell? ⟨w0.heap.size + 1, 3, none⟩ = some (.slice am ms.length cm') ∧ w.cell? ⟨w0.heap.size + 1, 4, none⟩ = some (.slice ae es.length ce') ∧ w.cell? ⟨w0.heap.size + 1, 5, none⟩ = some (.slice ar rs.length cr) ∧ w.cell? ⟨w0.heap.size + 1, 6, none⟩ = some (.slice ag gs.length cg) ∧ w.cell? ⟨w0.heap.size, 0, none⟩ = some (.pointer (some ⟨b, 0, none⟩)) ∧ w.cell? ⟨w0.heap.size + 1 + 1, 0, none⟩ = some (.int .i64 (32 - (f : Int)))) _ _ _ _ ?_)
  try (change wpAnyZ _ _ _ _ _ _ _ _ _ (World.drew _))
  refine wpAnyZ_tk 0 (.int .i64 (32 - (f : Int))) 7 rfl rfl (Or.inl ⟨by rfl, fun w hw => by obtain ⟨hw0, hw1, hw2, hw3, hw4, hw5, hw6, hw7, hw8⟩ := hw; go_simp⟩) hT ?_
  simp only [Act.put, List.setIfInBounds_toArray, List.set_cons_zero, List.set_cons_succ]
  refine wpAnyZ_tk 1 (.bool true) 8 rfl rfl (Or.inl ⟨by rfl, fun w hw => by obtain ⟨hw0, hw1, hw2, hw3, hw4, hw5, hw6, hw7, hw8⟩ := hw; go_simp⟩) hT ?_
  simp only [Act.put, List.setIfInBounds_toArray, List.set_cons_zero, List.set_cons_succ]
  refine wpAnyZ_tk 2 (.bool true) 9 rfl rfl (Or.inl ⟨by rfl, fun w hw => by obtain ⟨hw0, hw1, hw2, hw3, hw4, hw5, hw6, hw7, hw8⟩ := hw; go_simp⟩) hT ?_
  simp only [Act.put, List.setIfInBounds_toArray, List.set_cons_zero, List.set_cons_succ]
  refine wpAnyZ_tk 3 (.pointer (some ⟨b, 0, none⟩)) 10 rfl rfl (Or.inl ⟨by rfl, fun w hw => by obtain ⟨hw0, hw1, hw2, hw3, hw4, hw5, hw6, hw7, hw8⟩ := hw; go_simp⟩) hT ?_
  simp only [Act.put, List.setIfInBounds_toArray, List.set_cons_zero, List.set_cons_succ]
  refine wpAnyZ_tk 4 (.pointer (some ⟨w0.heap.size + 1, 1, none⟩)) 11 rfl rfl (Or.inl ⟨by rfl, fun w hw => by obtain ⟨hw0, hw1, hw2, hw3, hw4, hw5, hw6, hw7, hw8⟩ := hw; go_simp⟩) hT ?_
  simp only [Act.put, List.setIfInBounds_toArray, List.set_cons_zero, List.set_cons_succ]
  refine wpAnyZ_tk 5 (.slice af fs.length cf) 12 rfl rfl (Or.inl ⟨by rfl, fun w hw => by obtain ⟨hw0, hw1, hw2, hw3, hw4, hw5, hw6, hw7, hw8⟩ := hw; go_simp⟩) hT ?_
  simp only [Act.put, List.setIfInBounds_toArray, List.set_cons_zero, List.set_cons_succ]
  refine wpAnyZ_tk 6 (.int .i64 ((fs.length : Nat) : Int)) 13 rfl rfl (Or.inl ⟨by rfl, fun w hw => by obtain ⟨hw0, hw1, hw2, hw3, hw4, hw5, hw6, hw7, hw8⟩ := hw; go_simp⟩) hT ?_
  simp only [Act.put, List.setIfInBounds_toArray, List.set_cons_zero, List.set_cons_succ]
  refine wpAnyZ_tk 7 (.pointer (some ⟨w0.heap.size + 1, 2, none⟩)) 14 rfl rfl (Or.inl ⟨by rfl, fun w hw => by obtain ⟨hw0, hw1, hw2, hw3, hw4, hw5, hw6, hw7, hw8⟩ := hw; go_simp⟩) hT ?_
  simp only [Act.put, List.setIfInBounds_toArray, List.set_cons_zero, List.set_cons_succ]
  refine wpAnyZ_tk 8 (.slice ao os.length co) 15 rfl rfl (Or.inl ⟨by rfl, fun w hw => by obtain ⟨hw0, hw1, hw2, hw3, hw4, hw5, hw6, hw7, hw8⟩ := hw; go_simp⟩) hT ?_
  simp only [Act.put, List.setIfInBounds_toArray, List.set_cons_zero, List.set_cons_succ]
  refine wpAnyZ_tk 9 (.int .i64 ((os.length : Nat) : Int)) 16 rfl rfl (Or.inl ⟨by rfl, fun w hw => by obtain ⟨hw0, hw1, hw2, hw3, hw4, hw5, hw6, hw7, hw8⟩ := hw; go_simp⟩) hT ?_
  simp only [Act.put, List.setIfInBounds_toArray, List.set_cons_zero, List.set_cons_succ]
  refine wpAnyZ_tk 10 (.int .i64 ((fs.length + os.length : Nat) : Int)) 17 rfl rfl (Or.inl ⟨by rfl, fun w hw => by obtain ⟨hw0, hw1, hw2, hw3, hw4, hw5, hw6, hw7, hw8⟩ := hw; go_simp; exact IntWalk.i64_in _ (by omega)⟩) hT ?_
  simp only [Act.put, List.setIfInBounds_toArray, List.set_cons_zero, List.set_cons_succ]
  refine wpAnyZ_tk 11 (.pointer (some ⟨w0.heap.size + 1, 3, none⟩)) 18 rfl rfl (Or.inl ⟨by rfl, fun w hw => by obtain ⟨hw0, hw1, hw2, hw3, hw4, hw5, hw6, hw7, hw8⟩ := hw; go_simp⟩) hT ?_
  simp only [Act.put, List.setIfInBounds_toArray, List.set_cons_zero, List.set_cons_succ]
  refine wpAnyZ_tk 12 (.slice am ms.length cm') 19 rfl rfl (Or.inl ⟨by rfl, fun w hw => by obtain ⟨hw0, hw1, hw2, hw3, hw4, hw5, hw6, hw7, hw8⟩ := hw; go_simp⟩) hT ?_
  simp only [Act.put, List.setIfInBounds_toArray, List.set_cons_zero, List.set_cons_succ]
  refine wpAnyZ_tk 13 (.int .i64 ((ms.length : Nat) : Int)) 20 rfl rfl (Or.inl ⟨by rfl, fun w hw => by obtain ⟨hw0, hw1, hw2, hw3, hw4, hw5, hw6, hw7, hw8⟩ := hw; go_simp⟩) hT ?_
  simp only [Act.put, List.setIfInBounds_toArray, List.set_cons_zero, List.set_cons_succ]
  refine wpAnyZ_tk 14 (.int .i64 ((fs.length + os.length + ms.length : Nat) : Int)) 21 rfl rfl (Or.inl ⟨by rfl, fun w hw => by obtain ⟨hw0, hw1, hw2, hw3, hw4, hw5, hw6, hw7, hw8⟩ := hw; go_simp; exact IntWalk.i64_in _ (by omega)⟩) hT ?_
  simp only [Act.put, List.setIfInBounds_toArray, List.set_cons_zero, List.set_cons_succ]
  refine wpAnyZ_tk 15 (.pointer (some ⟨w0.heap.size + 1, 4, none⟩)) 22 rfl rfl (Or.inl ⟨by rfl, fun w hw => by obtain ⟨hw0, hw1, hw2, hw3, hw4, hw5, hw6, hw7, hw8⟩ := hw; go_simp⟩) hT ?_
  simp only [Act.put, List.setIfInBounds_toArray, List.set_cons_zero, List.set_cons_succ]
  refine wpAnyZ_tk 16 (.slice ae es.length ce') 23 rfl rfl (Or.inl ⟨by rfl, fun w hw => by obtain ⟨hw0, hw1, hw2, hw3, hw4, hw5, hw6, hw7, hw8⟩ := hw; go_simp⟩) hT ?_
  simp only [Act.put, List.setIfInBounds_toArray, List.set_cons_zero, List.set_cons_succ]
  refine wpAnyZ_tk 17 (.int .i64 ((es.length : Nat) : Int)) 24 rfl rfl (Or.inl ⟨by rfl, fun w hw => by obtain ⟨hw0, hw1, hw2, hw3, hw4, hw5, hw6, hw7, hw8⟩ := hw; go_simp⟩) hT ?_
  simp only [Act.put, List.setIfInBounds_toArray, List.set_cons_zero, List.set_cons_succ]
  refine wpAnyZ_tk 18 (.int .i64 ((fs.length + os.length + ms.length + es.length : Nat) : Int)) 25 rfl rfl (Or.inl ⟨by rfl, fun w hw => by obtain ⟨hw0, hw1, hw2, hw3, hw4, hw5, hw6, hw7, hw8⟩ := hw; go_simp; exact IntWalk.i64_in _ (by omega)⟩) hT ?_
  simp only [Act.put, List.setIfInBounds_toArray, List.set_cons_zero, List.set_cons_succ]
  refine wpAnyZ_tk 19 (.pointer (some ⟨w0.heap.size + 1, 5, none⟩)) 26 rfl rfl (Or.inl ⟨by rfl, fun w hw => by obtain ⟨hw0, hw1, hw2, hw3, hw4, hw5, hw6, hw7, hw8⟩ := hw; go_simp⟩) hT ?_
  simp only [Act.put, List.setIfInBounds_toArray, List.set_cons_zero, List.set_cons_succ]
  refine wpAnyZ_tk 20 (.slice ar rs.length cr) 27 rfl rfl (Or.inl ⟨by rfl, fun w hw => by obtain ⟨hw0, hw1, hw2, hw3, hw4, hw5, hw6, hw7, hw8⟩ := hw; go_simp⟩) hT ?_
  simp only [Act.put, List.setIfInBounds_toArray, List.set_cons_zero, List.set_cons_succ]
  refine wpAnyZ_tk 21 (.int .i64 ((rs.length : Nat) : Int)) 28 rfl rfl (Or.inl ⟨by rfl, fun w hw => by obtain ⟨hw0, hw1, hw2, hw3, hw4, hw5, hw6, hw7, hw8⟩ := hw; go_simp⟩) hT ?_
  simp only [Act.put, List.setIfInBounds_toArray, List.set_cons_zero, List.set_cons_succ]
  refine wpAnyZ_tk 22 (.int .i64 ((fs.length + os.length + ms.length + es.length + rs.length : Nat) : Int)) 29 rfl rfl (Or.inl ⟨by rfl, fun w hw => by obtain ⟨hw0, hw1, hw2, hw3, hw4, hw5, hw6, hw7, hw8⟩ := hw; go_simp; exact IntWalk.i64_in _ (by omega)⟩) hT ?_
  simp only [Act.put, List.setIfInBounds_toArray, List.set_cons_zero, List.set_cons_succ]
  refine wpAnyZ_tk 23 (.pointer (some ⟨w0.heap.size + 1, 6, none⟩)) 30 rfl rfl (Or.inl ⟨by rfl, fun w hw => by obtain ⟨hw0, hw1, hw2, hw3, hw4, hw5, hw6, hw7, hw8⟩ := hw; go_simp⟩) hT ?_
  simp only [Act.put, List.setIfInBounds_toArray, List.set_cons_zero, List.set_cons_succ]
  refine wpAnyZ_tk 24 (.slice ag gs.length cg) 31 rfl rfl (Or.inl ⟨by rfl, fun w hw => by obtain ⟨hw0, hw1, hw2, hw3, hw4, hw5, hw6, hw7, hw8⟩ := hw; go_simp⟩) hT ?_
  simp only [Act.put, List.setIfInBounds_toArray, List.set_cons_zero, List.set_cons_succ]
  refine wpAnyZ_tk 25 (.int .i64 ((gs.length : Nat) : Int)) 32 rfl rfl (Or.inl ⟨by rfl, fun w hw => by obtain ⟨hw0, hw1, hw2, hw3, hw4, hw5, hw6, hw7, hw8⟩ := hw; go_simp⟩) hT ?_
  simp only [Act.put, List.setIfInBounds_toArray, List.set_cons_zero, List.set_cons_succ]
  refine wpAnyZ_tk 26 (.int .i64 ((fs.length + os.length + ms.length + es.length + rs.length + gs.length : Nat) : Int)) 33 rfl rfl (Or.inl ⟨by rfl, fun w hw => by obtain ⟨hw0, hw1, hw2, hw3, hw4, hw5, hw6, hw7, hw8⟩ := hw; go_simp; exact IntWalk.i64_in _ (by omega)⟩) hT ?_
  simp only [Act.put, List.setIfInBounds_toArray, List.set_cons_zero, List.set_cons_succ]
  refine wpAnyZ_one 27 (by kernel_rfl) rfl (fun K hK => ?_)
  refine step_callG 34 rfl 35 (fun vs => by kernel_rfl) #[.tmp 10, .tmp 33] #[113, 3] rfl #[.pointer (some ⟨b, 0, none⟩), .int .i64 ((fs.length + os.length + ms.length + es.length + rs.length + gs.length : Nat) : Int)] (by first | rfl | simp [Act.eval]) (unhide HC _ (unhide HJD).jm.1) (by rfl) ?_
  rintro e w1 ⟨rfl, hj1, hg1⟩
  cases lx with
  | none =>
    have HN := hide (show w0.grownBy w1 (some b) from (unhide HJD).grw.trans hg1)
    have hT1 : (fun w : World => w.cell? ⟨w0.heap.size + 1, 0, none⟩ = some (.string nm) ∧ w.cell? ⟨w0.heap.size + 1, 1, none⟩ = some (.slice af fs.length cf) ∧ w.cell? ⟨w0.heap.size + 1, 2, none⟩ = some (.slice ao os.length co) ∧ w.cell? ⟨w0.heap.size + 1, 3, none⟩ = some (.slice am ms.length cm') ∧ w.cell? ⟨w0.heap.size + 1, 4, none⟩ = some (.slice ae es.length ce') ∧ w.cell? ⟨w0.heap.size + 1, 5, none⟩ = some (.slice ar rs.length cr) ∧ w.cell? ⟨w0.heap.size + 1, 6, none⟩ = some (.slice ag gs.length cg) ∧ w.cell? ⟨w0.heap.size, 0, none⟩ = some (.pointer (some ⟨b, 0, none⟩)) ∧ w.cell? ⟨w0.heap.size + 1 + 1, 0, none⟩ = some (.int .i64 (32 - (f : Int)))) w1 := by
      have k := unhide HJD
      obtain ⟨c0, c1, c2, c3, c4, c5, c6⟩ := ms_of ((hg1.block _ (Array.getElem?_eq_some_iff.1 k.blk).1 (by simpa using fun e => unhide H1 e.symm)).trans k.blk)
      exact ⟨c0, c1, c2, c3, c4, c5, c6, cell_of_row _ _ _ _ _ _ ((hg1.block _ (Array.getElem?_eq_some_iff.1 k.jm.2.1).1 (by simpa using fun e => unhide H2 e.symm)).trans k.jm.2.1), cell_of_row _ _ _ _ _ _ ((hg1.block _ (Array.getElem?_eq_some_iff.1 k.jm.2.2).1 (by simpa using fun e => unhide H3 e.symm)).trans k.jm.2.2)⟩
    refine ⟨_, rfl, hK _ _ ⟨fun _ => hT1, ?_⟩⟩
    clear hK K hT hj1 hg1
    have hT := hT1
    clear hT1
    simp only [Option.isSome_none]
    simp only [Act.put, List.setIfInBounds_toArray, List.set_cons_zero, List.set_cons_succ]
    refine wpAnyZ_no [28, 29, 30, 31, 32, 33, 34, 35, 36, 37, 38, 39, 40, 41, 42, 43, 44, 45, 46, 47, 48, 49, 50, 51, 52, 53, 54, 55, 56, 57, 58, 59, 60, 61, 62, 63, 64, 65, 66, 67, 68, 69, 70, 71, 72, 73, 74, 75, 76] 6 hT (by kernel_rfl) (fun t' ht => ?_) (by decide) (by kernel_rfl) (fun _ _ _ _ _ h => h)
    go_wp2
    go_ret
    rw [ht]
    exact ⟨rfl, fun _ e => (by cases e), unhide HN⟩
  | some x1 =>
  simp only [Option.isSome_some]
  have HJ1 := hide ((unhide HJD).go (unhide Hlo) (unhide H1) (unhide H2) (unhide H3) hg1 (hj1 _ rfl))
  have hT1 : (fun w : World => w.cell? ⟨w0.heap.size + 1, 0, none⟩ = some (.string nm) ∧ w.cell? ⟨w0.heap.size + 1, 1, none⟩ = some (.slice af fs.length cf) ∧ w.cell? ⟨w0.heap.size + 1, 2, none⟩ = some (.slice ao os.length co) ∧ w.cell? ⟨w0.heap.size + 1, 3, none⟩ = some (.slice am ms.length cm') ∧ w.cell? ⟨w0.heap.size + 1, 4, none⟩ = some (.slice ae es.length ce') ∧ w.cell? ⟨w0.heap.size + 1, 5, none⟩ = some (.slice ar rs.length cr) ∧ w.cell? ⟨w0.heap.size + 1, 6, none⟩ = some (.slice ag gs.length cg) ∧ w.cell? ⟨w0.heap.size, 0, none⟩ = some (.pointer (some ⟨b, 0, none⟩)) ∧ w.cell? ⟨w0.heap.size + 1 + 1, 0, none⟩ = some (.int .i64 (32 - (f : Int)))) w1 := (unhide HJ1).T
  refine ⟨_, rfl, hK _ _ ⟨fun _ => hT1, ?_⟩⟩
  clear hK K hT
  have hT := hT1
  clear hT1
  simp only [Act.put, List.setIfInBounds_toArray, List.set_cons_zero, List.set_cons_succ]
  clear hj1 hg1 HJD HC
  refine wpAnyZ_tk 28 (.bool true) 35 rfl rfl (Or.inl ⟨by rfl, fun w hw => by obtain ⟨hw0, hw1, hw2, hw3, hw4, hw5, hw6, hw7, hw8⟩ := hw; go_simp⟩) hT ?_
  simp only [Act.put, List.setIfInBounds_toArray, List.set_cons_zero, List.set_cons_succ]
  refine wpAnyZ_tk 29 (.bool true) 36 rfl rfl (Or.inl ⟨by rfl, fun w hw => by obtain ⟨hw0, hw1, hw2, hw3, hw4, hw5, hw6, hw7, hw8⟩ := hw; go_simp⟩) hT ?_
  simp only [Act.put, List.setIfInBounds_toArray, List.set_cons_zero, List.set_cons_succ]
  refine wpAnyZ_tk 30 (.pointer (some ⟨w0.heap.size + 1, 0, none⟩)) 37 rfl rfl (Or.inl ⟨by rfl, fun w hw => by obtain ⟨hw0, hw1, hw2, hw3, hw4, hw5, hw6, hw7, hw8⟩ := hw; go_simp⟩) hT ?_
  simp only [Act.put, List.setIfInBounds_toArray, List.set_cons_zero, List.set_cons_succ]
  refine wpAnyZ_tk 31 (.string nm) 38 rfl rfl (Or.inl ⟨by rfl, fun w hw => by obtain ⟨hw0, hw1, hw2, hw3, hw4, hw5, hw6, hw7, hw8⟩ := hw; go_simp⟩) hT ?_
  simp only [Act.put, List.setIfInBounds_toArray, List.set_cons_zero, List.set_cons_succ]
  refine wpAnyZ_one 32 (by kernel_rfl) rfl (fun K hK => ?_)
  refine step_callG 39 rfl 64 (fun vs => by kernel_rfl) #[.tmp 38] #[9] rfl #[.string nm] (by first | rfl | simp [Act.eval]) (unhide HW _) (by rfl) ?_
  rintro e w2 ⟨rfl, rfl⟩
  refine ⟨_, rfl, hK _ _ ⟨fun _ => hT, ?_⟩⟩
  clear hK K HW
  simp only [Act.put, List.setIfInBounds_toArray, List.set_cons_zero, List.set_cons_succ]
  cases q1 with
  | false =>
    refine wpAnyZ_no [33, 34, 35, 36, 37, 38, 39, 40, 41, 42, 43, 44, 45, 46, 47, 48, 49, 50, 51, 52, 53, 54, 55, 56, 57, 58, 59, 60, 61, 62, 63, 64, 65, 66, 67, 68, 69, 70, 71, 72, 73, 74, 75, 76] 6 hT (by kernel_rfl) (fun t' ht => ?_) (by decide) (by kernel_rfl) (fun _ _ _ _ _ h => h)
    go_wp2
    go_ret
    rw [ht]
    exact (unhide HJ1).no
  | true =>
  refine wpAnyZ_tk 33 (.bool true) 40 rfl rfl (Or.inl ⟨by rfl, fun w hw => by obtain ⟨hw0, hw1, hw2, hw3, hw4, hw5, hw6, hw7, hw8⟩ := hw; go_simp⟩) hT ?_
  simp only [Act.put, List.setIfInBounds_toArray, List.set_cons_zero, List.set_cons_succ]
  refine wpAnyZ_tk 34 (.bool true) 41 rfl rfl (Or.inl ⟨by rfl, fun w hw => by obtain ⟨hw0, hw1, hw2, hw3, hw4, hw5, hw6, hw7, hw8⟩ := hw; go_simp⟩) hT ?_
  simp only [Act.put, List.setIfInBounds_toArray, List.set_cons_zero, List.set_cons_succ]
  refine wpAnyZ_tk 35 (.pointer (some ⟨w0.heap.size + 1, 2, none⟩)) 42 rfl rfl (Or.inl ⟨by rfl, fun w hw => by obtain ⟨hw0, hw1, hw2, hw3, hw4, hw5, hw6, hw7, hw8⟩ := hw; go_simp⟩) hT ?_
  simp only [Act.put, List.setIfInBounds_toArray, List.set_cons_zero, List.set_cons_succ]
  refine wpAnyZ_tk 36 (.slice ao os.length co) 43 rfl rfl (Or.inl ⟨by rfl, fun w hw => by obtain ⟨hw0, hw1, hw2, hw3, hw4, hw5, hw6, hw7, hw8⟩ := hw; go_simp⟩) hT ?_
  simp only [Act.put, List.setIfInBounds_toArray, List.set_cons_zero, List.set_cons_succ]
  refine wpAnyZ_one 37 (by kernel_rfl) rfl (fun K hK => ?_)
  refine step_callG 44 rfl 36 (fun vs => by kernel_rfl) #[.tmp 43, .func 64] #[22, 77] rfl #[.slice ao os.length co, .func (.func 64) #[] #[]] (by first | rfl | simp [Act.eval]) (unhide HO _ (unhide HJ1).bel) (by rfl) ?_
  rintro e w3 ⟨rfl, hb3⟩
  have HJ3 := hide ((unhide HJ1).below hb3)
  have hT3 : (fun w : World => w.cell? ⟨w0.heap.size + 1, 0, none⟩ = some (.string nm) ∧ w.cell? ⟨w0.heap.size + 1, 1, none⟩ = some (.slice af fs.length cf) ∧ w.cell? ⟨w0.heap.size + 1, 2, none⟩ = some (.slice ao os.length co) ∧ w.cell? ⟨w0.heap.size + 1, 3, none⟩ = some (.slice am ms.length cm') ∧ w.cell? ⟨w0.heap.size + 1, 4, none⟩ = some (.slice ae es.length ce') ∧ w.cell? ⟨w0.heap.size + 1, 5, none⟩ = some (.slice ar rs.length cr) ∧ w.cell? ⟨w0.heap.size + 1, 6, none⟩ = some (.slice ag gs.length cg) ∧ w.cell? ⟨w0.heap.size, 0, none⟩ = some (.pointer (some ⟨b, 0, none⟩)) ∧ w.cell? ⟨w0.heap.size + 1 + 1, 0, none⟩ = some (.int .i64 (32 - (f : Int)))) w3 := (unhide HJ3).T
  refine ⟨_, rfl, hK _ _ ⟨fun _ => hT3, ?_⟩⟩
  clear hK K hT
  have hT := hT3
  clear hT3
  simp only [Act.put, List.setIfInBounds_toArray, List.set_cons_zero, List.set_cons_succ]
  clear hb3 HJ1 HO
  cases q2 with
  | false =>
    refine wpAnyZ_no [38, 39, 40, 41, 42, 43, 44, 45, 46, 47, 48, 49, 50, 51, 52, 53, 54, 55, 56, 57, 58, 59, 60, 61, 62, 63, 64, 65, 66, 67, 68, 69, 70, 71, 72, 73, 74, 75, 76] 6 hT (by kernel_rfl) (fun t' ht => ?_) (by decide) (by kernel_rfl) (fun _ _ _ _ _ h => h)
    go_wp2
    go_ret
    rw [ht]
    exact (unhide HJ3).no
  | true =>
  refine wpAnyZ_tk 38 (.bool true) 45 rfl rfl (Or.inl ⟨by rfl, fun w hw => by obtain ⟨hw0, hw1, hw2, hw3, hw4, hw5, hw6, hw7, hw8⟩ := hw; go_simp⟩) hT ?_
  simp only [Act.put, List.setIfInBounds_toArray, List.set_cons_zero, List.set_cons_succ]
  refine wpAnyZ_tk 39 (.bool true) 46 rfl rfl (Or.inl ⟨by rfl, fun w hw => by obtain ⟨hw0, hw1, hw2, hw3, hw4, hw5, hw6, hw7, hw8⟩ := hw; go_simp⟩) hT ?_
  simp only [Act.put, List.setIfInBounds_toArray, List.set_cons_zero, List.set_cons_succ]
  refine wpAnyZ_tk 40 (.pointer (some ⟨w0.heap.size + 1, 1, none⟩)) 47 rfl rfl (Or.inl ⟨by rfl, fun w hw => by obtain ⟨hw0, hw1, hw2, hw3, hw4, hw5, hw6, hw7, hw8⟩ := hw; go_simp⟩) hT ?_
  simp only [Act.put, List.setIfInBounds_toArray, List.set_cons_zero, List.set_cons_succ]
  refine wpAnyZ_tk 41 (.slice af fs.length cf) 48 rfl rfl (Or.inl ⟨by rfl, fun w hw => by obtain ⟨hw0, hw1, hw2, hw3, hw4, hw5, hw6, hw7, hw8⟩ := hw; go_simp⟩) hT ?_
  simp only [Act.put, List.setIfInBounds_toArray, List.set_cons_zero, List.set_cons_succ]
  refine wpAnyZ_one 42 (by kernel_rfl) rfl (fun K hK => ?_)
  refine step_callG 49 rfl 70 (fun vs => by kernel_rfl) #[.tmp 48, .func 71] #[43, 116] rfl #[.slice af fs.length cf, .func (.func 71) #[] #[]] (by first | rfl | simp [Act.eval]) (unhide HFd _ (unhide HJ3).bel) (by rfl) ?_
  rintro e w4 ⟨rfl, hb4⟩
  have HJ4 := hide ((unhide HJ3).below hb4)
  have hT4 : (fun w : World => w.cell? ⟨w0.heap.size + 1, 0, none⟩ = some (.string nm) ∧ w.cell? ⟨w0.heap.size + 1, 1, none⟩ = some (.slice af fs.length cf) ∧ w.cell? ⟨w0.heap.size + 1, 2, none⟩ = some (.slice ao os.length co) ∧ w.cell? ⟨w0.heap.size + 1, 3, none⟩ = some (.slice am ms.length cm') ∧ w.cell? ⟨w0.heap.size + 1, 4, none⟩ = some (.slice ae es.length ce') ∧ w.cell? ⟨w0.heap.size + 1, 5, none⟩ = some (.slice ar rs.length cr) ∧ w.cell? ⟨w0.heap.size + 1, 6, none⟩ = some (.slice ag gs.length cg) ∧ w.cell? ⟨w0.heap.size, 0, none⟩ = some (.pointer (some ⟨b, 0, none⟩)) ∧ w.cell? ⟨w0.heap.size + 1 + 1, 0, none⟩ = some (.int .i64 (32 - (f : Int)))) w4 := (unhide HJ4).T
  refine ⟨_, rfl, hK _ _ ⟨fun _ => hT4, ?_⟩⟩
  clear hK K hT
  have hT := hT4
  clear hT4
  simp only [Act.put, List.setIfInBounds_toArray, List.set_cons_zero, List.set_cons_succ]
  clear hb4 HJ3 HFd
  cases q3 with
  | false =>
    refine wpAnyZ_no [43, 44, 45, 46, 47, 48, 49, 50, 51, 52, 53, 54, 55, 56, 57, 58, 59, 60, 61, 62, 63, 64, 65, 66, 67, 68, 69, 70, 71, 72, 73, 74, 75, 76] 6 hT (by kernel_rfl) (fun t' ht => ?_) (by decide) (by kernel_rfl) (fun _ _ _ _ _ h => h)
    go_wp2
    go_ret
    rw [ht]
    exact (unhide HJ4).no
  | true =>
  refine wpAnyZ_tk 43 (.bool true) 50 rfl rfl (Or.inl ⟨by rfl, fun w hw => by obtain ⟨hw0, hw1, hw2, hw3, hw4, hw5, hw6, hw7, hw8⟩ := hw; go_simp⟩) hT ?_
  simp only [Act.put, List.setIfInBounds_toArray, List.set_cons_zero, List.set_cons_succ]
  refine wpAnyZ_tk 44 (.bool true) 51 rfl rfl (Or.inl ⟨by rfl, fun w hw => by obtain ⟨hw0, hw1, hw2, hw3, hw4, hw5, hw6, hw7, hw8⟩ := hw; go_simp⟩) hT ?_
  simp only [Act.put, List.setIfInBounds_toArray, List.set_cons_zero, List.set_cons_succ]
  refine wpAnyZ_tk 45 (.pointer (some ⟨w0.heap.size + 1, 1, none⟩)) 52 rfl rfl (Or.inl ⟨by rfl, fun w hw => by obtain ⟨hw0, hw1, hw2, hw3, hw4, hw5, hw6, hw7, hw8⟩ := hw; go_simp⟩) hT ?_
  simp only [Act.put, List.setIfInBounds_toArray, List.set_cons_zero, List.set_cons_succ]
  refine wpAnyZ_tk 46 (.slice af fs.length cf) 53 rfl rfl (Or.inl ⟨by rfl, fun w hw => by obtain ⟨hw0, hw1, hw2, hw3, hw4, hw5, hw6, hw7, hw8⟩ := hw; go_simp⟩) hT ?_
  simp only [Act.put, List.setIfInBounds_toArray, List.set_cons_zero, List.set_cons_succ]
  refine wpAnyZ_tk 47 (.pointer (some ⟨w0.heap.size + 1, 2, none⟩)) 54 rfl rfl (Or.inl ⟨by rfl, fun w hw => by obtain ⟨hw0, hw1, hw2, hw3, hw4, hw5, hw6, hw7, hw8⟩ := hw; go_simp⟩) hT ?_
  simp only [Act.put, List.setIfInBounds_toArray, List.set_cons_zero, List.set_cons_succ]
  refine wpAnyZ_tk 48 (.slice ao os.length co) 55 rfl rfl (Or.inl ⟨by rfl, fun w hw => by obtain ⟨hw0, hw1, hw2, hw3, hw4, hw5, hw6, hw7, hw8⟩ := hw; go_simp⟩) hT ?_
  simp only [Act.put, List.setIfInBounds_toArray, List.set_cons_zero, List.set_cons_succ]
  refine wpAnyZ_tk 49 (.int .i64 ((os.length : Nat) : Int)) 56 rfl rfl (Or.inl ⟨by rfl, fun w hw => by obtain ⟨hw0, hw1, hw2, hw3, hw4, hw5, hw6, hw7, hw8⟩ := hw; go_simp⟩) hT ?_
  simp only [Act.put, List.setIfInBounds_toArray, List.set_cons_zero, List.set_cons_succ]
  refine wpAnyZ_one 50 (by kernel_rfl) rfl (fun K hK => ?_)
  refine step_callG 57 rfl 72 (fun vs => by kernel_rfl) #[.tmp 53, .tmp 56] #[43, 3] rfl #[.slice af fs.length cf, .int .i64 ((os.length : Nat) : Int)] (by first | rfl | simp [Act.eval]) (unhide HI _ (unhide HJ4).bel) (by rfl) ?_
  rintro e w5 ⟨rfl, hb5⟩
  have HJ5 := hide ((unhide HJ4).below hb5)
  have hT5 : (fun w : World => w.cell? ⟨w0.heap.size + 1, 0, none⟩ = some (.string nm) ∧ w.cell? ⟨w0.heap.size + 1, 1, none⟩ = some (.slice af fs.length cf) ∧ w.cell? ⟨w0.heap.size + 1, 2, none⟩ = some (.slice ao os.length co) ∧ w.cell? ⟨w0.heap.size + 1, 3, none⟩ = some (.slice am ms.length cm') ∧ w.cell? ⟨w0.heap.size + 1, 4, none⟩ = some (.slice ae es.length ce') ∧ w.cell? ⟨w0.heap.size + 1, 5, none⟩ = some (.slice ar rs.length cr) ∧ w.cell? ⟨w0.heap.size + 1, 6, none⟩ = some (.slice ag gs.length cg) ∧ w.cell? ⟨w0.heap.size, 0, none⟩ = some (.pointer (some ⟨b, 0, none⟩)) ∧ w.cell? ⟨w0.heap.size + 1 + 1, 0, none⟩ = some (.int .i64 (32 - (f : Int)))) w5 := (unhide HJ5).T
  refine ⟨_, rfl, hK _ _ ⟨fun _ => hT5, ?_⟩⟩
  clear hK K hT
  have hT := hT5
  clear hT5
  simp only [Act.put, List.setIfInBounds_toArray, List.set_cons_zero, List.set_cons_succ]
  clear hb5 HJ4 HI
  cases q4 with
  | false =>
    refine wpAnyZ_no [51, 52, 53, 54, 55, 56, 57, 58, 59, 60, 61, 62, 63, 64, 65, 66, 67, 68, 69, 70, 71, 72, 73, 74, 75, 76] 6 hT (by kernel_rfl) (fun t' ht => ?_) (by decide) (by kernel_rfl) (fun _ _ _ _ _ h => h)
    go_wp2
    go_ret
    rw [ht]
    exact (unhide HJ5).no
  | true =>
  refine wpAnyZ_tk 51 (.bool true) 58 rfl rfl (Or.inl ⟨by rfl, fun w hw => by obtain ⟨hw0, hw1, hw2, hw3, hw4, hw5, hw6, hw7, hw8⟩ := hw; go_simp⟩) hT ?_
  simp only [Act.put, List.setIfInBounds_toArray, List.set_cons_zero, List.set_cons_succ]
  refine wpAnyZ_tk 52 (.bool true) 59 rfl rfl (Or.inl ⟨by rfl, fun w hw => by obtain ⟨hw0, hw1, hw2, hw3, hw4, hw5, hw6, hw7, hw8⟩ := hw; go_simp⟩) hT ?_
  simp only [Act.put, List.setIfInBounds_toArray, List.set_cons_zero, List.set_cons_succ]
  refine wpAnyZ_tk 53 (.pointer (some ⟨w0.heap.size + 1, 5, none⟩)) 60 rfl rfl (Or.inl ⟨by rfl, fun w hw => by obtain ⟨hw0, hw1, hw2, hw3, hw4, hw5, hw6, hw7, hw8⟩ := hw; go_simp⟩) hT ?_
  simp only [Act.put, List.setIfInBounds_toArray, List.set_cons_zero, List.set_cons_succ]
  refine wpAnyZ_tk 54 (.slice ar rs.length cr) 61 rfl rfl (Or.inl ⟨by rfl, fun w hw => by obtain ⟨hw0, hw1, hw2, hw3, hw4, hw5, hw6, hw7, hw8⟩ := hw; go_simp⟩) hT ?_
  simp only [Act.put, List.setIfInBounds_toArray, List.set_cons_zero, List.set_cons_succ]
  refine wpAnyZ_one 55 (by kernel_rfl) rfl (fun K hK => ?_)
  refine step_callG 62 rfl 74 (fun vs => by kernel_rfl) #[.const (.int .i64 1), .const (.int .i64 536870911)] #[3, 3] rfl #[.int .i64 1, .int .i64 536870911] (by first | rfl | simp [Act.eval]) (isRow_any _ _ _) (by rfl) ?_
  rintro e w6 ⟨rfl, hw6⟩
  have hb6 : Below w5.heap.size w5 w6 := by rw [hw6]; exact ((Below.refl _ _).alloc (Nat.le_refl _) _).alloc (by rw [World.size_alloc]; omega) _
  have HR6 : Hid (JRow w5.heap.size (w5.heap.size + 1) 1 536870911 () w6) := by
    rw [hw6]
    refine ⟨(Below.heap_alloc _ _ _ (by rw [World.size_alloc]; omega)).trans (heap_new _ _), ?_⟩
    have := heap_new (w5.alloc (.cells #[.int .i64 1] 3)) (.cells #[.int .i64 536870911] 3)
    rw [World.size_alloc] at this
    exact this
  have HJ6 := hide ((unhide HJ5).below hb6)
  have hT6 : (fun w : World => w.cell? ⟨w0.heap.size + 1, 0, none⟩ = some (.string nm) ∧ w.cell? ⟨w0.heap.size + 1, 1, none⟩ = some (.slice af fs.length cf) ∧ w.cell? ⟨w0.heap.size + 1, 2, none⟩ = some (.slice ao os.length co) ∧ w.cell? ⟨w0.heap.size + 1, 3, none⟩ = some (.slice am ms.length cm') ∧ w.cell? ⟨w0.heap.size + 1, 4, none⟩ = some (.slice ae es.length ce') ∧ w.cell? ⟨w0.heap.size + 1, 5, none⟩ = some (.slice ar rs.length cr) ∧ w.cell? ⟨w0.heap.size + 1, 6, none⟩ = some (.slice ag gs.length cg) ∧ w.cell? ⟨w0.heap.size, 0, none⟩ = some (.pointer (some ⟨b, 0, none⟩)) ∧ w.cell? ⟨w0.heap.size + 1 + 1, 0, none⟩ = some (.int .i64 (32 - (f : Int)))) w6 := (unhide HJ6).T
  refine ⟨_, rfl, hK _ _ ⟨fun _ => hT6, ?_⟩⟩
  clear hK K hT
  have hT := hT6
  clear hT6
  simp only [Act.put, List.setIfInBounds_toArray, List.set_cons_zero, List.set_cons_succ]
  clear hb6 HJ5 hw6
  refine wpAnyZ_one 56 (by kernel_rfl) rfl (fun K hK => ?_)
  refine step_callG 63 rfl 73 (fun vs => by kernel_rfl) #[.tmp 61, .tmp 62] #[44, 119] rfl #[.slice ar rs.length cr, .func (.func 120) #[] #[.pointer (some ⟨w5.heap.size, 0, none⟩), .pointer (some ⟨w5.heap.size + 1, 0, none⟩)]] (by first | rfl | simp [Act.eval]) (unhide HR _ _ _ (unhide HJ6).bel (unhide HR6)) (by rfl) ?_
  rintro e w7 ⟨rfl, hb7⟩
  have HJ7 := hide ((unhide HJ6).below hb7)
  have hT7 : (fun w : World => w.cell? ⟨w0.heap.size + 1, 0, none⟩ = some (.string nm) ∧ w.cell? ⟨w0.heap.size + 1, 1, none⟩ = some (.slice af fs.length cf) ∧ w.cell? ⟨w0.heap.size + 1, 2, none⟩ = some (.slice ao os.length co) ∧ w.cell? ⟨w0.heap.size + 1, 3, none⟩ = some (.slice am ms.length cm') ∧ w.cell? ⟨w0.heap.size + 1, 4, none⟩ = some (.slice ae es.length ce') ∧ w.cell? ⟨w0.heap.size + 1, 5, none⟩ = some (.slice ar rs.length cr) ∧ w.cell? ⟨w0.heap.size + 1, 6, none⟩ = some (.slice ag gs.length cg) ∧ w.cell? ⟨w0.heap.size, 0, none⟩ = some (.pointer (some ⟨b, 0, none⟩)) ∧ w.cell? ⟨w0.heap.size + 1 + 1, 0, none⟩ = some (.int .i64 (32 - (f : Int)))) w7 := (unhide HJ7).T
  refine ⟨_, rfl, hK _ _ ⟨fun _ => hT7, ?_⟩⟩
  clear hK K hT
  have hT := hT7
  clear hT7
  simp only [Act.put, List.setIfInBounds_toArray, List.set_cons_zero, List.set_cons_succ]
  clear hb7 HJ6 HR HR6
  cases q5 with
  | false =>
    refine wpAnyZ_no [57, 58, 59, 60, 61, 62, 63, 64, 65, 66, 67, 68, 69, 70, 71, 72, 73, 74, 75, 76] 6 hT (by kernel_rfl) (fun t' ht => ?_) (by decide) (by kernel_rfl) (fun _ _ _ _ _ h => h)
    go_wp2
    go_ret
    rw [ht]
    exact (unhide HJ7).no
  | true =>
  refine wpAnyZ_tk 57 (.bool true) 64 rfl rfl (Or.inl ⟨by rfl, fun w hw => by obtain ⟨hw0, hw1, hw2, hw3, hw4, hw5, hw6, hw7, hw8⟩ := hw; go_simp⟩) hT ?_
  simp only [Act.put, List.setIfInBounds_toArray, List.set_cons_zero, List.set_cons_succ]
  refine wpAnyZ_tk 58 (.bool true) 65 rfl rfl (Or.inl ⟨by rfl, fun w hw => by obtain ⟨hw0, hw1, hw2, hw3, hw4, hw5, hw6, hw7, hw8⟩ := hw; go_simp⟩) hT ?_
  simp only [Act.put, List.setIfInBounds_toArray, List.set_cons_zero, List.set_cons_succ]
  refine wpAnyZ_tk 59 (.pointer (some ⟨w0.heap.size + 1, 6, none⟩)) 66 rfl rfl (Or.inl ⟨by rfl, fun w hw => by obtain ⟨hw0, hw1, hw2, hw3, hw4, hw5, hw6, hw7, hw8⟩ := hw; go_simp⟩) hT ?_
  simp only [Act.put, List.setIfInBounds_toArray, List.set_cons_zero, List.set_cons_succ]
  refine wpAnyZ_tk 60 (.slice ag gs.length cg) 67 rfl rfl (Or.inl ⟨by rfl, fun w hw => by obtain ⟨hw0, hw1, hw2, hw3, hw4, hw5, hw6, hw7, hw8⟩ := hw; go_simp⟩) hT ?_
  simp only [Act.put, List.setIfInBounds_toArray, List.set_cons_zero, List.set_cons_succ]
  refine wpAnyZ_one 61 (by kernel_rfl) rfl (fun K hK => ?_)
  refine step_callG 68 rfl 36 (fun vs => by kernel_rfl) #[.tmp 67, .func 64] #[22, 77] rfl #[.slice ag gs.length cg, .func (.func 64) #[] #[]] (by first | rfl | simp [Act.eval]) (unhide HG _ (unhide HJ7).bel) (by rfl) ?_
  rintro e w8 ⟨rfl, hb8⟩
  have HJ8 := hide ((unhide HJ7).below hb8)
  have hT8 : (fun w : World => w.cell? ⟨w0.heap.size + 1, 0, none⟩ = some (.string nm) ∧ w.cell? ⟨w0.heap.size + 1, 1, none⟩ = some (.slice af fs.length cf) ∧ w.cell? ⟨w0.heap.size + 1, 2, none⟩ = some (.slice ao os.length co) ∧ w.cell? ⟨w0.heap.size + 1, 3, none⟩ = some (.slice am ms.length cm') ∧ w.cell? ⟨w0.heap.size + 1, 4, none⟩ = some (.slice ae es.length ce') ∧ w.cell? ⟨w0.heap.size + 1, 5, none⟩ = some (.slice ar rs.length cr) ∧ w.cell? ⟨w0.heap.size + 1, 6, none⟩ = some (.slice ag gs.length cg) ∧ w.cell? ⟨w0.heap.size, 0, none⟩ = some (.pointer (some ⟨b, 0, none⟩)) ∧ w.cell? ⟨w0.heap.size + 1 + 1, 0, none⟩ = some (.int .i64 (32 - (f : Int)))) w8 := (unhide HJ8).T
  refine ⟨_, rfl, hK _ _ ⟨fun _ => hT8, ?_⟩⟩
  clear hK K hT
  have hT := hT8
  clear hT8
  simp only [Act.put, List.setIfInBounds_toArray, List.set_cons_zero, List.set_cons_succ]
  clear hb8 HJ7 HG
  cases q6 with
  | false =>
    refine wpAnyZ_no [62, 63, 64, 65, 66, 67, 68, 69, 70, 71, 72, 73, 74, 75, 76] 6 hT (by kernel_rfl) (fun t' ht => ?_) (by decide) (by kernel_rfl) (fun _ _ _ _ _ h => h)
    go_wp2
    go_ret
    rw [ht]
    exact (unhide HJ8).no
  | true =>
  refine wpAnyZ_tk 62 (.bool true) 69 rfl rfl (Or.inl ⟨by rfl, fun w hw => by obtain ⟨hw0, hw1, hw2, hw3, hw4, hw5, hw6, hw7, hw8⟩ := hw; go_simp⟩) hT ?_
  simp only [Act.put, List.setIfInBounds_toArray, List.set_cons_zero, List.set_cons_succ]
  refine wpAnyZ_tk 63 (.bool true) 70 rfl rfl (Or.inl ⟨by rfl, fun w hw => by obtain ⟨hw0, hw1, hw2, hw3, hw4, hw5, hw6, hw7, hw8⟩ := hw; go_simp⟩) hT ?_
  simp only [Act.put, List.setIfInBounds_toArray, List.set_cons_zero, List.set_cons_succ]
  refine wpAnyZ_tk 64 (.pointer (some ⟨w0.heap.size + 1, 3, none⟩)) 71 rfl rfl (Or.inl ⟨by rfl, fun w hw => by obtain ⟨hw0, hw1, hw2, hw3, hw4, hw5, hw6, hw7, hw8⟩ := hw; go_simp⟩) hT ?_
  simp only [Act.put, List.setIfInBounds_toArray, List.set_cons_zero, List.set_cons_succ]
  refine wpAnyZ_tk 65 (.slice am ms.length cm') 72 rfl rfl (Or.inl ⟨by rfl, fun w hw => by obtain ⟨hw0, hw1, hw2, hw3, hw4, hw5, hw6, hw7, hw8⟩ := hw; go_simp⟩) hT ?_
  simp only [Act.put, List.setIfInBounds_toArray, List.set_cons_zero, List.set_cons_succ]
  refine wpAnyZ_tk 66 (.func (.func 75) #[] #[.pointer (some ⟨w0.heap.size, 0, none⟩), .pointer (some ⟨w0.heap.size + 1 + 1, 0, none⟩)]) 73 rfl rfl (Or.inl ⟨by rfl, fun w hw => by obtain ⟨hw0, hw1, hw2, hw3, hw4, hw5, hw6, hw7, hw8⟩ := hw; go_simp⟩) hT ?_
  simp only [Act.put, List.setIfInBounds_toArray, List.set_cons_zero, List.set_cons_succ]
  refine wpAnyZ_one 67 (by kernel_rfl) rfl (fun K hK => ?_)
  refine step_callG 74 rfl 38 (fun vs => by kernel_rfl) #[.tmp 72, .tmp 73] #[23, 82] rfl #[.slice am ms.length cm', .func (.func 75) #[] #[.pointer (some ⟨w0.heap.size, 0, none⟩), .pointer (some ⟨w0.heap.size + 1 + 1, 0, none⟩)]] (by first | rfl | simp [Act.eval]) (unhide HMs _ _ (unhide H2) (unhide H3) _ x1 (unhide HJ8).bel (unhide HJ8).jm) (by rfl) ?_
  rintro e w9 ⟨rfl, hj9, hg9⟩
  cases hq9 : am1 x1 with
  | none =>
    have HN := hide (show w0.grownBy w9 (some b) from (unhide HJ8).grw.trans hg9)
    have hT1 : (fun w : World => w.cell? ⟨w0.heap.size + 1, 0, none⟩ = some (.string nm) ∧ w.cell? ⟨w0.heap.size + 1, 1, none⟩ = some (.slice af fs.length cf) ∧ w.cell? ⟨w0.heap.size + 1, 2, none⟩ = some (.slice ao os.length co) ∧ w.cell? ⟨w0.heap.size + 1, 3, none⟩ = some (.slice am ms.length cm') ∧ w.cell? ⟨w0.heap.size + 1, 4, none⟩ = some (.slice ae es.length ce') ∧ w.cell? ⟨w0.heap.size + 1, 5, none⟩ = some (.slice ar rs.length cr) ∧ w.cell? ⟨w0.heap.size + 1, 6, none⟩ = some (.slice ag gs.length cg) ∧ w.cell? ⟨w0.heap.size, 0, none⟩ = some (.pointer (some ⟨b, 0, none⟩)) ∧ w.cell? ⟨w0.heap.size + 1 + 1, 0, none⟩ = some (.int .i64 (32 - (f : Int)))) w9 := by
      have k := unhide HJ8
      obtain ⟨c0, c1, c2, c3, c4, c5, c6⟩ := ms_of ((hg9.block _ (Array.getElem?_eq_some_iff.1 k.blk).1 (by simpa using fun e => unhide H1 e.symm)).trans k.blk)
      exact ⟨c0, c1, c2, c3, c4, c5, c6, cell_of_row _ _ _ _ _ _ ((hg9.block _ (Array.getElem?_eq_some_iff.1 k.jm.2.1).1 (by simpa using fun e => unhide H2 e.symm)).trans k.jm.2.1), cell_of_row _ _ _ _ _ _ ((hg9.block _ (Array.getElem?_eq_some_iff.1 k.jm.2.2).1 (by simpa using fun e => unhide H3 e.symm)).trans k.jm.2.2)⟩
    refine ⟨_, rfl, hK _ _ ⟨fun _ => hT1, ?_⟩⟩
    clear hK K hT hj9 hg9
    have hT := hT1
    clear hT1
    simp only [Option.isSome_none]
    simp only [Act.put, List.setIfInBounds_toArray, List.set_cons_zero, List.set_cons_succ]
    refine wpAnyZ_no [68, 69, 70, 71, 72, 73, 74, 75, 76] 6 hT (by kernel_rfl) (fun t' ht => ?_) (by decide) (by kernel_rfl) (fun _ _ _ _ _ h => h)
    go_wp2
    go_ret
    rw [ht]
    exact ⟨rfl, fun _ e => (by cases e), unhide HN⟩
  | some x2 =>
  simp only [Option.isSome_some]
  have HJ9 := hide ((unhide HJ8).go (unhide Hlo) (unhide H1) (unhide H2) (unhide H3) hg9 (hj9 _ hq9).1)
  have hT9 : (fun w : World => w.cell? ⟨w0.heap.size + 1, 0, none⟩ = some (.string nm) ∧ w.cell? ⟨w0.heap.size + 1, 1, none⟩ = some (.slice af fs.length cf) ∧ w.cell? ⟨w0.heap.size + 1, 2, none⟩ = some (.slice ao os.length co) ∧ w.cell? ⟨w0.heap.size + 1, 3, none⟩ = some (.slice am ms.length cm') ∧ w.cell? ⟨w0.heap.size + 1, 4, none⟩ = some (.slice ae es.length ce') ∧ w.cell? ⟨w0.heap.size + 1, 5, none⟩ = some (.slice ar rs.length cr) ∧ w.cell? ⟨w0.heap.size + 1, 6, none⟩ = some (.slice ag gs.length cg) ∧ w.cell? ⟨w0.heap.size, 0, none⟩ = some (.pointer (some ⟨b, 0, none⟩)) ∧ w.cell? ⟨w0.heap.size + 1 + 1, 0, none⟩ = some (.int .i64 (32 - (f : Int)))) w9 := (unhide HJ9).T
  refine ⟨_, rfl, hK _ _ ⟨fun _ => hT9, ?_⟩⟩
  clear hK K hT
  have hT := hT9
  clear hT9
  simp only [Act.put, List.setIfInBounds_toArray, List.set_cons_zero, List.set_cons_succ]
  clear hj9 hg9 HJ8 HMs
  refine wpAnyZ_tk 68 (.bool true) 75 rfl rfl (Or.inl ⟨by rfl, fun w hw => by obtain ⟨hw0, hw1, hw2, hw3, hw4, hw5, hw6, hw7, hw8⟩ := hw; go_simp⟩) hT ?_
  simp only [Act.put, List.setIfInBounds_toArray, List.set_cons_zero, List.set_cons_succ]
  refine wpAnyZ_tk 69 (.bool true) 76 rfl rfl (Or.inl ⟨by rfl, fun w hw => by obtain ⟨hw0, hw1, hw2, hw3, hw4, hw5, hw6, hw7, hw8⟩ := hw; go_simp⟩) hT ?_
  simp only [Act.put, List.setIfInBounds_toArray, List.set_cons_zero, List.set_cons_succ]
  refine wpAnyZ_tk 70 (.pointer (some ⟨w0.heap.size + 1, 4, none⟩)) 77 rfl rfl (Or.inl ⟨by rfl, fun w hw => by obtain ⟨hw0, hw1, hw2, hw3, hw4, hw5, hw6, hw7, hw8⟩ := hw; go_simp⟩) hT ?_
  simp only [Act.put, List.setIfInBounds_toArray, List.set_cons_zero, List.set_cons_succ]
  refine wpAnyZ_tk 71 (.slice ae es.length ce') 78 rfl rfl (Or.inl ⟨by rfl, fun w hw => by obtain ⟨hw0, hw1, hw2, hw3, hw4, hw5, hw6, hw7, hw8⟩ := hw; go_simp⟩) hT ?_
  simp only [Act.put, List.setIfInBounds_toArray, List.set_cons_zero, List.set_cons_succ]
  refine wpAnyZ_tk 72 (.pointer (some ⟨b, 0, none⟩)) 79 rfl rfl (Or.inl ⟨by rfl, fun w hw => by obtain ⟨hw0, hw1, hw2, hw3, hw4, hw5, hw6, hw7, hw8⟩ := hw; go_simp⟩) hT ?_
  simp only [Act.put, List.setIfInBounds_toArray, List.set_cons_zero, List.set_cons_succ]
  refine wpAnyZ_tk 73 (.func (.func 42) #[.pointer (some ⟨b, 0, none⟩)] #[]) 80 rfl rfl (Or.inl ⟨by rfl, fun w hw => by obtain ⟨hw0, hw1, hw2, hw3, hw4, hw5, hw6, hw7, hw8⟩ := hw; go_simp⟩) hT ?_
  simp only [Act.put, List.setIfInBounds_toArray, List.set_cons_zero, List.set_cons_succ]
  refine wpAnyZ_one 74 (by kernel_rfl) rfl (fun K hK => ?_)
  refine step_callG 81 rfl 41 (fun vs => by kernel_rfl) #[.tmp 78, .tmp 80] #[24, 84] rfl #[.slice ae es.length ce', .func (.func 42) #[.pointer (some ⟨b, 0, none⟩)] #[]] (by first | rfl | simp [Act.eval]) (unhide HEn _ x2 (unhide HJ9).bel (unhide HJ9).jm.1) (by rfl) ?_
  rintro e w10 ⟨rfl, hj10, hg10⟩
  cases hq10 : ae1 x2 with
  | none =>
    have HN := hide (show w0.grownBy w10 (some b) from (unhide HJ9).grw.trans hg10)
    have hT1 : (fun w : World => w.cell? ⟨w0.heap.size + 1, 0, none⟩ = some (.string nm) ∧ w.cell? ⟨w0.heap.size + 1, 1, none⟩ = some (.slice af fs.length cf) ∧ w.cell? ⟨w0.heap.size + 1, 2, none⟩ = some (.slice ao os.length co) ∧ w.cell? ⟨w0.heap.size + 1, 3, none⟩ = some (.slice am ms.length cm') ∧ w.cell? ⟨w0.heap.size + 1, 4, none⟩ = some (.slice ae es.length ce') ∧ w.cell? ⟨w0.heap.size + 1, 5, none⟩ = some (.slice ar rs.length cr) ∧ w.cell? ⟨w0.heap.size + 1, 6, none⟩ = some (.slice ag gs.length cg) ∧ w.cell? ⟨w0.heap.size, 0, none⟩ = some (.pointer (some ⟨b, 0, none⟩)) ∧ w.cell? ⟨w0.heap.size + 1 + 1, 0, none⟩ = some (.int .i64 (32 - (f : Int)))) w10 := by
      have k := unhide HJ9
      obtain ⟨c0, c1, c2, c3, c4, c5, c6⟩ := ms_of ((hg10.block _ (Array.getElem?_eq_some_iff.1 k.blk).1 (by simpa using fun e => unhide H1 e.symm)).trans k.blk)
      exact ⟨c0, c1, c2, c3, c4, c5, c6, cell_of_row _ _ _ _ _ _ ((hg10.block _ (Array.getElem?_eq_some_iff.1 k.jm.2.1).1 (by simpa using fun e => unhide H2 e.symm)).trans k.jm.2.1), cell_of_row _ _ _ _ _ _ ((hg10.block _ (Array.getElem?_eq_some_iff.1 k.jm.2.2).1 (by simpa using fun e => unhide H3 e.symm)).trans k.jm.2.2)⟩
    refine ⟨_, rfl, hK _ _ ⟨fun _ => hT1, ?_⟩⟩
    clear hK K hT hj10 hg10
    have hT := hT1
    clear hT1
    simp only [Option.isSome_none]
    simp only [Act.put, List.setIfInBounds_toArray, List.set_cons_zero, List.set_cons_succ]
    refine wpAnyZ_no [75, 76] 6 hT (by kernel_rfl) (fun t' ht => ?_) (by decide) (by kernel_rfl) (fun _ _ _ _ _ h => h)
    go_wp2
    go_ret
    rw [ht]
    exact ⟨rfl, fun _ e => (by cases e), unhide HN⟩
  | some x3 =>
  simp only [Option.isSome_some]
  have HJ10 := hide ((unhide HJ9).go (unhide Hlo) (unhide H1) (unhide H2) (unhide H3) hg10 (hj10 _ hq10))
  have hT10 : (fun w : World => w.cell? ⟨w0.heap.size + 1, 0, none⟩ = some (.string nm) ∧ w.cell? ⟨w0.heap.size + 1, 1, none⟩ = some (.slice af fs.length cf) ∧ w.cell? ⟨w0.heap.size + 1, 2, none⟩ = some (.slice ao os.length co) ∧ w.cell? ⟨w0.heap.size + 1, 3, none⟩ = some (.slice am ms.length cm') ∧ w.cell? ⟨w0.heap.size + 1, 4, none⟩ = some (.slice ae es.length ce') ∧ w.cell? ⟨w0.heap.size + 1, 5, none⟩ = some (.slice ar rs.length cr) ∧ w.cell? ⟨w0.heap.size + 1, 6, none⟩ = some (.slice ag gs.length cg) ∧ w.cell? ⟨w0.heap.size, 0, none⟩ = some (.pointer (some ⟨b, 0, none⟩)) ∧ w.cell? ⟨w0.heap.size + 1 + 1, 0, none⟩ = some (.int .i64 (32 - (f : Int)))) w10 := (unhide HJ10).T
  refine ⟨_, rfl, hK _ _ ⟨fun _ => hT10, ?_⟩⟩
  clear hK K hT
  have hT := hT10
  clear hT10
  simp only [Act.put, List.setIfInBounds_toArray, List.set_cons_zero, List.set_cons_succ]
  clear hj10 hg10 HJ9 HEn
  refine wpAnyZ_tk 75 (.bool true) 82 rfl rfl (Or.inl ⟨by rfl, fun w hw => by obtain ⟨hw0, hw1, hw2, hw3, hw4, hw5, hw6, hw7, hw8⟩ := hw; go_simp⟩) hT ?_
  simp only [Act.put, List.setIfInBounds_toArray, List.set_cons_zero, List.set_cons_succ]
  refine wpAnyZ_tk 76 (.bool true) 6 rfl rfl (Or.inl ⟨by rfl, fun w hw => by obtain ⟨hw0, hw1, hw2, hw3, hw4, hw5, hw6, hw7, hw8⟩ := hw; go_simp⟩) hT ?_
  simp only [Act.put, List.setIfInBounds_toArray, List.set_cons_zero, List.set_cons_succ]
  refine wpAnyZ_done (by kernel_rfl) ?_
  go_wp2
  go_ret
  exact (unhide HJ10).yes
end Go.Proofs.YtaadpiimcaabkaaGreatDoor
