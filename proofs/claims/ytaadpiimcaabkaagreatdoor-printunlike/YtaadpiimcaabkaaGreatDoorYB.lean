import Derived.Test.YtaadpiimcaabkaaGreatDoorYA

namespace Go.Proofs.YtaadpiimcaabkaaGreatDoor
open Go.RowKit
attribute [local go_sem ↓] Go.wp_at_zero Go.wp_at_succ

/-- A state that new blocks don't change. -/
def Stb {σ : Type} (J : σ → World → Prop) : Prop := ∀ s w w', J s w → w.grownBy w' none → J s w'
/-- The state, and a block that holds a function. -/
def JF {σ : Type} (J : σ → World → Prop) (g : Nat) (f : Value) (t : TypeId) (s : σ) (w : World) : Prop := J s w ∧ w.heap[g]? = some (.cells #[f] t (0, 0))
theorem bool_of {r : Int} {b : Bool} (h : decide (0 ≤ r) = b) : (Value.bool (decide (r ≥ 0))) = Value.bool b := by rw [← h]

set_option maxRecDepth 100000 in
set_option maxHeartbeats 2000000 in
theorem cfS_any {σ : Type} {W : World} {ob : Option Nat} {J : σ → World → Prop} {f : Fv} {v : Value} {xs : List Value} {n : Nat} {p : Nat → σ → Option σ} (hv : Rl W v n xs) (hfo : f.ok) (hf : Says true W.heap.size W ob J f (fun i => xs.getD i undef) n p) (hob : ∀ k, ob = some k → W.heap.size ≤ k) (hx : xs.length = n) (w0 : World) (s : σ) (hw : Below W.heap.size W w0) (hj : J s w0) :
    Calls Tryz.prog 65 #[v, f.val] w0 (fun e w => e = .returned (.bool (!(allN p n 0 s).isSome)) ∧ (∀ s', allN p n 0 s = some s' → J s' w) ∧ w0.grownBy w ob) := by
  have HI := hide (ifS_any hv hfo hf hob hx w0 s hw hj)
  obtain ⟨r, hr⟩ : ∃ r, allN p n 0 s = r := ⟨_, rfl⟩
  rw [hr] at HI ⊢
  obtain ⟨a, c, rfl, hn, h2⟩ := hv
  obtain ⟨fid, fs, cp⟩ := f
  unfold Fv.val at HI ⊢
  simp only at HI ⊢
  clear hf hob hx hw hj h2 hn hr hfo
  go_enter Tryz.func65, Tryz.ntmps65
  go_wp2_with fail
  refine (unhide HI).mono ?_
  rintro e w1 ⟨q, rfl, hq, hj1, hg1⟩
  have HJ := hide hj1
  have HG := hide hg1
  have HQ := hide hq
  clear hj1 hg1 hq HI
  go_wp2
  go_ret
  refine ⟨?_, unhide HJ, unhide HG⟩
  have := unhide HQ
  simp only [← this]
  rfl

set_option maxRecDepth 100000 in
set_option maxHeartbeats 2000000 in
theorem allS_1 {f : Fv} {x : Value} {g : Nat} {w : World} {R : Ending → World → Prop} {b : Bool} (hfo : f.ok) (hg : w.heap[g]? = some (.cells #[f.val] 77 (0, 0))) (hc : Calls Tryz.prog f.f (f.fs.push (x) ++ f.cp) w fun e w' => e = .returned (.bool b) ∧ R e w') :
    Calls Tryz.prog 66 #[x, .pointer (some ⟨g, 0, none⟩)] w fun e w' => e = .returned (.bool (!b)) ∧ R (.returned (.bool b)) w' := by
  have c0 : w.cell? ⟨g, 0, none⟩ = some f.val := cell_of_row _ _ _ _ _ _ hg
  obtain ⟨fid, fs, cp⟩ := f
  unfold Fv.val at c0
  unfold Fv.ok at hfo
  simp only at hc hfo c0
  have HC := hide hc
  clear hc hg
  go_enter Tryz.func66, Tryz.ntmps66
  go_wp2_with fail
  refine (unhide HC).mono ?_
  rintro e w1 ⟨rfl, hr⟩
  have HR := hide hr
  clear hr HC
  go_wp2
  go_ret
  exact ⟨rfl, unhide HR⟩

set_option maxRecDepth 100000 in
set_option maxHeartbeats 2000000 in
theorem allS_any {σ : Type} {W : World} {ob : Option Nat} {J : σ → World → Prop} {f : Fv} {v : Value} {xs : List Value} {n : Nat} {p : Nat → σ → Option σ} (hv : Rl W v n xs) (hfo : f.ok) (hf : Says false W.heap.size W ob J f (fun i => xs.getD i undef) n p) (hob : ∀ k, ob = some k → W.heap.size ≤ k) (hx : xs.length = n) (w0 : World) (s : σ) (hw : Below W.heap.size W w0) (hj : J s w0) (hst : Stb J) (hob2 : ∀ k, ob = some k → k < w0.heap.size) :
    Calls Tryz.prog 36 #[v, f.val] w0 (AllQ w0 ob J (allN p n 0 s)) := by
  have hgA : w0.grownBy (w0.alloc (.cells #[f.val] 77)) none := World.grownBy_alloc _ _ _
  have hS : Says true W.heap.size W ob (JF J w0.heap.size f.val 77) ⟨66, #[], #[.pointer (some ⟨w0.heap.size, 0, none⟩)]⟩ (fun i => xs.getD i undef) n p := by
    intro i hi st w hb hjw
    have hc1 := hf i hi st w hb hjw.1
    obtain ⟨x, _, hx2⟩ := el_1 hx hi
    simp only [hx2] at hc1 ⊢
    refine (allS_1 (R := fun _ w' => (∀ s', p i st = some s' → J s' w') ∧ w.grownBy w' ob) hfo hjw.2 hc1).mono ?_
    rintro e w' ⟨rfl, hj', hg'⟩
    refine ⟨by simp, fun s' e => ⟨hj' s' e, ?_⟩, hg'⟩
    have hlt := (Array.getElem?_eq_some_iff.1 hjw.2).1
    exact (hg'.block _ hlt (fun e => by have := hob2 _ e.symm; omega)).trans hjw.2
  have HI := hide (cfS_any hv (f := ⟨66, #[], #[.pointer (some ⟨w0.heap.size, 0, none⟩)]⟩) (fun vs w => by kernel_rfl) hS hob hx _ s (hw.alloc hw.size _) ⟨hst _ _ _ hj hgA, heap_new _ _⟩)
  obtain ⟨r, hr⟩ : ∃ r, allN p n 0 s = r := ⟨_, rfl⟩
  rw [hr] at HI ⊢
  have HGA := hide (show w0.grownBy (w0.alloc (.cells #[f.val] 77)) ob from World.grownBy_alloc _ _ _)
  obtain ⟨a, c, rfl, hn, h2⟩ := hv
  obtain ⟨fid, fs, cp⟩ := f
  unfold Fv.val at HI HGA ⊢
  simp only at HI HGA ⊢
  clear hf hob hx hw hj h2 hn hr hfo hgA hS hst hob2
  go_enter Tryz.func36, Tryz.ntmps36
  go_wp2_with fail
  refine (unhide HI).mono ?_
  rintro e w1 ⟨rfl, hj1, hg1⟩
  have HJ := hide (fun s' e => (hj1 s' e).1)
  have HG := hide ((unhide HGA).trans hg1)
  clear hj1 hg1 HI HGA
  go_wp2
  go_ret
  exact ⟨by simp, unhide HJ, unhide HG⟩

set_option maxRecDepth 100000 in
set_option maxHeartbeats 2000000 in
theorem cfM_any {σ : Type} {W : World} {ob : Option Nat} {J : σ → World → Prop} {f : Fv} {v : Value} {xs : List Value} {n : Nat} {p : Nat → σ → Option σ} (hv : Rl W v n xs) (hfo : f.ok) (hf : Says true W.heap.size W ob J f (elA 7 xs) n p) (hob : ∀ k, ob = some k → W.heap.size ≤ k) (hx : xs.length = n * 7) (w0 : World) (s : σ) (hw : Below W.heap.size W w0) (hj : J s w0) :
    Calls Tryz.prog 68 #[v, f.val] w0 (fun e w => e = .returned (.bool (!(allN p n 0 s).isSome)) ∧ (∀ s', allN p n 0 s = some s' → J s' w) ∧ w0.grownBy w ob) := by
  have HI := hide (ifM_any hv hfo hf hob hx w0 s hw hj)
  obtain ⟨r, hr⟩ : ∃ r, allN p n 0 s = r := ⟨_, rfl⟩
  rw [hr] at HI ⊢
  obtain ⟨a, c, rfl, hn, h2⟩ := hv
  obtain ⟨fid, fs, cp⟩ := f
  unfold Fv.val at HI ⊢
  simp only at HI ⊢
  clear hf hob hx hw hj h2 hn hr hfo
  go_enter Tryz.func68, Tryz.ntmps68
  go_wp2_with fail
  refine (unhide HI).mono ?_
  rintro e w1 ⟨q, rfl, hq, hj1, hg1⟩
  have HJ := hide hj1
  have HG := hide hg1
  have HQ := hide hq
  clear hj1 hg1 hq HI
  go_wp2
  go_ret
  refine ⟨?_, unhide HJ, unhide HG⟩
  have := unhide HQ
  simp only [← this]
  rfl

set_option maxRecDepth 100000 in
set_option maxHeartbeats 2000000 in
theorem allM_1 {f : Fv} {a0 a1 a2 a3 a4 a5 a6 : Value} {g : Nat} {w : World} {R : Ending → World → Prop} {b : Bool} (hfo : f.ok) (hg : w.heap[g]? = some (.cells #[f.val] 82 (0, 0))) (hc : Calls Tryz.prog f.f (f.fs.push (.agg #[a0, a1, a2, a3, a4, a5, a6]) ++ f.cp) (w.alloc (.cells #[a0, a1, a2, a3, a4, a5, a6] 46)) fun e w' => e = .returned (.bool b) ∧ R e w') :
    Calls Tryz.prog 69 #[.agg #[a0, a1, a2, a3, a4, a5, a6], .pointer (some ⟨g, 0, none⟩)] w fun e w' => e = .returned (.bool (!b)) ∧ R (.returned (.bool b)) w' := by
  have c0 : (w.alloc (.cells #[a0, a1, a2, a3, a4, a5, a6] 46)).cell? ⟨g, 0, none⟩ = some f.val := cell_of_row _ _ _ _ _ _ ((Below.heap_alloc _ _ _ (Array.getElem?_eq_some_iff.1 hg).1).trans hg)
  have hn0 := heap_new w (.cells #[a0, a1, a2, a3, a4, a5, a6] 46)
  have b0 : (w.alloc (.cells #[a0, a1, a2, a3, a4, a5, a6] 46)).cell? ⟨w.heap.size, 0, none⟩ = some a0 := cell_of_row _ _ _ _ _ _ hn0
  have b1 : (w.alloc (.cells #[a0, a1, a2, a3, a4, a5, a6] 46)).cell? ⟨w.heap.size, 1, none⟩ = some a1 := cell_of_row _ _ _ _ _ _ hn0
  have b2 : (w.alloc (.cells #[a0, a1, a2, a3, a4, a5, a6] 46)).cell? ⟨w.heap.size, 2, none⟩ = some a2 := cell_of_row _ _ _ _ _ _ hn0
  have b3 : (w.alloc (.cells #[a0, a1, a2, a3, a4, a5, a6] 46)).cell? ⟨w.heap.size, 3, none⟩ = some a3 := cell_of_row _ _ _ _ _ _ hn0
  have b4 : (w.alloc (.cells #[a0, a1, a2, a3, a4, a5, a6] 46)).cell? ⟨w.heap.size, 4, none⟩ = some a4 := cell_of_row _ _ _ _ _ _ hn0
  have b5 : (w.alloc (.cells #[a0, a1, a2, a3, a4, a5, a6] 46)).cell? ⟨w.heap.size, 5, none⟩ = some a5 := cell_of_row _ _ _ _ _ _ hn0
  have b6 : (w.alloc (.cells #[a0, a1, a2, a3, a4, a5, a6] 46)).cell? ⟨w.heap.size, 6, none⟩ = some a6 := cell_of_row _ _ _ _ _ _ hn0
  clear hn0
  obtain ⟨fid, fs, cp⟩ := f
  unfold Fv.val at c0
  unfold Fv.ok at hfo
  simp only at hc hfo c0
  have HC := hide hc
  clear hc hg
  go_enter Tryz.func69, Tryz.ntmps69
  go_wp2_with fail
  refine (unhide HC).mono ?_
  rintro e w1 ⟨rfl, hr⟩
  have HR := hide hr
  clear hr HC
  go_wp2
  go_ret
  exact ⟨rfl, unhide HR⟩

set_option maxRecDepth 100000 in
set_option maxHeartbeats 2000000 in
theorem allM_any {σ : Type} {W : World} {ob : Option Nat} {J : σ → World → Prop} {f : Fv} {v : Value} {xs : List Value} {n : Nat} {p : Nat → σ → Option σ} (hv : Rl W v n xs) (hfo : f.ok) (hf : Says false W.heap.size W ob J f (elA 7 xs) n p) (hob : ∀ k, ob = some k → W.heap.size ≤ k) (hx : xs.length = n * 7) (w0 : World) (s : σ) (hw : Below W.heap.size W w0) (hj : J s w0) (hst : Stb J) (hob2 : ∀ k, ob = some k → k < w0.heap.size) :
    Calls Tryz.prog 38 #[v, f.val] w0 (AllQ w0 ob J (allN p n 0 s)) := by
  have hgA : w0.grownBy (w0.alloc (.cells #[f.val] 82)) none := World.grownBy_alloc _ _ _
  have hS : Says true W.heap.size W ob (JF J w0.heap.size f.val 82) ⟨69, #[], #[.pointer (some ⟨w0.heap.size, 0, none⟩)]⟩ (elA 7 xs) n p := by
    intro i hi st w hb hjw
    obtain ⟨a0, a1, a2, a3, a4, a5, a6, hx2, _⟩ := el_7 hx hi
    have hga : w.grownBy (w.alloc (.cells #[a0, a1, a2, a3, a4, a5, a6] 46)) none := World.grownBy_alloc _ _ _
    have hc1 := hf i hi st (w.alloc (.cells #[a0, a1, a2, a3, a4, a5, a6] 46)) (hb.alloc hb.size _) (hst _ _ _ hjw.1 hga)
    rw [hx2] at hc1 ⊢
    refine (allM_1 (R := fun _ w' => (∀ s', p i st = some s' → J s' w') ∧ w.grownBy w' ob) hfo hjw.2 (hc1.mono fun _ _ h => ⟨h.1, h.2.1, (World.grownBy_alloc _ _ _).trans h.2.2⟩)).mono ?_
    rintro e w' ⟨rfl, hj', hg'⟩
    refine ⟨by simp, fun s' e => ⟨hj' s' e, ?_⟩, hg'⟩
    have hlt := (Array.getElem?_eq_some_iff.1 hjw.2).1
    exact (hg'.block _ hlt (fun e => by have := hob2 _ e.symm; omega)).trans hjw.2
  have HI := hide (cfM_any hv (f := ⟨69, #[], #[.pointer (some ⟨w0.heap.size, 0, none⟩)]⟩) (fun vs w => by kernel_rfl) hS hob hx _ s (hw.alloc hw.size _) ⟨hst _ _ _ hj hgA, heap_new _ _⟩)
  obtain ⟨r, hr⟩ : ∃ r, allN p n 0 s = r := ⟨_, rfl⟩
  rw [hr] at HI ⊢
  have HGA := hide (show w0.grownBy (w0.alloc (.cells #[f.val] 82)) ob from World.grownBy_alloc _ _ _)
  obtain ⟨a, c, rfl, hn, h2⟩ := hv
  obtain ⟨fid, fs, cp⟩ := f
  unfold Fv.val at HI HGA ⊢
  simp only at HI HGA ⊢
  clear hf hob hx hw hj h2 hn hr hfo hgA hS hst hob2
  go_enter Tryz.func38, Tryz.ntmps38
  go_wp2_with fail
  refine (unhide HI).mono ?_
  rintro e w1 ⟨rfl, hj1, hg1⟩
  have HJ := hide (fun s' e => (hj1 s' e).1)
  have HG := hide ((unhide HGA).trans hg1)
  clear hj1 hg1 HI HGA
  go_wp2
  go_ret
  exact ⟨by simp, unhide HJ, unhide HG⟩

set_option maxRecDepth 100000 in
set_option maxHeartbeats 2000000 in
theorem cfE_any {σ : Type} {W : World} {ob : Option Nat} {J : σ → World → Prop} {f : Fv} {v : Value} {xs : List Value} {n : Nat} {p : Nat → σ → Option σ} (hv : Rl W v n xs) (hfo : f.ok) (hf : Says true W.heap.size W ob J f (elA 4 xs) n p) (hob : ∀ k, ob = some k → W.heap.size ≤ k) (hx : xs.length = n * 4) (w0 : World) (s : σ) (hw : Below W.heap.size W w0) (hj : J s w0) :
    Calls Tryz.prog 76 #[v, f.val] w0 (fun e w => e = .returned (.bool (!(allN p n 0 s).isSome)) ∧ (∀ s', allN p n 0 s = some s' → J s' w) ∧ w0.grownBy w ob) := by
  have HI := hide (ifE_any hv hfo hf hob hx w0 s hw hj)
  obtain ⟨r, hr⟩ : ∃ r, allN p n 0 s = r := ⟨_, rfl⟩
  rw [hr] at HI ⊢
  obtain ⟨a, c, rfl, hn, h2⟩ := hv
  obtain ⟨fid, fs, cp⟩ := f
  unfold Fv.val at HI ⊢
  simp only at HI ⊢
  clear hf hob hx hw hj h2 hn hr hfo
  go_enter Tryz.func76, Tryz.ntmps76
  go_wp2_with fail
  refine (unhide HI).mono ?_
  rintro e w1 ⟨q, rfl, hq, hj1, hg1⟩
  have HJ := hide hj1
  have HG := hide hg1
  have HQ := hide hq
  clear hj1 hg1 hq HI
  go_wp2
  go_ret
  refine ⟨?_, unhide HJ, unhide HG⟩
  have := unhide HQ
  simp only [← this]
  rfl

set_option maxRecDepth 100000 in
set_option maxHeartbeats 2000000 in
theorem allE_1 {f : Fv} {a0 a1 a2 a3 : Value} {g : Nat} {w : World} {R : Ending → World → Prop} {b : Bool} (hfo : f.ok) (hg : w.heap[g]? = some (.cells #[f.val] 84 (0, 0))) (hc : Calls Tryz.prog f.f (f.fs.push (.agg #[a0, a1, a2, a3]) ++ f.cp) (w.alloc (.cells #[a0, a1, a2, a3] 67)) fun e w' => e = .returned (.bool b) ∧ R e w') :
    Calls Tryz.prog 77 #[.agg #[a0, a1, a2, a3], .pointer (some ⟨g, 0, none⟩)] w fun e w' => e = .returned (.bool (!b)) ∧ R (.returned (.bool b)) w' := by
  have c0 : (w.alloc (.cells #[a0, a1, a2, a3] 67)).cell? ⟨g, 0, none⟩ = some f.val := cell_of_row _ _ _ _ _ _ ((Below.heap_alloc _ _ _ (Array.getElem?_eq_some_iff.1 hg).1).trans hg)
  have hn0 := heap_new w (.cells #[a0, a1, a2, a3] 67)
  have b0 : (w.alloc (.cells #[a0, a1, a2, a3] 67)).cell? ⟨w.heap.size, 0, none⟩ = some a0 := cell_of_row _ _ _ _ _ _ hn0
  have b1 : (w.alloc (.cells #[a0, a1, a2, a3] 67)).cell? ⟨w.heap.size, 1, none⟩ = some a1 := cell_of_row _ _ _ _ _ _ hn0
  have b2 : (w.alloc (.cells #[a0, a1, a2, a3] 67)).cell? ⟨w.heap.size, 2, none⟩ = some a2 := cell_of_row _ _ _ _ _ _ hn0
  have b3 : (w.alloc (.cells #[a0, a1, a2, a3] 67)).cell? ⟨w.heap.size, 3, none⟩ = some a3 := cell_of_row _ _ _ _ _ _ hn0
  clear hn0
  obtain ⟨fid, fs, cp⟩ := f
  unfold Fv.val at c0
  unfold Fv.ok at hfo
  simp only at hc hfo c0
  have HC := hide hc
  clear hc hg
  go_enter Tryz.func77, Tryz.ntmps77
  go_wp2_with fail
  refine (unhide HC).mono ?_
  rintro e w1 ⟨rfl, hr⟩
  have HR := hide hr
  clear hr HC
  go_wp2
  go_ret
  exact ⟨rfl, unhide HR⟩

set_option maxRecDepth 100000 in
set_option maxHeartbeats 2000000 in
theorem allE_any {σ : Type} {W : World} {ob : Option Nat} {J : σ → World → Prop} {f : Fv} {v : Value} {xs : List Value} {n : Nat} {p : Nat → σ → Option σ} (hv : Rl W v n xs) (hfo : f.ok) (hf : Says false W.heap.size W ob J f (elA 4 xs) n p) (hob : ∀ k, ob = some k → W.heap.size ≤ k) (hx : xs.length = n * 4) (w0 : World) (s : σ) (hw : Below W.heap.size W w0) (hj : J s w0) (hst : Stb J) (hob2 : ∀ k, ob = some k → k < w0.heap.size) :
    Calls Tryz.prog 41 #[v, f.val] w0 (AllQ w0 ob J (allN p n 0 s)) := by
  have hgA : w0.grownBy (w0.alloc (.cells #[f.val] 84)) none := World.grownBy_alloc _ _ _
  have hS : Says true W.heap.size W ob (JF J w0.heap.size f.val 84) ⟨77, #[], #[.pointer (some ⟨w0.heap.size, 0, none⟩)]⟩ (elA 4 xs) n p := by
    intro i hi st w hb hjw
    obtain ⟨a0, a1, a2, a3, hx2, _⟩ := el_4 hx hi
    have hga : w.grownBy (w.alloc (.cells #[a0, a1, a2, a3] 67)) none := World.grownBy_alloc _ _ _
    have hc1 := hf i hi st (w.alloc (.cells #[a0, a1, a2, a3] 67)) (hb.alloc hb.size _) (hst _ _ _ hjw.1 hga)
    rw [hx2] at hc1 ⊢
    refine (allE_1 (R := fun _ w' => (∀ s', p i st = some s' → J s' w') ∧ w.grownBy w' ob) hfo hjw.2 (hc1.mono fun _ _ h => ⟨h.1, h.2.1, (World.grownBy_alloc _ _ _).trans h.2.2⟩)).mono ?_
    rintro e w' ⟨rfl, hj', hg'⟩
    refine ⟨by simp, fun s' e => ⟨hj' s' e, ?_⟩, hg'⟩
    have hlt := (Array.getElem?_eq_some_iff.1 hjw.2).1
    exact (hg'.block _ hlt (fun e => by have := hob2 _ e.symm; omega)).trans hjw.2
  have HI := hide (cfE_any hv (f := ⟨77, #[], #[.pointer (some ⟨w0.heap.size, 0, none⟩)]⟩) (fun vs w => by kernel_rfl) hS hob hx _ s (hw.alloc hw.size _) ⟨hst _ _ _ hj hgA, heap_new _ _⟩)
  obtain ⟨r, hr⟩ : ∃ r, allN p n 0 s = r := ⟨_, rfl⟩
  rw [hr] at HI ⊢
  have HGA := hide (show w0.grownBy (w0.alloc (.cells #[f.val] 84)) ob from World.grownBy_alloc _ _ _)
  obtain ⟨a, c, rfl, hn, h2⟩ := hv
  obtain ⟨fid, fs, cp⟩ := f
  unfold Fv.val at HI HGA ⊢
  simp only at HI HGA ⊢
  clear hf hob hx hw hj h2 hn hr hfo hgA hS hst hob2
  go_enter Tryz.func41, Tryz.ntmps41
  go_wp2_with fail
  refine (unhide HI).mono ?_
  rintro e w1 ⟨rfl, hj1, hg1⟩
  have HJ := hide (fun s' e => (hj1 s' e).1)
  have HG := hide ((unhide HGA).trans hg1)
  clear hj1 hg1 HI HGA
  go_wp2
  go_ret
  exact ⟨by simp, unhide HJ, unhide HG⟩

set_option maxRecDepth 100000 in
set_option maxHeartbeats 2000000 in
theorem cfF_any {σ : Type} {W : World} {ob : Option Nat} {J : σ → World → Prop} {f : Fv} {v : Value} {xs : List Value} {n : Nat} {p : Nat → σ → Option σ} (hv : Rl W v n xs) (hfo : f.ok) (hf : Says true W.heap.size W ob J f (elA 6 xs) n p) (hob : ∀ k, ob = some k → W.heap.size ≤ k) (hx : xs.length = n * 6) (w0 : World) (s : σ) (hw : Below W.heap.size W w0) (hj : J s w0) :
    Calls Tryz.prog 111 #[v, f.val] w0 (fun e w => e = .returned (.bool (!(allN p n 0 s).isSome)) ∧ (∀ s', allN p n 0 s = some s' → J s' w) ∧ w0.grownBy w ob) := by
  have HI := hide (ifF_any hv hfo hf hob hx w0 s hw hj)
  obtain ⟨r, hr⟩ : ∃ r, allN p n 0 s = r := ⟨_, rfl⟩
  rw [hr] at HI ⊢
  obtain ⟨a, c, rfl, hn, h2⟩ := hv
  obtain ⟨fid, fs, cp⟩ := f
  unfold Fv.val at HI ⊢
  simp only at HI ⊢
  clear hf hob hx hw hj h2 hn hr hfo
  go_enter Tryz.func111, Tryz.ntmps111
  go_wp2_with fail
  refine (unhide HI).mono ?_
  rintro e w1 ⟨q, rfl, hq, hj1, hg1⟩
  have HJ := hide hj1
  have HG := hide hg1
  have HQ := hide hq
  clear hj1 hg1 hq HI
  go_wp2
  go_ret
  refine ⟨?_, unhide HJ, unhide HG⟩
  have := unhide HQ
  simp only [← this]
  rfl

set_option maxRecDepth 100000 in
set_option maxHeartbeats 2000000 in
theorem allF_1 {f : Fv} {a0 a1 a2 a3 a4 a5 : Value} {g : Nat} {w : World} {R : Ending → World → Prop} {b : Bool} (hfo : f.ok) (hg : w.heap[g]? = some (.cells #[f.val] 116 (0, 0))) (hc : Calls Tryz.prog f.f (f.fs.push (.agg #[a0, a1, a2, a3, a4, a5]) ++ f.cp) (w.alloc (.cells #[a0, a1, a2, a3, a4, a5] 42)) fun e w' => e = .returned (.bool b) ∧ R e w') :
    Calls Tryz.prog 112 #[.agg #[a0, a1, a2, a3, a4, a5], .pointer (some ⟨g, 0, none⟩)] w fun e w' => e = .returned (.bool (!b)) ∧ R (.returned (.bool b)) w' := by
  have c0 : (w.alloc (.cells #[a0, a1, a2, a3, a4, a5] 42)).cell? ⟨g, 0, none⟩ = some f.val := cell_of_row _ _ _ _ _ _ ((Below.heap_alloc _ _ _ (Array.getElem?_eq_some_iff.1 hg).1).trans hg)
  have hn0 := heap_new w (.cells #[a0, a1, a2, a3, a4, a5] 42)
  have b0 : (w.alloc (.cells #[a0, a1, a2, a3, a4, a5] 42)).cell? ⟨w.heap.size, 0, none⟩ = some a0 := cell_of_row _ _ _ _ _ _ hn0
  have b1 : (w.alloc (.cells #[a0, a1, a2, a3, a4, a5] 42)).cell? ⟨w.heap.size, 1, none⟩ = some a1 := cell_of_row _ _ _ _ _ _ hn0
  have b2 : (w.alloc (.cells #[a0, a1, a2, a3, a4, a5] 42)).cell? ⟨w.heap.size, 2, none⟩ = some a2 := cell_of_row _ _ _ _ _ _ hn0
  have b3 : (w.alloc (.cells #[a0, a1, a2, a3, a4, a5] 42)).cell? ⟨w.heap.size, 3, none⟩ = some a3 := cell_of_row _ _ _ _ _ _ hn0
  have b4 : (w.alloc (.cells #[a0, a1, a2, a3, a4, a5] 42)).cell? ⟨w.heap.size, 4, none⟩ = some a4 := cell_of_row _ _ _ _ _ _ hn0
  have b5 : (w.alloc (.cells #[a0, a1, a2, a3, a4, a5] 42)).cell? ⟨w.heap.size, 5, none⟩ = some a5 := cell_of_row _ _ _ _ _ _ hn0
  clear hn0
  obtain ⟨fid, fs, cp⟩ := f
  unfold Fv.val at c0
  unfold Fv.ok at hfo
  simp only at hc hfo c0
  have HC := hide hc
  clear hc hg
  go_enter Tryz.func112, Tryz.ntmps112
  go_wp2_with fail
  refine (unhide HC).mono ?_
  rintro e w1 ⟨rfl, hr⟩
  have HR := hide hr
  clear hr HC
  go_wp2
  go_ret
  exact ⟨rfl, unhide HR⟩

set_option maxRecDepth 100000 in
set_option maxHeartbeats 2000000 in
theorem allF_any {σ : Type} {W : World} {ob : Option Nat} {J : σ → World → Prop} {f : Fv} {v : Value} {xs : List Value} {n : Nat} {p : Nat → σ → Option σ} (hv : Rl W v n xs) (hfo : f.ok) (hf : Says false W.heap.size W ob J f (elA 6 xs) n p) (hob : ∀ k, ob = some k → W.heap.size ≤ k) (hx : xs.length = n * 6) (w0 : World) (s : σ) (hw : Below W.heap.size W w0) (hj : J s w0) (hst : Stb J) (hob2 : ∀ k, ob = some k → k < w0.heap.size) :
    Calls Tryz.prog 70 #[v, f.val] w0 (AllQ w0 ob J (allN p n 0 s)) := by
  have hgA : w0.grownBy (w0.alloc (.cells #[f.val] 116)) none := World.grownBy_alloc _ _ _
  have hS : Says true W.heap.size W ob (JF J w0.heap.size f.val 116) ⟨112, #[], #[.pointer (some ⟨w0.heap.size, 0, none⟩)]⟩ (elA 6 xs) n p := by
    intro i hi st w hb hjw
    obtain ⟨a0, a1, a2, a3, a4, a5, hx2, _⟩ := el_6 hx hi
    have hga : w.grownBy (w.alloc (.cells #[a0, a1, a2, a3, a4, a5] 42)) none := World.grownBy_alloc _ _ _
    have hc1 := hf i hi st (w.alloc (.cells #[a0, a1, a2, a3, a4, a5] 42)) (hb.alloc hb.size _) (hst _ _ _ hjw.1 hga)
    rw [hx2] at hc1 ⊢
    refine (allF_1 (R := fun _ w' => (∀ s', p i st = some s' → J s' w') ∧ w.grownBy w' ob) hfo hjw.2 (hc1.mono fun _ _ h => ⟨h.1, h.2.1, (World.grownBy_alloc _ _ _).trans h.2.2⟩)).mono ?_
    rintro e w' ⟨rfl, hj', hg'⟩
    refine ⟨by simp, fun s' e => ⟨hj' s' e, ?_⟩, hg'⟩
    have hlt := (Array.getElem?_eq_some_iff.1 hjw.2).1
    exact (hg'.block _ hlt (fun e => by have := hob2 _ e.symm; omega)).trans hjw.2
  have HI := hide (cfF_any hv (f := ⟨112, #[], #[.pointer (some ⟨w0.heap.size, 0, none⟩)]⟩) (fun vs w => by kernel_rfl) hS hob hx _ s (hw.alloc hw.size _) ⟨hst _ _ _ hj hgA, heap_new _ _⟩)
  obtain ⟨r, hr⟩ : ∃ r, allN p n 0 s = r := ⟨_, rfl⟩
  rw [hr] at HI ⊢
  have HGA := hide (show w0.grownBy (w0.alloc (.cells #[f.val] 116)) ob from World.grownBy_alloc _ _ _)
  obtain ⟨a, c, rfl, hn, h2⟩ := hv
  obtain ⟨fid, fs, cp⟩ := f
  unfold Fv.val at HI HGA ⊢
  simp only at HI HGA ⊢
  clear hf hob hx hw hj h2 hn hr hfo hgA hS hst hob2
  go_enter Tryz.func70, Tryz.ntmps70
  go_wp2_with fail
  refine (unhide HI).mono ?_
  rintro e w1 ⟨rfl, hj1, hg1⟩
  have HJ := hide (fun s' e => (hj1 s' e).1)
  have HG := hide ((unhide HGA).trans hg1)
  clear hj1 hg1 HI HGA
  go_wp2
  go_ret
  exact ⟨by simp, unhide HJ, unhide HG⟩

set_option maxRecDepth 100000 in
set_option maxHeartbeats 2000000 in
theorem cfR_any {σ : Type} {W : World} {ob : Option Nat} {J : σ → World → Prop} {f : Fv} {v : Value} {xs : List Value} {n : Nat} {p : Nat → σ → Option σ} (hv : Rl W v n xs) (hfo : f.ok) (hf : Says true W.heap.size W ob J f (elA 2 xs) n p) (hob : ∀ k, ob = some k → W.heap.size ≤ k) (hx : xs.length = n * 2) (w0 : World) (s : σ) (hw : Below W.heap.size W w0) (hj : J s w0) :
    Calls Tryz.prog 118 #[v, f.val] w0 (fun e w => e = .returned (.bool (!(allN p n 0 s).isSome)) ∧ (∀ s', allN p n 0 s = some s' → J s' w) ∧ w0.grownBy w ob) := by
  have HI := hide (ifR_any hv hfo hf hob hx w0 s hw hj)
  obtain ⟨r, hr⟩ : ∃ r, allN p n 0 s = r := ⟨_, rfl⟩
  rw [hr] at HI ⊢
  obtain ⟨a, c, rfl, hn, h2⟩ := hv
  obtain ⟨fid, fs, cp⟩ := f
  unfold Fv.val at HI ⊢
  simp only at HI ⊢
  clear hf hob hx hw hj h2 hn hr hfo
  go_enter Tryz.func118, Tryz.ntmps118
  go_wp2_with fail
  refine (unhide HI).mono ?_
  rintro e w1 ⟨q, rfl, hq, hj1, hg1⟩
  have HJ := hide hj1
  have HG := hide hg1
  have HQ := hide hq
  clear hj1 hg1 hq HI
  go_wp2
  go_ret
  refine ⟨?_, unhide HJ, unhide HG⟩
  have := unhide HQ
  simp only [← this]
  rfl

set_option maxRecDepth 100000 in
set_option maxHeartbeats 2000000 in
theorem allR_1 {f : Fv} {a0 a1 : Value} {g : Nat} {w : World} {R : Ending → World → Prop} {b : Bool} (hfo : f.ok) (hg : w.heap[g]? = some (.cells #[f.val] 119 (0, 0))) (hc : Calls Tryz.prog f.f (f.fs.push (.agg #[a0, a1]) ++ f.cp) (w.alloc (.cells #[a0, a1] 111)) fun e w' => e = .returned (.bool b) ∧ R e w') :
    Calls Tryz.prog 119 #[.agg #[a0, a1], .pointer (some ⟨g, 0, none⟩)] w fun e w' => e = .returned (.bool (!b)) ∧ R (.returned (.bool b)) w' := by
  have c0 : (w.alloc (.cells #[a0, a1] 111)).cell? ⟨g, 0, none⟩ = some f.val := cell_of_row _ _ _ _ _ _ ((Below.heap_alloc _ _ _ (Array.getElem?_eq_some_iff.1 hg).1).trans hg)
  have hn0 := heap_new w (.cells #[a0, a1] 111)
  have b0 : (w.alloc (.cells #[a0, a1] 111)).cell? ⟨w.heap.size, 0, none⟩ = some a0 := cell_of_row _ _ _ _ _ _ hn0
  have b1 : (w.alloc (.cells #[a0, a1] 111)).cell? ⟨w.heap.size, 1, none⟩ = some a1 := cell_of_row _ _ _ _ _ _ hn0
  clear hn0
  obtain ⟨fid, fs, cp⟩ := f
  unfold Fv.val at c0
  unfold Fv.ok at hfo
  simp only at hc hfo c0
  have HC := hide hc
  clear hc hg
  go_enter Tryz.func119, Tryz.ntmps119
  go_wp2_with fail
  refine (unhide HC).mono ?_
  rintro e w1 ⟨rfl, hr⟩
  have HR := hide hr
  clear hr HC
  go_wp2
  go_ret
  exact ⟨rfl, unhide HR⟩

set_option maxRecDepth 100000 in
set_option maxHeartbeats 2000000 in
theorem allR_any {σ : Type} {W : World} {ob : Option Nat} {J : σ → World → Prop} {f : Fv} {v : Value} {xs : List Value} {n : Nat} {p : Nat → σ → Option σ} (hv : Rl W v n xs) (hfo : f.ok) (hf : Says false W.heap.size W ob J f (elA 2 xs) n p) (hob : ∀ k, ob = some k → W.heap.size ≤ k) (hx : xs.length = n * 2) (w0 : World) (s : σ) (hw : Below W.heap.size W w0) (hj : J s w0) (hst : Stb J) (hob2 : ∀ k, ob = some k → k < w0.heap.size) :
    Calls Tryz.prog 73 #[v, f.val] w0 (AllQ w0 ob J (allN p n 0 s)) := by
  have hgA : w0.grownBy (w0.alloc (.cells #[f.val] 119)) none := World.grownBy_alloc _ _ _
  have hS : Says true W.heap.size W ob (JF J w0.heap.size f.val 119) ⟨119, #[], #[.pointer (some ⟨w0.heap.size, 0, none⟩)]⟩ (elA 2 xs) n p := by
    intro i hi st w hb hjw
    obtain ⟨a0, a1, hx2, _⟩ := el_2 hx hi
    have hga : w.grownBy (w.alloc (.cells #[a0, a1] 111)) none := World.grownBy_alloc _ _ _
    have hc1 := hf i hi st (w.alloc (.cells #[a0, a1] 111)) (hb.alloc hb.size _) (hst _ _ _ hjw.1 hga)
    rw [hx2] at hc1 ⊢
    refine (allR_1 (R := fun _ w' => (∀ s', p i st = some s' → J s' w') ∧ w.grownBy w' ob) hfo hjw.2 (hc1.mono fun _ _ h => ⟨h.1, h.2.1, (World.grownBy_alloc _ _ _).trans h.2.2⟩)).mono ?_
    rintro e w' ⟨rfl, hj', hg'⟩
    refine ⟨by simp, fun s' e => ⟨hj' s' e, ?_⟩, hg'⟩
    have hlt := (Array.getElem?_eq_some_iff.1 hjw.2).1
    exact (hg'.block _ hlt (fun e => by have := hob2 _ e.symm; omega)).trans hjw.2
  have HI := hide (cfR_any hv (f := ⟨119, #[], #[.pointer (some ⟨w0.heap.size, 0, none⟩)]⟩) (fun vs w => by kernel_rfl) hS hob hx _ s (hw.alloc hw.size _) ⟨hst _ _ _ hj hgA, heap_new _ _⟩)
  obtain ⟨r, hr⟩ : ∃ r, allN p n 0 s = r := ⟨_, rfl⟩
  rw [hr] at HI ⊢
  have HGA := hide (show w0.grownBy (w0.alloc (.cells #[f.val] 119)) ob from World.grownBy_alloc _ _ _)
  obtain ⟨a, c, rfl, hn, h2⟩ := hv
  obtain ⟨fid, fs, cp⟩ := f
  unfold Fv.val at HI HGA ⊢
  simp only at HI HGA ⊢
  clear hf hob hx hw hj h2 hn hr hfo hgA hS hst hob2
  go_enter Tryz.func73, Tryz.ntmps73
  go_wp2_with fail
  refine (unhide HI).mono ?_
  rintro e w1 ⟨rfl, hj1, hg1⟩
  have HJ := hide (fun s' e => (hj1 s' e).1)
  have HG := hide ((unhide HGA).trans hg1)
  clear hj1 hg1 HI HGA
  go_wp2
  go_ret
  exact ⟨by simp, unhide HJ, unhide HG⟩

set_option maxRecDepth 100000 in
set_option maxHeartbeats 2000000 in
theorem cfV_any {σ : Type} {W : World} {ob : Option Nat} {J : σ → World → Prop} {f : Fv} {v : Value} {xs : List Value} {n : Nat} {p : Nat → σ → Option σ} (hv : Rl W v n xs) (hfo : f.ok) (hf : Says true W.heap.size W ob J f (elA 2 xs) n p) (hob : ∀ k, ob = some k → W.heap.size ≤ k) (hx : xs.length = n * 2) (w0 : World) (s : σ) (hw : Below W.heap.size W w0) (hj : J s w0) :
    Calls Tryz.prog 122 #[v, f.val] w0 (fun e w => e = .returned (.bool (!(allN p n 0 s).isSome)) ∧ (∀ s', allN p n 0 s = some s' → J s' w) ∧ w0.grownBy w ob) := by
  have HI := hide (ifV_any hv hfo hf hob hx w0 s hw hj)
  obtain ⟨r, hr⟩ : ∃ r, allN p n 0 s = r := ⟨_, rfl⟩
  rw [hr] at HI ⊢
  obtain ⟨a, c, rfl, hn, h2⟩ := hv
  obtain ⟨fid, fs, cp⟩ := f
  unfold Fv.val at HI ⊢
  simp only at HI ⊢
  clear hf hob hx hw hj h2 hn hr hfo
  go_enter Tryz.func122, Tryz.ntmps122
  go_wp2_with fail
  refine (unhide HI).mono ?_
  rintro e w1 ⟨q, rfl, hq, hj1, hg1⟩
  have HJ := hide hj1
  have HG := hide hg1
  have HQ := hide hq
  clear hj1 hg1 hq HI
  go_wp2
  go_ret
  refine ⟨?_, unhide HJ, unhide HG⟩
  have := unhide HQ
  simp only [← this]
  rfl

set_option maxRecDepth 100000 in
set_option maxHeartbeats 2000000 in
theorem allV_1 {f : Fv} {a0 a1 : Value} {g : Nat} {w : World} {R : Ending → World → Prop} {b : Bool} (hfo : f.ok) (hg : w.heap[g]? = some (.cells #[f.val] 122 (0, 0))) (hc : Calls Tryz.prog f.f (f.fs.push (.agg #[a0, a1]) ++ f.cp) (w.alloc (.cells #[a0, a1] 74)) fun e w' => e = .returned (.bool b) ∧ R e w') :
    Calls Tryz.prog 123 #[.agg #[a0, a1], .pointer (some ⟨g, 0, none⟩)] w fun e w' => e = .returned (.bool (!b)) ∧ R (.returned (.bool b)) w' := by
  have c0 : (w.alloc (.cells #[a0, a1] 74)).cell? ⟨g, 0, none⟩ = some f.val := cell_of_row _ _ _ _ _ _ ((Below.heap_alloc _ _ _ (Array.getElem?_eq_some_iff.1 hg).1).trans hg)
  have hn0 := heap_new w (.cells #[a0, a1] 74)
  have b0 : (w.alloc (.cells #[a0, a1] 74)).cell? ⟨w.heap.size, 0, none⟩ = some a0 := cell_of_row _ _ _ _ _ _ hn0
  have b1 : (w.alloc (.cells #[a0, a1] 74)).cell? ⟨w.heap.size, 1, none⟩ = some a1 := cell_of_row _ _ _ _ _ _ hn0
  clear hn0
  obtain ⟨fid, fs, cp⟩ := f
  unfold Fv.val at c0
  unfold Fv.ok at hfo
  simp only at hc hfo c0
  have HC := hide hc
  clear hc hg
  go_enter Tryz.func123, Tryz.ntmps123
  go_wp2_with fail
  refine (unhide HC).mono ?_
  rintro e w1 ⟨rfl, hr⟩
  have HR := hide hr
  clear hr HC
  go_wp2
  go_ret
  exact ⟨rfl, unhide HR⟩

set_option maxRecDepth 100000 in
set_option maxHeartbeats 2000000 in
theorem allV_any {σ : Type} {W : World} {ob : Option Nat} {J : σ → World → Prop} {f : Fv} {v : Value} {xs : List Value} {n : Nat} {p : Nat → σ → Option σ} (hv : Rl W v n xs) (hfo : f.ok) (hf : Says false W.heap.size W ob J f (elA 2 xs) n p) (hob : ∀ k, ob = some k → W.heap.size ≤ k) (hx : xs.length = n * 2) (w0 : World) (s : σ) (hw : Below W.heap.size W w0) (hj : J s w0) (hst : Stb J) (hob2 : ∀ k, ob = some k → k < w0.heap.size) :
    Calls Tryz.prog 78 #[v, f.val] w0 (AllQ w0 ob J (allN p n 0 s)) := by
  have hgA : w0.grownBy (w0.alloc (.cells #[f.val] 122)) none := World.grownBy_alloc _ _ _
  have hS : Says true W.heap.size W ob (JF J w0.heap.size f.val 122) ⟨123, #[], #[.pointer (some ⟨w0.heap.size, 0, none⟩)]⟩ (elA 2 xs) n p := by
    intro i hi st w hb hjw
    obtain ⟨a0, a1, hx2, _⟩ := el_2 hx hi
    have hga : w.grownBy (w.alloc (.cells #[a0, a1] 74)) none := World.grownBy_alloc _ _ _
    have hc1 := hf i hi st (w.alloc (.cells #[a0, a1] 74)) (hb.alloc hb.size _) (hst _ _ _ hjw.1 hga)
    rw [hx2] at hc1 ⊢
    refine (allV_1 (R := fun _ w' => (∀ s', p i st = some s' → J s' w') ∧ w.grownBy w' ob) hfo hjw.2 (hc1.mono fun _ _ h => ⟨h.1, h.2.1, (World.grownBy_alloc _ _ _).trans h.2.2⟩)).mono ?_
    rintro e w' ⟨rfl, hj', hg'⟩
    refine ⟨by simp, fun s' e => ⟨hj' s' e, ?_⟩, hg'⟩
    have hlt := (Array.getElem?_eq_some_iff.1 hjw.2).1
    exact (hg'.block _ hlt (fun e => by have := hob2 _ e.symm; omega)).trans hjw.2
  have HI := hide (cfV_any hv (f := ⟨123, #[], #[.pointer (some ⟨w0.heap.size, 0, none⟩)]⟩) (fun vs w => by kernel_rfl) hS hob hx _ s (hw.alloc hw.size _) ⟨hst _ _ _ hj hgA, heap_new _ _⟩)
  obtain ⟨r, hr⟩ : ∃ r, allN p n 0 s = r := ⟨_, rfl⟩
  rw [hr] at HI ⊢
  have HGA := hide (show w0.grownBy (w0.alloc (.cells #[f.val] 122)) ob from World.grownBy_alloc _ _ _)
  obtain ⟨a, c, rfl, hn, h2⟩ := hv
  obtain ⟨fid, fs, cp⟩ := f
  unfold Fv.val at HI HGA ⊢
  simp only at HI HGA ⊢
  clear hf hob hx hw hj h2 hn hr hfo hgA hS hst hob2
  go_enter Tryz.func78, Tryz.ntmps78
  go_wp2_with fail
  refine (unhide HI).mono ?_
  rintro e w1 ⟨rfl, hj1, hg1⟩
  have HJ := hide (fun s' e => (hj1 s' e).1)
  have HG := hide ((unhide HGA).trans hg1)
  clear hj1 hg1 HI HGA
  go_wp2
  go_ret
  exact ⟨by simp, unhide HJ, unhide HG⟩

end Go.Proofs.YtaadpiimcaabkaaGreatDoor
