import Derived.Test.YthodjkeppobcmaaDoorKM
import Derived.Outline

namespace Go.Proofs.YthodjkeppobcmaaDoor
open Go.RowKit Go.Lib
attribute [local go_sem ↓] Go.wp_at_zero Go.wp_at_succ

def TP (V : World × World) (s : ByteArray) (bb b : Nat) (r : RR) (e : Ending) (w : World) : Prop := match r with
  | .error (c, p) => e = flt (c : Int) (p : Int) ∧ Fw V bb b w
  | .ok (l, _) => e = .returned (.tuple #[]) ∧ ∃ a, Sc V s bb b a 0 l w
theorem TP.split {V : World × World} {s : ByteArray} {bb b : Nat} {r : RR} {e : Ending} {w : World} (h : TP V s bb b r e w) : (∃ c p, r = .error (c, p) ∧ e = flt (c : Int) (p : Int) ∧ Fw V bb b w) ∨ ∃ l p a, r = .ok (l, p) ∧ e = .returned (.tuple #[]) ∧ Sc V s bb b a 0 l w := by
  match r, h with
  | .error (c, p), h => exact .inl ⟨c, p, rfl, h⟩
  | .ok (l, p), ⟨h1, a, h2⟩ => exact .inr ⟨l, p, a, rfl, h1, h2⟩
set_option maxRecDepth 100000 in
theorem checked1_any {V : World × World} {s : ByteArray} {bb b q : Nat} {W : World} (hE : HasE V.1) (hs : s.size ≤ 67108864) (h : Sc V s bb b 0 0 [] W) (hq : V.2.heap[q]? = some (.cells #[.pointer (some ⟨b, 0, none⟩)] 48 (0, 0))) (hq1 : q ≠ bb) (hq2 : q ≠ b) : Calls Tryd.prog 14 #[.pointer (some ⟨q, 0, none⟩)] W (TP V s bb b (topR (strN s))) := by
  have HQ : Hid (∀ w, Fw V bb b w → w.cell? ⟨q, 0, none⟩ = some (.pointer (some ⟨b, 0, none⟩))) := fun w hw => by
    rw [cell_of_row _ _ _ _ _ _ (hw.2 q _ _ _ hq1 hq2 hq (by decide))]
    rfl
  have c0 := unhide HQ W h.bel
  have HC := hide (value_any hE hs 200 0 rfl 0 [] W h)
  have HEnd : Hid (∀ a out w, Sc V s bb b a 0 out w → Calls Tryd.prog 16 #[.pointer (some ⟨b, 0, none⟩)] w (fun e w => if skB (strN s) a < s.size then e = flt 120 (skB (strN s) a : Int) ∧ Fw V bb b w else e = .returned (.tuple #[]) ∧ Sc V s bb b (skB (strN s) a) 0 out w)) := fun a out w hw => end_any hw hs
  obtain ⟨R, hR⟩ : ∃ R, topR (strN s) = R := ⟨_, rfl⟩
  have HR : Hid (R = (valR (strN s) 200 0).go fun p => if skB (strN s) p < (strN s).length then .error (120, skB (strN s) p) else .ok ([], p)) := hR.symm
  have HL := hide (strN_len s)
  rw [hR]
  clear h hE hR hq
  go_enter Tryd.func14, Tryd.ntmps14
  go_wp2_with fail
  refine (unhide HC).mono ?_
  intro e w1 h1
  rcases h1.split with ⟨c, p, hr, rfl, hb⟩ | ⟨l, p, v, hr, rfl, rfl, h2⟩
  · have HF : TP V s bb b R (flt (c : Int) (p : Int)) w1 := by
      rw [unhide HR, hr]
      exact ⟨rfl, hb⟩
    exact ⟨rfl, HF⟩
  have HR2 : Hid (R = RR.pre l (if skB (strN s) p < s.size then .error (120, skB (strN s) p) else .ok ([], p))) := by
    show _ = _
    rw [unhide HR, hr, unhide HL]
    rfl
  have c1 := unhide HQ w1 h2.bel
  have h3 : Sc V s bb b p 0 l w1 := h2
  have HC2 := hide (unhide HEnd p l w1 h3)
  clear h1 hr h2 h3 HC HR c0 HEnd
  go_wp2_with fail
  refine (unhide HC2).mono ?_
  intro e w2 h4
  by_cases hq : skB (strN s) p < s.size
  · rw [if_pos hq] at h4
    obtain ⟨rfl, hb⟩ := h4
    have HF : TP V s bb b R (flt 120 (skB (strN s) p : Int)) w2 := by
      rw [unhide HR2, if_pos hq]
      exact ⟨rfl, hb⟩
    exact ⟨rfl, HF⟩
  · rw [if_neg hq] at h4
    obtain ⟨rfl, h5⟩ := h4
    have HF : Hid (TP V s bb b R (.returned (.tuple #[])) w2) := by
      show TP _ _ _ _ _ _ _
      rw [unhide HR2, if_neg hq]
      refine ⟨rfl, skB (strN s) p, ?_⟩
      rw [List.append_nil]
      exact h5
    clear h5 HC2 HR2
    go_wp2
    go_end0
    exact unhide HF
theorem Sc.base {V1 U : World} {s : ByteArray} {bb b a op : Nat} {out : List Nat} {W w : World} (h : Sc (V1, U) s bb b a op out W) (hb : Below W.heap.size W w) : Sc (V1, w) s bb b a op out w := by
  have := h.up hb
  exact ⟨this.blk, this.bld, this.ne, this.lo, ⟨this.bel.1, fun _ _ _ _ _ _ k _ => k⟩, this.le, this.len, this.op⟩
theorem Fw.back {V1 U W : World} {bb b : Nat} {w : World} (h : Fw (V1, U) bb b w) (hb : Below W.heap.size W U) : Fw (V1, W) bb b w :=
  ⟨h.1, fun d cs ty fr h1 h2 h3 h4 => h.2 d cs ty fr h1 h2 ((hb.block d (Array.getElem?_eq_some_iff.1 h3).1).trans h3) h4⟩
theorem Fw.put {V1 W : World} {bb b p : Nat} {w w' : World} (h : Fw (V1, W) bb b w) (hg : w.grownBy w' (some p)) (hp : W.heap.size ≤ p) (hv : V1.heap.size ≤ p) : Fw (V1, W) bb b w' :=
  ⟨h.1.grown hg h.1.size (fun k e => by simp at e; show V1.heap.size ≤ k; omega), fun d cs ty fr h1 h2 h3 h4 => (hg.block d (Array.getElem?_eq_some_iff.1 (h.2 d cs ty fr h1 h2 h3 h4)).1 (by have : d < W.heap.size := (Array.getElem?_eq_some_iff.1 h3).1; simp; omega)).trans (h.2 d cs ty fr h1 h2 h3 h4)⟩
theorem Sc.put {V1 U W : World} {s : ByteArray} {bb b a op p : Nat} {out : List Nat} {w w' : World} {cs : Array Value} {t : TypeId} {fr : Nat × Nat} (h : Sc (V1, U) s bb b a op out w) (hb : Below W.heap.size W U) (hg : w.grownBy w' (some p)) (hp : W.heap.size ≤ p) (hv : V1.heap.size ≤ p) (h1 : p ≠ bb) (h2 : p ≠ b) (h3 : w.heap[p]? = some (.cells cs t fr)) (h4 : t ≠ 5) : Sc (V1, W) s bb b a op out w' :=
  ⟨(hg.block b (Array.getElem?_eq_some_iff.1 h.blk).1 (by simpa using h2.symm)).trans h.blk, h.bld.kept hg h3 h4 h1.symm, h.ne, h.lo, (h.bel.back hb).put hg hp hv, h.le, h.len, h.op⟩
/-- What caught and checked answer: the fault; the builder holds the bytes. -/
def CP (V1 W : World) (s : ByteArray) (bb b : Nat) (r : RR) (e : Ending) (w : World) : Prop := match r with
  | .error (c, p) => e = .returned (.agg (fltA (c : Int) (p : Int))) ∧ Fw (V1, W) bb b w
  | .ok (l, _) => e = .returned (.agg (fltA 0 0)) ∧ ∃ a, Sc (V1, W) s bb b a 0 l w
theorem sizeFt : (Tryd.prog.info? 24).map (·.size) = some 4 := by kernel_rfl
set_option maxRecDepth 100000 in
set_option maxHeartbeats 1000000 in
theorem caught_any {V1 U : World} {s : ByteArray} {bb b q : Nat} {W : World} (hE : HasE V1) (hs : s.size ≤ 67108864) (h : Sc (V1, U) s bb b 0 0 [] W) (hq : W.heap[q]? = some (.cells #[.pointer (some ⟨b, 0, none⟩)] 48 (0, 0))) (hq1 : q ≠ bb) (hq2 : q ≠ b) : Calls Tryd.prog 13 #[.func (.func 14) #[] #[.pointer (some ⟨q, 0, none⟩)]] W (CP V1 W s bb b (topR (strN s))) := by
  have hmf : ∀ (fn : Fn) (first cap : Array Value) (w : World), (Instr.makeFunc fn first cap).run Tryd.prog w = .ok (.func fn first cap) w := fun _ _ _ _ => rfl
  have hb2 : Below W.heap.size W (W.alloc (.cells (fltA 0 0) 24)) := (Below.refl _ _).alloc (Nat.le_refl _) _
  have hx : (W.alloc (.cells (fltA 0 0) 24)).heap[W.heap.size]? = some (.cells (fltA 0 0) 24 (0, 0)) := heap_new _ _
  have h0 := h.base hb2
  have hbl : b < W.heap.size := (Array.getElem?_eq_some_iff.1 h.blk).1
  have hbb : bb < W.heap.size := by
    rcases h.bld with k | k
    · obtain ⟨_, _, k2, _⟩ := k; exact (Array.getElem?_eq_some_iff.1 k2).1
    · obtain ⟨_, _, k2, _⟩ := k; exact (Array.getElem?_eq_some_iff.1 k2).1
  have HL := hide (show b < W.heap.size ∧ bb < W.heap.size ∧ V1.heap.size ≤ W.heap.size from ⟨hbl, hbb, h.bel.1.size⟩)
  have HC := hide (checked1_any (V := (V1, W.alloc (.cells (fltA 0 0) 24))) hE hs h0 ((hb2.block q (Array.getElem?_eq_some_iff.1 hq).1).trans hq) hq1 hq2)
  have HX := hide hx
  have HB2 := hide hb2
  unfold fltA at HC HX HB2
  obtain ⟨R, hR⟩ : ∃ R, topR (strN s) = R := ⟨_, rfl⟩
  rw [hR] at HC ⊢
  clear h hE hq hb2 hx h0 hbl hbb hR
  go_enter_defers Tryd.func13, Tryd.ntmps13
  go_wp2_with fail
  refine (unhide HC).mono ?_
  intro e w2 h2
  obtain ⟨hl1, hl2, hl3⟩ := unhide HL
  rcases h2.split with ⟨c, p, hr, rfl, hf⟩ | ⟨l, p, a, hr, rfl, hS⟩
  · have k3 := hf.2 W.heap.size _ _ _ (by omega) (by omega) (unhide HX) (by decide)
    show bodyPostD _ _ _ (Exit.panic _) _ _
    refine leaves_cons (f := 24) (args := #[.pointer (some ⟨W.heap.size, 0, none⟩)]) (by simp) (by simp [go_sem]) ?_
    refine (catch_p (er := (c : Int)) (sp := (p : Int)) k3).mono ?_
    rintro e u' w3 ⟨rfl, rfl, rfl⟩
    obtain ⟨r1, r2⟩ := set4_block k3 (.int .i64 (c : Int)) (.int .i64 0) (.int .i64 (p : Int)) (.string ⟨#[]⟩)
    refine ⟨_, results_cell_row rfl _ _ W.heap.size 24 (fltA (c : Int) (p : Int)) (0, 0) _ rfl r1 Tryd.underlying24 rfl sizeFt, ?_⟩
    rw [hr]
    exact ⟨rfl, (hf.back (unhide HB2)).put r2 (Nat.le_refl _) hl3⟩
  · have k3 := hS.bel.2 W.heap.size _ _ _ (by omega) (by omega) (unhide HX) (by decide)
    obtain ⟨r1, r2⟩ := set4_block k3 (.int .i64 0) (.int .i64 0) (.int .i64 0) (.string ⟨#[]⟩)
    have hfin := hS.put (unhide HB2) r2 (Nat.le_refl _) hl3 (by omega) (by omega) k3 (by decide)
    obtain ⟨⟨z0, z1, z2, z3⟩, zf⟩ := cells4 k3
    have g0 := zf 0
    have g1 := zf 1
    have g2 := zf 2
    have g3 := zf 3
    have R1 := hide r1
    have HF := hide hfin
    have Hr := hide hr
    unfold set4 at R1 HF
    clear r1 r2 hfin zf k3 hS h2 HC hr
    go_wp2
    refine leaves_cons (f := 24) (args := #[.pointer (some ⟨W.heap.size, 0, none⟩)]) (by simp) (by simp [go_sem]) ?_
    refine catch_i.mono ?_
    rintro e u' w3 ⟨rfl, rfl, hw3⟩
    have r1 := unhide R1
    have hfin := unhide HF
    rw [← hw3] at r1 hfin
    refine ⟨_, results_cell_row rfl _ _ W.heap.size 24 (fltA 0 0) (0, 0) _ rfl r1 Tryd.underlying24 rfl sizeFt, ?_⟩
    rw [unhide Hr]
    exact ⟨rfl, _, hfin⟩
end Go.Proofs.YthodjkeppobcmaaDoor
