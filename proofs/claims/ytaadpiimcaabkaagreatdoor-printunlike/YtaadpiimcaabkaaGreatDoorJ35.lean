import Derived.Test.YtaadpiimcaabkaaGreatDoorYM
import Derived.Test.YtaadpiimcaabkaaGreatDoorYAj

namespace Go.Proofs.YtaadpiimcaabkaaGreatDoor
open Go.RowKit
attribute [local go_sem ↓] Go.wp_at_zero Go.wp_at_succ

set_option maxRecDepth 100000 in
set_option maxHeartbeats 4000000 in
theorem message_zero : MsgC 0 := by
  intro W b m vf vo vm ve vr vg nm fs os ms es rs gs cm ce hlo hM hV hs w0 x hw hj
  obtain ⟨rfl, hvf, hvo, hvm, hms, hve, hes, hvr, hvg⟩ := hV
  obtain ⟨af, cf, rfl, hnf, -⟩ := hvf
  obtain ⟨ao, co, rfl, hno, -⟩ := hvo
  obtain ⟨am, cm', rfl, hnm, -⟩ := hvm
  obtain ⟨ae, ce', rfl, hne, -⟩ := hve
  obtain ⟨ar, cr, rfl, hnr, -⟩ := hvr
  obtain ⟨ag, cg, rfl, hng, -⟩ := hvg
  have HJ := hide (jf_new (cs := #[.string nm, .slice af fs.length cf, .slice ao os.length co, .slice am ms.length cm', .slice ae es.length ce', .slice ar rs.length cr, .slice ag gs.length cg]) (deep := 33) hw hj)
  rw [show (33 : Int) - ((0 : Nat) : Int) = 33 by omega]
  unfold msJ
  obtain ⟨V, hV⟩ : ∃ V, ((w0.alloc (.cells #[.pointer (some ⟨b, 0, none⟩)] 113)).alloc (.cells #[.string nm, .slice af fs.length cf, .slice ao os.length co, .slice am ms.length cm', .slice ae es.length ce', .slice ar rs.length cr, .slice ag gs.length cg] 46)).alloc (.cells #[.int .i64 33] 3) = V := ⟨_, rfl⟩
  rw [hV] at HJ
  clear hlo hw hj hM hms hes hs
  have HJD := hide ((unhide HJ).below (below_drewN (Below.refl _ _) 1))
  have hT : (fun w : World => w.cell? ⟨w0.heap.size + 1, 0, none⟩ = some (.string nm) ∧ w.cell? ⟨w0.heap.size + 1, 1, none⟩ = some (.slice af fs.length cf) ∧ w.cell? ⟨w0.heap.size + 1, 2, none⟩ = some (.slice ao os.length co) ∧ w.cell? ⟨w0.heap.size + 1, 3, none⟩ = some (.slice am ms.length cm') ∧ w.cell? ⟨w0.heap.size + 1, 4, none⟩ = some (.slice ae es.length ce') ∧ w.cell? ⟨w0.heap.size + 1, 5, none⟩ = some (.slice ar rs.length cr) ∧ w.cell? ⟨w0.heap.size + 1, 6, none⟩ = some (.slice ag gs.length cg) ∧ w.cell? ⟨w0.heap.size, 0, none⟩ = some (.pointer (some ⟨b, 0, none⟩)) ∧ w.cell? ⟨w0.heap.size + 1 + 1, 0, none⟩ = some (.int .i64 33)) V.drew := (unhide HJD).T
  go_enter Tryz.func40, Tryz.ntmps40
  go_upto_region 1 with fail
  refine wp_region_any (by kernel_rfl) (wpAny_of_Z (z := 199) (T := fun w => w.cell? ⟨w0.heap.size + 1, 0, none⟩ = some (.string nm) ∧ w.cell? ⟨w0.heap.size + 1, 1, none⟩ = some (.slice af fs.length cf) ∧ w.cell? ⟨w0.heap.size + 1, 2, none⟩ = some (.slice ao os.length co) ∧ w.cell? ⟨w0.heap.size + 1, 3, none⟩ = some (.slice am ms.length cm') ∧ w.cell? ⟨w0.heap.size + 1, 4, none⟩ = some (.slice ae es.length ce') ∧ w.cell? ⟨w0.heap.size + 1, 5, none⟩ = some (.slice ar rs.length cr) ∧ w.cell? ⟨w0.heap.size + 1, 6, none⟩ = some (.slice ag gs.length cg) ∧ w.cell? ⟨w0.heap.size, 0, none⟩ = some (.pointer (some ⟨b, 0, none⟩)) ∧ w.cell? ⟨w0.heap.size + 1 + 1, 0, none⟩ = some (.int .i64 33)) _ _ _ _ ?_)
  try (change wpAnyZ _ _ _ _ _ _ _ _ _ (World.drew _))
  refine wpAnyZ_tk 0 (.int .i64 33) 7 rfl rfl (Or.inl ⟨by rfl, fun w hw => by obtain ⟨hw0, hw1, hw2, hw3, hw4, hw5, hw6, hw7, hw8⟩ := hw; go_simp⟩) hT ?_
  simp only [Act.put, List.setIfInBounds_toArray, List.set_cons_zero, List.set_cons_succ]
  refine wpAnyZ_tk 1 (.bool false) 8 rfl rfl (Or.inl ⟨by rfl, fun w hw => by obtain ⟨hw0, hw1, hw2, hw3, hw4, hw5, hw6, hw7, hw8⟩ := hw; go_simp⟩) hT ?_
  simp only [Act.put, List.setIfInBounds_toArray, List.set_cons_zero, List.set_cons_succ]
  refine wpAnyZ_no [2, 3, 4, 5, 6, 7, 8, 9, 10, 11, 12, 13, 14, 15, 16, 17, 18, 19, 20, 21, 22, 23, 24, 25, 26, 27, 28, 29, 30, 31, 32, 33, 34, 35, 36, 37, 38, 39, 40, 41, 42, 43, 44, 45, 46, 47, 48, 49, 50, 51, 52, 53, 54, 55, 56, 57, 58, 59, 60, 61, 62, 63, 64, 65, 66, 67, 68, 69, 70, 71, 72, 73, 74, 75, 76] 6 hT (by kernel_rfl) (fun t' ht => ?_) (by decide) (by kernel_rfl) (fun _ _ _ _ _ h => h)
  go_wp2
  go_ret
  rw [ht]
  exact (unhide HJD).no
theorem message_all : ∀ f, f ≤ 32 → MsgC f
  | 0, _ => message_zero
  | f + 1, h => message_succ f (by omega) (message_all f (by omega))
set_option maxRecDepth 100000 in
set_option maxHeartbeats 1000000 in
/-- The closure over a file's messages. -/
theorem file_1 {w : World} {b : Nat} {nm : ByteArray} {vf vo vm ve vr vg : Value} {R : Ending → World → Prop} (hc : Calls Tryz.prog 40 #[.pointer (some ⟨b, 0, none⟩), .agg #[.string nm, vf, vo, vm, ve, vr, vg], .int .i64 1] (w.alloc (.cells #[.string nm, vf, vo, vm, ve, vr, vg] 46)) (fun e w' => (∃ q, e = .returned (.bool q)) ∧ R e w')) :
    Calls Tryz.prog 39 #[.agg #[.string nm, vf, vo, vm, ve, vr, vg], .pointer (some ⟨b, 0, none⟩)] w fun e w' => (∃ q, e = .returned (.bool q)) ∧ R e w' := by
  obtain ⟨c0, c1, c2, c3, c4, c5, c6⟩ := ms_of (heap_new w (.cells #[.string nm, vf, vo, vm, ve, vr, vg] 46))
  have HC := hide hc
  clear hc
  go_enter Tryz.func39, Tryz.ntmps39
  go_wp2_with fail
  refine (unhide HC).mono ?_
  rintro e w1 ⟨⟨q, rfl⟩, hr⟩
  have HR := hide hr
  clear hr HC
  go_wp2
  go_ret
  exact ⟨⟨_, rfl⟩, unhide HR⟩
theorem all_top {W : World} (hM : HasM W) {v : Value} {cs : List Value} {l : List Ms} (hv : Rl W v l.length cs) (he : MsL W cs l) (hsz : ∀ m ∈ l, SzM 32 m) {b : Nat} (hlo : W.heap.size ≤ b) (w0 : World) (x : Int) (hw : Below W.heap.size W w0) (hj : JL b x w0) :
    Calls Tryz.prog 38 #[v, .func (.func 39) #[] #[.pointer (some ⟨b, 0, none⟩)]] w0 (AllQ w0 (some b) (JL b) (allL (msJ 32) l x)) := by
  have hS : Says false W.heap.size W (some b) (JL b) ⟨39, #[], #[.pointer (some ⟨b, 0, none⟩)]⟩ (elA 7 cs) l.length (fun i x => ((l[i]?).map fun e => msJ 32 e x).getD none) := by
    intro i hi s w hb hjw
    obtain ⟨vf, vo, vm, ve, vr, vg, nm, fs, os, ms, es, rs, gs, cm, ce, e1, h1⟩ := el_7m he hi
    have e2 : ((l[i]?).map fun e => msJ 32 e s).getD none = msJ 32 l[i] s := by rw [List.getElem?_eq_getElem hi]; rfl
    simp only [e1, e2, Bool.false_bne]
    show Calls Tryz.prog 39 #[.agg #[.string nm, vf, vo, vm, ve, vr, vg], .pointer (some ⟨b, 0, none⟩)] w _
    refine (file_1 (R := fun e w' => e = .returned (.bool (msJ 32 l[i] s).isSome) ∧ (∀ s', msJ 32 l[i] s = some s' → JL b s' w') ∧ w.grownBy w' (some b)) ?_).mono (fun _ _ h => h.2)
    have hga := World.grownBy_alloc w (.cells #[.string nm, vf, vo, vm, ve, vr, vg] 46) none
    have := message_all 32 (by omega) W b l[i] vf vo vm ve vr vg nm fs os ms es rs gs cm ce hlo hM h1 (hsz _ (List.getElem_mem hi)) _ s (hb.alloc hb.size _) (stb_jl b _ _ _ hjw hga)
    rw [show (33 : Int) - ((32 : Nat) : Int) = 1 by omega] at this
    refine this.mono ?_
    rintro e w' ⟨rfl, hj', hg'⟩
    exact ⟨⟨_, rfl⟩, rfl, hj', (World.grownBy_alloc _ _ _).trans hg'⟩
  have := allM_any hv (fun vs w => by kernel_rfl) hS (fun k e => by obtain rfl := Option.some.inj e; exact hlo) he.len w0 x hw hj (stb_jl b) (fun k e => by obtain rfl := Option.some.inj e; exact (Array.getElem?_eq_some_iff.1 hj.1).1)
  rwa [allN_L (l := l) (q := msJ 32) (fun i x s hx => by rw [hx]; rfl) rfl] at this
end Go.Proofs.YtaadpiimcaabkaaGreatDoor

namespace Go.Proofs.YtaadpiimcaabkaaGreatDoor
open Go.RowKit
attribute [local go_sem ↓] Go.wp_at_zero Go.wp_at_succ

/-- May these declarations be? -/
noncomputable def fileJ (F : Fl) : Option Int := if F.pkg.toList.isEmpty || namesB F.pkg then match lessJ (F.imps.length + F.ms.length + F.es.length) 4096 with
    | none => none
    | some x1 => if F.imps.all importB then (match allL (msJ 32) F.ms x1 with
      | none => none
      | some x2 => allL enumJ F.es x2) else none
  else none
theorem jd_new {W : World} {cs : Array Value} : Jd W W (W.heap.size + 1) W.heap.size cs 26 4096 ((W.alloc (.cells cs 26)).alloc (.cells #[.int .i64 4096] 76)) := by
  have hg : W.grownBy ((W.alloc (.cells cs 26)).alloc (.cells #[.int .i64 4096] 76)) none := (World.grownBy_alloc _ _ _).trans (World.grownBy_alloc _ _ _)
  have n2 := heap_new (W.alloc (.cells cs 26)) (.cells #[.int .i64 4096] 76)
  rw [World.size_alloc] at n2
  refine ⟨⟨hg.os, hg.tape, hg.output, hg.size, fun k hk => hg.block k hk (by simp)⟩, ⟨n2, by omega, by omega⟩, ?_, hg.but _⟩
  rw [Below.heap_alloc _ _ _ (by rw [World.size_alloc]; omega)]
  exact heap_new _ _
/-- Of a call that may write the judge alone: below all is as it was. -/
theorem jd_end {W w : World} {r : Option Int} {e : Ending} (h : AllQ W (some (W.heap.size + 1)) (JL (W.heap.size + 1)) r e w) : e = .returned (.bool r.isSome) ∧ Below W.heap.size W w := ⟨h.1, h.2.2.os, h.2.2.tape, h.2.2.output, h.2.2.size, fun k hk => h.2.2.block k hk (by simp; omega)⟩
set_option maxRecDepth 100000 in
set_option maxHeartbeats 4000000 in
theorem rightFile_any {W : World} {v vi vm ve : Value} {F : Fl} {cm ce : List Value} (hM : HasM W) (hF : FlL W v F vi vm ve cm ce) (hsz : ∀ m ∈ F.ms, SzM 32 m) : Calls Tryz.prog 19 #[v] W fun e w => e = .returned (.bool (fileJ F).isSome) ∧ Below W.heap.size W w := by
  obtain ⟨rfl, hvi, hvm, hms, hve, hes⟩ := hF
  have HN := hide (fun w (h : HasM w) => names_any h F.pkg)
  have HI := hide (fun w h => all_str hvi (fun vs w => by kernel_rfl) import_any w h)
  have HT := hide (fun w x h j => all_top hM hvm hms hsz (b := W.heap.size + 1) (by omega) w x h j)
  have HE := hide (fun w x h j => all_en hve hes (b := W.heap.size + 1) (by omega) w x h j)
  obtain ⟨ai, ci, rfl, hni, -⟩ := hvi
  obtain ⟨am, cm', rfl, hnm, -⟩ := hvm
  obtain ⟨ae, ce', rfl, hne, -⟩ := hve
  have HC := hide (fun w hjw => count_any (w := w) (b := W.heap.size + 1) (x := 4096) hjw (F.imps.length + F.ms.length + F.es.length) (by omega))
  have HMu : Hid (∀ w, Below W.heap.size W w → HasM w) := fun w h => hM.up h hM.1
  have HJ := hide (jd_new (W := W) (cs := #[.string F.pkg, .slice ai F.imps.length ci, .slice am F.ms.length cm', .slice ae F.es.length ce']))
  obtain ⟨pk, im, ml, el⟩ := F
  unfold fileJ
  simp only at *
  obtain ⟨q0, h0⟩ : ∃ q, pk.toList.isEmpty = q := ⟨_, rfl⟩
  obtain ⟨q1, h1⟩ : ∃ q, namesB pk = q := ⟨_, rfl⟩
  obtain ⟨q2, h2⟩ : ∃ q, im.all importB = q := ⟨_, rfl⟩
  obtain ⟨lx, hlx⟩ : ∃ l, lessJ (im.length + ml.length + el.length) 4096 = l := ⟨_, rfl⟩
  obtain ⟨am1, ham1⟩ : ∃ l, allL (msJ 32) ml = l := ⟨_, rfl⟩
  obtain ⟨ae1, hae1⟩ : ∃ l, allL enumJ el = l := ⟨_, rfl⟩
  rw [h1] at HN ⊢
  rw [h2] at HI ⊢
  rw [hlx] at HC ⊢
  rw [ham1] at HT ⊢
  rw [hae1] at HE ⊢
  rw [h0]
  obtain ⟨V, hV⟩ : ∃ V, (W.alloc (.cells #[.string pk, .slice ai im.length ci, .slice am ml.length cm', .slice ae el.length ce'] 26)).alloc (.cells #[.int .i64 4096] 76) = V := ⟨_, rfl⟩
  rw [hV] at HJ
  obtain ⟨c0, c1, c2, c3⟩ := en_of (unhide HJ).blk
  clear h1 h2 hlx ham1 hae1 hM hms hes hsz
  cases q0 with
  | true =>
    clear HN HMu
    go_enter Tryz.func19, Tryz.ntmps19
    go_wp2_with fail
    refine (unhide HC _ (unhide HJ).jl).mono ?_
    rintro e w2 ⟨rfl, hj2, hg2⟩
    clear c0 c1 c2 c3
    cases lx with
    | none =>
      have HX := hide (show AllQ W (some (W.heap.size + 1)) (JL (W.heap.size + 1)) none (.returned (.bool false)) w2 from ⟨rfl, fun _ e => (by cases e), (unhide HJ).grw.trans hg2⟩)
      clear hj2 hg2
      go_wp2
      go_ret
      exact jd_end (unhide HX)
    | some x1 =>
    have HJ2 := hide ((unhide HJ).go (by omega) (by omega) hg2 (hj2 _ rfl))
    obtain ⟨d0, d1, d2, d3⟩ := en_of (unhide HJ2).blk
    clear hj2 hg2 HC HJ
    go_wp2_with fail
    refine (unhide HI _ (unhide HJ2).bel).mono ?_
    rintro e w3 ⟨rfl, hb3⟩
    have HJ3 := hide ((unhide HJ2).below hb3)
    clear d0 d1 d2 d3 hb3 HI HJ2
    cases q2 with
    | false =>
      go_wp2
      go_ret
      exact jd_end (unhide HJ3).no
    | true =>
    obtain ⟨d0, d1, d2, d3⟩ := en_of (unhide HJ3).blk
    go_wp2_with fail
    refine (unhide HT _ x1 (unhide HJ3).bel (unhide HJ3).jl).mono ?_
    rintro e w4 ⟨rfl, hj4, hg4⟩
    clear d0 d1 d2 d3
    cases hq4 : am1 x1 with
    | none =>
      have HX := hide (show AllQ W (some (W.heap.size + 1)) (JL (W.heap.size + 1)) none (.returned (.bool false)) w4 from ⟨rfl, fun _ e => (by cases e), (unhide HJ3).grw.trans hg4⟩)
      clear hj4 hg4
      go_wp2
      go_ret
      exact jd_end (unhide HX)
    | some x2 =>
    have HJ4 := hide ((unhide HJ3).go (by omega) (by omega) hg4 (hj4 _ hq4))
    obtain ⟨d0, d1, d2, d3⟩ := en_of (unhide HJ4).blk
    clear hj4 hg4 HT HJ3
    go_wp2_with fail
    refine (unhide HE _ x2 (unhide HJ4).bel (unhide HJ4).jl).mono ?_
    rintro e w5 ⟨rfl, hj5, hg5⟩
    clear d0 d1 d2 d3
    have HX := hide (show AllQ W (some (W.heap.size + 1)) (JL (W.heap.size + 1)) (ae1 x2) (.returned (.bool (ae1 x2).isSome)) w5 from ⟨rfl, hj5, (unhide HJ4).grw.trans hg5⟩)
    clear hj5 hg5 HE HJ4
    go_wp2
    go_ret
    exact jd_end (unhide HX)
  | false =>
    go_enter Tryz.func19, Tryz.ntmps19
    go_wp2_with fail
    refine (unhide HN _ (unhide HMu _ (unhide HJ).bel)).mono ?_
    rintro e w1 ⟨rfl, hb1⟩
    have HJ1 := hide ((unhide HJ).below hb1)
    clear hb1 HJ HN HMu c0 c1 c2 c3
    cases q1 with
    | false =>
      go_wp2
      go_ret
      exact jd_end (unhide HJ1).no
    | true =>
    obtain ⟨d0, d1, d2, d3⟩ := en_of (unhide HJ1).blk
    go_wp2_with fail
    refine (unhide HC _ (unhide HJ1).jl).mono ?_
    rintro e w2 ⟨rfl, hj2, hg2⟩
    clear d0 d1 d2 d3
    cases lx with
    | none =>
      have HX := hide (show AllQ W (some (W.heap.size + 1)) (JL (W.heap.size + 1)) none (.returned (.bool false)) w2 from ⟨rfl, fun _ e => (by cases e), (unhide HJ1).grw.trans hg2⟩)
      clear hj2 hg2
      go_wp2
      go_ret
      exact jd_end (unhide HX)
    | some x1 =>
    have HJ2 := hide ((unhide HJ1).go (by omega) (by omega) hg2 (hj2 _ rfl))
    obtain ⟨d0, d1, d2, d3⟩ := en_of (unhide HJ2).blk
    clear hj2 hg2 HC HJ1
    go_wp2_with fail
    refine (unhide HI _ (unhide HJ2).bel).mono ?_
    rintro e w3 ⟨rfl, hb3⟩
    have HJ3 := hide ((unhide HJ2).below hb3)
    clear d0 d1 d2 d3 hb3 HI HJ2
    cases q2 with
    | false =>
      go_wp2
      go_ret
      exact jd_end (unhide HJ3).no
    | true =>
    obtain ⟨d0, d1, d2, d3⟩ := en_of (unhide HJ3).blk
    go_wp2_with fail
    refine (unhide HT _ x1 (unhide HJ3).bel (unhide HJ3).jl).mono ?_
    rintro e w4 ⟨rfl, hj4, hg4⟩
    clear d0 d1 d2 d3
    cases hq4 : am1 x1 with
    | none =>
      have HX := hide (show AllQ W (some (W.heap.size + 1)) (JL (W.heap.size + 1)) none (.returned (.bool false)) w4 from ⟨rfl, fun _ e => (by cases e), (unhide HJ3).grw.trans hg4⟩)
      clear hj4 hg4
      go_wp2
      go_ret
      exact jd_end (unhide HX)
    | some x2 =>
    have HJ4 := hide ((unhide HJ3).go (by omega) (by omega) hg4 (hj4 _ hq4))
    obtain ⟨d0, d1, d2, d3⟩ := en_of (unhide HJ4).blk
    clear hj4 hg4 HT HJ3
    go_wp2_with fail
    refine (unhide HE _ x2 (unhide HJ4).bel (unhide HJ4).jl).mono ?_
    rintro e w5 ⟨rfl, hj5, hg5⟩
    clear d0 d1 d2 d3
    have HX := hide (show AllQ W (some (W.heap.size + 1)) (JL (W.heap.size + 1)) (ae1 x2) (.returned (.bool (ae1 x2).isSome)) w5 from ⟨rfl, hj5, (unhide HJ4).grw.trans hg5⟩)
    clear hj5 hg5 HE HJ4
    go_wp2
    go_ret
    exact jd_end (unhide HX)
end Go.Proofs.YtaadpiimcaabkaaGreatDoor

namespace Go.Proofs.YtaadpiimcaabkaaGreatDoor
open Go.RowKit

theorem word_ident {s : ByteArray} (h : wordB s = true) : IdentP s := @of_decide_eq_true _ (Classical.propDecidable _) h
theorem word_size {s : ByteArray} (h : wordB s = true) : s.size ≤ 255 := (word_ident h).1.2
theorem names_size {s : ByteArray} (h : namesB s = true) : s.size ≤ 255 := by
  unfold namesB at h
  simp only [Bool.and_eq_true, decide_eq_true_eq] at h
  exact h.1
theorem type_size {s : ByteArray} (h : typeB s = true) : s.size ≤ 255 := by
  unfold typeB at h
  simp only [Bool.and_eq_true, decide_eq_true_eq] at h
  exact h.1
theorem empty_size {s : ByteArray} (h : s.toList.isEmpty = true) : s.size = 0 := by
  have : s.toList = [] := by simpa using h
  rw [toList_data] at this
  have h2 := congrArg List.length this
  rw [Array.length_toList] at h2
  exact h2
theorem card_ok {d : Fd} (h : cardB d = true) : d.key.size ≤ 255 ∧ (d.card = 1 ∨ d.oneof = 0) := by
  unfold cardB at h
  split at h
  · rename_i hc; exact ⟨by have := empty_size h; omega, .inl hc⟩
  · split at h
    · simp only [Bool.and_eq_true] at h; exact ⟨by have := empty_size h.1; omega, .inr (by simpa using h.2)⟩
    · split at h
      · simp only [Bool.and_eq_true] at h; exact ⟨type_size h.1, .inr (by simpa using h.2)⟩
      · cases h
theorem field_ok {d : Fd} (h : fieldB d = true) : ((0 ≤ d.num ∧ d.num ≤ 2147483647) ∧ d.key.size ≤ 255 ∧ d.ty.size ≤ 255) ∧ d.name.size ≤ 255 := by
  unfold fieldB at h
  simp only [Bool.and_eq_true, decide_eq_true_eq] at h
  obtain ⟨⟨⟨⟨h1, h2⟩, h3⟩, h4⟩, h5⟩ := h
  exact ⟨⟨h2, (card_ok h4).1, type_size h3⟩, word_size h1⟩
theorem lineL_len (n : Nat) (ps : List ByteArray) : (lineL n ps).length = 2 * n + (ps.map ByteArray.size).sum + 1 := by
  have h : ∀ l : List ByteArray, (l.flatMap strN).length = (l.map ByteArray.size).sum := by
    intro l
    induction l with
    | nil => rfl
    | cons a r ih => rw [List.flatMap_cons, List.length_append, ih, List.map_cons, List.sum_cons, strN_len]
  unfold lineL
  rw [List.length_append, List.length_append, List.length_replicate, h]
  rfl
theorem lineL_byt (n : Nat) (ps : List ByteArray) : Byt (lineL n ps) := by
  unfold lineL
  intro x hx
  simp only [List.mem_append, List.mem_replicate, List.mem_flatMap, List.mem_singleton] at hx
  rcases hx with (⟨_, rfl⟩ | ⟨s, _, hs⟩) | rfl
  · decide
  · exact strN_byt s x hs
  · decide
theorem qAll_len (s : ByteArray) : ∀ m k, s.size - k ≤ m → (qAll s k).length ≤ 4 * (s.size - k) := by
  intro m
  induction m with
  | zero => intro k hm; rw [qAll_end (by omega)]; simp
  | succ m ih =>
    intro k hm
    by_cases hk : k < s.size
    · rw [qAll_step hk, List.length_append]
      have h1 := qn_pos s k
      have h2 := qn_le hk
      have h3 := @qs_len s k
      have h4 := ih (k + qn s k) (by omega)
      omega
    · rw [qAll_end hk]; simp
theorem quoteB_size {s : ByteArray} (h : s.size ≤ 255) : (quoteB s).size ≤ 1022 := by
  unfold quoteB
  rw [ofN_size]
  have := qAll_len s _ 0 (Nat.le_refl _)
  simp only [List.length_append, List.length_cons, List.length_nil]
  omega
theorem typeT_size {d : Fd} (hk : d.key.size ≤ 255) (ht : d.ty.size ≤ 255) : (typeT d).size ≤ 520 := by
  have e1 : sOpt.size = 9 := rfl
  have e2 : sRep.size = 9 := rfl
  have e3 : sMap.size = 4 := rfl
  have e4 : sCom.size = 2 := rfl
  have e5 : sGt.size = 1 := rfl
  unfold typeT
  split
  · rw [ByteArray.size_append]; omega
  · split
    · rw [ByteArray.size_append]; omega
    · split
      · simp only [ByteArray.size_append]; omega
      · omega
theorem rowT_size {m : Int} {r : Int × Int} (h1 : -2147483648 ≤ r.1 ∧ r.1 ≤ 2147483647) (h2 : -2147483648 ≤ r.2 ∧ r.2 ≤ 2147483647) : (rowT m r).size ≤ 46 := by
  have e1 : sTo.size = 4 := rfl
  have e2 : sToMax.size = 7 := rfl
  have z1 := itoaB_size (n := r.1) (by omega) (by omega)
  have z2 := itoaB_size (n := r.2) (by omega) (by omega)
  unfold rowT
  split
  · omega
  · split
    · rw [ByteArray.size_append]; omega
    · simp only [ByteArray.size_append]; omega
theorem joinTail_len (k : Nat) (sep : List UInt8) : ∀ l : List (List UInt8), (∀ x ∈ l, x.length ≤ k) → (Lib.joinTail sep l).length ≤ (k + sep.length) * l.length
  | [], _ => by simp [Lib.joinTail]
  | a :: r, h => by
    have ih := joinTail_len k sep r (fun x hx => h x (List.mem_cons_of_mem _ hx))
    have h1 := h a (List.mem_cons_self ..)
    have e : Lib.joinTail sep (a :: r) = sep ++ a ++ Lib.joinTail sep r := by simp [Lib.joinTail]
    rw [e, List.length_append, List.length_append, List.length_cons, Nat.mul_succ]
    omega
theorem joinB_size {k : Nat} : ∀ ts : List ByteArray, (∀ t ∈ ts, t.size ≤ k) → (joinB ts).size ≤ (k + 2) * ts.length
  | [], _ => Nat.le_refl 0
  | a :: r, h => by
    have h1 := h a (List.mem_cons_self ..)
    have h2 := joinTail_len k [44, 32] (r.map (·.data.toList)) (fun x hx => by
      obtain ⟨t, ht, rfl⟩ := List.mem_map.1 hx
      have := h t (List.mem_cons_of_mem _ ht)
      rw [Array.length_toList]
      exact this)
    have e : (joinB (a :: r)).size = a.size + (Lib.joinTail [44, 32] (r.map (·.data.toList))).length := by
      unfold joinB
      rw [List.map_cons, Lib.join_cons]
      show (List.toArray _).size = _
      rw [List.size_toArray, List.length_append, Array.length_toList]
      rfl
    rw [e, List.length_cons, Nat.mul_succ]
    rw [List.length_map] at h2
    have e3 : k + [(44 : UInt8), 32].length = k + 2 := rfl
    rw [e3] at h2
    omega
theorem resL_len {n k : Nat} {ts : List ByteArray} (h : ∀ t ∈ ts, t.size ≤ k) : (resL n ts).length ≤ (2 * n + k + 20) * ts.length := by
  unfold resL
  split
  · rename_i h0
    have h1 := joinB_size ts h
    rw [lineL_len]
    simp only [List.map_cons, List.map_nil, List.sum_cons, List.sum_nil]
    have e1 : sResv.size = 9 := rfl
    have e2 : sSemi.size = 1 := rfl
    obtain ⟨m, hm⟩ : ∃ m, ts.length = m + 1 := ⟨ts.length - 1, by omega⟩
    have h3 : (2 * n + k + 20) * ts.length = (k + 2) * ts.length + (2 * n + 18) * ts.length := by rw [← Nat.add_mul]; congr 1; omega
    have h4 : 2 * n + 18 ≤ (2 * n + 18) * ts.length := Nat.le_mul_of_pos_right _ h0
    omega
  · simp
theorem flat_bd {α : Type} {g : α → List Nat} {k : Nat} : ∀ l : List α, (∀ x ∈ l, (g x).length ≤ k) → (l.flatMap g).length ≤ k * l.length
  | [], _ => by simp
  | a :: r, h => by
    have ih := flat_bd r (fun x hx => h x (List.mem_cons_of_mem _ hx))
    have h1 := h a (List.mem_cons_self ..)
    rw [List.flatMap_cons, List.length_append, List.length_cons, Nat.mul_succ]
    omega
theorem row_ok {lo hi : Int} (h0 : -2147483648 ≤ lo) (h1 : hi ≤ 2147483647) {rs : List (Int × Int)} (h : rs.all (rowB lo hi) = true) : ∀ r ∈ rs, (-2147483648 ≤ r.1 ∧ r.1 ≤ 2147483647) ∧ (-2147483648 ≤ r.2 ∧ r.2 ≤ 2147483647) := by
  intro r hr
  have := List.all_eq_true.1 h r hr
  unfold rowB at this
  simp only [Bool.and_eq_true, decide_eq_true_eq] at this
  omega
theorem rsvL_len {n : Nat} (hn : n ≤ 100) {most : Int} {rs : List (Int × Int)} {gs : List ByteArray} (hr : ∀ r ∈ rs, (-2147483648 ≤ r.1 ∧ r.1 ≤ 2147483647) ∧ (-2147483648 ≤ r.2 ∧ r.2 ≤ 2147483647)) (hg : ∀ s ∈ gs, s.size ≤ 255) : (rsvL n most rs gs).length ≤ 2000 * (rs.length + gs.length) := by
  unfold rsvL
  have h1 := resL_len (n := n) (k := 46) (ts := rs.map (rowT most)) (fun t ht => by obtain ⟨r, hr2, rfl⟩ := List.mem_map.1 ht; exact rowT_size (hr r hr2).1 (hr r hr2).2)
  have h2 := resL_len (n := n) (k := 1022) (ts := gs.map quoteB) (fun t ht => by obtain ⟨s, hs, rfl⟩ := List.mem_map.1 ht; exact quoteB_size (hg s hs))
  rw [List.length_map] at h1 h2
  rw [List.length_append, Nat.mul_add]
  have h3 := Nat.mul_le_mul_right rs.length (show 2 * n + 46 + 20 ≤ 2000 by omega)
  have h4 := Nat.mul_le_mul_right gs.length (show 2 * n + 1022 + 20 ≤ 2000 by omega)
  omega
theorem fieldL_len {n : Nat} (hn : n ≤ 100) {d : Fd} (h : fieldB d = true) : (fieldL n d).length ≤ 2000 := by
  obtain ⟨⟨h1, h2, h3⟩, h4⟩ := field_ok h
  unfold fieldL
  rw [lineL_len]
  simp only [List.map_cons, List.map_nil, List.sum_cons, List.sum_nil]
  have e1 : sSp.size = 1 := rfl
  have e2 : sSemi.size = 1 := rfl
  have e3 : sEq.size = 3 := rfl
  have z1 := itoaB_size (n := d.num) (by omega) (by omega)
  have z2 := typeT_size h2 h3
  omega
theorem blkL_len {n : Nat} (hn : n ≤ 100) {a b : ByteArray} (ha : a.size ≤ 10) (hb : b.size ≤ 255) (I : List Nat) : (blkL n a b I).length ≤ 2000 + I.length := by
  unfold blkL
  rw [List.length_append, List.length_append, lineL_len, lineL_len]
  simp only [List.map_cons, List.map_nil, List.sum_cons, List.sum_nil]
  have e1 : (⟨#[32]⟩ : ByteArray).size = 1 := rfl
  have e2 : (⟨#[32, 123]⟩ : ByteArray).size = 2 := rfl
  have e3 : (⟨#[125]⟩ : ByteArray).size = 1 := rfl
  omega
theorem enum_len {n : Nat} (hn : n ≤ 100) {e : En} (h : enumOk e = true) (hx : e.res.length ≤ 4096 ∧ e.gone.length ≤ 4096) : OkE e ∧ e.name.size ≤ 255 ∧ (valsL n e).length ≤ 2000 * (e.vals.length + e.res.length + e.gone.length) := by
  unfold enumOk at h
  simp only [Bool.and_eq_true, decide_eq_true_eq] at h
  obtain ⟨⟨⟨⟨h1, h2⟩, h3⟩, h4⟩, h5⟩ := h
  have r2 := row_ok (by decide) (by decide) h4
  have g2 : ∀ s ∈ e.gone, s.size ≤ 255 := fun s hs => word_size (List.all_eq_true.1 h5 s hs)
  have v2 : ∀ v ∈ e.vals, v.1.size ≤ 255 ∧ -2147483648 ≤ v.2 ∧ v.2 ≤ 2147483647 := fun v hv => by
    have := List.all_eq_true.1 h3 v hv
    unfold valueB at this
    simp only [Bool.and_eq_true, decide_eq_true_eq] at this
    exact ⟨word_size this.1.1.1, this.2⟩
  refine ⟨⟨hx.1, r2, hx.2, fun s hs => by have := g2 s hs; omega, fun v hv => (v2 v hv).2⟩, word_size h1, ?_⟩
  unfold valsL
  rw [List.length_append]
  have q1 := rsvL_len hn (most := 2147483647) r2 g2
  have q2 := flat_bd (g := valL n) (k := 2000) e.vals (fun v hv => by
    unfold valL
    rw [lineL_len]
    simp only [List.map_cons, List.map_nil, List.sum_cons, List.sum_nil]
    have e2 : sSemi.size = 1 := rfl
    have e3 : sEq.size = 3 := rfl
    have z0 := v2 v hv
    have z1 := itoaB_size (n := v.2) (by omega) (by omega)
    omega)
  rw [Nat.add_assoc, Nat.mul_add]
  omega
end Go.Proofs.YtaadpiimcaabkaaGreatDoor
