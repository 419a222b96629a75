import Derived.Test.YtdhncpeemcanlaaGreatDoorJ41
import Derived.Defers
import Derived.Recover
import Derived.Laws.Pointers

namespace Go.Proofs.YtdhncpeemcanlaaGreatDoor
open Go.RowKit
attribute [local go_sem ↓] Go.wp_at_zero Go.wp_at_succ

def Z4 : Array Value := #[.string ⟨#[]⟩, .slice none 0 0, .slice none 0 0, .slice none 0 0]
def fltA (er sp : Int) : Array Value := #[.int .i64 er, .int .i64 0, .int .i64 sp, .string ⟨#[]⟩]
/-- What the deferred function leaves. -/
def Ct (p2 p3 : Nat) (a b : Array Value) (w w' : World) : Prop := w'.heap[p2]? = some (.cells a 34 (0, 0)) ∧ w'.heap[p3]? = some (.cells b 36 (0, 0)) ∧ w'.os = w.os ∧ w'.tape = w.tape ∧ w'.output = w.output ∧ w.heap.size ≤ w'.heap.size ∧ ∀ k, k < w.heap.size → k ≠ p2 → k ≠ p3 → w'.heap[k]? = w.heap[k]?
theorem iface_neq_nil (w : World) (t : TypeId) (v : Value) : Sem.run Tryz.prog (binOp BinOp.neq 20 (.iface t v) .nilIface) w = .ok (.bool true) w := by
  go_simp
theorem ta_fault (w : World) (v : Value) : (Instr.typeAssert (.iface 36 v) 20 36 false).run Tryz.prog w = .ok v w := by
  unfold Instr.typeAssert
  simp [run_underlying Tryz.underlying36]
noncomputable def rcTail : Code := match Tryz.f35.body with
  | some (.seq _ t) => t
  | _ => .skip
noncomputable def rcHead : Code := match Tryz.f35.body with
  | some (.seq a _) => a
  | _ => .skip
theorem rc_split : Tryz.f35.body = some (.seq rcHead rcTail) := rfl
theorem ct_of {p2 p3 : Nat} {w : World} {a0 a1 a2 a3 b0 b1 b2 b3 : Value} (hne : p2 ≠ p3) (h2 : w.heap[p2]? = some (.cells #[a0, a1, a2, a3] 34 (0, 0))) (h3 : w.heap[p3]? = some (.cells #[b0, b1, b2, b3] 36 (0, 0))) (c0 c1 c2 c3 d0 d1 d2 d3 : Value) : Ct p2 p3 #[c0, c1, c2, c3] #[d0, d1, d2, d3] w (set4 (set4 w p2 c0 c1 c2 c3) p3 d0 d1 d2 d3) := by
  obtain ⟨r1, r2⟩ := set4_block h2 c0 c1 c2 c3
  obtain ⟨q1, q2⟩ := set4_block ((r2.block p3 (Array.getElem?_eq_some_iff.1 h3).1 (by simpa using hne.symm)).trans h3) d0 d1 d2 d3
  exact ⟨(q2.block p2 (Array.getElem?_eq_some_iff.1 r1).1 (by simpa using hne)).trans r1, q1, q2.os.trans r2.os, q2.tape.trans r2.tape, q2.output.trans r2.output, Nat.le_trans r2.size q2.size, fun k hk k2 k3 => (q2.block k (Nat.lt_of_lt_of_le hk r2.size) (by simpa using k3)).trans (r2.block k hk (by simpa using k2))⟩
theorem ct_drew {p2 p3 : Nat} {a b : Array Value} {w w' : World} (h : Ct p2 p3 a b w w') : Ct p2 p3 a b w w'.drew := h
set_option maxRecDepth 100000 in
set_option maxHeartbeats 1000000 in
theorem rcTail_p {p2 p3 : Nat} {er sp : Int} {w : World} {a0 a1 a2 a3 b0 b1 b2 b3 : Value} (hne : p2 ≠ p3) (h2 : w.heap[p2]? = some (.cells #[a0, a1, a2, a3] 34 (0, 0))) (h3 : w.heap[p3]? = some (.cells #[b0, b1, b2, b3] 36 (0, 0))) {u : Nat → Value} {Q : Exit → Act → World → Prop}
    (hQ : ∀ tm w', Ct p2 p3 Z4 (fltA er sp) w w' → Q .normal ⟨tm, []⟩ w') : rcTail.wp Tryz.prog Q ⟨#[.pointer (some ⟨p2, 0, none⟩), .pointer (some ⟨p3, 0, none⟩), .iface 36 (.agg (fltA er sp)), u 3, u 4, u 5, u 6, u 7, u 8], []⟩ w := by
  have HQ := hide hQ
  have HCt := hide (ct_of hne h2 h3 (.string ⟨#[]⟩) (.slice none 0 0) (.slice none 0 0) (.slice none 0 0) (.int .i64 er) (.int .i64 0) (.int .i64 sp) (.string ⟨#[]⟩))
  unfold set4 at HCt
  obtain ⟨⟨y0, y1, y2, y3⟩, yf⟩ := cells4 h2
  obtain ⟨⟨z0, z1, z2, z3⟩, zf⟩ := cells4 h3
  have f0 := yf 0
  have f1 := yf 1
  have f2 := yf 2
  have f3 := yf 3
  have e0 := zf 0
  have e1 := zf 1
  have e2 := zf 2
  have e3 := zf 3
  have hfn := iface_neq_nil
  have hta := ta_fault
  unfold fltA at HQ ⊢
  unfold Z4 at HQ
  clear yf zf h2 h3 hQ
  unfold rcTail
  dsimp only [Tryz.f35]
  go_wp2
  go_region
  refine unhide HQ _ _ (ct_drew ?_)
  with_reducible exact unhide HCt
set_option maxRecDepth 100000 in
set_option maxHeartbeats 1000000 in
theorem rcTail_i {p2 p3 : Nat} {w : World} {u : Nat → Value} {Q : Exit → Act → World → Prop} (hQ : ∀ tm, Q .normal ⟨tm, []⟩ w) : rcTail.wp Tryz.prog Q ⟨#[.pointer (some ⟨p2, 0, none⟩), .pointer (some ⟨p3, 0, none⟩), .nilIface, u 3, u 4, u 5, u 6, u 7, u 8], []⟩ w := by
  have HQ := hide hQ
  clear hQ
  unfold rcTail
  dsimp only [Tryz.f35]
  go_wp2
  exact unhide HQ _
set_option maxRecDepth 100000 in
set_option maxHeartbeats 1000000 in
theorem catch_p {p2 p3 : Nat} {er sp : Int} {w : World} {a0 a1 a2 a3 b0 b1 b2 b3 : Value} (hne : p2 ≠ p3) (h2 : w.heap[p2]? = some (.cells #[a0, a1, a2, a3] 34 (0, 0))) (h3 : w.heap[p3]? = some (.cells #[b0, b1, b2, b3] 36 (0, 0))) :
    CallsD Tryz.prog 35 #[.pointer (some ⟨p2, 0, none⟩), .pointer (some ⟨p3, 0, none⟩)] (.panicking [{ v := .iface 36 (.agg (fltA er sp)), recovered := false }]) w fun e u' w' =>
      e = .returned (.tuple #[]) ∧ u' = .panicking [{ v := .iface 36 (.agg (fltA er sp)), recovered := true }] ∧ Ct p2 p3 Z4 (fltA er sp) w w' := by
  refine callsD_of_wpS Tryz.func35 rc_split fun c₀ cs hu => ?_
  apply wpS_seq
  obtain ⟨tl, htl⟩ : ∃ t, rcTail = t := ⟨_, rfl⟩
  rw [htl]
  unfold rcHead
  dsimp only [Tryz.f35]
  apply wpS_region
  simp [wpOpsS, go_sem, recoverD, hu, Exit.thenS]
  rw [← htl]
  refine wpS_of_wp ?_
  simp only [Array.replicate_succ, Array.replicate_zero, List.push_toArray, List.append_toArray, List.nil_append, List.cons_append, List.setIfInBounds_toArray, List.set_cons_zero, List.set_cons_succ]
  refine rcTail_p (u := fun i => [undef, undef, undef, .iface 36 (.agg (fltA er sp))].getD i undef) hne h2 h3 ?_
  intro tm w' hct
  refine ⟨rfl, _, rfl, .tuple #[], ?_, rfl, rfl, hct⟩
  simp [results]
set_option maxRecDepth 100000 in
set_option maxHeartbeats 1000000 in
theorem catch_i {p2 p3 : Nat} {w : World} :
    CallsD Tryz.prog 35 #[.pointer (some ⟨p2, 0, none⟩), .pointer (some ⟨p3, 0, none⟩)] .returning w fun e u' w' => e = .returned (.tuple #[]) ∧ u' = .returning ∧ w' = w := by
  refine callsD_of_wpS Tryz.func35 rc_split fun c₀ cs hu => ?_
  apply wpS_seq
  obtain ⟨tl, htl⟩ : ∃ t, rcTail = t := ⟨_, rfl⟩
  rw [htl]
  unfold rcHead
  dsimp only [Tryz.f35]
  apply wpS_region
  simp [wpOpsS, go_sem, recoverD, hu, Exit.thenS]
  rw [← htl]
  refine wpS_of_wp ?_
  simp only [Array.replicate_succ, Array.replicate_zero, List.push_toArray, List.append_toArray, List.nil_append, List.cons_append, List.setIfInBounds_toArray, List.set_cons_zero, List.set_cons_succ]
  refine rcTail_i (u := fun i => [undef, undef, undef, .nilIface].getD i undef) ?_
  intro tm
  refine ⟨rfl, .returning, ?_, .tuple #[], ?_, rfl, rfl, rfl⟩
  · cases c₀
    simp_all
  · simp [results]
end Go.Proofs.YtdhncpeemcanlaaGreatDoor

namespace Go.Proofs.YtdhncpeemcanlaaGreatDoor
open Go.RowKit
attribute [local go_sem ↓] Go.wp_at_zero Go.wp_at_succ

def RdP (W : World) (r : Except (Int × Int) (Fl × PSt)) (e : Ending) (w : World) : Prop := match r with
  | .error y => e = .returned (.tuple #[.agg Z4, .agg (fltA y.1 y.2)]) ∧ Below W.heap.size W w
  | .ok (x, _) => ∃ fv, e = .returned (.tuple #[fv, .agg (fltA 0 0)]) ∧ NF x fv (fun k => W.heap.size ≤ k) w ∧ Below W.heap.size W w
theorem stable_nf (a : Fl) (x : Value) : Stable (NF a x) := by
  rintro P P' w w' hg ⟨vi, vm, ve, cm, ce, rfl, h1, h2, h3, h4, h5⟩
  exact ⟨vi, vm, ve, cm, ce, rfl, h1.goes hg, h2.goes hg, stable_ms _ _ _ _ _ _ hg h3, h4.goes hg, stable_es _ _ _ _ _ _ hg h5⟩
theorem start_sm {ts : List Tk} (h : ∀ t ∈ ts, t.text.size ≤ 140737488355327) : Sm (startF ts) := by
  unfold startF
  split
  · intro t ht
    exact h t (List.mem_of_mem_take ht)
  · split <;> exact h
theorem start_len {ts : List Tk} (h : ts.length ≤ 16384) : (startF ts).ts.length ≤ 16384 := by
  unfold startF
  split
  · simp only [List.length_take]
    omega
  · split <;> exact h
theorem results_two {P : Program} {fn : Func} {p q : Tmp} {ty tz : TypeId} (h : fn.results = #[.cell p ty, .cell q tz]) (tmps : Array Value) (w : World) (g k : Nat) (t u : TypeId) (cs ds : Array Value) (fr gr : Nat × Nat) (d e : TypeDesc)
    (hp : tmps.getD p undef = .pointer (some ⟨g, 0, none⟩)) (hq : tmps.getD q undef = .pointer (some ⟨k, 0, none⟩)) (hg : w.heap[g]? = some (.cells cs t fr)) (hk : w.heap[k]? = some (.cells ds u gr))
    (hu : P.underlying ty = some d) (hd : (match d with | .struct _ | .array _ _ => true | _ => false) = true) (hi : (P.info? ty).map (·.size) = some cs.size) (hv : P.underlying tz = some e) (he : (match e with | .struct _ | .array _ _ => true | _ => false) = true) (hj : (P.info? tz).map (·.size) = some ds.size) :
    (results fn tmps).run P w = .ok (.tuple #[.agg cs, .agg ds]) w := by
  have hp' : tmps[p]?.getD undef = .pointer (some ⟨g, 0, none⟩) := by simpa using hp
  have hq' : tmps[q]?.getD undef = .pointer (some ⟨k, 0, none⟩) := by simpa using hq
  simp [results, h, hp', hq', asAddr, run_loadVar_row w g t ty cs fr d hg hu hd hi, run_loadVar_row w k u tz ds gr e hk hv he hj]
theorem sizeFt : (Tryz.prog.info? 36).map (·.size) = some 4 := by kernel_rfl
set_option maxRecDepth 100000 in
set_option maxHeartbeats 1000000 in
theorem read_any {W : World} {v : Value} {ts : List Tk} (hF : HasF W) (hE : HasE W) (hM : HasM W) (h : HasTk W W.heap.size W.heap.size v ts) (hs : ∀ t ∈ ts, t.text.size ≤ 140737488355327) (hn : ts.length ≤ 16384) : Calls Tryz.prog 19 #[v] W (RdP W (fileF (startF ts))) := by
  have hmf : ∀ (fn : Fn) (first cap : Array Value) (w : World), (Instr.makeFunc fn first cap).run Tryz.prog w = .ok (.func fn first cap) w := fun _ _ _ _ => rfl
  have hb2 : Below W.heap.size W ((W.alloc (.cells Z4 34)).alloc (.cells (fltA 0 0) 36)) := ((Below.refl _ _).alloc (Nat.le_refl _) _).alloc (by rw [World.size_alloc]; omega) _
  have hx1 : ((W.alloc (.cells Z4 34)).alloc (.cells (fltA 0 0) 36)).heap[W.heap.size]? = some (.cells Z4 34 (0, 0)) := (Below.heap_alloc _ _ _ (by rw [World.size_alloc]; omega)).trans (heap_new _ _)
  have hx2 : ((W.alloc (.cells Z4 34)).alloc (.cells (fltA 0 0) 36)).heap[W.heap.size + 1]? = some (.cells (fltA 0 0) 36 (0, 0)) := by
    have := heap_new (W.alloc (.cells Z4 34)) (.cells (fltA 0 0) 36)
    rw [World.size_alloc] at this
    exact this
  have hsz : ((W.alloc (.cells Z4 34)).alloc (.cells (fltA 0 0) 36)).heap.size = W.heap.size + 2 := by simp only [World.size_alloc]
  have HC := hide (newReader_any (h.new hb2 (by rw [hsz]; omega) (by rw [hsz]; omega)) hn)
  have HX1 := hide hx1
  have HX2 := hide hx2
  have HB2 := hide hb2
  have Hsz := hide hsz
  have HEv := hide (show HasF W ∧ HasE W ∧ HasM W from ⟨hF, hE, hM⟩)
  have HS := hide (start_sm hs)
  have Hn := hide (start_len hn)
  clear hx1 hx2 hb2 hsz hF hE hM h hs hn
  unfold Z4 fltA at HC HX1 HX2 HB2 Hsz
  go_enter_defers Tryz.func19, Tryz.ntmps19
  go_wp2_with fail
  refine (unhide HC).mono ?_
  rintro e w1 ⟨b, rfl, hbl, hbw, hrd⟩
  rw [unhide Hsz] at hbl hbw
  have hbW : Below W.heap.size W w1 := (unhide HB2).trans (hbw.mono (by omega))
  have hev : Env W w1 b := ⟨(unhide HEv).1, (unhide HEv).2.1, (unhide HEv).2.2, hbW, by omega⟩
  have HFl := hide (file_any hev hrd (unhide HS) (unhide Hn))
  have h2 := (hbw.block W.heap.size (by omega)).trans (unhide HX1)
  have h3 := (hbw.block (W.heap.size + 1) (by omega)).trans (unhide HX2)
  have HH2 := hide h2
  have HH3 := hide h3
  have Hbl := hide hbl
  have HbW := hide hbW
  clear h2 h3 hbl hbw hrd hbW hev HC HX1 HX2 HB2 Hsz HEv
  go_wp2_with fail
  refine (unhide HFl).mono ?_
  intro e w2 hcr
  unfold CR at hcr
  cases hr : fileF (startF ts) with
  | error y =>
    rw [hr] at hcr
    obtain ⟨rfl, hg⟩ := hcr
    have hbl := unhide Hbl
    have k2 := (hg.block W.heap.size (Array.getElem?_eq_some_iff.1 (unhide HH2)).1 (by simp; omega)).trans (unhide HH2)
    have k3 := (hg.block (W.heap.size + 1) (Array.getElem?_eq_some_iff.1 (unhide HH3)).1 (by simp; omega)).trans (unhide HH3)
    have hB : Below W.heap.size W w2 := (unhide HbW).grown hg (unhide HbW).size (fun k e => by simp at e; omega)
    show bodyPostD _ _ _ (Exit.panic _) _ _
    refine leaves_cons (f := 35) (args := #[.pointer (some ⟨W.heap.size, 0, none⟩), .pointer (some ⟨W.heap.size + 1, 0, none⟩)]) (by simp) (by simp [go_sem]) ?_
    refine (catch_p (er := y.1) (sp := y.2) (by omega) k2 k3).mono ?_
    rintro e u' w3 ⟨rfl, rfl, hct⟩
    refine ⟨_, results_two rfl _ _ W.heap.size (W.heap.size + 1) 34 36 Z4 (fltA y.1 y.2) (0, 0) (0, 0) _ _ rfl rfl hct.1 hct.2.1 Tryz.underlying34 rfl sizeFl Tryz.underlying36 rfl sizeFt, rfl, ?_⟩
    obtain ⟨_, _, o1, o2, o3, o4, o5⟩ := hct
    exact hB.trans ⟨o1, o2, o3, o4, fun k hk => o5 k (by have := hB.size; omega) (by omega) (by omega)⟩
  | ok y =>
    rw [hr] at hcr
    obtain ⟨fv, rfl, hnf, hrd2, hg⟩ := hcr
    have HNf := hide hnf
    obtain ⟨vi, vm, ve, cm, ce, rfl, q1, q2, _, q4, _⟩ := hnf
    obtain ⟨ia, ic, e1⟩ := row_shape2 q1.1
    obtain ⟨ma, mc, e2⟩ := row_shape2 q2.1
    obtain ⟨ea, ec, e3⟩ := row_shape2 q4.1
    subst e1 e2 e3
    have hbl := unhide Hbl
    have k2 := (hg.block W.heap.size (Array.getElem?_eq_some_iff.1 (unhide HH2)).1 (by simp; omega)).trans (unhide HH2)
    have k3 := (hg.block (W.heap.size + 1) (Array.getElem?_eq_some_iff.1 (unhide HH3)).1 (by simp; omega)).trans (unhide HH3)
    have hB : Below W.heap.size W w2 := (unhide HbW).grown hg (unhide HbW).size (fun k e => by simp at e; omega)
    obtain ⟨⟨y0, y1, y2, y3⟩, yf⟩ := cells4 k2
    obtain ⟨⟨z0, z1, z2, z3⟩, zf⟩ := cells4 k3
    have f0 := yf 0
    have f1 := yf 1
    have f2 := yf 2
    have f3 := yf 3
    have g0 := zf 0
    have g1 := zf 1
    have g2 := zf 2
    have g3 := zf 3
    have hct := ct_of (by omega) k2 k3 (.string y.1.pkg) (.slice ia y.1.imps.length ic) (.slice ma y.1.ms.length mc) (.slice ea y.1.es.length ec) (.int .i64 0) (.int .i64 0) (.int .i64 0) (.string ⟨#[]⟩)
    have hfin : NF y.1 (.agg #[.string y.1.pkg, .slice ia y.1.imps.length ic, .slice ma y.1.ms.length mc, .slice ea y.1.es.length ec]) (fun k => W.heap.size ≤ k) (set4 (set4 w2 W.heap.size (.string y.1.pkg) (.slice ia y.1.imps.length ic) (.slice ma y.1.ms.length mc) (.slice ea y.1.es.length ec)) (W.heap.size + 1) (.int .i64 0) (.int .i64 0) (.int .i64 0) (.string ⟨#[]⟩)) ∧ Below W.heap.size W (set4 (set4 w2 W.heap.size (.string y.1.pkg) (.slice ia y.1.imps.length ic) (.slice ma y.1.ms.length mc) (.slice ea y.1.es.length ec)) (W.heap.size + 1) (.int .i64 0) (.int .i64 0) (.int .i64 0) (.string ⟨#[]⟩)) := by
      obtain ⟨_, _, o1, o2, o3, o4, o5⟩ := hct
      have hw1 : W.heap.size + 2 ≤ w1.heap.size := by have := (Array.getElem?_eq_some_iff.1 (unhide HH3)).1; omega
      exact ⟨stable_nf _ _ _ _ _ _ (fun k hk hl => ⟨by omega, o5 k hl (by omega) (by omega)⟩) (unhide HNf), hB.trans ⟨o1, o2, o3, o4, fun k hk => o5 k (by have := hB.size; omega) (by omega) (by omega)⟩⟩
    have HCt := hide hct
    have HFin := hide hfin
    unfold set4 at HCt HFin
    have Hr := hide hr
    clear hct hfin yf zf k2 k3 hB q1 q2 q4 hrd2 hg HFl hr
    go_wp2
    refine leaves_cons (f := 35) (args := #[.pointer (some ⟨W.heap.size, 0, none⟩), .pointer (some ⟨W.heap.size + 1, 0, none⟩)]) (by simp) (by simp [go_sem]) ?_
    refine catch_i.mono ?_
    rintro e u' w3 ⟨rfl, rfl, hw3⟩
    have hct := unhide HCt
    have hfin := unhide HFin
    rw [← hw3] at hct hfin
    refine ⟨_, results_two rfl _ _ W.heap.size (W.heap.size + 1) 34 36 _ _ (0, 0) (0, 0) _ _ rfl rfl hct.1 hct.2.1 Tryz.underlying34 rfl sizeFl Tryz.underlying36 rfl sizeFt, ?_⟩
    rw [unhide Hr]
    exact ⟨_, rfl, hfin.1, hfin.2⟩
end Go.Proofs.YtdhncpeemcanlaaGreatDoor

namespace Go.Proofs.YtdhncpeemcanlaaGreatDoor
open Go.RowKit
attribute [local go_sem ↓] Go.wp_at_zero Go.wp_at_succ

noncomputable def toksF (ts : List Tk) : Except (Int × Int) (Fl × PSt) := if 16384 < ts.length then .error (2, 0) else fileF (startF ts)
/-- Two answers are stored and handed out. -/
theorem two_done {W w : World} {a0 a1 a2 a3 b0 b1 b2 b3 : Value} (hB : Below W.heap.size W w) (h2 : w.heap[W.heap.size]? = some (.cells #[a0, a1, a2, a3] 34 (0, 0))) (h3 : w.heap[W.heap.size + 1]? = some (.cells #[b0, b1, b2, b3] 36 (0, 0))) (c0 c1 c2 c3 d0 d1 d2 d3 : Value) :
    Ct W.heap.size (W.heap.size + 1) #[c0, c1, c2, c3] #[d0, d1, d2, d3] w (set4 (set4 w W.heap.size c0 c1 c2 c3) (W.heap.size + 1) d0 d1 d2 d3) ∧ Below W.heap.size W (set4 (set4 w W.heap.size c0 c1 c2 c3) (W.heap.size + 1) d0 d1 d2 d3) := by
  have hct := ct_of (by omega) h2 h3 c0 c1 c2 c3 d0 d1 d2 d3
  refine ⟨hct, ?_⟩
  obtain ⟨_, _, o1, o2, o3, o4, o5⟩ := hct
  exact hB.trans ⟨o1, o2, o3, o4, fun k hk => o5 k (by have := hB.size; omega) (by omega) (by omega)⟩
theorem rdp_store {W W0 w : World} {r : Except (Int × Int) (Fl × PSt)} {e : Ending} {a0 a1 a2 a3 b0 b1 b2 b3 : Value} (hB0 : Below W.heap.size W W0) (hl : W.heap.size + 2 ≤ W0.heap.size) (h2 : W0.heap[W.heap.size]? = some (.cells #[a0, a1, a2, a3] 34 (0, 0))) (h3 : W0.heap[W.heap.size + 1]? = some (.cells #[b0, b1, b2, b3] 36 (0, 0))) (h : RdP W0 r e w) :
    ∃ c0 ia il ic ma ml mc ea el ec er sp, e = .returned (.tuple #[.agg #[.string c0, .slice ia il ic, .slice ma ml mc, .slice ea el ec], .agg #[.int .i64 er, .int .i64 0, .int .i64 sp, .string ⟨#[]⟩]]) ∧ w.heap[W.heap.size]? = some (.cells #[a0, a1, a2, a3] 34 (0, 0)) ∧ w.heap[W.heap.size + 1]? = some (.cells #[b0, b1, b2, b3] 36 (0, 0)) ∧
      (set4 (set4 w W.heap.size (.string c0) (.slice ia il ic) (.slice ma ml mc) (.slice ea el ec)) (W.heap.size + 1) (.int .i64 er) (.int .i64 0) (.int .i64 sp) (.string ⟨#[]⟩)).heap[W.heap.size]? = some (.cells #[.string c0, .slice ia il ic, .slice ma ml mc, .slice ea el ec] 34 (0, 0)) ∧
      (set4 (set4 w W.heap.size (.string c0) (.slice ia il ic) (.slice ma ml mc) (.slice ea el ec)) (W.heap.size + 1) (.int .i64 er) (.int .i64 0) (.int .i64 sp) (.string ⟨#[]⟩)).heap[W.heap.size + 1]? = some (.cells #[.int .i64 er, .int .i64 0, .int .i64 sp, .string ⟨#[]⟩] 36 (0, 0)) ∧
      RdP W r e (set4 (set4 w W.heap.size (.string c0) (.slice ia il ic) (.slice ma ml mc) (.slice ea el ec)) (W.heap.size + 1) (.int .i64 er) (.int .i64 0) (.int .i64 sp) (.string ⟨#[]⟩)) := by
  cases hr : r with
  | error y =>
    rw [hr] at h
    obtain ⟨rfl, hb⟩ := h
    have k2 := (hb.block W.heap.size (by omega)).trans h2
    have k3 := (hb.block (W.heap.size + 1) (by omega)).trans h3
    obtain ⟨q1, q2⟩ := two_done (hB0.trans (hb.mono hB0.size)) k2 k3 (.string ⟨#[]⟩) (.slice none 0 0) (.slice none 0 0) (.slice none 0 0) (.int .i64 y.1) (.int .i64 0) (.int .i64 y.2) (.string ⟨#[]⟩)
    exact ⟨_, _, _, _, _, _, _, _, _, _, _, _, rfl, k2, k3, q1.1, q1.2.1, rfl, q2⟩
  | ok y =>
    rw [hr] at h
    obtain ⟨fv, rfl, hnf, hb⟩ := h
    have k2 := (hb.block W.heap.size (by omega)).trans h2
    have k3 := (hb.block (W.heap.size + 1) (by omega)).trans h3
    have hnf0 := hnf
    obtain ⟨vi, vm, ve, cm, ce, rfl, n1, n2, _, n4, _⟩ := hnf
    obtain ⟨ia, ic, e1⟩ := row_shape2 n1.1
    obtain ⟨ma, mc, e2⟩ := row_shape2 n2.1
    obtain ⟨ea, ec, e3⟩ := row_shape2 n4.1
    subst e1 e2 e3
    obtain ⟨q1, q2⟩ := two_done (hB0.trans (hb.mono hB0.size)) k2 k3 (.string y.1.pkg) (.slice ia y.1.imps.length ic) (.slice ma y.1.ms.length mc) (.slice ea y.1.es.length ec) (.int .i64 0) (.int .i64 0) (.int .i64 0) (.string ⟨#[]⟩)
    refine ⟨_, _, _, _, _, _, _, _, _, _, _, _, rfl, k2, k3, q1.1, q1.2.1, _, rfl, ?_, q2⟩
    obtain ⟨_, _, o1, o2, o3, o4, o5⟩ := q1
    exact stable_nf _ _ _ _ _ _ (fun k hk hl => ⟨by omega, o5 k hl (by omega) (by omega)⟩) hnf0
def Al2 (W : World) (er sp : Int) : World := (W.alloc (.cells #[.string ⟨#[]⟩, .slice none 0 0, .slice none 0 0, .slice none 0 0] 34)).alloc (.cells #[.int .i64 er, .int .i64 0, .int .i64 sp, .string ⟨#[]⟩] 36)
theorem al2 (W : World) (er sp : Int) : Below W.heap.size W (Al2 W er sp) ∧ (Al2 W er sp).heap.size = W.heap.size + 2 ∧ (Al2 W er sp).heap[W.heap.size]? = some (.cells #[.string ⟨#[]⟩, .slice none 0 0, .slice none 0 0, .slice none 0 0] 34 (0, 0)) ∧ (Al2 W er sp).heap[W.heap.size + 1]? = some (.cells #[.int .i64 er, .int .i64 0, .int .i64 sp, .string ⟨#[]⟩] 36 (0, 0)) := by
  unfold Al2
  refine ⟨((Below.refl _ _).alloc (Nat.le_refl _) _).alloc (by rw [World.size_alloc]; omega) _, by simp only [World.size_alloc], (Below.heap_alloc _ _ _ (by rw [World.size_alloc]; omega)).trans (heap_new _ _), ?_⟩
  have := heap_new (W.alloc (.cells #[.string ⟨#[]⟩, .slice none 0 0, .slice none 0 0, .slice none 0 0] 34)) (.cells #[.int .i64 er, .int .i64 0, .int .i64 sp, .string ⟨#[]⟩] 36)
  rw [World.size_alloc] at this
  exact this
/-- The end of a call that stores two answers. -/
theorem two_ret {fn : Func} {R : Ending → World → Prop} {tm : Array Value} {w : World} {p q : Tmp} {g k : Nat} {cs ds : Array Value} (h : fn.results = #[.cell p 34, .cell q 36]) (hp : tm.getD p undef = .pointer (some ⟨g, 0, none⟩)) (hq : tm.getD q undef = .pointer (some ⟨k, 0, none⟩)) (hg : w.heap[g]? = some (.cells cs 34 (0, 0))) (hk : w.heap[k]? = some (.cells ds 36 (0, 0))) (hc : cs.size = 4) (hd : ds.size = 4) (hR : R (.returned (.tuple #[.agg cs, .agg ds])) w) : bodyPost Tryz.prog fn R .ret ⟨tm, []⟩ w :=
  bodyPost_ret (results_two h _ _ g k 34 36 cs ds (0, 0) (0, 0) _ _ hp hq hg hk Tryz.underlying34 rfl (by rw [hc]; exact sizeFl) Tryz.underlying36 rfl (by rw [hd]; exact sizeFt)) rfl hR
set_option maxRecDepth 100000 in
set_option maxHeartbeats 1000000 in
theorem ptokens_any {W : World} {v : Value} {ts : List Tk} (hF : HasF W) (hE : HasE W) (hM : HasM W) (h : HasTk W W.heap.size W.heap.size v ts) (hs : ∀ t ∈ ts, t.text.size ≤ 140737488355327) (hn : ts.length ≤ 140737488355327) : Calls Tryz.prog 11 #[v] W (RdP W (toksF ts)) := by
  obtain ⟨a, c, hv, hc, _⟩ := id h
  by_cases hlong : 16384 < ts.length
  · have hd : decide ((16384 : Int) < (ts.length : Int)) = true := by simp; omega
    obtain ⟨hb2, _, hx1, hx2⟩ := al2 W 2 0
    have HE : Hid (RdP W (toksF ts) (.returned (.tuple #[.agg #[.string ⟨#[]⟩, .slice none 0 0, .slice none 0 0, .slice none 0 0], .agg #[.int .i64 2, .int .i64 0, .int .i64 0, .string ⟨#[]⟩]])) (Al2 W 2 0)) := by
      show RdP W (toksF ts) _ _
      unfold toksF
      rw [if_pos hlong]
      exact ⟨rfl, hb2⟩
    have H1 := hide hx1
    have H2 := hide hx2
    unfold Al2 at HE H1 H2
    subst hv
    clear h hs hb2 hx1 hx2 hlong hF hE hM
    go_enter Tryz.func11, Tryz.ntmps11
    go_wp2
    exact two_ret rfl rfl rfl (unhide H1) (unhide H2) rfl rfl (unhide HE)
  · have hd : decide ((16384 : Int) < (ts.length : Int)) = false := by simp; omega
    obtain ⟨hb2, hsz, hx1, hx2⟩ := al2 W 0 0
    have HF : Hid (toksF ts = fileF (startF ts)) := by show _ = _; unfold toksF; rw [if_neg hlong]
    have HC := hide (read_any (hF.up hb2) (hE.up hb2) (hM.up hb2 hM.1) (h.new hb2 (by omega) (by omega)) hs (by omega))
    have HX := hide (fun e w => rdp_store (W := W) (r := fileF (startF ts)) (e := e) (w := w) hb2 (by omega) hx1 hx2)
    unfold Al2 at HC HX
    subst hv
    clear h hs hb2 hsz hx1 hx2 hlong hF hE hM
    go_enter Tryz.func11, Tryz.ntmps11
    go_wp2_with fail
    refine (unhide HC).mono ?_
    intro e w1 hrd
    obtain ⟨c0, ia, il, ic, ma, ml, mc, ea, el, ec, er, sp, rfl, k2, k3, q2, q3, hfin⟩ := unhide HX _ _ hrd
    obtain ⟨⟨y0, y1, y2, y3⟩, yf⟩ := cells4 k2
    obtain ⟨⟨z0, z1, z2, z3⟩, zf⟩ := cells4 k3
    have f0 := yf 0
    have f1 := yf 1
    have f2 := yf 2
    have f3 := yf 3
    have g0 := zf 0
    have g1 := zf 1
    have g2 := zf 2
    have g3 := zf 3
    have Q2 := hide q2
    have Q3 := hide q3
    have HE := hide hfin
    unfold set4 at Q2 Q3 HE
    clear hrd yf zf k2 k3 q2 q3 hfin HC HX
    go_wp2
    refine two_ret rfl rfl rfl (unhide Q2) (unhide Q3) rfl rfl ?_
    rw [unhide HF]
    exact unhide HE
noncomputable def parseF (s : ByteArray) : Except (Int × Int) (Fl × PSt) := match tokR s with
  | .inl ts => toksF (ts.map Tok.tk)
  | .inr (k, c) => .error ((c : Int), (k : Int))
theorem tok_has {W : World} {B lo b : Nat} {v : Value} {ts : List Tok} (h : W.ownsRow B 29 3 v ts.length (tcells ts)) (hl : W.heap.size ≤ lo) (hb : W.heap.size ≤ b) : HasTk W lo b v (ts.map Tok.tk) := by
  rw [tcells_tk] at h
  have hlen : (ts.map Tok.tk).length = ts.length := by simp
  rcases h.2 with ⟨rfl, h0⟩ | ⟨g, c, cur, rfl, h1, h2, h3, h4, _⟩
  · exact ⟨none, 0, by rw [hlen, h0], by rw [hlen]; omega, by unfold maxLen; omega, fun hp => by rw [hlen] at hp; omega⟩
  · have hr : RowT B W (.slice (some ⟨g, 0, none⟩) ts.length c) (ts.map Tok.tk) := by unfold RowT; rw [hlen]; exact h
    have hlt := (Array.getElem?_eq_some_iff.1 h2).1
    refine ⟨_, c, by rw [hlen], by rw [hlen]; exact h3, h4, fun hp => ⟨g, 0, rfl, by omega, by omega, fun i t ht => ?_⟩⟩
    obtain ⟨x1, x2, x3⟩ := hr.cell ht
    rw [Nat.zero_add]
    exact ⟨x1, x2, x3⟩
end Go.Proofs.YtdhncpeemcanlaaGreatDoor
