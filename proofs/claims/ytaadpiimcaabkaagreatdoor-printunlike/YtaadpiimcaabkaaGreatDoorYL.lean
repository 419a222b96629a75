import Derived.Test.YtaadpiimcaabkaaGreatDoorYK

namespace Go.Proofs.YtaadpiimcaabkaaGreatDoor
open Go.RowKit
attribute [local go_sem ↓] Go.wp_at_zero Go.wp_at_succ

theorem el_4e {w : World} {cs : List Value} {l : List En} (h : EsL w cs l) {i : Nat} (hi : i < l.length) : ∃ vv vr vg, elA 4 cs i = .agg #[.string l[i].name, vv, vr, vg] ∧ Rl w vv l[i].vals.length (evC l[i].vals) ∧ Rl w vr l[i].res.length (rgC l[i].res) ∧ Rl w vg l[i].gone.length (strC l[i].gone) := by
  obtain ⟨vv, vr, vg, h1, h2⟩ := h.at i l[i] (List.getElem?_eq_getElem hi)
  refine ⟨vv, vr, vg, ?_, h2⟩
  unfold elA
  rw [h1]
theorem all_en {W : World} {v : Value} {cs : List Value} {l : List En} (hv : Rl W v l.length cs) (he : EsL W cs l) {b : Nat} (hlo : W.heap.size ≤ b) (w0 : World) (x : Int) (hw : Below W.heap.size W w0) (hj : JL b x w0) :
    Calls Tryz.prog 41 #[v, .func (.func 42) #[.pointer (some ⟨b, 0, none⟩)] #[]] w0 (AllQ w0 (some b) (JL b) (allL enumJ l x)) := by
  have hS : Says false W.heap.size W (some b) (JL b) ⟨42, #[.pointer (some ⟨b, 0, none⟩)], #[]⟩ (elA 4 cs) l.length (fun i x => ((l[i]?).map fun e => enumJ e x).getD none) := by
    intro i hi s w hb hjw
    obtain ⟨vv, vr, vg, e1, h1, h2, h3⟩ := el_4e he hi
    have e2 : ((l[i]?).map fun e => enumJ e s).getD none = enumJ l[i] s := by rw [List.getElem?_eq_getElem hi]; rfl
    simp only [e1, e2, Bool.false_bne]
    show Calls Tryz.prog 42 #[.pointer (some ⟨b, 0, none⟩), .agg #[.string l[i].name, vv, vr, vg]] w _
    exact enum_any h1 h2 h3 hlo w s hb hjw
  have := allE_any hv (fun vs w => by kernel_rfl) hS (fun k e => by obtain rfl := Option.some.inj e; exact hlo) he.len w0 x hw hj (stb_jl b) (fun k e => by obtain rfl := Option.some.inj e; exact (Array.getElem?_eq_some_iff.1 hj.1).1)
  rwa [allN_L (l := l) (q := enumJ) (fun i x s hx => by rw [hx]; rfl) rfl] at this
/-- A message, so many being left; f: how much deeper it may go. -/
noncomputable def msOk (nm : ByteArray) (fs : List Fd) (os : List ByteArray) (rs : List (Int × Int)) (gs : List ByteArray) : Bool := wordB nm && os.all wordB && fs.all fieldB && onB fs os.length && rs.all (rowB 1 536870911) && gs.all wordB
noncomputable def msJ : Nat → Ms → Int → Option Int
  | 0, _, _ => none
  | f + 1, .mk nm fs os ms es rs gs, x => match lessJ (fs.length + os.length + ms.length + es.length + rs.length + gs.length) x with
    | none => none
    | some x1 => if msOk nm fs os rs gs then (match allL (msJ f) ms x1 with
      | none => none
      | some x2 => allL enumJ es x2) else none
/-- No type's text is too long. -/
def SzM : Nat → Ms → Prop
  | 0, _ => True
  | f + 1, .mk _ fs _ ms _ _ _ => (∀ d ∈ fs, d.ty.size ≤ 281474976710656) ∧ ∀ m ∈ ms, SzM f m
/-- What a call of message comes to. -/
def MsgC (f : Nat) : Prop := ∀ (W : World) (b : Nat) (m : Ms) vf vo vm ve vr vg nm fs os ms es rs gs cm ce, W.heap.size ≤ b → HasM W → MsV W m vf vo vm ve vr vg nm fs os ms es rs gs cm ce → SzM f m → ∀ (w0 : World) (x : Int), Below W.heap.size W w0 → JL b x w0 →
  Calls Tryz.prog 40 #[.pointer (some ⟨b, 0, none⟩), .agg #[.string nm, vf, vo, vm, ve, vr, vg], .int .i64 (33 - (f : Int))] w0 (AllQ w0 (some b) (JL b) (msJ f m x))
/-- The judge, and the two blocks that the closure holds. -/
def JM (b g h : Nat) (deep : Int) (x : Int) (w : World) : Prop := JL b x w ∧ w.heap[g]? = some (.cells #[.pointer (some ⟨b, 0, none⟩)] 113 (0, 0)) ∧ w.heap[h]? = some (.cells #[.int .i64 deep] 3 (0, 0))
theorem stb_jm (b g h : Nat) (deep : Int) : Stb (JM b g h deep) := fun _ _ _ hj hg => ⟨stb_jl b _ _ _ hj.1 hg, (hg.block _ (Array.getElem?_eq_some_iff.1 hj.2.1).1 (by simp)).trans hj.2.1, (hg.block _ (Array.getElem?_eq_some_iff.1 hj.2.2).1 (by simp)).trans hj.2.2⟩
theorem el_7m {w : World} {cs : List Value} {l : List Ms} (h : MsL w cs l) {i : Nat} (hi : i < l.length) : ∃ vf vo vm ve vr vg nm fs os ms es rs gs cm ce, elA 7 cs i = .agg #[.string nm, vf, vo, vm, ve, vr, vg] ∧ MsV w l[i] vf vo vm ve vr vg nm fs os ms es rs gs cm ce := by
  obtain ⟨vf, vo, vm, ve, vr, vg, nm, fs, os, ms, es, rs, gs, cm, ce, h1, h2⟩ := h.at i l[i] (List.getElem?_eq_getElem hi)
  refine ⟨vf, vo, vm, ve, vr, vg, nm, fs, os, ms, es, rs, gs, cm, ce, ?_, h2⟩
  unfold elA
  rw [h1]
theorem ms_of {w : World} {b : Nat} {v0 v1 v2 v3 v4 v5 v6 : Value} {t : TypeId} (hn : w.heap[b]? = some (.cells #[v0, v1, v2, v3, v4, v5, v6] t (0, 0))) : w.cell? ⟨b, 0, none⟩ = some v0 ∧ w.cell? ⟨b, 1, none⟩ = some v1 ∧ w.cell? ⟨b, 2, none⟩ = some v2 ∧ w.cell? ⟨b, 3, none⟩ = some v3 ∧ w.cell? ⟨b, 4, none⟩ = some v4 ∧ w.cell? ⟨b, 5, none⟩ = some v5 ∧ w.cell? ⟨b, 6, none⟩ = some v6 :=
  ⟨cell_of_row _ _ _ _ _ _ hn, cell_of_row _ _ _ _ _ _ hn, cell_of_row _ _ _ _ _ _ hn, cell_of_row _ _ _ _ _ _ hn, cell_of_row _ _ _ _ _ _ hn, cell_of_row _ _ _ _ _ _ hn, cell_of_row _ _ _ _ _ _ hn⟩
set_option maxRecDepth 100000 in
set_option maxHeartbeats 1000000 in
/-- The closure over the messages within. -/
theorem msg_1 {w : World} {b g h : Nat} {deep x : Int} {nm : ByteArray} {vf vo vm ve vr vg : Value} (hj : JM b g h deep x w) (hd : -9223372036854775808 ≤ deep ∧ deep < 9223372036854775807) {R : Ending → World → Prop} (hc : Calls Tryz.prog 40 #[.pointer (some ⟨b, 0, none⟩), .agg #[.string nm, vf, vo, vm, ve, vr, vg], .int .i64 (deep + 1)] (w.alloc (.cells #[.string nm, vf, vo, vm, ve, vr, vg] 46)) (fun e w' => (∃ q, e = .returned (.bool q)) ∧ R e w')) :
    Calls Tryz.prog 75 #[.agg #[.string nm, vf, vo, vm, ve, vr, vg], .pointer (some ⟨g, 0, none⟩), .pointer (some ⟨h, 0, none⟩)] w fun e w' => (∃ q, e = .returned (.bool q)) ∧ R e w' := by
  obtain ⟨c0, c1, c2, c3, c4, c5, c6⟩ := ms_of (heap_new w (.cells #[.string nm, vf, vo, vm, ve, vr, vg] 46))
  have g0 : (w.alloc (.cells #[.string nm, vf, vo, vm, ve, vr, vg] 46)).cell? ⟨g, 0, none⟩ = some (.pointer (some ⟨b, 0, none⟩)) := cell_of_row _ _ _ _ _ _ ((Below.heap_alloc _ _ _ (Array.getElem?_eq_some_iff.1 hj.2.1).1).trans hj.2.1)
  have h0 : (w.alloc (.cells #[.string nm, vf, vo, vm, ve, vr, vg] 46)).cell? ⟨h, 0, none⟩ = some (.int .i64 deep) := cell_of_row _ _ _ _ _ _ ((Below.heap_alloc _ _ _ (Array.getElem?_eq_some_iff.1 hj.2.2).1).trans hj.2.2)
  have HC := hide hc
  obtain ⟨d0, d1⟩ := hd
  clear hj hc
  go_enter Tryz.func75, Tryz.ntmps75
  go_wp2_with fail
  refine (unhide HC).mono ?_
  rintro e w1 ⟨⟨q, rfl⟩, hr⟩
  have HR := hide hr
  clear hr HC
  go_wp2
  go_ret
  exact ⟨⟨_, rfl⟩, unhide HR⟩
theorem all_ms {f : Nat} (hf : f ≤ 32) (ih : MsgC f) {W : World} (hM : HasM W) {v : Value} {cs : List Value} {l : List Ms} (hv : Rl W v l.length cs) (he : MsL W cs l) (hsz : ∀ m ∈ l, SzM f m) {b g h : Nat} (hlo : W.heap.size ≤ b) (hbg : b ≠ g) (hbh : b ≠ h) (w0 : World) (x : Int) (hw : Below W.heap.size W w0) (hj : JM b g h (32 - (f : Int)) x w0) :
    Calls Tryz.prog 38 #[v, .func (.func 75) #[] #[.pointer (some ⟨g, 0, none⟩), .pointer (some ⟨h, 0, none⟩)]] w0 (AllQ w0 (some b) (JM b g h (32 - (f : Int))) (allL (msJ f) l x)) := by
  have hS : Says false W.heap.size W (some b) (JM b g h (32 - (f : Int))) ⟨75, #[], #[.pointer (some ⟨g, 0, none⟩), .pointer (some ⟨h, 0, none⟩)]⟩ (elA 7 cs) l.length (fun i x => ((l[i]?).map fun e => msJ f e x).getD none) := by
    intro i hi s w hb hjw
    obtain ⟨vf, vo, vm, ve, vr, vg, nm, fs, os, ms, es, rs, gs, cm, ce, e1, h1⟩ := el_7m he hi
    have e2 : ((l[i]?).map fun e => msJ f e s).getD none = msJ f l[i] s := by rw [List.getElem?_eq_getElem hi]; rfl
    simp only [e1, e2, Bool.false_bne]
    show Calls Tryz.prog 75 #[.agg #[.string nm, vf, vo, vm, ve, vr, vg], .pointer (some ⟨g, 0, none⟩), .pointer (some ⟨h, 0, none⟩)] w _
    refine (msg_1 (R := fun e w' => e = .returned (.bool (msJ f l[i] s).isSome) ∧ (∀ s', msJ f l[i] s = some s' → JM b g h (32 - (f : Int)) s' w') ∧ w.grownBy w' (some b)) hjw (by omega) ?_).mono (fun _ _ h => h.2)
    have hga := World.grownBy_alloc w (.cells #[.string nm, vf, vo, vm, ve, vr, vg] 46) none
    have hja := stb_jm b g h _ _ _ _ hjw hga
    have := ih W b l[i] vf vo vm ve vr vg nm fs os ms es rs gs cm ce hlo hM h1 (hsz _ (List.getElem_mem hi)) _ s (hb.alloc hb.size _) hja.1
    rw [show (32 - (f : Int)) + 1 = 33 - (f : Int) by omega]
    refine this.mono ?_
    rintro e w' ⟨rfl, hj', hg'⟩
    refine ⟨⟨_, rfl⟩, rfl, fun s' e => ⟨hj' s' e, ?_, ?_⟩, (World.grownBy_alloc _ _ _).trans hg'⟩
    · exact (hg'.block _ (Array.getElem?_eq_some_iff.1 hja.2.1).1 (by simpa using fun e => hbg e.symm)).trans hja.2.1
    · exact (hg'.block _ (Array.getElem?_eq_some_iff.1 hja.2.2).1 (by simpa using fun e => hbh e.symm)).trans hja.2.2
  have := allM_any hv (fun vs w => by kernel_rfl) hS (fun k e => by obtain rfl := Option.some.inj e; exact hlo) he.len w0 x hw hj (stb_jm b g h _) (fun k e => by obtain rfl := Option.some.inj e; exact (Array.getElem?_eq_some_iff.1 hj.1.1).1)
  rwa [allN_L (l := l) (q := msJ f) (fun i x s hx => by rw [hx]; rfl) rfl] at this
end Go.Proofs.YtaadpiimcaabkaaGreatDoor
