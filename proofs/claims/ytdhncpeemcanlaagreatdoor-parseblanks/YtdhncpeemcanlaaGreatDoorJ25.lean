import Derived.Test.YtdhncpeemcanlaaGreatDoorPbB
import Derived.MapKept
import Derived.Maps.Own

namespace Go.Proofs.YtdhncpeemcanlaaGreatDoor
open Go.RowKit
attribute [local go_sem ↓] Go.wp_at_zero Go.wp_at_succ

/-- A table of words in memory. -/
def WMap (mb : Nat) (tab : List (ByteArray × Value)) (P : Nat → Prop) (w : World) : Prop := (∃ es clock, w.heap[mb]? = some (.map es clock) ∧ es.toList.map (fun e => (e.key, e.val)) = tab.map fun p => (Value.string p.1, p.2)) ∧ P mb
theorem stable_map (mb : Nat) (tab : List (ByteArray × Value)) : Stable (WMap mb tab) := by
  intro P P' w w' hg h
  obtain ⟨⟨es, clock, h1, h2⟩, hp⟩ := h
  obtain ⟨h3, h4⟩ := hg mb hp (Array.getElem?_eq_some_iff.1 h1).1
  exact ⟨⟨es, clock, h4.trans h1, h2⟩, h3⟩
def findW (k : ByteArray) : List (ByteArray × Value) → Option Value
  | [] => none
  | (x, v) :: r => if (k == x) = true then some v else findW k r
theorem findNow_tab (k : ByteArray) : ∀ (es : List MapEntry) (tab : List (ByteArray × Value)) (i : Nat), es.map (fun e => (e.key, e.val)) = tab.map (fun p => (Value.string p.1, p.2)) →
    (findW k tab = none ∧ Instr.findNow .string (.string k) es i = some none) ∨ ∃ v j, findW k tab = some v ∧ Instr.findNow .string (.string k) es i = some (some (j, v))
  | [], [], i, _ => .inl ⟨rfl, rfl⟩
  | [], p :: r, i, h => by simp at h
  | e :: es, [], i, h => by simp at h
  | e :: es, p :: r, i, h => by
    simp only [List.map_cons, List.cons.injEq, Prod.mk.injEq] at h
    obtain ⟨⟨h1, h2⟩, h3⟩ := h
    have ih := findNow_tab k es r (i + 1) h3
    unfold findW Instr.findNow
    rw [h1]
    simp only [Instr.sameNow]
    cases hk : (k == p.1) with
    | true => exact .inr ⟨p.2, i, by simp, by rw [h2]⟩
    | false => simpa using ih
theorem undW : Tryz.prog.underlying 102 = some (.map 9 1) := by kernel_rfl
theorem undS : Tryz.prog.underlying 9 = some .string := by kernel_rfl
theorem checkS (w : World) (e : Bool) (k : ByteArray) : (Instr.checkKey e 10000 9 (.string k)).run Tryz.prog w = .ok () w := by
  rw [show (10000 : Nat) = 9999 + 1 from rfl]
  unfold Instr.checkKey
  simp [run_underlying undS]
theorem findS (w : World) (k : ByteArray) (es : List MapEntry) {r : Option (Nat × Value)} (h : Instr.findNow .string (.string k) es 0 = some r) : (Instr.findKey 9 (.string k) es).run Tryz.prog w = .ok r w := by
  unfold Instr.findKey
  simp [run_underlying undS, h]
theorem run_lookW {w : World} {mb : Nat} {tab : List (ByteArray × Value)} {P : Nat → Prop} (h : WMap mb tab P w) (k : ByteArray) : (Instr.lookup 102 (.map (some mb)) (.string k) false).run Tryz.prog w = .ok ((findW k tab).getD .nilFunc) w := by
  obtain ⟨⟨es, clock, h1, h2⟩, _⟩ := h
  unfold Instr.lookup
  rcases findNow_tab k es.toList tab 0 h2 with ⟨q1, q2⟩ | ⟨v, j, q1, q2⟩
  · simp [run_underlying undW, MapKept.run_getObj_map h1, checkS, findS w k _ q2, q1]
  · simp [run_underlying undW, MapKept.run_getObj_map h1, checkS, findS w k _ q2, q1]
theorem run_insW {w : World} {mb : Nat} {tab : List (ByteArray × Value)} {P : Nat → Prop} (h : WMap mb tab P w) (k : ByteArray) (v : Value) (hk : findW k tab = none) : ∃ w', (Instr.mapUpdate 102 (.map (some mb)) (.string k) v).run Tryz.prog w = .ok () w' ∧ WMap mb (tab ++ [(k, v)]) P w' ∧ w.grownBy w' (some mb) := by
  obtain ⟨⟨es, clock, h1, h2⟩, hp⟩ := h
  have hlt := (Array.getElem?_eq_some_iff.1 h1).1
  refine ⟨{ w with heap := w.heap.setIfInBounds mb (.map (es.push { key := .string k, val := v, born := clock }) (clock + 1)) }, ?_, ⟨⟨es.push { key := .string k, val := v, born := clock }, clock + 1, ?_, ?_⟩, hp⟩, ⟨rfl, rfl, rfl, ?_, fun i hi hne => ?_⟩⟩
  · unfold Instr.mapUpdate
    rcases findNow_tab k es.toList tab 0 h2 with ⟨q1, q2⟩ | ⟨v', j, q1, q2⟩
    · simp [run_underlying undW, MapKept.run_getObj_map h1, checkS, findS w k _ q2, MapKept.run_setObj_map _ h1]
    · rw [hk] at q1; cases q1
  · simp [hlt]
  · simp [h2]
  · simp
  · simp at hne
    simp [Ne.symm hne]
theorem wmap_new (w : World) : WMap w.heap.size [] (fun k => w.heap.size ≤ k) (w.alloc (.map #[] 0)) := ⟨⟨#[], 0, (MapKept.heap_alloc w _).1, rfl⟩, Nat.le_refl _⟩
/-- The law at an insert. -/
theorem wpList_insW (w : World) {ops : Array Oper} {rest : List Oper} {o : Oper} {a : Act} {Q : Exit → Act → World → Prop} (hg : o.guard = none) (m x v : Operand) (hop : o.op = Op.insert 102 m x v) (mb : Nat) (tab : List (ByteArray × Value)) (P : Nat → Prop) (k : ByteArray) (val : Value)
    (hm : a.eval m = .map (some mb)) (hx : a.eval x = .string k) (hv : a.eval v = val) (h : WMap mb tab P w) (hk : findW k tab = none) (hK : ∀ w', WMap mb (tab ++ [(k, val)]) P w' → w.grownBy w' (some mb) → wpList Tryz.prog ops Q rest (a.put o.dst undef) w') : wpList Tryz.prog ops Q (o :: rest) a w := by
  refine wpList_plain hg fun K' hK' => ?_
  obtain ⟨w', hrun, r1, r2⟩ := run_insW h k val hk
  unfold Oper.wp
  simp [execOp, hop, hm, hx, hv, hrun, Result.andThen]
  exact hK' _ _ (hK w' r1 r2)
/-- A function value that may be called. -/
def CallsV (v : Value) (args : Array Value) (w : World) (R : Ending → World → Prop) : Prop := ∃ f fs cp, v = .func (.func f) fs cp ∧ (∀ vs, (callFunc f vs).run Tryz.prog w = .ok (.enter f vs) w) ∧ Calls Tryz.prog f (fs ++ args ++ cp) w R
theorem CallsV.mono {v : Value} {args : Array Value} {w : World} {R R' : Ending → World → Prop} (h : CallsV v args w R) (hi : ∀ e w', R e w' → R' e w') : CallsV v args w R' := by
  obtain ⟨f, fs, cp, e, h1, h2⟩ := h
  exact ⟨f, fs, cp, e, h1, h2.mono hi⟩
theorem wpList_callV (w : World) {ops : Array Oper} {rest : List Oper} {o : Oper} {a : Act} {Q : Exit → Act → World → Prop} (hg : o.guard = none) (fo : Operand) (hop : o.op = .call { callee := .value fo, args := #[], argTypes := #[] }) (v : Value) (hfo : a.eval fo = v) {R : Ending → World → Prop} (hc : CallsV v #[] w R)
    (hK : ∀ e w', R e w' → (∃ u, e = .returned u ∧ wpList Tryz.prog ops Q rest (a.put o.dst u) w') ∨ ∃ ch, e = .panicked ch ∧ Q (.panic ch) a w') : wpList Tryz.prog ops Q (o :: rest) a w := by
  obtain ⟨f, fs, cp, rfl, h1, h2⟩ := hc
  refine wpList_plain hg fun K' hK' => ?_
  have h3 : Oper.wp Tryz.prog o a w K' Q = o.upon Tryz.prog a K' Q (.ok (.enter f (fs ++ #[] ++ cp)) w) := by
    unfold Oper.wp
    simp [execOp, hop, resolve, invoke, hfo, Deferred.ofValue, h1]
  rw [h3, Oper.upon_enter]
  refine h2.mono ?_
  intro e w' hr
  rcases hK e w' hr with ⟨u, rfl, hk⟩ | ⟨ch, rfl, hq⟩
  · exact hK' _ _ hk
  · exact hq
end Go.Proofs.YtdhncpeemcanlaaGreatDoor

namespace Go.Proofs.YtdhncpeemcanlaaGreatDoor
open Go.RowKit
attribute [local go_sem ↓] Go.wp_at_zero Go.wp_at_succ

/-- What a part of a statement comes to. -/
def IP {σ : Type} (I : σ → PSt → World → Prop) (Er : World → Prop) (r : Except (Int × Int) (σ × PSt)) (e : Ending) (w : World) : Prop := match r with
  | .error y => e = flt y.1 y.2 ∧ Er w
  | .ok (x, s) => e = .returned (.tuple #[]) ∧ I x s w
theorem IP.split {σ : Type} {I : σ → PSt → World → Prop} {Er : World → Prop} {r : Except (Int × Int) (σ × PSt)} {e : Ending} {w : World} (h : IP I Er r e w) : (∃ y, r = .error y ∧ e = flt y.1 y.2 ∧ Er w) ∨ ∃ x s, r = .ok (x, s) ∧ e = .returned (.tuple #[]) ∧ I x s w := by
  unfold IP at h
  cases r with
  | error y => exact .inl ⟨y, rfl, h⟩
  | ok y => exact .inr ⟨y.1, y.2, rfl, h⟩
abbrev Stp (σ : Type) := σ → PSt → Except (Int × Int) (σ × PSt)
/-- A table of words with what they do. -/
structure WTab {σ : Type} (I : σ → PSt → World → Prop) (Er : World → Prop) (lo b mb : Nat) (tab : List (ByteArray × Value)) (ov : Value) (F : ByteArray → Option (Stp σ)) (O : Stp σ) : Prop where
  rd : ∀ x s w, I x s w → Rd lo w b s
  step : ∀ x s w s' w', I x s w → Rd lo w' b s' → w.grownBy w' (some b) → Suf s s' → I x s' w'
  er : ∀ x s w w', I x s w → w.grownBy w' (some b) → Er w'
  map : ∀ x s w, I x s w → ∃ P, WMap mb tab P w
  look : ∀ k, (findW k tab = none ∧ F k = none) ∨ ∃ fn fs cp f, findW k tab = some (.func fn fs cp) ∧ F k = some f
  word : ∀ k v f, findW k tab = some v → F k = some f → ∀ x s w, I x s w → s.here.kind = 1 → s.here.text = k → CallsV v #[] w (IP I Er (f x s))
  other : ∀ x s w, I x s w → CallsV ov #[] w (IP I Er (O x s))
theorem WTab.up {σ : Type} {I : σ → PSt → World → Prop} {Er : World → Prop} {lo b mb : Nat} {tab : List (ByteArray × Value)} {ov : Value} {F : ByteArray → Option (Stp σ)} {O : Stp σ} (h : WTab I Er lo b mb tab ov F O) {x : σ} {s : PSt} {w w' : World} (hi : I x s w) (hb : Below w.heap.size w w') : I x s w' :=
  h.step x s w s w' hi ((h.rd x s w hi).up hb) (below_grown b hb) (.refl _)
def stmtF {σ : Type} (F : ByteArray → Option (Stp σ)) (O : Stp σ) : Stp σ := fun x s => match ptakeF 4 ⟨#[59]⟩ s with
  | .error e => .error e
  | .ok (true, s') => .ok (x, s')
  | .ok (false, _) => match F s.here.text with
    | some f => if s.here.kind = 1 then f x s else O x s
    | none => O x s
theorem equalIn_fn_nil {P : Program} (w : World) (d : Nat) (t : TypeId) (ps rs : Array TypeId) (vr : Bool) (g : Fn) (pa lb : Array Value) (h : P.underlying t = some (.func ps rs vr)) : (Op.equalIn (d + 1) t (.func g pa lb) .nilFunc).run P w = .ok false w := by
  simp [Op.equalIn, run_underlying h]
theorem equal_fn_nil {P : Program} (w : World) (t : TypeId) (ps rs : Array TypeId) (vr : Bool) (g : Fn) (pa lb : Array Value) (h : P.underlying t = some (.func ps rs vr)) : (Op.equal t (.func g pa lb) .nilFunc).run P w = .ok false w := equalIn_fn_nil w 9999 t ps rs vr g pa lb h
theorem fn_neq_nil (g : Fn) (pa lb : Array Value) (w : World) : Sem.run Tryz.prog (binOp BinOp.neq 1 (.func g pa lb) .nilFunc) w = .ok (.bool true) w := by
  simp only [binOp]
  simp [equal_fn_nil w 1 _ _ _ g pa lb Tryz.underlying1]
theorem equalIn_nil_nil {P : Program} (w : World) (d : Nat) (t : TypeId) (ps rs : Array TypeId) (vr : Bool) (h : P.underlying t = some (.func ps rs vr)) : (Op.equalIn (d + 1) t .nilFunc .nilFunc).run P w = .ok true w := by
  simp [Op.equalIn, run_underlying h]
theorem equal_nil_nil {P : Program} (w : World) (t : TypeId) (ps rs : Array TypeId) (vr : Bool) (h : P.underlying t = some (.func ps rs vr)) : (Op.equal t .nilFunc .nilFunc).run P w = .ok true w := equalIn_nil_nil w 9999 t ps rs vr h
theorem nil_neq_nil (w : World) : Sem.run Tryz.prog (binOp BinOp.neq 1 .nilFunc .nilFunc) w = .ok (.bool false) w := by
  simp only [binOp]
  simp [equal_nil_nil w 1 _ _ _ Tryz.underlying1]
section
variable {σ : Type} {I : σ → PSt → World → Prop} {Er : World → Prop} {lo b mb : Nat} {tab : List (ByteArray × Value)} {ov : Value} {F : ByteArray → Option (Stp σ)} {O : Stp σ}
set_option maxRecDepth 100000 in
set_option maxHeartbeats 4000000 in
theorem statement_any (h : WTab I Er lo b mb tab ov F O) {x : σ} {s : PSt} {W : World} (hi : I x s W) : Calls Tryz.prog 52 #[.pointer (some ⟨b, 0, none⟩), .map (some mb), ov] W (IP I Er (stmtF F O x s)) := by
  have hd := h.rd x s W hi
  have HC := hide (takeSign_any hd ⟨#[59]⟩)
  have HI := hide hi
  have HT := hide h
  clear hd hi h
  go_enter Tryz.func52, Tryz.ntmps52
  go_wp2_with fail
  refine (unhide HC).mono ?_
  intro e w1 hw
  rcases hw.split with ⟨y, hr, rfl, hg⟩ | ⟨f, s1, hr, rfl, h1, hg⟩
  · refine ⟨rfl, ?_⟩
    unfold stmtF
    rw [hr]
    exact ⟨rfl, (unhide HT).er x s W _ (unhide HI) hg⟩
  · cases f with
    | true =>
      have HE : Hid (IP I Er (stmtF F O x s) (.returned (.tuple #[])) w1) := by
        unfold stmtF
        rw [hr]
        exact ⟨rfl, (unhide HT).step x s W s1 w1 (unhide HI) h1 hg (suf_take hr)⟩
      clear hw hr hg h1 HC
      go_wp2
      go_end0
      exact unhide HE
    | false =>
      have hs1 : s1 = s := by
        rcases take_ok hr with ⟨_, e⟩ | ⟨e, _⟩
        · exact e
        · cases e
      subst hs1
      have HI1 := hide ((unhide HT).step x s1 W s1 w1 (unhide HI) h1 hg (.refl _))
      have HF : Hid (stmtF F O x s1 = match F s1.here.text with | some f => if s1.here.kind = 1 then f x s1 else O x s1 | none => O x s1) := by
        show _ = _
        conv => lhs; unfold stmtF
        rw [hr]
      have H1 := hide h1
      clear hw hr hg h1 HC HI
      go_wp2_with fail
      refine (here_any (unhide H1)).mono ?_
      rintro e w2 ⟨rfl, hb2⟩
      have HI2 := hide ((unhide HT).up (unhide HI1) hb2)
      clear hb2 H1 HI1
      obtain ⟨t, ht⟩ : ∃ t, s1.here = t := ⟨_, rfl⟩
      have Ht := hide ht
      rw [ht] at HF ⊢
      obtain ⟨kd, sp, tx⟩ := t
      unfold Tk.val
      simp only at HF ⊢
      have hbA := (Below.refl w2.heap.size w2).alloc (Nat.le_refl _) (.cells #[.int .i64 kd, .int .i64 sp, .string tx] 29)
      have HI3 := hide ((unhide HT).up (unhide HI2) hbA)
      obtain ⟨Pm, hm⟩ := (unhide HT).map x s1 _ (unhide HI3)
      have hlk := run_lookW hm tx
      have Hnn := nil_neq_nil
      have Hfn := fn_neq_nil
      clear ht hbA hm HI2
      rcases (unhide HT).look tx with ⟨q1, q2⟩ | ⟨fn, fs, cp, f, q1, q2⟩
      · rw [q1] at hlk
        simp only [Option.getD_none] at hlk
        rw [q2] at HF
        simp only at HF
        clear q1 q2
        obtain ⟨n, os, oc, rfl, hfn, hcl⟩ := (unhide HT).other x s1 _ (unhide HI3)
        have HCL := hide hcl
        clear hcl
        go_wp2_with fail
        refine (show Calls Tryz.prog n (os ++ oc) _ _ from by have := unhide HCL; simpa using this).mono ?_
        intro e w4 hw4
        have HW4 : Hid (IP I Er (stmtF F O x s1) e w4) := by
          show IP I Er (stmtF F O x s1) e w4
          rw [unhide HF]
          exact hw4
        rcases hw4.split with ⟨y, hr, rfl, he⟩ | ⟨x', s', hr, rfl, hi⟩
        · exact ⟨rfl, unhide HW4⟩
        · clear hr hi hw4 HCL
          go_wp2
          go_end0
          exact unhide HW4
      · rw [q1] at hlk
        simp only [Option.getD_some] at hlk
        rw [q2] at HF
        simp only at HF
        have Hq1 := hide q1
        have Hq2 := hide q2
        clear q1 q2
        by_cases hk : kd = 1
        · subst hk
          obtain ⟨n, fs', cp', e9, hfn, hcl⟩ := (unhide HT).word tx _ f (unhide Hq1) (unhide Hq2) x s1 _ (unhide HI3) (by rw [unhide Ht]) (by rw [unhide Ht])
          cases e9
          have HCL := hide hcl
          clear hcl
          rw [if_pos rfl] at HF
          go_wp2_with fail
          refine (show Calls Tryz.prog n (fs ++ cp) _ _ from by have := unhide HCL; simpa using this).mono ?_
          intro e w4 hw4
          have HW4 : Hid (IP I Er (stmtF F O x s1) e w4) := by
            show IP I Er (stmtF F O x s1) e w4
            rw [unhide HF]
            exact hw4
          rcases hw4.split with ⟨y, hr, rfl, he⟩ | ⟨x', s', hr, rfl, hi⟩
          · exact ⟨rfl, unhide HW4⟩
          · clear hr hi hw4 HCL
            go_wp2
            go_end0
            exact unhide HW4
        · have hk2 : (kd == 1) = false := by simp [hk]
          obtain ⟨n, os, oc, rfl, hfn, hcl⟩ := (unhide HT).other x s1 _ (unhide HI3)
          have HCL := hide hcl
          clear hcl
          rw [if_neg hk] at HF
          clear hk
          go_wp2_with fail
          refine (show Calls Tryz.prog n (os ++ oc) _ _ from by have := unhide HCL; simpa using this).mono ?_
          intro e w4 hw4
          have HW4 : Hid (IP I Er (stmtF F O x s1) e w4) := by
            show IP I Er (stmtF F O x s1) e w4
            rw [unhide HF]
            exact hw4
          rcases hw4.split with ⟨y, hr, rfl, he⟩ | ⟨x', s', hr, rfl, hi⟩
          · exact ⟨rfl, unhide HW4⟩
          · clear hr hi hw4 HCL
            go_wp2
            go_end0
            exact unhide HW4
def bodyLF {σ : Type} (st : Stp σ) : Nat → Stp σ
  | 0, _, _ => .error (0, 0)
  | n + 1, x, s => if pisB s.here 4 ⟨#[125]⟩ = true then .ok (x, s) else match st x s with
    | .error e => .error e
    | .ok (x', s') => bodyLF st n x' s'
def bodyF {σ : Type} (st : Stp σ) : Stp σ := fun x s => match pneedSignF ⟨#[123]⟩ s with
  | .error e => .error e
  | .ok (_, s1) => bodyLF st (s1.ts.length + 1) x s1
def BdJ (I : σ → PSt → World → Prop) (b mb : Nat) (ov : Value) (st : Stp σ) (R0 : Except (Int × Int) (σ × PSt)) (n : Nat) (a : Act) (w : World) : Prop := ∃ (u : Nat → Value) (x : σ) (s : PSt), a = ⟨#[.pointer (some ⟨b, 0, none⟩), .map (some mb), ov, u 3, u 4, u 5, u 6, u 7, u 8, u 9, u 10, u 11, u 12, u 13, u 14, u 15], []⟩ ∧ I x s w ∧ s.ts.length < n ∧ bodyLF st n x s = R0
set_option maxRecDepth 100000 in
set_option maxHeartbeats 4000000 in
theorem body_any (h : WTab I Er lo b mb tab ov F O) (hsh : ∀ x s w x' s', I x s w → stmtF F O x s = .ok (x', s') → s'.ts.length < s.ts.length) {x : σ} {s : PSt} {W : World} (hi : I x s W) : Calls Tryz.prog 91 #[.pointer (some ⟨b, 0, none⟩), .map (some mb), ov] W (IP I Er (bodyF (stmtF F O) x s)) := by
  have hd := h.rd x s W hi
  have HC := hide (needSign_any hd ⟨#[123]⟩)
  have HI := hide hi
  have HT := hide h
  have HS := hide hsh
  clear hd hi h hsh
  go_enter Tryz.func91, Tryz.ntmps91
  go_wp2_with fail
  refine (unhide HC).mono ?_
  intro e w1 hw
  rcases hw.split with ⟨y, hr, rfl, hg⟩ | ⟨f, s1, hr, rfl, h1, hg⟩
  · refine ⟨rfl, ?_⟩
    unfold bodyF
    rw [hr]
    exact ⟨rfl, (unhide HT).er x s W _ (unhide HI) hg⟩
  · have HI1 := hide ((unhide HT).step x s W s1 w1 (unhide HI) h1 hg (suf_needSign hr))
    have HF : Hid (bodyLF (stmtF F O) (s1.ts.length + 1) x s1 = bodyF (stmtF F O) x s) := by
      show _ = _
      unfold bodyF
      rw [hr]
    clear hw hr hg h1 HC HI
    go_wp2
    refine wp_loop_count (BdJ I b mb ov (stmtF F O) (bodyF (stmtF F O) x s)) ?_ (s1.ts.length + 1) _ _ ⟨fun i => [undef, undef, undef, undef, undef, undef, .pointer (some ⟨b, 0, none⟩), noV f].getD i undef, x, s1, rfl, unhide HI1, by omega, unhide HF⟩
    obtain ⟨R0, hR0⟩ : ∃ R0, bodyF (stmtF F O) x s = R0 := ⟨_, rfl⟩
    rw [hR0]
    obtain ⟨Q, hQ⟩ : ∃ Q, bodyPost Tryz.prog Tryz.f91 (IP I Er R0) = Q := ⟨_, rfl⟩
    rw [hQ]
    clear HF HI1 hR0
    rintro n _ wr ⟨u, xc, sc, rfl, hi, hn, hR⟩
    obtain ⟨n, rfl⟩ : ∃ k, n = k + 1 := ⟨n - 1, by omega⟩
    have HI := hide hi
    have HR := hide hR
    have hd := (unhide HT).rd xc sc wr hi
    have hI : Hid (∀ w, Calls Tryz.prog 86 #[sc.here.val, .int .i64 4, .string ⟨#[125]⟩] w fun e w' => e = .returned (.bool (pisB sc.here 4 ⟨#[125]⟩)) ∧ Below w.heap.size w w') := fun w => is_any w sc.here 4 _
    have HH := hide (here_any hd)
    have Hvl : Hid (∃ p q r, sc.here.val = .agg #[p, q, r]) := ⟨_, _, _, rfl⟩
    obtain ⟨p, q, r, hvl⟩ := unhide Hvl
    rw [hvl] at hI HH
    clear hi hR hd Hvl hvl
    go_wp2_with fail
    refine (unhide HH).mono ?_
    rintro e w2 ⟨rfl, hb2⟩
    have HI2 := hide ((unhide HT).up (unhide HI) hb2)
    clear hb2 HI HH
    go_wp2_with fail
    refine (unhide hI w2).mono ?_
    rintro e w3 ⟨rfl, hb3⟩
    have HI3 := hide ((unhide HT).up (unhide HI2) hb3)
    clear hb3 HI2 hI
    cases hp : pisB sc.here 4 ⟨#[125]⟩ with
    | true =>
      have HE : Hid (IP I Er R0 (.returned (.tuple #[])) w3) := by
        show IP I Er R0 (.returned (.tuple #[])) w3
        rw [← unhide HR]
        unfold bodyLF
        rw [if_pos hp]
        exact ⟨rfl, unhide HI3⟩
      clear hp
      go_wp2
      rw [← hQ]
      go_end0
      exact unhide HE
    | false =>
      have HE : Hid (∀ z, stmtF F O xc sc = z → R0 = match z with | .error e => .error e | .ok (x', s') => bodyLF (stmtF F O) n x' s') := fun z hz => by
        rw [← unhide HR]
        conv => lhs; unfold bodyLF
        rw [if_neg (by rw [hp]; simp), hz]
      have HC3 := hide (statement_any (unhide HT) (unhide HI3))
      clear hp
      go_wp2_with fail
      refine (unhide HC3).mono ?_
      intro e w4 hw4
      rcases hw4.split with ⟨y, hr, rfl, he⟩ | ⟨x', s', hr, rfl, hi'⟩
      · show Q (Exit.panic _) _ _
        rw [← hQ]
        refine ⟨rfl, ?_⟩
        rw [unhide HE _ hr]
        exact ⟨rfl, he⟩
      · have hlt := unhide HS _ _ _ _ _ (unhide HI3) hr
        have HE2 := hide (unhide HE _ hr)
        have HI4 := hide hi'
        clear hr hi' hw4 HC3 HE HR
        go_wp2
        exact ⟨n, rfl, fun i => [undef, undef, undef, u 3, u 4, u 5, u 6, u 7, .pointer (some ⟨b, 0, none⟩), .agg #[p, q, r], .bool false, .bool true, .pointer (some ⟨b, 0, none⟩), .map (some mb), ov, .tuple #[]].getD i undef, x', s', rfl, unhide HI4, by omega, (unhide HE2).symm⟩
end
end Go.Proofs.YtdhncpeemcanlaaGreatDoor
