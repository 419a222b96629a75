import Derived.Test.YtaadpiimcaabkaaGreatDoorYBh
import Derived.Test.YtaadpiimcaabkaaGreatDoorJ37

namespace Go.Proofs.YtaadpiimcaabkaaGreatDoor
open Go.RowKit
attribute [local go_sem ↓] Go.wp_at_zero Go.wp_at_succ

set_option maxRecDepth 100000 in
set_option maxHeartbeats 4000000 in
theorem same_any {W : World} {v u vi vm ve ui um ue : Value} {F G : Fl} {cm ce cm2 ce2 : List Value} (h : FlL W v F vi vm ve cm ce) (h' : FlL W u G ui um ue cm2 ce2) (hd : ∀ m ∈ F.ms, DpM 32 m) (hd' : ∀ m ∈ G.ms, DpM 32 m) (w0 : World) (hw : Below W.heap.size W w0) :
    Calls Tryz.prog 10 #[v, u] w0 (SmP w0 (F = G)) := by
  obtain ⟨pk, is, ms, es⟩ := F
  obtain ⟨pk', is', ms', es'⟩ := G
  obtain ⟨rfl, hi, hm, hms, he, hes⟩ := h
  obtain ⟨rfl, hi', hm', hms', he', hes'⟩ := h'
  simp only at hi hm hms he hes hi' hm' hms' he' hes' hd hd' ⊢
  have HI := hide (fun w' hb => sameTexts_any hi hi' w' hb)
  have HM := hide (fun w' hb => sameMs_all 32 W vm um ms ms' cm cm2 hm hms hm' hms' hd hd' w' hb 0 (by omega) (by omega))
  have HE := hide (fun w' hb => sameEnums_any he hes he' hes' w' hb)
  obtain ⟨ai, ci, rfl, -, -⟩ := hi
  obtain ⟨am, cm', rfl, -, -⟩ := hm
  obtain ⟨ae, ce', rfl, -, -⟩ := he
  obtain ⟨ai', ci', rfl, -, -⟩ := hi'
  obtain ⟨am', dm', rfl, -, -⟩ := hm'
  obtain ⟨ae', de', rfl, -, -⟩ := he'
  have HT0 := hide (twoB_new hw #[.string pk, .slice ai is.length ci, .slice am ms.length cm', .slice ae es.length ce'] #[.string pk', .slice ai' is'.length ci', .slice am' ms'.length dm', .slice ae' es'.length de'] 26)
  have HB0 : Hid (Below w0.heap.size w0 ((w0.alloc (.cells #[.string pk, .slice ai is.length ci, .slice am ms.length cm', .slice ae es.length ce'] 26)).alloc (.cells #[.string pk', .slice ai' is'.length ci', .slice am' ms'.length dm', .slice ae' es'.length de'] 26))) := ((Below.refl _ _).alloc (Nat.le_refl _) _).alloc (by rw [World.size_alloc]; omega) _
  have X0 := (unhide HT0).x
  have Y0 := (unhide HT0).y
  clear hms hes hms' hes' hd hd' hw
  by_cases hp : pk = pk'
  · subst hp
    have e1 : (pk.toList == pk.toList) = true := by simp
    go_enter Tryz.func10, Tryz.ntmps10
    go_wp2_with fail
    refine (unhide HI _ (unhide HT0).bl).mono ?_
    rintro e' w1 ⟨q1, rfl, hq1, hb1⟩
    have HT1 := hide ((unhide HT0).up hb1)
    have HB1 := hide ((unhide HB0).trans (hb1.mono (unhide HB0).size))
    have X1 := (unhide HT1).x
    have Y1 := (unhide HT1).y
    have Hq1 := hide hq1
    clear hb1 HT0 HB0 HI hq1 X0 Y0
    cases q1 with
    | false =>
      have HN : Hid (¬ (⟨pk, is, ms, es⟩ : Fl) = ⟨pk, is', ms', es'⟩) := fun e => by have := (unhide Hq1).2 (by injection e); cases this
      go_wp2
      go_ret
      exact smF (unhide HN) (unhide HB1)
    | true =>
      go_wp2_with fail
      refine (unhide HM _ (unhide HT1).bl).mono ?_
      rintro e' w2 ⟨q2, rfl, hq2, hb2⟩
      have HT2 := hide ((unhide HT1).up hb2)
      have HB2 := hide ((unhide HB1).trans (hb2.mono (unhide HB1).size))
      have X2 := (unhide HT2).x
      have Y2 := (unhide HT2).y
      have Hq2 := hide hq2
      clear hb2 HT1 HB1 HM hq2 X1 Y1
      cases q2 with
      | false =>
        have HN : Hid (¬ (⟨pk, is, ms, es⟩ : Fl) = ⟨pk, is', ms', es'⟩) := fun e => by have := (unhide Hq2).2 (by injection e); cases this
        go_wp2
        go_ret
        exact smF (unhide HN) (unhide HB2)
      | true =>
        go_wp2_with fail
        refine (unhide HE _ (unhide HT2).bl).mono ?_
        rintro e' w3 ⟨q3, rfl, hq3, hb3⟩
        have HT3 := hide ((unhide HT2).up hb3)
        have HB3 := hide ((unhide HB2).trans (hb3.mono (unhide HB2).size))
        have X3 := (unhide HT3).x
        have Y3 := (unhide HT3).y
        have Hq3 := hide hq3
        clear hb3 HT2 HB2 HE hq3 X2 Y2
        cases q3 with
        | false =>
          have HN : Hid (¬ (⟨pk, is, ms, es⟩ : Fl) = ⟨pk, is', ms', es'⟩) := fun e => by have := (unhide Hq3).2 (by injection e); cases this
          go_wp2
          go_ret
          exact smF (unhide HN) (unhide HB3)
        | true =>
          have h1 := (unhide Hq1).1 (by trivial)
          have h2 := (unhide Hq2).1 (by trivial)
          have h3 := (unhide Hq3).1 (by trivial)
          have HN : Hid ((⟨pk, is, ms, es⟩ : Fl) = ⟨pk, is', ms', es'⟩) := by show _ = _; rw [h1, h2, h3]
          clear h1 h2 h3
          go_wp2
          go_ret
          exact smT (unhide HN) (unhide HB3)
  · have e1 := str_ne hp
    have HN : Hid (¬ (⟨pk, is, ms, es⟩ : Fl) = ⟨pk', is', ms', es'⟩) := fun e => hp (by injection e)
    clear hp HI HM HE
    go_enter Tryz.func10, Tryz.ntmps10
    go_wp2
    go_ret
    exact smF (unhide HN) (unhide HB0)
end Go.Proofs.YtaadpiimcaabkaaGreatDoor

namespace Go.Proofs.YtaadpiimcaabkaaGreatDoor
open Go.RowKit
attribute [local go_sem ↓] Go.wp_at_zero Go.wp_at_succ

/-- A word, looked at by program. -/
def wordC (s : ByteArray) : Bool := decide (1 ≤ s.size) && decide (s.size ≤ 255) && (match strN s with | x :: _ => decide (isLet x) | [] => false) && (strN s).all (fun x => decide (isLet x ∨ isDig x))
theorem word_of {s : ByteArray} (h : wordC s = true) : wordB s = true := by
  unfold wordC at h
  simp only [Bool.and_eq_true, decide_eq_true_eq] at h
  obtain ⟨⟨⟨h1, h2⟩, h3⟩, h4⟩ := h
  refine @decide_eq_true _ (Classical.propDecidable _) ⟨⟨h1, h2⟩, fun x hx => ?_, fun j x hx => ?_⟩
  · split at h3
    · rename_i y r hy
      rw [hy] at hx
      obtain rfl : y = x := by simpa using hx
      exact of_decide_eq_true h3
    · cases h3
  · exact of_decide_eq_true (List.all_eq_true.1 h4 x (List.mem_of_getElem? hx))
def fd0 : Fd := ⟨1, ⟨#[]⟩, ⟨#[105, 110, 116, 51, 50]⟩, ⟨#[97]⟩, 1, 0⟩
def ms0 : Ms := .mk ⟨#[77]⟩ [fd0] [] [] [] [] []
/-- What head asks. -/
def fl0 : Fl := ⟨⟨#[112]⟩, [], [ms0], []⟩
def lit0 : ByteArray := ⟨#[115, 121, 110, 116, 97, 120, 32, 61, 32, 34, 112, 114, 111, 116, 111, 51, 34, 59, 10, 112, 97, 99, 107, 97, 103, 101, 32, 112, 59, 10, 109, 101, 115, 115, 97, 103, 101, 32, 77, 32, 123, 10, 32, 32, 105, 110, 116, 51, 50, 32, 97, 32, 61, 32, 49, 59, 10, 125, 10]⟩
theorem names_p : namesB ⟨#[112]⟩ = true := by
  unfold namesB
  rw [show pieces ⟨#[112]⟩ = [⟨#[112]⟩] by kernel_rfl]
  simp only [List.all_cons, List.all_nil, Bool.and_true]
  rw [word_of (by kernel_rfl)]
  rfl
theorem type_i : typeB ⟨#[105, 110, 116, 51, 50]⟩ = true := by
  unfold typeB namesB
  rw [show trimDot ⟨#[105, 110, 116, 51, 50]⟩ = ⟨#[105, 110, 116, 51, 50]⟩ by kernel_rfl, show pieces ⟨#[105, 110, 116, 51, 50]⟩ = [⟨#[105, 110, 116, 51, 50]⟩] by kernel_rfl]
  simp only [List.all_cons, List.all_nil, Bool.and_true]
  rw [word_of (by kernel_rfl)]
  rfl
theorem field_0 : fieldB fd0 = true := by
  unfold fieldB fd0
  simp only
  rw [type_i, word_of (s := ⟨#[97]⟩) (by kernel_rfl), show inS (firstS ⟨#[105, 110, 116, 51, 50]⟩) (refW ⟨1, ⟨#[]⟩, ⟨#[105, 110, 116, 51, 50]⟩, ⟨#[97]⟩, 1, 0⟩) = false by kernel_rfl]
  unfold cardB
  simp only [if_true, toList_data]
  rfl
theorem fileJ_0 : (fileJ fl0).isSome = true := by
  unfold fileJ fl0
  simp only
  rw [names_p, Bool.or_true, if_pos rfl]
  have e1 : lessJ (([] : List ByteArray).length + [ms0].length + ([] : List En).length) 4096 = some 4095 := by kernel_rfl
  have e2 : lessJ ([fd0].length + ([] : List ByteArray).length + ([] : List Ms).length + ([] : List En).length + ([] : List (Int × Int)).length + ([] : List ByteArray).length) 4095 = some 4094 := by kernel_rfl
  have e3 : msOk ⟨#[77]⟩ [fd0] [] [] [] = true := by
    unfold msOk
    simp only [List.all_cons, List.all_nil, Bool.and_true]
    rw [field_0, word_of (s := ⟨#[77]⟩) (by kernel_rfl)]
    kernel_rfl
  rw [e1]
  simp only [List.all_nil, if_true]
  have e4 : msJ 32 ms0 4095 = some 4094 := by
    show msJ (31 + 1) (.mk ⟨#[77]⟩ [fd0] [] [] [] [] []) 4095 = _
    rw [msJ, e2]
    simp only
    rw [if_pos e3]
    rfl
  unfold allL
  rw [e4]
  rfl
theorem fileL_0 : ofN (fileL fl0) = lit0 := by kernel_rfl
theorem tok_0 : (match tokR lit0 with | .inl _ => true | .inr _ => false) = true := by kernel_rfl
theorem textR_0 : textR fl0 = (lit0, 0) := by
  unfold textR
  rw [if_pos fileJ_0, fileL_0]
  have h := tok_0
  split at h
  · rename_i ts hts; rw [hts]
  · cases h
theorem num_any (W : World) (x : Int) : Calls Tryz.prog 9 #[.int .i64 x] W fun e w => e = .returned (.int .i64 x) ∧ w = W := by
  go_enter Tryz.func9, Tryz.ntmps9
  go_wp2
  go_ret
  exact ⟨rfl, rfl⟩
theorem sz_0 : ∀ m ∈ fl0.ms, SzM 32 m := by
  intro m hm
  obtain rfl : m = ms0 := by simpa [fl0] using hm
  refine ⟨fun d hd => ?_, fun m hm => by simp at hm⟩
  obtain rfl : d = fd0 := by simpa using hd
  decide
set_option maxRecDepth 100000 in
set_option maxHeartbeats 2000000 in
theorem head_any {W : World} (hM : HasM W) (hE : HasE W) (hP : HasP W) (hF : HasF W) : Calls Tryz.prog 6 #[] W fun e w => e = .returned (.bool true) ∧ Below W.heap.size W w := by
  obtain ⟨V0, hV0⟩ : ∃ V, W.alloc (.cells #[.int .i64 1, .string ⟨#[]⟩, .string ⟨#[105, 110, 116, 51, 50]⟩, .string ⟨#[97]⟩, .int .i64 1, .int .i64 0] 42) = V := ⟨_, rfl⟩
  have k0 := heap_new W (.cells #[.int .i64 1, .string ⟨#[]⟩, .string ⟨#[105, 110, 116, 51, 50]⟩, .string ⟨#[97]⟩, .int .i64 1, .int .i64 0] 42)
  have s0 := World.size_alloc W (.cells #[.int .i64 1, .string ⟨#[]⟩, .string ⟨#[105, 110, 116, 51, 50]⟩, .string ⟨#[97]⟩, .int .i64 1, .int .i64 0] 42)
  have b0 : Below W.heap.size W (W.alloc (.cells #[.int .i64 1, .string ⟨#[]⟩, .string ⟨#[105, 110, 116, 51, 50]⟩, .string ⟨#[97]⟩, .int .i64 1, .int .i64 0] 42)) := (Below.refl _ _).alloc (Nat.le_refl _) _
  rw [hV0] at k0 s0 b0
  obtain ⟨V, hV⟩ : ∃ V', V0.alloc (.cells #[.string ⟨#[77]⟩, .slice (some ⟨W.heap.size, 0, none⟩) 1 1, .slice none 0 0, .slice none 0 0, .slice none 0 0, .slice none 0 0, .slice none 0 0] 46) = V' := ⟨_, rfl⟩
  have k1 := heap_new V0 (.cells #[.string ⟨#[77]⟩, .slice (some ⟨W.heap.size, 0, none⟩) 1 1, .slice none 0 0, .slice none 0 0, .slice none 0 0, .slice none 0 0, .slice none 0 0] 46)
  have b1 : Below V0.heap.size V0 (V0.alloc (.cells #[.string ⟨#[77]⟩, .slice (some ⟨W.heap.size, 0, none⟩) 1 1, .slice none 0 0, .slice none 0 0, .slice none 0 0, .slice none 0 0, .slice none 0 0] 46)) := (Below.refl _ _).alloc (Nat.le_refl _) _
  rw [hV] at k1 b1
  have hb : Below W.heap.size W V := b0.trans (b1.mono b0.size)
  have k2 := (b1.block _ (show W.heap.size < V0.heap.size by omega)).trans k0
  have l1 := (Array.getElem?_eq_some_iff.1 k1).1
  have l2 := (Array.getElem?_eq_some_iff.1 k2).1
  have hfl : FlL V (.agg #[.string ⟨#[112]⟩, .slice none 0 0, .slice (some ⟨V0.heap.size, 0, none⟩) 1 1, .slice none 0 0]) fl0 (.slice none 0 0) (.slice (some ⟨V0.heap.size, 0, none⟩) 1 1) (.slice none 0 0) [.string ⟨#[77]⟩, .slice (some ⟨W.heap.size, 0, none⟩) 1 1, .slice none 0 0, .slice none 0 0, .slice none 0 0, .slice none 0 0, .slice none 0 0] [] := by
    refine ⟨rfl, rl_nil _ _, ⟨_, _, rfl, by show 1 ≤ _; omega, fun _ => ⟨_, _, rfl, l1, fun j x hx => ?_⟩⟩, ?_, rl_nil _ _, .nil⟩
    · rw [Nat.zero_add, cell_of_row _ _ _ _ _ _ k1, ← Array.getElem?_toList]
      exact hx
    · refine .cons (fs := [fd0]) ⟨_, _, rfl, by show 1 ≤ _; omega, fun _ => ⟨_, _, rfl, l2, fun j x hx => ?_⟩⟩ (rl_nil _ _) (rl_nil _ _) .nil (rl_nil _ _) .nil (rl_nil _ _) (rl_nil _ _) .nil
      rw [Nat.zero_add, cell_of_row _ _ _ _ _ _ k2, ← Array.getElem?_toList]
      exact hx
  have HT := hide (text_any (hM.up hb hM.1) (hE.up hb) (hP.up hb) (hF.up hb) hfl sz_0)
  rw [textR_0] at HT
  have HB := hide hb
  have HS := hide s0
  unfold lit0 at HT
  clear hM hE hP hF k0 s0 b0 k1 b1 hb k2 l1 l2 hfl
  go_enter Tryz.func6, Tryz.ntmps6
  go_wp2_with fail
  refine (unhide HT).mono ?_
  rintro e w ⟨rfl, hb1⟩
  have HB1 := hide ((unhide HB).trans (hb1.mono (unhide HB).size))
  clear hb1 HT HB
  go_wp2_with fail
  refine (num_any w 0).mono ?_
  rintro e w' ⟨rfl, rfl⟩
  go_wp2
  go_ret
  exact ⟨rfl, unhide HB1⟩
end Go.Proofs.YtaadpiimcaabkaaGreatDoor
