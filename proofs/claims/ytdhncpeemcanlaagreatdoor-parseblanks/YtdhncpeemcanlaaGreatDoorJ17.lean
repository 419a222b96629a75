import Derived.Test.YtdhncpeemcanlaaGreatDoorJ16
import Derived.Test.YtdhncpeemcanlaaGreatDoorJ16
import Derived.Test.YtdhncpeemcanlaaGreatDoorJ07

namespace Go.Proofs.YtdhncpeemcanlaaGreatDoor
open Go.RowKit
attribute [local go_sem ↓] Go.wp_at_zero Go.wp_at_succ

/-- What lies below a reader. -/
structure Env (V W : World) (b : Nat) : Prop where
  f : HasF V
  e : HasE V
  m : HasM V
  below : Below V.heap.size V W
  lo : V.heap.size ≤ b
theorem Env.step {V W w : World} {b : Nat} (h : Env V W b) (hg : W.grownBy w (some b)) : Env V w b :=
  ⟨h.f, h.e, h.m, h.below.grown hg h.below.size (fun k e => by simp at e; have := h.lo; omega), h.lo⟩
theorem Env.hasF {V W : World} {b : Nat} (h : Env V W b) : HasF W := h.f.up h.below
theorem Env.hasE {V W : World} {b : Nat} (h : Env V W b) : HasE W := h.e.up h.below
noncomputable def meaningF (ff : ByteArray → Int) (s : PSt) : Except (Int × Int) (ByteArray × PSt) :=
  if s.here.kind = 3 then (if (unqR s.here.text).2 = 0 then (if ff (unqR s.here.text).1 = 0 then (match pnextF s with | .ok (_, s') => .ok ((unqR s.here.text).1, s') | .error e => .error e) else .error (ff (unqR s.here.text).1, s.here.spot)) else .error ((unqR s.here.text).2, s.here.spot)) else .error (wrongE s)
theorem unqL_len {s : ByteArray} {l : List Nat} {e : Nat} (h : unqL s = some (l, e)) : l.length < e := by
  unfold unqL at h
  split at h
  · cases h
  · split at h
    · have := uq_le _ 1 l e (Nat.le_refl _) h
      have := this.2.2.2
      omega
    · cases h
theorem unqR_size (s : ByteArray) : (unqR s).1.size ≤ 140737488355327 := by
  by_cases h : 65536 < s.size
  · rw [unqR_long h]; decide
  · by_cases h2 : 0 ≤ utfAt s 0
    · rw [unqR_cod h h2]; decide
    · cases h3 : unqL s with
      | none => rw [unqR_bad h h2 (.inl h3)]; decide
      | some p =>
        obtain ⟨l, e⟩ := p
        by_cases he : e = s.size
        · subst he
          rw [unqR_ok h h2 h3]
          have h4 := unqL_len h3
          rw [ofN_size]
          omega
        · rw [unqR_bad h h2 (.inr ⟨l, e, h3, he⟩)]; decide
def syntaxF (x : ByteArray) : Int := if (x.toList == [112, 114, 111, 116, 111, 51]) = true then 0 else 50
set_option maxRecDepth 100000 in
theorem syntaxFault_any (W : World) (x : ByteArray) (_ : x.size ≤ 140737488355327) : Calls Tryz.prog 49 #[.string x] W fun e w => e = .returned (.int .i64 (syntaxF x)) ∧ w = W := by
  unfold syntaxF
  cases h : (x.toList == [112, 114, 111, 116, 111, 51]) with
  | true =>
    go_enter Tryz.func49, Tryz.ntmps49
    go_wp2
    go_ret
    exact ⟨rfl, rfl⟩
  | false =>
    go_enter Tryz.func49, Tryz.ntmps49
    go_wp2
    go_ret
    exact ⟨rfl, rfl⟩
def importF (x : ByteArray) : Int := if 255 < x.size then 2 else if (x.toList == []) = true then 50 else 0
set_option maxRecDepth 100000 in
theorem importFault_any (W : World) (x : ByteArray) (hx : x.size ≤ 140737488355327) : Calls Tryz.prog 89 #[.string x] W fun e w => e = .returned (.int .i64 (importF x)) ∧ w = W := by
  unfold importF
  by_cases h1 : 255 < x.size
  · rw [if_pos h1]
    have hd : decide ((255 : Int) < (x.size : Int)) = true := by simp; omega
    clear h1
    go_enter Tryz.func89, Tryz.ntmps89
    go_wp2
    go_ret
    exact ⟨rfl, rfl⟩
  · rw [if_neg h1]
    have hd : decide ((255 : Int) < (x.size : Int)) = false := by simp; omega
    clear h1
    cases h : (x.toList == []) with
    | true =>
      go_enter Tryz.func89, Tryz.ntmps89
      go_wp2
      go_ret
      exact ⟨rfl, rfl⟩
    | false =>
      go_enter Tryz.func89, Tryz.ntmps89
      go_wp2
      go_ret
      exact ⟨rfl, rfl⟩
set_option maxRecDepth 100000 in
set_option maxHeartbeats 2000000 in
theorem meaning_syntax_any {V W : World} {lo b : Nat} {s : PSt} (hv : Env V W b) (h : Rd lo W b s) : Calls Tryz.prog 48 #[.pointer (some ⟨b, 0, none⟩), .func (.func 49) #[] #[]] W (PR lo b W Value.string (meaningF syntaxF s)) := by
  have hc := hide (need_any h 3)
  have Hv := hide hv
  go_enter Tryz.func48, Tryz.ntmps48
  go_wp2_with fail
  refine (unhide hc).mono ?_
  intro e w1 hw
  rcases hw.split with ⟨x, hr, rfl, hg⟩ | ⟨x, s1, hr, rfl, h1, hg⟩
  · have hk : ¬ s.here.kind = 3 := fun e => by unfold pneedF at hr; rw [if_pos e] at hr; cases hr
    unfold pneedF at hr
    rw [if_neg hk] at hr
    obtain rfl : wrongE s = x := Except.error.inj hr
    refine ⟨rfl, ?_⟩
    unfold meaningF
    rw [if_neg hk]
    exact ⟨rfl, hg⟩
  · have hk : s.here.kind = 3 := by
      apply Classical.byContradiction
      intro e
      unfold pneedF at hr
      rw [if_neg e] at hr
      cases hr
    unfold pneedF at hr
    rw [if_pos hk] at hr
    simp only [Except.ok.injEq, Prod.mk.injEq] at hr
    obtain ⟨rfl, rfl⟩ := hr
    have hp := here_pos h.grown (by rw [hk]; decide)
    have hEq : meaningF syntaxF s = (if (unqR s.here.text).2 = 0 then (if syntaxF (unqR s.here.text).1 = 0 then (match pnextF s with | .ok (_, s') => .ok ((unqR s.here.text).1, s') | .error e => .error e) else .error (syntaxF (unqR s.here.text).1, s.here.spot)) else .error ((unqR s.here.text).2, s.here.spot)) := by unfold meaningF; rw [if_pos hk]
    have HEq := hide hEq
    have H1 := hide h1
    have Hg := hide hg
    have hun := unq_any ((hv.step hg).hasF) ((hv.step hg).hasE) s.here.text
    have hus := unqR_size s.here.text
    have Hun := hide hun
    obtain ⟨x, hx⟩ : ∃ x, s.here.text = x := ⟨_, rfl⟩
    rw [hx] at HEq Hun hus ⊢
    clear hw h1 hg hk hc h hv hx hEq hun
    go_wp2_with fail
    refine (unhide Hun).mono ?_
    rintro e w2 ⟨hb2, t, c, rfl, hu⟩
    rw [hu] at HEq hus
    simp only at HEq hus
    have H2 := hide ((unhide H1).up hb2)
    have Hg2 := hide ((unhide Hg).trans (below_grown b hb2))
    clear hb2 hu Hun H1 Hg
    go_wp2_with fail
    refine (check_any (unhide H2) c).mono ?_
    intro e w3 hw3
    by_cases h0 : c = 0
    · rw [if_pos h0] at hw3 HEq
      obtain ⟨rfl, h3, hg3⟩ := hw3
      have H3 := hide h3
      have Hg3 := hide ((unhide Hg2).trans hg3)
      clear h3 hg3 H2 Hg2
      subst h0
      go_wp2_with fail
      refine (syntaxFault_any w3 t hus).mono ?_
      rintro e w4 ⟨rfl, hw4⟩
      obtain rfl : w3 = w4 := hw4.symm
      clear hw4
      go_wp2_with fail
      refine (check_any (unhide H3) (syntaxF t)).mono ?_
      intro e w5 hw5
      by_cases h5 : syntaxF t = 0
      · rw [if_pos h5] at hw5 HEq
        obtain ⟨rfl, h6, hg6⟩ := hw5
        have H6 := hide h6
        have Hg6 := hide ((unhide Hg3).trans hg6)
        clear h6 hg6 H3 Hg3 h5
        go_wp2_with fail
        refine (next_any (unhide H6) hp).mono ?_
        intro e w7 hw7
        rcases hw7.split with ⟨y, hr, rfl, hg7⟩ | ⟨y, s2, hr, rfl, h7, hg7⟩
        · refine ⟨rfl, ?_⟩
          rw [unhide HEq, hr]
          exact ⟨rfl, (unhide Hg6).trans hg7⟩
        · have HE : Hid (PR lo b W Value.string (meaningF syntaxF s) (.returned (.string t)) w7) := by
            show PR lo b W Value.string (meaningF syntaxF s) (.returned (.string t)) w7
            rw [unhide HEq, hr]
            exact ⟨rfl, h7, (unhide Hg6).trans hg7⟩
          clear hw7 h7 hg7 hr
          go_wp2
          go_ret
          exact unhide HE
      · rw [if_neg h5] at hw5 HEq
        obtain ⟨rfl, hg6⟩ := hw5
        refine ⟨rfl, ?_⟩
        rw [unhide HEq]
        exact ⟨rfl, (unhide Hg3).trans hg6⟩
    · rw [if_neg h0] at hw3 HEq
      obtain ⟨rfl, hg3⟩ := hw3
      refine ⟨rfl, ?_⟩
      rw [unhide HEq]
      exact ⟨rfl, (unhide Hg2).trans hg3⟩
set_option maxRecDepth 100000 in
set_option maxHeartbeats 2000000 in
theorem meaning_import_any {V W : World} {lo b : Nat} {s : PSt} (hv : Env V W b) (h : Rd lo W b s) : Calls Tryz.prog 48 #[.pointer (some ⟨b, 0, none⟩), .func (.func 89) #[] #[]] W (PR lo b W Value.string (meaningF importF s)) := by
  have hc := hide (need_any h 3)
  have Hv := hide hv
  go_enter Tryz.func48, Tryz.ntmps48
  go_wp2_with fail
  refine (unhide hc).mono ?_
  intro e w1 hw
  rcases hw.split with ⟨x, hr, rfl, hg⟩ | ⟨x, s1, hr, rfl, h1, hg⟩
  · have hk : ¬ s.here.kind = 3 := fun e => by unfold pneedF at hr; rw [if_pos e] at hr; cases hr
    unfold pneedF at hr
    rw [if_neg hk] at hr
    obtain rfl : wrongE s = x := Except.error.inj hr
    refine ⟨rfl, ?_⟩
    unfold meaningF
    rw [if_neg hk]
    exact ⟨rfl, hg⟩
  · have hk : s.here.kind = 3 := by
      apply Classical.byContradiction
      intro e
      unfold pneedF at hr
      rw [if_neg e] at hr
      cases hr
    unfold pneedF at hr
    rw [if_pos hk] at hr
    simp only [Except.ok.injEq, Prod.mk.injEq] at hr
    obtain ⟨rfl, rfl⟩ := hr
    have hp := here_pos h.grown (by rw [hk]; decide)
    have hEq : meaningF importF s = (if (unqR s.here.text).2 = 0 then (if importF (unqR s.here.text).1 = 0 then (match pnextF s with | .ok (_, s') => .ok ((unqR s.here.text).1, s') | .error e => .error e) else .error (importF (unqR s.here.text).1, s.here.spot)) else .error ((unqR s.here.text).2, s.here.spot)) := by unfold meaningF; rw [if_pos hk]
    have HEq := hide hEq
    have H1 := hide h1
    have Hg := hide hg
    have hun := unq_any ((hv.step hg).hasF) ((hv.step hg).hasE) s.here.text
    have hus := unqR_size s.here.text
    have Hun := hide hun
    obtain ⟨x, hx⟩ : ∃ x, s.here.text = x := ⟨_, rfl⟩
    rw [hx] at HEq Hun hus ⊢
    clear hw h1 hg hk hc h hv hx hEq hun
    go_wp2_with fail
    refine (unhide Hun).mono ?_
    rintro e w2 ⟨hb2, t, c, rfl, hu⟩
    rw [hu] at HEq hus
    simp only at HEq hus
    have H2 := hide ((unhide H1).up hb2)
    have Hg2 := hide ((unhide Hg).trans (below_grown b hb2))
    clear hb2 hu Hun H1 Hg
    go_wp2_with fail
    refine (check_any (unhide H2) c).mono ?_
    intro e w3 hw3
    by_cases h0 : c = 0
    · rw [if_pos h0] at hw3 HEq
      obtain ⟨rfl, h3, hg3⟩ := hw3
      have H3 := hide h3
      have Hg3 := hide ((unhide Hg2).trans hg3)
      clear h3 hg3 H2 Hg2
      subst h0
      go_wp2_with fail
      refine (importFault_any w3 t hus).mono ?_
      rintro e w4 ⟨rfl, hw4⟩
      obtain rfl : w3 = w4 := hw4.symm
      clear hw4
      go_wp2_with fail
      refine (check_any (unhide H3) (importF t)).mono ?_
      intro e w5 hw5
      by_cases h5 : importF t = 0
      · rw [if_pos h5] at hw5 HEq
        obtain ⟨rfl, h6, hg6⟩ := hw5
        have H6 := hide h6
        have Hg6 := hide ((unhide Hg3).trans hg6)
        clear h6 hg6 H3 Hg3 h5
        go_wp2_with fail
        refine (next_any (unhide H6) hp).mono ?_
        intro e w7 hw7
        rcases hw7.split with ⟨y, hr, rfl, hg7⟩ | ⟨y, s2, hr, rfl, h7, hg7⟩
        · refine ⟨rfl, ?_⟩
          rw [unhide HEq, hr]
          exact ⟨rfl, (unhide Hg6).trans hg7⟩
        · have HE : Hid (PR lo b W Value.string (meaningF importF s) (.returned (.string t)) w7) := by
            show PR lo b W Value.string (meaningF importF s) (.returned (.string t)) w7
            rw [unhide HEq, hr]
            exact ⟨rfl, h7, (unhide Hg6).trans hg7⟩
          clear hw7 h7 hg7 hr
          go_wp2
          go_ret
          exact unhide HE
      · rw [if_neg h5] at hw5 HEq
        obtain ⟨rfl, hg6⟩ := hw5
        refine ⟨rfl, ?_⟩
        rw [unhide HEq]
        exact ⟨rfl, (unhide Hg3).trans hg6⟩
    · rw [if_neg h0] at hw3 HEq
      obtain ⟨rfl, hg3⟩ := hw3
      refine ⟨rfl, ?_⟩
      rw [unhide HEq]
      exact ⟨rfl, (unhide Hg2).trans hg3⟩
set_option maxRecDepth 100000 in
set_option maxHeartbeats 2000000 in
theorem meaning_name_any {V W : World} {lo b : Nat} {s : PSt} (hv : Env V W b) (h : Rd lo W b s) : Calls Tryz.prog 48 #[.pointer (some ⟨b, 0, none⟩), .func (.func 106) #[] #[]] W (PR lo b W Value.string (meaningF nameFaultF s)) := by
  have hc := hide (need_any h 3)
  have Hv := hide hv
  go_enter Tryz.func48, Tryz.ntmps48
  go_wp2_with fail
  refine (unhide hc).mono ?_
  intro e w1 hw
  rcases hw.split with ⟨x, hr, rfl, hg⟩ | ⟨x, s1, hr, rfl, h1, hg⟩
  · have hk : ¬ s.here.kind = 3 := fun e => by unfold pneedF at hr; rw [if_pos e] at hr; cases hr
    unfold pneedF at hr
    rw [if_neg hk] at hr
    obtain rfl : wrongE s = x := Except.error.inj hr
    refine ⟨rfl, ?_⟩
    unfold meaningF
    rw [if_neg hk]
    exact ⟨rfl, hg⟩
  · have hk : s.here.kind = 3 := by
      apply Classical.byContradiction
      intro e
      unfold pneedF at hr
      rw [if_neg e] at hr
      cases hr
    unfold pneedF at hr
    rw [if_pos hk] at hr
    simp only [Except.ok.injEq, Prod.mk.injEq] at hr
    obtain ⟨rfl, rfl⟩ := hr
    have hp := here_pos h.grown (by rw [hk]; decide)
    have hEq : meaningF nameFaultF s = (if (unqR s.here.text).2 = 0 then (if nameFaultF (unqR s.here.text).1 = 0 then (match pnextF s with | .ok (_, s') => .ok ((unqR s.here.text).1, s') | .error e => .error e) else .error (nameFaultF (unqR s.here.text).1, s.here.spot)) else .error ((unqR s.here.text).2, s.here.spot)) := by unfold meaningF; rw [if_pos hk]
    have HEq := hide hEq
    have H1 := hide h1
    have Hg := hide hg
    have hun := unq_any ((hv.step hg).hasF) ((hv.step hg).hasE) s.here.text
    have hus := unqR_size s.here.text
    have Hun := hide hun
    obtain ⟨x, hx⟩ : ∃ x, s.here.text = x := ⟨_, rfl⟩
    rw [hx] at HEq Hun hus ⊢
    clear hw h1 hg hk hc h hv hx hEq hun
    go_wp2_with fail
    refine (unhide Hun).mono ?_
    rintro e w2 ⟨hb2, t, c, rfl, hu⟩
    rw [hu] at HEq hus
    simp only at HEq hus
    have H2 := hide ((unhide H1).up hb2)
    have Hg2 := hide ((unhide Hg).trans (below_grown b hb2))
    clear hb2 hu Hun H1 Hg
    go_wp2_with fail
    refine (check_any (unhide H2) c).mono ?_
    intro e w3 hw3
    by_cases h0 : c = 0
    · rw [if_pos h0] at hw3 HEq
      obtain ⟨rfl, h3, hg3⟩ := hw3
      have H3 := hide h3
      have Hg3 := hide ((unhide Hg2).trans hg3)
      clear h3 hg3 H2 Hg2
      subst h0
      go_wp2_with fail
      refine (nameFault_any w3 t hus).mono ?_
      rintro e w4 ⟨rfl, hw4⟩
      obtain rfl : w3 = w4 := hw4.symm
      clear hw4
      go_wp2_with fail
      refine (check_any (unhide H3) (nameFaultF t)).mono ?_
      intro e w5 hw5
      by_cases h5 : nameFaultF t = 0
      · rw [if_pos h5] at hw5 HEq
        obtain ⟨rfl, h6, hg6⟩ := hw5
        have H6 := hide h6
        have Hg6 := hide ((unhide Hg3).trans hg6)
        clear h6 hg6 H3 Hg3 h5
        go_wp2_with fail
        refine (next_any (unhide H6) hp).mono ?_
        intro e w7 hw7
        rcases hw7.split with ⟨y, hr, rfl, hg7⟩ | ⟨y, s2, hr, rfl, h7, hg7⟩
        · refine ⟨rfl, ?_⟩
          rw [unhide HEq, hr]
          exact ⟨rfl, (unhide Hg6).trans hg7⟩
        · have HE : Hid (PR lo b W Value.string (meaningF nameFaultF s) (.returned (.string t)) w7) := by
            show PR lo b W Value.string (meaningF nameFaultF s) (.returned (.string t)) w7
            rw [unhide HEq, hr]
            exact ⟨rfl, h7, (unhide Hg6).trans hg7⟩
          clear hw7 h7 hg7 hr
          go_wp2
          go_ret
          exact unhide HE
      · rw [if_neg h5] at hw5 HEq
        obtain ⟨rfl, hg6⟩ := hw5
        refine ⟨rfl, ?_⟩
        rw [unhide HEq]
        exact ⟨rfl, (unhide Hg3).trans hg6⟩
    · rw [if_neg h0] at hw3 HEq
      obtain ⟨rfl, hg3⟩ := hw3
      refine ⟨rfl, ?_⟩
      rw [unhide HEq]
      exact ⟨rfl, (unhide Hg2).trans hg3⟩
end Go.Proofs.YtdhncpeemcanlaaGreatDoor

namespace Go.Proofs.YtdhncpeemcanlaaGreatDoor
open Go.RowKit
attribute [local go_sem ↓] Go.wp_at_zero Go.wp_at_succ

def NumP (W : World) (s : ByteArray) (e : Ending) (w : World) : Prop := Below W.heap.size W w ∧ ∃ n c : Int, e = .returned (.tuple #[.int .i64 n, .int .i64 c]) ∧ ((65536 < s.size ∧ n = 0 ∧ c = 2) ∨ (s.size ≤ 65536 ∧ NumU (strN s) n c))
set_option maxRecDepth 100000 in
theorem number_any {W : World} (h : HasE W) (s : ByteArray) : Calls Tryz.prog 135 #[.string s] W (NumP W s) := by
  by_cases h0 : s.size ≤ 65536
  · have e0 := ltF (a := s.size) (k := 65536) (by omega)
    go_enter Tryz.func135, Tryz.ntmps135
    go_wp2_with fail
    refine (worth_any h s h0).mono ?_
    rintro e w1 ⟨hb1, n, c, rfl, hu⟩
    have Hb := hide hb1
    have Hu := hide hu
    clear hb1 hu
    go_wp2
    go_ret2
    exact ⟨unhide Hb, n, c, rfl, .inr ⟨h0, unhide Hu⟩⟩
  · have e0 := ltT (a := s.size) (k := 65536) (by omega)
    have hb0 := Below.refl W.heap.size W
    go_enter Tryz.func135, Tryz.ntmps135
    go_wp2
    go_ret2
    exact ⟨hb0, _, _, rfl, .inl ⟨by omega, rfl, rfl⟩⟩
end Go.Proofs.YtdhncpeemcanlaaGreatDoor
