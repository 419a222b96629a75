import Derived.Test.YtckpainohfhopaaGreatDoorJ20
import Derived.Test.YtckpainohfhopaaGreatDoorJ20
import Derived.Test.YtckpainohfhopaaGreatDoorJ10
import Derived.Test.YtckpainohfhopaaGreatDoorJ06

namespace Go.Proofs.YtckpainohfhopaaGreatDoor
open Go.RowKit
attribute [local go_sem ↓] Go.wp_at_zero Go.wp_at_succ

theorem PR.split {α : Type} {lo b : Nat} {W w : World} {ret : α → Value} {r : Except (Int × Int) (α × PSt)} {e : Ending} (h : PR lo b W ret r e w) : (∃ x : Int × Int, r = .error x ∧ e = flt x.1 x.2 ∧ W.grownBy w (some b)) ∨ ∃ a s', r = .ok (a, s') ∧ e = .returned (ret a) ∧ Rd lo w b s' ∧ W.grownBy w (some b) := by
  unfold PR at h
  cases r with
  | error x => exact .inl ⟨x, rfl, h⟩
  | ok x => exact .inr ⟨x.1, x.2, rfl, h⟩
set_option maxRecDepth 100000 in
theorem need_any {W : World} {lo b : Nat} {s : PSt} (h : Rd lo W b s) (k : Int) : Calls Tryz.prog 95 #[.pointer (some ⟨b, 0, none⟩), .int .i64 k] W (PR lo b W Value.string (pneedF k s)) := by
  have hc := hide (here_any h)
  have Hd := hide h
  have hW : Hid (∀ w, Below W.heap.size W w → Calls Tryz.prog 58 #[.pointer (some ⟨b, 0, none⟩)] w fun e w' => e = flt (wrongE s).1 (wrongE s).2 ∧ Below w.heap.size w w') := fun w hb => wrong_any (h.up hb)
  obtain ⟨t, ht⟩ : ∃ t, s.here = t := ⟨_, rfl⟩
  have Ht := hide ht
  rw [ht] at hc
  obtain ⟨kd, sp, tx⟩ := t
  unfold Tk.val at hc
  simp only at hc
  clear ht h
  by_cases hk : kd = k
  · subst hk
    have HE : Hid (∀ w, Below W.heap.size W w → PR lo b W Value.string (pneedF kd s) (.returned (.string tx)) w) := fun w hb => by
      unfold pneedF
      rw [unhide Ht, if_pos rfl]
      exact ⟨rfl, (unhide Hd).up hb, below_grown b hb⟩
    go_enter Tryz.func95, Tryz.ntmps95
    go_wp2_with fail
    refine (unhide hc).mono ?_
    rintro e w1 ⟨rfl, hb1⟩
    have Hb1 := hide (hb1.alloc hb1.size (.cells #[.int .i64 kd, .int .i64 sp, .string tx] 38))
    clear hb1 hc
    go_wp2
    go_ret
    exact unhide HE _ (unhide Hb1)
  · have hne : (kd != k) = true := by simp [hk]
    have HE : Hid (∀ w, Below W.heap.size W w → PR lo b W Value.string (pneedF k s) (flt (wrongE s).1 (wrongE s).2) w) := fun w hb => by
      unfold pneedF
      rw [if_neg (by rw [unhide Ht]; exact hk)]
      exact ⟨rfl, below_grown b hb⟩
    go_enter Tryz.func95, Tryz.ntmps95
    go_wp2_with fail
    refine (unhide hc).mono ?_
    rintro e w1 ⟨rfl, hb1⟩
    have Hb1 := hide (hb1.alloc hb1.size (.cells #[.int .i64 kd, .int .i64 sp, .string tx] 38))
    clear hb1 hc
    go_wp2_with fail
    refine (unhide hW _ (unhide Hb1)).mono ?_
    rintro e w2 ⟨rfl, hb2⟩
    exact ⟨rfl, unhide HE w2 ((unhide Hb1).trans (hb2.mono (unhide Hb1).size))⟩
noncomputable def nameFaultF (x : ByteArray) : Int := if 255 < x.size then 2 else if identB x = true then 0 else 50
set_option maxRecDepth 100000 in
theorem word_any (W : World) (x : ByteArray) : Calls Tryz.prog 13 #[.string x] W fun e w => e = .returned (.bool (identB x)) ∧ w = W := by
  go_enter Tryz.func13, Tryz.ntmps13
  go_wp2_with fail
  refine (ident_same W x).mono ?_
  rintro e w1 ⟨rfl, hw⟩
  obtain rfl : W = w1 := hw.symm
  clear hw
  go_wp2
  go_ret
  exact ⟨rfl, rfl⟩
set_option maxRecDepth 100000 in
theorem nameFault_any (W : World) (x : ByteArray) (hx : x.size ≤ 1099511627776) : Calls Tryz.prog 143 #[.string x] W fun e w => e = .returned (.int .i64 (nameFaultF x)) ∧ w = W := by
  unfold nameFaultF
  by_cases h1 : 255 < x.size
  · rw [if_pos h1]
    have hd : decide ((255 : Int) < (x.size : Int)) = true := by simp; omega
    clear h1
    go_enter Tryz.func143, Tryz.ntmps143
    go_wp2
    go_ret
    exact ⟨rfl, rfl⟩
  · rw [if_neg h1]
    have hd : decide ((255 : Int) < (x.size : Int)) = false := by simp; omega
    have hw := hide (word_any W x)
    clear h1
    cases hi : identB x with
    | true =>
      rw [hi] at hw
      go_enter Tryz.func143, Tryz.ntmps143
      go_wp2_with fail
      refine (unhide hw).mono ?_
      rintro e w1 ⟨rfl, hw1⟩
      obtain rfl : W = w1 := hw1.symm
      clear hw1 hw hi
      go_wp2
      go_ret
      exact ⟨rfl, rfl⟩
    | false =>
      rw [hi] at hw
      go_enter Tryz.func143, Tryz.ntmps143
      go_wp2_with fail
      refine (unhide hw).mono ?_
      rintro e w1 ⟨rfl, hw1⟩
      obtain rfl : W = w1 := hw1.symm
      clear hw1 hw hi
      go_wp2
      go_ret
      exact ⟨rfl, rfl⟩
/-- A name. -/
noncomputable def pnameF (s : PSt) : Except (Int × Int) (ByteArray × PSt) := if s.here.kind = 1 then (if nameFaultF s.here.text = 0 then (match pnextF s with | .ok (_, s') => .ok (s.here.text, s') | .error e => .error e) else .error (nameFaultF s.here.text, s.here.spot)) else .error (wrongE s)
/-- No token is too long. -/
def Sm (s : PSt) : Prop := ∀ t ∈ s.ts, t.text.size ≤ 1099511627776
theorem Sm.here {s : PSt} (h : Sm s) (he : s.here.kind ≠ 5) (hk : s.en.kind = 5) : s.here.text.size ≤ 1099511627776 := by
  have hp := here_pos hk he
  unfold PSt.here at *
  cases hts : s.ts with
  | nil => rw [hts] at hp; simp at hp
  | cons t r => exact h t (by rw [hts]; simp)
set_option maxRecDepth 100000 in
set_option maxHeartbeats 1000000 in
theorem name_any {W : World} {lo b : Nat} {s : PSt} (h : Rd lo W b s) (hs : Sm s) : Calls Tryz.prog 123 #[.pointer (some ⟨b, 0, none⟩)] W (PR lo b W Value.string (pnameF s)) := by
  have hc := hide (need_any h 1)
  go_enter Tryz.func123, Tryz.ntmps123
  go_wp2_with fail
  refine (unhide hc).mono ?_
  intro e w1 hw
  rcases hw.split with ⟨x, hr, rfl, hg⟩ | ⟨x, s1, hr, rfl, h1, hg⟩
  · have hk : ¬ s.here.kind = 1 := fun e => by unfold pneedF at hr; rw [if_pos e] at hr; cases hr
    unfold pneedF at hr
    rw [if_neg hk] at hr
    obtain rfl : wrongE s = x := Except.error.inj hr
    refine ⟨rfl, ?_⟩
    unfold pnameF
    rw [if_neg hk]
    exact ⟨rfl, hg⟩
  · have hk : s.here.kind = 1 := by
      apply Classical.byContradiction
      intro e
      unfold pneedF at hr
      rw [if_neg e] at hr
      cases hr
    unfold pneedF at hr
    rw [if_pos hk] at hr
    simp only [Except.ok.injEq, Prod.mk.injEq] at hr
    obtain ⟨rfl, rfl⟩ := hr
    have hsz := hs.here (by rw [hk]; decide) h.grown
    have hp := here_pos h.grown (by rw [hk]; decide)
    obtain ⟨x, hx⟩ : ∃ x, s.here.text = x := ⟨_, rfl⟩
    rw [hx] at hsz ⊢
    have H1 := hide h1
    have Hg := hide hg
    have Hx := hide hx
    have Hk := hide hk
    clear hw h1 hg hk hc h hs hx
    go_wp2_with fail
    refine (nameFault_any w1 x hsz).mono ?_
    rintro e w2 ⟨rfl, hw2⟩
    obtain rfl : w1 = w2 := hw2.symm
    clear hw2
    go_wp2_with fail
    refine (check_any (unhide H1) (nameFaultF x)).mono ?_
    intro e w3 hw3
    by_cases h0 : nameFaultF x = 0
    · rw [if_pos h0] at hw3
      obtain ⟨rfl, h3, hg3⟩ := hw3
      have H3 := hide h3
      have Hg3 := hide ((unhide Hg).trans hg3)
      have H0 := hide h0
      clear h3 hg3 h0
      go_wp2_with fail
      refine (next_any (unhide H3) hp).mono ?_
      intro e w4 hw4
      rcases hw4.split with ⟨y, hr, rfl, hg4⟩ | ⟨y, s2, hr, rfl, h4, hg4⟩
      · refine ⟨rfl, ?_⟩
        unfold pnameF
        rw [if_pos (unhide Hk), unhide Hx, if_pos (unhide H0), hr]
        exact ⟨rfl, (unhide Hg3).trans hg4⟩
      · have H4 := hide h4
        have Hg4 := hide ((unhide Hg3).trans hg4)
        have Hr := hide hr
        clear hw4 h4 hg4 hr
        go_wp2_with fail
        refine (clone_any w4 x (by omega)).mono ?_
        rintro e w5 ⟨rfl, hb5⟩
        have HE : Hid (PR lo b W Value.string (pnameF s) (.returned (.string x)) w5) := by
          unfold pnameF
          rw [if_pos (unhide Hk), unhide Hx, if_pos (unhide H0), unhide Hr]
          exact ⟨rfl, (unhide H4).up hb5, (unhide Hg4).trans (below_grown b hb5)⟩
        clear hb5
        go_wp2
        go_ret
        exact unhide HE
    · rw [if_neg h0] at hw3
      obtain ⟨rfl, hg3⟩ := hw3
      refine ⟨rfl, ?_⟩
      unfold pnameF
      rw [if_pos (unhide Hk), unhide Hx, if_neg h0]
      exact ⟨rfl, (unhide Hg).trans hg3⟩
end Go.Proofs.YtckpainohfhopaaGreatDoor

namespace Go.Proofs.YtckpainohfhopaaGreatDoor
open Go.RowKit Go.Lib
attribute [local go_sem ↓] Go.wp_at_zero Go.wp_at_succ

/-- A text and an error. -/
def UE (W : World) (s : ByteArray) (e : Ending) (w : World) : Prop := Below W.heap.size W w ∧ ∃ (t : ByteArray) (c : Int), e = .returned (.tuple #[.string t, .int .i64 c]) ∧ unqR s = (t, c)
theorem ueIs {W w : World} {s t : ByteArray} {c : Int} (hb : Below W.heap.size W w) (h : unqR s = (t, c)) : UE W s (.returned (.tuple #[.string t, .int .i64 c])) w := ⟨hb, t, c, rfl, h⟩
theorem unqR_long {s : ByteArray} (h : 65536 < s.size) : unqR s = (⟨#[]⟩, 2) := by unfold unqR; rw [if_pos h]; rfl
theorem unqR_cod {s : ByteArray} (h : ¬ 65536 < s.size) (h2 : 0 ≤ utfAt s 0) : unqR s = (⟨#[]⟩, 44) := by unfold unqR; rw [if_neg h, if_pos h2]; rfl
theorem unqR_bad {s : ByteArray} (h : ¬ 65536 < s.size) (h2 : ¬ 0 ≤ utfAt s 0) (h3 : unqL s = none ∨ ∃ l e, unqL s = some (l, e) ∧ ¬ e = s.size) : unqR s = (⟨#[]⟩, 42) := by
  unfold unqR
  rw [if_neg h, if_neg h2]
  rcases h3 with h3 | ⟨l, e, h3, h4⟩
  · rw [h3]; rfl
  · rw [h3]
    show (if e = s.size then (ofN l, (0 : Int)) else (.empty, 42)) = _
    rw [if_neg h4]; rfl
theorem unqR_ok {s : ByteArray} {l : List Nat} (h : ¬ 65536 < s.size) (h2 : ¬ 0 ≤ utfAt s 0) (h3 : unqL s = some (l, s.size)) : unqR s = (ofN l, 0) := by
  unfold unqR
  rw [if_neg h, if_neg h2, h3]
  show (if s.size = s.size then (ofN l, (0 : Int)) else (.empty, 42)) = _
  rw [if_pos rfl]
theorem unqL_le {s : ByteArray} {l : List Nat} {e : Nat} (h : unqL s = some (l, e)) : 1 < e ∧ e ≤ s.size ∧ Byt l := by
  unfold unqL at h
  split at h
  · cases h
  · split at h
    · have := uq_le _ 1 l e (Nat.le_refl _) h
      exact ⟨this.1, this.2.1, this.2.2.1⟩
    · cases h
set_option maxRecDepth 100000 in
set_option maxHeartbeats 1000000 in
theorem unq_any {W : World} (hF : HasF W) (hE : HasE W) (s : ByteArray) : Calls Tryz.prog 94 #[.string s] W (UE W s) := by
  have hb0 := Below.refl W.heap.size W
  by_cases h0 : 65536 < s.size
  · have Hr := hide (unqR_long h0)
    have e0 := ltT (a := s.size) (k := 65536) (by omega)
    clear h0
    go_enter Tryz.func94, Tryz.ntmps94
    go_wp2
    go_ret2
    exact ueIs hb0 (unhide Hr)
  · have e0 := ltF (a := s.size) (k := 65536) (by omega)
    have hs : s.size ≤ 65536 := by omega
    have H0 := hide h0
    clear h0
    go_enter Tryz.func94, Tryz.ntmps94
    go_wp2_with fail
    refine (utf8_any hF s (by omega)).mono ?_
    rintro e w1 ⟨rfl, hb1⟩
    have Hb1 := hide hb1
    clear hb1 hb0
    by_cases h1 : 0 ≤ utfAt s 0
    · have Hr := hide (unqR_cod (unhide H0) h1)
      obtain ⟨u, hu⟩ : ∃ u, u = utfAt s 0 := ⟨_, rfl⟩
      rw [← hu] at h1 ⊢
      have e1 : decide (0 ≤ u) = true := by simp; omega
      clear hu h1
      go_wp2
      go_ret2
      exact ueIs (unhide Hb1) (unhide Hr)
    · have H1 : Hid (utfAt s 0 < 0) := by show _ < _; omega
      obtain ⟨u, hu⟩ : ∃ u, u = utfAt s 0 := ⟨_, rfl⟩
      rw [← hu] at h1 ⊢
      have e1 : decide (0 ≤ u) = false := by simp; omega
      clear hu h1
      go_wp2_with fail
      refine (unquote_any (hE.up (unhide Hb1)) s hs).mono ?_
      rintro e w2 ⟨hb2, ⟨ho, rfl⟩ | ⟨l, n, v, ho, rfl, hv⟩⟩
      · have Hr := hide (unqR_bad (unhide H0) (Int.not_le.2 (unhide H1)) (.inl ho))
        have HB2 : Hid (Below W.heap.size W w2) := (unhide Hb1).trans (hb2.mono (unhide Hb1).size)
        clear ho hb2
        go_wp2
        go_ret2
        exact ueIs (unhide HB2) (unhide Hr)
      · obtain ⟨n1, n2, hbyt⟩ := unqL_le ho
        have HB2 : Hid (Below W.heap.size W w2) := (unhide Hb1).trans (hb2.mono (unhide Hb1).size)
        have n0 : ((n : Int) == 0) = false := by simp; omega
        obtain ⟨va, vn, vc, rfl⟩ := hv.shape
        by_cases h2 : n = s.size
        · have Hr := hide (unqR_ok (unhide H0) (Int.not_le.2 (unhide H1)) (by rw [ho, h2]))
          have hcv := conv_any hv.has hbyt
          have e2 : decide (n < s.size) = false := by simp; omega
          clear ho hb2 hv h2 hbyt
          go_wp2
          go_ret2
          exact ueIs (unhide HB2) (unhide Hr)
        · have Hr := hide (unqR_bad (unhide H0) (Int.not_le.2 (unhide H1)) (.inr ⟨l, n, ho, h2⟩))
          have e2 : decide (n < s.size) = true := by simp; omega
          clear ho hb2 hv h2 hbyt
          go_wp2
          go_ret2
          exact ueIs (unhide HB2) (unhide Hr)
end Go.Proofs.YtckpainohfhopaaGreatDoor

namespace Go.Proofs.YtckpainohfhopaaGreatDoor
open Go.RowKit
attribute [local go_sem ↓] Go.wp_at_zero Go.wp_at_succ

/-- What lies below a reader. -/
structure Env (V W : World) (b : Nat) : Prop where
  f : HasF V
  e : HasE V
  m : HasM V
  below : Below V.heap.size V W
  lo : V.heap.size ≤ b
theorem Env.step {V W w : World} {b : Nat} (h : Env V W b) (hg : W.grownBy w (some b)) : Env V w b :=
  ⟨h.f, h.e, h.m, h.below.grown hg h.below.size (fun k e => by simp at e; have := h.lo; omega), h.lo⟩
theorem Env.hasF {V W : World} {b : Nat} (h : Env V W b) : HasF W := h.f.up h.below
theorem Env.hasE {V W : World} {b : Nat} (h : Env V W b) : HasE W := h.e.up h.below
noncomputable def meaningF (ff : ByteArray → Int) (s : PSt) : Except (Int × Int) (ByteArray × PSt) :=
  if s.here.kind = 3 then (if (unqR s.here.text).2 = 0 then (if ff (unqR s.here.text).1 = 0 then (match pnextF s with | .ok (_, s') => .ok ((unqR s.here.text).1, s') | .error e => .error e) else .error (ff (unqR s.here.text).1, s.here.spot)) else .error ((unqR s.here.text).2, s.here.spot)) else .error (wrongE s)
theorem unqL_len {s : ByteArray} {l : List Nat} {e : Nat} (h : unqL s = some (l, e)) : l.length < e := by
  unfold unqL at h
  split at h
  · cases h
  · split at h
    · have := uq_le _ 1 l e (Nat.le_refl _) h
      have := this.2.2.2
      omega
    · cases h
theorem unqR_size (s : ByteArray) : (unqR s).1.size ≤ 1099511627776 := by
  by_cases h : 65536 < s.size
  · rw [unqR_long h]; decide
  · by_cases h2 : 0 ≤ utfAt s 0
    · rw [unqR_cod h h2]; decide
    · cases h3 : unqL s with
      | none => rw [unqR_bad h h2 (.inl h3)]; decide
      | some p =>
        obtain ⟨l, e⟩ := p
        by_cases he : e = s.size
        · subst he
          rw [unqR_ok h h2 h3]
          have h4 := unqL_len h3
          rw [ofN_size]
          omega
        · rw [unqR_bad h h2 (.inr ⟨l, e, h3, he⟩)]; decide
def syntaxF (x : ByteArray) : Int := if (x.toList == [112, 114, 111, 116, 111, 51]) = true then 0 else 50
set_option maxRecDepth 100000 in
theorem syntaxFault_any (W : World) (x : ByteArray) (_ : x.size ≤ 1099511627776) : Calls Tryz.prog 61 #[.string x] W fun e w => e = .returned (.int .i64 (syntaxF x)) ∧ w = W := by
  unfold syntaxF
  cases h : (x.toList == [112, 114, 111, 116, 111, 51]) with
  | true =>
    go_enter Tryz.func61, Tryz.ntmps61
    go_wp2
    go_ret
    exact ⟨rfl, rfl⟩
  | false =>
    go_enter Tryz.func61, Tryz.ntmps61
    go_wp2
    go_ret
    exact ⟨rfl, rfl⟩
def importF (x : ByteArray) : Int := if 255 < x.size then 2 else if (x.toList == []) = true then 50 else 0
set_option maxRecDepth 100000 in
theorem importFault_any (W : World) (x : ByteArray) (hx : x.size ≤ 1099511627776) : Calls Tryz.prog 122 #[.string x] W fun e w => e = .returned (.int .i64 (importF x)) ∧ w = W := by
  unfold importF
  by_cases h1 : 255 < x.size
  · rw [if_pos h1]
    have hd : decide ((255 : Int) < (x.size : Int)) = true := by simp; omega
    clear h1
    go_enter Tryz.func122, Tryz.ntmps122
    go_wp2
    go_ret
    exact ⟨rfl, rfl⟩
  · rw [if_neg h1]
    have hd : decide ((255 : Int) < (x.size : Int)) = false := by simp; omega
    clear h1
    cases h : (x.toList == []) with
    | true =>
      go_enter Tryz.func122, Tryz.ntmps122
      go_wp2
      go_ret
      exact ⟨rfl, rfl⟩
    | false =>
      go_enter Tryz.func122, Tryz.ntmps122
      go_wp2
      go_ret
      exact ⟨rfl, rfl⟩
set_option maxRecDepth 100000 in
set_option maxHeartbeats 2000000 in
theorem meaning_syntax_any {V W : World} {lo b : Nat} {s : PSt} (hv : Env V W b) (h : Rd lo W b s) : Calls Tryz.prog 60 #[.pointer (some ⟨b, 0, none⟩), .func (.func 61) #[] #[]] W (PR lo b W Value.string (meaningF syntaxF s)) := by
  have hc := hide (need_any h 3)
  have Hv := hide hv
  go_enter Tryz.func60, Tryz.ntmps60
  go_wp2_with fail
  refine (unhide hc).mono ?_
  intro e w1 hw
  rcases hw.split with ⟨x, hr, rfl, hg⟩ | ⟨x, s1, hr, rfl, h1, hg⟩
  · have hk : ¬ s.here.kind = 3 := fun e => by unfold pneedF at hr; rw [if_pos e] at hr; cases hr
    unfold pneedF at hr
    rw [if_neg hk] at hr
    obtain rfl : wrongE s = x := Except.error.inj hr
    refine ⟨rfl, ?_⟩
    unfold meaningF
    rw [if_neg hk]
    exact ⟨rfl, hg⟩
  · have hk : s.here.kind = 3 := by
      apply Classical.byContradiction
      intro e
      unfold pneedF at hr
      rw [if_neg e] at hr
      cases hr
    unfold pneedF at hr
    rw [if_pos hk] at hr
    simp only [Except.ok.injEq, Prod.mk.injEq] at hr
    obtain ⟨rfl, rfl⟩ := hr
    have hp := here_pos h.grown (by rw [hk]; decide)
    have hEq : meaningF syntaxF s = (if (unqR s.here.text).2 = 0 then (if syntaxF (unqR s.here.text).1 = 0 then (match pnextF s with | .ok (_, s') => .ok ((unqR s.here.text).1, s') | .error e => .error e) else .error (syntaxF (unqR s.here.text).1, s.here.spot)) else .error ((unqR s.here.text).2, s.here.spot)) := by unfold meaningF; rw [if_pos hk]
    have HEq := hide hEq
    have H1 := hide h1
    have Hg := hide hg
    have hun := unq_any ((hv.step hg).hasF) ((hv.step hg).hasE) s.here.text
    have hus := unqR_size s.here.text
    have Hun := hide hun
    obtain ⟨x, hx⟩ : ∃ x, s.here.text = x := ⟨_, rfl⟩
    rw [hx] at HEq Hun hus ⊢
    clear hw h1 hg hk hc h hv hx hEq hun
    go_wp2_with fail
    refine (unhide Hun).mono ?_
    rintro e w2 ⟨hb2, t, c, rfl, hu⟩
    rw [hu] at HEq hus
    simp only at HEq hus
    have H2 := hide ((unhide H1).up hb2)
    have Hg2 := hide ((unhide Hg).trans (below_grown b hb2))
    clear hb2 hu Hun H1 Hg
    go_wp2_with fail
    refine (check_any (unhide H2) c).mono ?_
    intro e w3 hw3
    by_cases h0 : c = 0
    · rw [if_pos h0] at hw3 HEq
      obtain ⟨rfl, h3, hg3⟩ := hw3
      have H3 := hide h3
      have Hg3 := hide ((unhide Hg2).trans hg3)
      clear h3 hg3 H2 Hg2
      subst h0
      go_wp2_with fail
      refine (syntaxFault_any w3 t hus).mono ?_
      rintro e w4 ⟨rfl, hw4⟩
      obtain rfl : w3 = w4 := hw4.symm
      clear hw4
      go_wp2_with fail
      refine (check_any (unhide H3) (syntaxF t)).mono ?_
      intro e w5 hw5
      by_cases h5 : syntaxF t = 0
      · rw [if_pos h5] at hw5 HEq
        obtain ⟨rfl, h6, hg6⟩ := hw5
        have H6 := hide h6
        have Hg6 := hide ((unhide Hg3).trans hg6)
        clear h6 hg6 H3 Hg3 h5
        go_wp2_with fail
        refine (next_any (unhide H6) hp).mono ?_
        intro e w7 hw7
        rcases hw7.split with ⟨y, hr, rfl, hg7⟩ | ⟨y, s2, hr, rfl, h7, hg7⟩
        · refine ⟨rfl, ?_⟩
          rw [unhide HEq, hr]
          exact ⟨rfl, (unhide Hg6).trans hg7⟩
        · have HE : Hid (PR lo b W Value.string (meaningF syntaxF s) (.returned (.string t)) w7) := by
            show PR lo b W Value.string (meaningF syntaxF s) (.returned (.string t)) w7
            rw [unhide HEq, hr]
            exact ⟨rfl, h7, (unhide Hg6).trans hg7⟩
          clear hw7 h7 hg7 hr
          go_wp2
          go_ret
          exact unhide HE
      · rw [if_neg h5] at hw5 HEq
        obtain ⟨rfl, hg6⟩ := hw5
        refine ⟨rfl, ?_⟩
        rw [unhide HEq]
        exact ⟨rfl, (unhide Hg3).trans hg6⟩
    · rw [if_neg h0] at hw3 HEq
      obtain ⟨rfl, hg3⟩ := hw3
      refine ⟨rfl, ?_⟩
      rw [unhide HEq]
      exact ⟨rfl, (unhide Hg2).trans hg3⟩
set_option maxRecDepth 100000 in
set_option maxHeartbeats 2000000 in
theorem meaning_import_any {V W : World} {lo b : Nat} {s : PSt} (hv : Env V W b) (h : Rd lo W b s) : Calls Tryz.prog 60 #[.pointer (some ⟨b, 0, none⟩), .func (.func 122) #[] #[]] W (PR lo b W Value.string (meaningF importF s)) := by
  have hc := hide (need_any h 3)
  have Hv := hide hv
  go_enter Tryz.func60, Tryz.ntmps60
  go_wp2_with fail
  refine (unhide hc).mono ?_
  intro e w1 hw
  rcases hw.split with ⟨x, hr, rfl, hg⟩ | ⟨x, s1, hr, rfl, h1, hg⟩
  · have hk : ¬ s.here.kind = 3 := fun e => by unfold pneedF at hr; rw [if_pos e] at hr; cases hr
    unfold pneedF at hr
    rw [if_neg hk] at hr
    obtain rfl : wrongE s = x := Except.error.inj hr
    refine ⟨rfl, ?_⟩
    unfold meaningF
    rw [if_neg hk]
    exact ⟨rfl, hg⟩
  · have hk : s.here.kind = 3 := by
      apply Classical.byContradiction
      intro e
      unfold pneedF at hr
      rw [if_neg e] at hr
      cases hr
    unfold pneedF at hr
    rw [if_pos hk] at hr
    simp only [Except.ok.injEq, Prod.mk.injEq] at hr
    obtain ⟨rfl, rfl⟩ := hr
    have hp := here_pos h.grown (by rw [hk]; decide)
    have hEq : meaningF importF s = (if (unqR s.here.text).2 = 0 then (if importF (unqR s.here.text).1 = 0 then (match pnextF s with | .ok (_, s') => .ok ((unqR s.here.text).1, s') | .error e => .error e) else .error (importF (unqR s.here.text).1, s.here.spot)) else .error ((unqR s.here.text).2, s.here.spot)) := by unfold meaningF; rw [if_pos hk]
    have HEq := hide hEq
    have H1 := hide h1
    have Hg := hide hg
    have hun := unq_any ((hv.step hg).hasF) ((hv.step hg).hasE) s.here.text
    have hus := unqR_size s.here.text
    have Hun := hide hun
    obtain ⟨x, hx⟩ : ∃ x, s.here.text = x := ⟨_, rfl⟩
    rw [hx] at HEq Hun hus ⊢
    clear hw h1 hg hk hc h hv hx hEq hun
    go_wp2_with fail
    refine (unhide Hun).mono ?_
    rintro e w2 ⟨hb2, t, c, rfl, hu⟩
    rw [hu] at HEq hus
    simp only at HEq hus
    have H2 := hide ((unhide H1).up hb2)
    have Hg2 := hide ((unhide Hg).trans (below_grown b hb2))
    clear hb2 hu Hun H1 Hg
    go_wp2_with fail
    refine (check_any (unhide H2) c).mono ?_
    intro e w3 hw3
    by_cases h0 : c = 0
    · rw [if_pos h0] at hw3 HEq
      obtain ⟨rfl, h3, hg3⟩ := hw3
      have H3 := hide h3
      have Hg3 := hide ((unhide Hg2).trans hg3)
      clear h3 hg3 H2 Hg2
      subst h0
      go_wp2_with fail
      refine (importFault_any w3 t hus).mono ?_
      rintro e w4 ⟨rfl, hw4⟩
      obtain rfl : w3 = w4 := hw4.symm
      clear hw4
      go_wp2_with fail
      refine (check_any (unhide H3) (importF t)).mono ?_
      intro e w5 hw5
      by_cases h5 : importF t = 0
      · rw [if_pos h5] at hw5 HEq
        obtain ⟨rfl, h6, hg6⟩ := hw5
        have H6 := hide h6
        have Hg6 := hide ((unhide Hg3).trans hg6)
        clear h6 hg6 H3 Hg3 h5
        go_wp2_with fail
        refine (next_any (unhide H6) hp).mono ?_
        intro e w7 hw7
        rcases hw7.split with ⟨y, hr, rfl, hg7⟩ | ⟨y, s2, hr, rfl, h7, hg7⟩
        · refine ⟨rfl, ?_⟩
          rw [unhide HEq, hr]
          exact ⟨rfl, (unhide Hg6).trans hg7⟩
        · have HE : Hid (PR lo b W Value.string (meaningF importF s) (.returned (.string t)) w7) := by
            show PR lo b W Value.string (meaningF importF s) (.returned (.string t)) w7
            rw [unhide HEq, hr]
            exact ⟨rfl, h7, (unhide Hg6).trans hg7⟩
          clear hw7 h7 hg7 hr
          go_wp2
          go_ret
          exact unhide HE
      · rw [if_neg h5] at hw5 HEq
        obtain ⟨rfl, hg6⟩ := hw5
        refine ⟨rfl, ?_⟩
        rw [unhide HEq]
        exact ⟨rfl, (unhide Hg3).trans hg6⟩
    · rw [if_neg h0] at hw3 HEq
      obtain ⟨rfl, hg3⟩ := hw3
      refine ⟨rfl, ?_⟩
      rw [unhide HEq]
      exact ⟨rfl, (unhide Hg2).trans hg3⟩
set_option maxRecDepth 100000 in
set_option maxHeartbeats 2000000 in
theorem meaning_name_any {V W : World} {lo b : Nat} {s : PSt} (hv : Env V W b) (h : Rd lo W b s) : Calls Tryz.prog 60 #[.pointer (some ⟨b, 0, none⟩), .func (.func 143) #[] #[]] W (PR lo b W Value.string (meaningF nameFaultF s)) := by
  have hc := hide (need_any h 3)
  have Hv := hide hv
  go_enter Tryz.func60, Tryz.ntmps60
  go_wp2_with fail
  refine (unhide hc).mono ?_
  intro e w1 hw
  rcases hw.split with ⟨x, hr, rfl, hg⟩ | ⟨x, s1, hr, rfl, h1, hg⟩
  · have hk : ¬ s.here.kind = 3 := fun e => by unfold pneedF at hr; rw [if_pos e] at hr; cases hr
    unfold pneedF at hr
    rw [if_neg hk] at hr
    obtain rfl : wrongE s = x := Except.error.inj hr
    refine ⟨rfl, ?_⟩
    unfold meaningF
    rw [if_neg hk]
    exact ⟨rfl, hg⟩
  · have hk : s.here.kind = 3 := by
      apply Classical.byContradiction
      intro e
      unfold pneedF at hr
      rw [if_neg e] at hr
      cases hr
    unfold pneedF at hr
    rw [if_pos hk] at hr
    simp only [Except.ok.injEq, Prod.mk.injEq] at hr
    obtain ⟨rfl, rfl⟩ := hr
    have hp := here_pos h.grown (by rw [hk]; decide)
    have hEq : meaningF nameFaultF s = (if (unqR s.here.text).2 = 0 then (if nameFaultF (unqR s.here.text).1 = 0 then (match pnextF s with | .ok (_, s') => .ok ((unqR s.here.text).1, s') | .error e => .error e) else .error (nameFaultF (unqR s.here.text).1, s.here.spot)) else .error ((unqR s.here.text).2, s.here.spot)) := by unfold meaningF; rw [if_pos hk]
    have HEq := hide hEq
    have H1 := hide h1
    have Hg := hide hg
    have hun := unq_any ((hv.step hg).hasF) ((hv.step hg).hasE) s.here.text
    have hus := unqR_size s.here.text
    have Hun := hide hun
    obtain ⟨x, hx⟩ : ∃ x, s.here.text = x := ⟨_, rfl⟩
    rw [hx] at HEq Hun hus ⊢
    clear hw h1 hg hk hc h hv hx hEq hun
    go_wp2_with fail
    refine (unhide Hun).mono ?_
    rintro e w2 ⟨hb2, t, c, rfl, hu⟩
    rw [hu] at HEq hus
    simp only at HEq hus
    have H2 := hide ((unhide H1).up hb2)
    have Hg2 := hide ((unhide Hg).trans (below_grown b hb2))
    clear hb2 hu Hun H1 Hg
    go_wp2_with fail
    refine (check_any (unhide H2) c).mono ?_
    intro e w3 hw3
    by_cases h0 : c = 0
    · rw [if_pos h0] at hw3 HEq
      obtain ⟨rfl, h3, hg3⟩ := hw3
      have H3 := hide h3
      have Hg3 := hide ((unhide Hg2).trans hg3)
      clear h3 hg3 H2 Hg2
      subst h0
      go_wp2_with fail
      refine (nameFault_any w3 t hus).mono ?_
      rintro e w4 ⟨rfl, hw4⟩
      obtain rfl : w3 = w4 := hw4.symm
      clear hw4
      go_wp2_with fail
      refine (check_any (unhide H3) (nameFaultF t)).mono ?_
      intro e w5 hw5
      by_cases h5 : nameFaultF t = 0
      · rw [if_pos h5] at hw5 HEq
        obtain ⟨rfl, h6, hg6⟩ := hw5
        have H6 := hide h6
        have Hg6 := hide ((unhide Hg3).trans hg6)
        clear h6 hg6 H3 Hg3 h5
        go_wp2_with fail
        refine (next_any (unhide H6) hp).mono ?_
        intro e w7 hw7
        rcases hw7.split with ⟨y, hr, rfl, hg7⟩ | ⟨y, s2, hr, rfl, h7, hg7⟩
        · refine ⟨rfl, ?_⟩
          rw [unhide HEq, hr]
          exact ⟨rfl, (unhide Hg6).trans hg7⟩
        · have HE : Hid (PR lo b W Value.string (meaningF nameFaultF s) (.returned (.string t)) w7) := by
            show PR lo b W Value.string (meaningF nameFaultF s) (.returned (.string t)) w7
            rw [unhide HEq, hr]
            exact ⟨rfl, h7, (unhide Hg6).trans hg7⟩
          clear hw7 h7 hg7 hr
          go_wp2
          go_ret
          exact unhide HE
      · rw [if_neg h5] at hw5 HEq
        obtain ⟨rfl, hg6⟩ := hw5
        refine ⟨rfl, ?_⟩
        rw [unhide HEq]
        exact ⟨rfl, (unhide Hg3).trans hg6⟩
    · rw [if_neg h0] at hw3 HEq
      obtain ⟨rfl, hg3⟩ := hw3
      refine ⟨rfl, ?_⟩
      rw [unhide HEq]
      exact ⟨rfl, (unhide Hg2).trans hg3⟩
end Go.Proofs.YtckpainohfhopaaGreatDoor

namespace Go.Proofs.YtckpainohfhopaaGreatDoor
open Go.RowKit
attribute [local go_sem ↓] Go.wp_at_zero Go.wp_at_succ

def NumP (W : World) (s : ByteArray) (e : Ending) (w : World) : Prop := Below W.heap.size W w ∧ ∃ n c : Int, e = .returned (.tuple #[.int .i64 n, .int .i64 c]) ∧ ((65536 < s.size ∧ n = 0 ∧ c = 2) ∨ (s.size ≤ 65536 ∧ NumU (strN s) n c))
set_option maxRecDepth 100000 in
theorem number_any {W : World} (h : HasE W) (s : ByteArray) : Calls Tryz.prog 182 #[.string s] W (NumP W s) := by
  by_cases h0 : s.size ≤ 65536
  · have e0 := ltF (a := s.size) (k := 65536) (by omega)
    go_enter Tryz.func182, Tryz.ntmps182
    go_wp2_with fail
    refine (worth_any h s h0).mono ?_
    rintro e w1 ⟨hb1, n, c, rfl, hu⟩
    have Hb := hide hb1
    have Hu := hide hu
    clear hb1 hu
    go_wp2
    go_ret2
    exact ⟨unhide Hb, n, c, rfl, .inr ⟨h0, unhide Hu⟩⟩
  · have e0 := ltT (a := s.size) (k := 65536) (by omega)
    have hb0 := Below.refl W.heap.size W
    go_enter Tryz.func182, Tryz.ntmps182
    go_wp2
    go_ret2
    exact ⟨hb0, _, _, rfl, .inl ⟨by omega, rfl, rfl⟩⟩
end Go.Proofs.YtckpainohfhopaaGreatDoor
