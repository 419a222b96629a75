import Derived.Test.YthodjkeppobcmaaDoorKK
import Derived.Recover
import Derived.Outline

namespace Go.Proofs.YthodjkeppobcmaaDoor
open Go.RowKit Go.Lib
attribute [local go_sem ↓] Go.wp_at_zero Go.wp_at_succ

set_option maxRecDepth 100000 in
theorem row_deep {V : World × World} {s : ByteArray} {bb b a : Nat} {out : List Nat} {W : World} (h : Sc V s bb b a 200 out W) (x y fn : Value) :
    Calls Tryd.prog 26 #[.pointer (some ⟨b, 0, none⟩), x, y, fn] W (fun e w => e = flt 4 (a : Int) ∧ Fw V bb b w) := by
  obtain ⟨-, c1, -, c3, -⟩ := h.cells
  have HB := hide h.bel
  have c3' : W.cell? ⟨b, 3, none⟩ = some (.int .i64 200) := c3
  clear h c3
  go_enter Tryd.func26, Tryd.ntmps26
  go_wp2_with fail
  refine (refuse_any _ _ _).mono ?_
  rintro e w2 ⟨rfl, rfl⟩
  exact ⟨rfl, rfl, unhide HB⟩
set_option maxRecDepth 100000 in
set_option maxHeartbeats 2000000 in
theorem value_any {V : World × World} {s : ByteArray} {bb b : Nat} (hE : HasE V.1) (hs : s.size ≤ 67108864) : ∀ (d op : Nat), op + d = 200 → ∀ (a : Nat) (out : List Nat) (W : World), Sc V s bb b a op out W → Calls Tryd.prog 15 #[.pointer (some ⟨b, 0, none⟩)] W (CR V s bb b op out isNil (valR (strN s) d a)) := by
  intro d
  induction d with
  | zero =>
    intro op hop a out W h
    obtain rfl : op = 200 := by omega
    have HP := hide (peek_any h hs)
    have HD : Hid (∀ w x y fn, Sc V s bb b (skB (strN s) a) 200 out w → Calls Tryd.prog 26 #[.pointer (some ⟨b, 0, none⟩), x, y, fn] w (fun e w => e = flt 4 (skB (strN s) a : Int) ∧ Fw V bb b w)) := fun w x y fn hw => row_deep hw x y fn
    have HT : Hid (∀ w, Sc V s bb b (skB (strN s) a) 200 out w → Calls Tryd.prog 29 #[.pointer (some ⟨b, 0, none⟩)] w (CR V s bb b 200 out isStr (tokR (strN s) a))) := fun w hw => by
      have := token_any hE hw hs
      rw [tokR_sk] at this
      exact this
    obtain ⟨R, hR⟩ : ∃ R, valR (strN s) 0 a = R := ⟨_, rfl⟩
    have HR : Hid (R = if bt (strN s) (skB (strN s) a) = 123 ∨ bt (strN s) (skB (strN s) a) = 91 then .error (4, skB (strN s) a) else if isSg (bt (strN s) (skB (strN s) a)) = true then .error (120, skB (strN s) a) else tokR (strN s) a) := hR.symm
    rw [hR]
    obtain ⟨k, hk⟩ : ∃ k, skB (strN s) a = k := ⟨_, rfl⟩
    rw [hk] at HP HD HT HR
    obtain ⟨x, hx⟩ : ∃ x, bt (strN s) k = x := ⟨_, rfl⟩
    rw [hx] at HP HR
    clear h hR hk hx hE
    by_cases h1 : x = 123 ∨ x = 91
    · have HR2 : Hid (R = .error (4, k)) := (unhide HR).trans (if_pos h1)
      clear HR
      rcases h1 with h1 | h1
      all_goals (
        subst h1
        go_enter Tryd.func15, Tryd.ntmps15
        go_wp2_with fail
        refine (unhide HP).mono ?_
        rintro e w1 ⟨rfl, h1⟩
        have HC := hide (unhide HD w1 · · · h1)
        clear h1
        go_wp2_with fail
        refine (unhide HC _ _ _).mono ?_
        rintro e w2 ⟨rfl, hb⟩
        have HEnd : CR V s bb b 200 out isNil R (flt 4 (k : Int)) w2 := by
          rw [unhide HR2]
          exact CR.err _ _ hb
        exact ⟨rfl, HEnd⟩)
    · have HR1 := (unhide HR).trans (if_neg h1)
      have e1 : ((x : Int) == 123) = false := by simp; omega
      have e2 : ((x : Int) == 91) = false := by simp; omega
      by_cases h2 : isSg x = true
      · have HR2 : Hid (R = .error (120, k)) := HR1.trans (if_pos h2)
        have q : x = 125 ∨ x = 93 ∨ x = 58 ∨ x = 44 := by unfold isSg at h2; simp at h2; omega
        clear HR HR1 h1 h2 e1 e2
        rcases q with h1 | h1 | h1 | h1
        all_goals (
          subst h1
          go_enter Tryd.func15, Tryd.ntmps15
          go_wp2_with fail
          refine (unhide HP).mono ?_
          rintro e w1 ⟨rfl, h1⟩
          have H1 := hide h1
          have c1 := h1.cells.2.1
          clear h1
          go_wp2_with fail
          refine (refuse_any _ _ _).mono ?_
          rintro e w2 ⟨rfl, rfl⟩
          have HEnd : CR V s bb b 200 out isNil R (flt 120 (k : Int)) w2 := by
            rw [unhide HR2]
            exact CR.err _ _ (unhide H1).bel
          exact ⟨rfl, HEnd⟩)
      · have HR2 : Hid (R = tokR (strN s) a) := HR1.trans (if_neg h2)
        have e3 : ((x : Int) == 125) = false := by unfold isSg at h2; simp at h2 ⊢; omega
        have e4 : ((x : Int) == 93) = false := by unfold isSg at h2; simp at h2 ⊢; omega
        have e5 : ((x : Int) == 58) = false := by unfold isSg at h2; simp at h2 ⊢; omega
        have e6 : ((x : Int) == 44) = false := by unfold isSg at h2; simp at h2 ⊢; omega
        clear HR HR1 h1 h2
        go_enter Tryd.func15, Tryd.ntmps15
        go_wp2_with fail
        refine (unhide HP).mono ?_
        rintro e w1 ⟨rfl, h1⟩
        have HC := hide (unhide HT w1 h1)
        clear h1
        go_wp2_with fail
        refine (unhide HC).mono ?_
        intro e w2 h2
        rw [← unhide HR2] at h2
        rcases h2.split with ⟨c', p, hr, rfl, hb⟩ | ⟨l, p, v, hr, rfl, ⟨y, rfl⟩, h3⟩
        · have HEnd : CR V s bb b 200 out isNil R (flt (c' : Int) (p : Int)) w2 := by
            rw [hr]
            exact CR.err _ _ hb
          exact ⟨rfl, HEnd⟩
        · have H3 := hide h3
          have Hr := hide hr
          clear h2 hr h3 HC
          go_wp2
          go_end0
          rw [unhide Hr]
          exact CR.good rfl (unhide H3)
  | succ d ih =>
    intro op hop a out W h
    have HP := hide (peek_any h hs)
    have HM : Hid (∀ w, Sc V s bb b (skB (strN s) a) op out w → Calls Tryd.prog 26 #[.pointer (some ⟨b, 0, none⟩), .int .u8 ((123 : Nat) : Int), .int .u8 ((125 : Nat) : Int), .func (.func 27) #[.pointer (some ⟨b, 0, none⟩)] #[]] w (CR V s bb b op out isNil (rowR (strN s) (memR (strN s) (valR (strN s) d)) 123 125 a))) := fun w hw => by
      have := row_cmember hE hw hs (by omega) 123 125 (by omega) (by omega) (ea := memR (strN s) (valR (strN s) d)) (fun a => memR_sk _ _ a) (fun a => mem_gt _ _ a (val_gt _ d)) (fun a' out' w' hw' => member_any hE hw' hs (fun a2 out2 w2 hw2 => ih (op + 1) (by omega) a2 out2 w2 hw2))
      rw [rowR_sk] at this
      exact this
    have HV : Hid (∀ w, Sc V s bb b (skB (strN s) a) op out w → Calls Tryd.prog 26 #[.pointer (some ⟨b, 0, none⟩), .int .u8 ((91 : Nat) : Int), .int .u8 ((93 : Nat) : Int), .func (.func 15) #[.pointer (some ⟨b, 0, none⟩)] #[]] w (CR V s bb b op out isNil (rowR (strN s) (valR (strN s) d) 91 93 a))) := fun w hw => by
      have := row_cvalue hE hw hs (by omega) 91 93 (by omega) (by omega) (ea := valR (strN s) d) (fun a => valR_sk _ d a) (fun a => val_gt _ d a) (fun a2 out2 w2 hw2 => ih (op + 1) (by omega) a2 out2 w2 hw2)
      rw [rowR_sk] at this
      exact this
    have HT : Hid (∀ w, Sc V s bb b (skB (strN s) a) op out w → Calls Tryd.prog 29 #[.pointer (some ⟨b, 0, none⟩)] w (CR V s bb b op out isStr (tokR (strN s) a))) := fun w hw => by
      have := token_any hE hw hs
      rw [tokR_sk] at this
      exact this
    obtain ⟨R, hR⟩ : ∃ R, valR (strN s) (d + 1) a = R := ⟨_, rfl⟩
    have HR : Hid (R = if bt (strN s) (skB (strN s) a) = 123 then rowR (strN s) (memR (strN s) (valR (strN s) d)) 123 125 a else if bt (strN s) (skB (strN s) a) = 91 then rowR (strN s) (valR (strN s) d) 91 93 a else if isSg (bt (strN s) (skB (strN s) a)) = true then .error (120, skB (strN s) a) else tokR (strN s) a) := hR.symm
    rw [hR]
    obtain ⟨k, hk⟩ : ∃ k, skB (strN s) a = k := ⟨_, rfl⟩
    rw [hk] at HP HM HV HT HR
    obtain ⟨x, hx⟩ : ∃ x, bt (strN s) k = x := ⟨_, rfl⟩
    rw [hx] at HP HR
    clear h hR hk hx hE ih hop
    by_cases h0 : x = 123
    · have HR2 : Hid (R = rowR (strN s) (memR (strN s) (valR (strN s) d)) 123 125 a) := (unhide HR).trans (if_pos h0)
      rw [← unhide HR2] at HM
      subst h0
      clear HR HR2 HV HT
      go_enter Tryd.func15, Tryd.ntmps15
      go_wp2_with fail
      refine (unhide HP).mono ?_
      rintro e w1 ⟨rfl, h1⟩
      have HC := hide (unhide HM w1 h1)
      clear h1 HM HP
      go_wp2_with fail
      refine (unhide HC).mono ?_
      intro e w2 h2
      rcases h2.split with ⟨c', p, hr, rfl, hb⟩ | ⟨l, p, v, hr, rfl, rfl, h3⟩
      · exact ⟨rfl, h2⟩
      · have H2 := hide h2
        clear h2 hr h3 HC
        go_wp2
        go_end0
        exact unhide H2
    · have HR0 := (unhide HR).trans (if_neg h0)
      by_cases h1 : x = 91
      · have HR2 : Hid (R = rowR (strN s) (valR (strN s) d) 91 93 a) := HR0.trans (if_pos h1)
        rw [← unhide HR2] at HV
        subst h1
        clear HR HR0 HR2 HM HT
        go_enter Tryd.func15, Tryd.ntmps15
        go_wp2_with fail
        refine (unhide HP).mono ?_
        rintro e w1 ⟨rfl, h1⟩
        have HC := hide (unhide HV w1 h1)
        clear h1 HV HP
        go_wp2_with fail
        refine (unhide HC).mono ?_
        intro e w2 h2
        rcases h2.split with ⟨c', p, hr, rfl, hb⟩ | ⟨l, p, v, hr, rfl, rfl, h3⟩
        · exact ⟨rfl, h2⟩
        · have H2 := hide h2
          clear h2 hr h3 HC
          go_wp2
          go_end0
          exact unhide H2
      · have HR1 := HR0.trans (if_neg h1)
        have e1 : ((x : Int) == 123) = false := by simp; omega
        have e2 : ((x : Int) == 91) = false := by simp; omega
        by_cases h2 : isSg x = true
        · have HR2 : Hid (R = .error (120, k)) := HR1.trans (if_pos h2)
          have q : x = 125 ∨ x = 93 ∨ x = 58 ∨ x = 44 := by unfold isSg at h2; simp at h2; omega
          clear HR HR0 HR1 h0 h1 h2 e1 e2
          rcases q with h1 | h1 | h1 | h1
          all_goals (
            subst h1
            go_enter Tryd.func15, Tryd.ntmps15
            go_wp2_with fail
            refine (unhide HP).mono ?_
            rintro e w1 ⟨rfl, h1⟩
            have H1 := hide h1
            have c1 := h1.cells.2.1
            clear h1
            go_wp2_with fail
            refine (refuse_any _ _ _).mono ?_
            rintro e w2 ⟨rfl, rfl⟩
            have HEnd : CR V s bb b op out isNil R (flt 120 (k : Int)) w2 := by
              rw [unhide HR2]
              exact CR.err _ _ (unhide H1).bel
            exact ⟨rfl, HEnd⟩)
        · have HR2 : Hid (R = tokR (strN s) a) := HR1.trans (if_neg h2)
          have e3 : ((x : Int) == 125) = false := by unfold isSg at h2; simp at h2 ⊢; omega
          have e4 : ((x : Int) == 93) = false := by unfold isSg at h2; simp at h2 ⊢; omega
          have e5 : ((x : Int) == 58) = false := by unfold isSg at h2; simp at h2 ⊢; omega
          have e6 : ((x : Int) == 44) = false := by unfold isSg at h2; simp at h2 ⊢; omega
          clear HR HR0 HR1 h0 h1 h2
          go_enter Tryd.func15, Tryd.ntmps15
          go_wp2_with fail
          refine (unhide HP).mono ?_
          rintro e w1 ⟨rfl, h1⟩
          have HC := hide (unhide HT w1 h1)
          clear h1
          go_wp2_with fail
          refine (unhide HC).mono ?_
          intro e w2 h2
          rw [← unhide HR2] at h2
          rcases h2.split with ⟨c', p, hr, rfl, hb⟩ | ⟨l, p, v, hr, rfl, ⟨y, rfl⟩, h3⟩
          · have HEnd : CR V s bb b op out isNil R (flt (c' : Int) (p : Int)) w2 := by
              rw [hr]
              exact CR.err _ _ hb
            exact ⟨rfl, HEnd⟩
          · have H3 := hide h3
            have Hr := hide hr
            clear h2 hr h3 HC
            go_wp2
            go_end0
            rw [unhide Hr]
            exact CR.good rfl (unhide H3)
end Go.Proofs.YthodjkeppobcmaaDoor
