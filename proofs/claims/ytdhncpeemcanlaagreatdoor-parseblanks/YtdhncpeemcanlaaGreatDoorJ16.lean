import Derived.Test.YtdhncpeemcanlaaGreatDoorJ15
import Derived.Test.YtdhncpeemcanlaaGreatDoorJ04
import Derived.Test.YtdhncpeemcanlaaGreatDoorJ13
import Derived.Test.YtdhncpeemcanlaaGreatDoorJ14
import Derived.Test.YtdhncpeemcanlaaGreatDoorJ11

namespace Go.Proofs.YtdhncpeemcanlaaGreatDoor
open Go.RowKit
attribute [local go_sem ↓] Go.wp_at_zero Go.wp_at_succ

theorem PR.pre {α : Type} {lo b : Nat} {W w w' : World} {ret : α → Value} {r : Except (Int × Int) (α × PSt)} {e : Ending} (hg : W.grownBy w (some b)) (h : PR lo b w ret r e w') : PR lo b W ret r e w' := by
  unfold PR at *
  cases r with
  | error x => exact ⟨h.1, hg.trans h.2⟩
  | ok x => exact ⟨h.1, h.2.1, hg.trans h.2.2⟩
theorem PR.shape {α : Type} {lo b : Nat} {W w : World} {ret : α → Value} {r : Except (Int × Int) (α × PSt)} {e : Ending} (h : PR lo b W ret r e w) : (∃ x : Int × Int, e = flt x.1 x.2) ∨ ∃ a, e = .returned (ret a) := by
  unfold PR at h
  cases r with
  | error x => exact .inl ⟨x, h.1⟩
  | ok x => exact .inr ⟨x.1, h.1⟩
theorem Rd.grown {W : World} {lo b : Nat} {s : PSt} (h : Rd lo W b s) : s.en.kind = 5 := by
  obtain ⟨_, _, _, _, _, _, h⟩ := h
  exact h
/-- A token that is not the end is no end. -/
theorem here_pos {s : PSt} (he : s.en.kind = 5) (h : s.here.kind ≠ 5) : 0 < s.ts.length := by
  unfold PSt.here at h
  cases hts : s.ts with
  | nil => rw [hts] at h; exact absurd he h
  | cons t r => simp
def ptakeF (k : Int) (x : ByteArray) (s : PSt) : Except (Int × Int) (Bool × PSt) := if pisB s.here k x = true then (match pnextF s with | .ok (_, s') => .ok (true, s') | .error e => .error e) else .ok (false, s)
set_option maxRecDepth 100000 in
theorem rtake_any {W : World} {lo b : Nat} {s : PSt} (h : Rd lo W b s) {k : Int} (hk : k ≠ 5) (x : ByteArray) : Calls Tryz.prog 59 #[.pointer (some ⟨b, 0, none⟩), .int .i64 k, .string x] W (PR lo b W Value.bool (ptakeF k x s)) := by
  have hc := hide (here_any h)
  have hI : Hid (∀ w, Calls Tryz.prog 86 #[s.here.val, .int .i64 k, .string x] w fun e w' => e = .returned (.bool (pisB s.here k x)) ∧ Below w.heap.size w w') := fun w => is_any w s.here k x
  have hN : Hid (∀ w, pisB s.here k x = true → Below W.heap.size W w → Calls Tryz.prog 65 #[.pointer (some ⟨b, 0, none⟩)] w (PR lo b w noV (pnextF s))) := fun w hp hb => next_any (h.up hb) (here_pos h.grown (by
    unfold pisB at hp
    rw [Bool.and_eq_true] at hp
    rw [eq_of_beq hp.1]
    exact hk))
  have Hd := hide h
  have Hv : Hid (∃ p q r, s.here.val = .agg #[p, q, r]) := ⟨_, _, _, rfl⟩
  obtain ⟨p, q, r, hv⟩ := unhide Hv
  rw [hv] at hc hI
  clear h hk Hv hv
  go_enter Tryz.func59, Tryz.ntmps59
  go_wp2_with fail
  refine (unhide hc).mono ?_
  rintro e w1 ⟨rfl, hb1⟩
  have Hb1 := hide hb1
  clear hb1 hc
  go_wp2_with fail
  refine (unhide hI w1).mono ?_
  rintro e w2 ⟨rfl, hb2⟩
  have Hb2 : Hid (Below W.heap.size W w2) := (unhide Hb1).trans (hb2.mono (unhide Hb1).size)
  clear hb2 hI Hb1
  cases hp : pisB s.here k x with
  | true =>
    have HN := hide (unhide hN w2 hp (unhide Hb2))
    have HE : Hid (∀ e w, PR lo b w2 noV (pnextF s) e w → (∃ y : Int × Int, pnextF s = .error y ∧ e = flt y.1 y.2 ∧ PR lo b W Value.bool (ptakeF k x s) e w) ∨ (e = .returned (.tuple #[]) ∧ PR lo b W Value.bool (ptakeF k x s) (.returned (.bool true)) w)) := by
      intro e w hw
      unfold ptakeF
      rw [if_pos hp]
      cases hn : pnextF s with
      | error y =>
        rw [hn] at hw
        exact .inl ⟨y, rfl, hw.1, hw.1, (below_grown b (unhide Hb2)).trans hw.2⟩
      | ok y =>
        rw [hn] at hw
        exact .inr ⟨hw.1, rfl, hw.2.1, (below_grown b (unhide Hb2)).trans hw.2.2⟩
    clear hp hN
    go_wp2_with fail
    refine (unhide HN).mono ?_
    intro e w3 hw
    rcases unhide HE e w3 hw with ⟨y, _, rfl, h3⟩ | ⟨rfl, h3⟩
    · exact ⟨rfl, h3⟩
    · have H3 := hide h3
      clear h3 hw HE HN
      go_wp2
      go_ret
      exact unhide H3
  | false =>
    have HE : Hid (PR lo b W Value.bool (ptakeF k x s) (.returned (.bool false)) w2) := by
      unfold ptakeF
      rw [if_neg (by rw [hp]; simp)]
      exact ⟨rfl, (unhide Hd).up (unhide Hb2), below_grown b (unhide Hb2)⟩
    clear hp hN
    go_wp2
    go_ret
    exact unhide HE
set_option maxRecDepth 100000 in
theorem takeSign_any {W : World} {lo b : Nat} {s : PSt} (h : Rd lo W b s) (x : ByteArray) : Calls Tryz.prog 61 #[.pointer (some ⟨b, 0, none⟩), .string x] W (PR lo b W Value.bool (ptakeF 4 x s)) := by
  have hc := hide (rtake_any h (k := 4) (by decide) x)
  clear h
  go_enter Tryz.func61, Tryz.ntmps61
  go_wp2_with fail
  refine (unhide hc).mono ?_
  intro e w hw
  rcases hw.shape with ⟨y, rfl⟩ | ⟨f, rfl⟩
  · exact ⟨rfl, hw⟩
  · have HW := hide hw
    clear hw hc
    go_wp2
    go_ret
    exact unhide HW
set_option maxRecDepth 100000 in
theorem takeWord_any {W : World} {lo b : Nat} {s : PSt} (h : Rd lo W b s) (x : ByteArray) : Calls Tryz.prog 45 #[.pointer (some ⟨b, 0, none⟩), .string x] W (PR lo b W Value.bool (ptakeF 1 x s)) := by
  have hc := hide (rtake_any h (k := 1) (by decide) x)
  clear h
  go_enter Tryz.func45, Tryz.ntmps45
  go_wp2_with fail
  refine (unhide hc).mono ?_
  intro e w hw
  rcases hw.shape with ⟨y, rfl⟩ | ⟨f, rfl⟩
  · exact ⟨rfl, hw⟩
  · have HW := hide hw
    clear hw hc
    go_wp2
    go_ret
    exact unhide HW
def pneedSignF (x : ByteArray) (s : PSt) : Except (Int × Int) (Unit × PSt) := match ptakeF 4 x s with
  | .error e => .error e
  | .ok (true, s') => .ok ((), s')
  | .ok (false, s') => .error (wrongE s')
set_option maxRecDepth 100000 in
theorem needSign_any {W : World} {lo b : Nat} {s : PSt} (h : Rd lo W b s) (x : ByteArray) : Calls Tryz.prog 47 #[.pointer (some ⟨b, 0, none⟩), .string x] W (PR lo b W noV (pneedSignF x s)) := by
  have hc := hide (takeSign_any h x)
  clear h
  go_enter Tryz.func47, Tryz.ntmps47
  go_wp2_with fail
  refine (unhide hc).mono ?_
  intro e w hw
  cases hr : ptakeF 4 x s with
  | error y =>
    rw [hr] at hw
    obtain ⟨rfl, h2⟩ := hw
    have hp : pneedSignF x s = .error y := by unfold pneedSignF; rw [hr]
    exact ⟨rfl, by rw [hp]; exact ⟨rfl, h2⟩⟩
  | ok y =>
    obtain ⟨f, s'⟩ := y
    rw [hr] at hw
    obtain ⟨rfl, h2, h3⟩ := hw
    cases f with
    | true =>
      have hp : pneedSignF x s = .ok ((), s') := by unfold pneedSignF; rw [hr]
      have HE : Hid (PR lo b W noV (pneedSignF x s) (.returned (.tuple #[])) w) := by rw [hp]; exact ⟨rfl, h2, h3⟩
      clear h2 h3 hc hr hp
      go_wp2
      go_end0
      exact unhide HE
    | false =>
      have hp : pneedSignF x s = .error (wrongE s') := by unfold pneedSignF; rw [hr]
      have HW := hide (wrong_any h2)
      have HE : Hid (∀ w2, Below w.heap.size w w2 → PR lo b W noV (pneedSignF x s) (flt (wrongE s').1 (wrongE s').2) w2) := fun w2 hb2 => by rw [hp]; exact ⟨rfl, h3.trans (below_grown b hb2)⟩
      clear h2 h3 hc hr hp
      go_wp2_with fail
      refine (unhide HW).mono ?_
      rintro e w2 ⟨rfl, hb2⟩
      exact ⟨rfl, unhide HE w2 hb2⟩
def pneedF (k : Int) (s : PSt) : Except (Int × Int) (ByteArray × PSt) := if s.here.kind = k then .ok (s.here.text, s) else .error (wrongE s)
set_option maxRecDepth 100000 in
theorem check_any {W : World} {lo b : Nat} {s : PSt} (h : Rd lo W b s) (er : Int) : Calls Tryz.prog 64 #[.pointer (some ⟨b, 0, none⟩), .int .i64 er] W (PR lo b W noV (if er = 0 then .ok ((), s) else .error (er, s.here.spot))) := by
  have hc := hide (fail_any h er)
  have Hd := hide h
  clear h
  by_cases h0 : er = 0
  · subst h0
    rw [if_pos rfl]
    go_enter Tryz.func64, Tryz.ntmps64
    go_wp2
    go_end0
    exact ⟨rfl, unhide Hd, World.grownBy.refl _ _⟩
  · rw [if_neg h0]
    have e0 : (er != 0) = true := by simp [h0]
    go_enter Tryz.func64, Tryz.ntmps64
    go_wp2_with fail
    refine (unhide hc).mono ?_
    rintro e w2 ⟨rfl, hb2⟩
    exact ⟨rfl, rfl, below_grown b hb2⟩
end Go.Proofs.YtdhncpeemcanlaaGreatDoor

namespace Go.Proofs.YtdhncpeemcanlaaGreatDoor
open Go.RowKit
attribute [local go_sem ↓] Go.wp_at_zero Go.wp_at_succ

theorem eqNatF {a b : Nat} (h : ¬ a = b) : ((a : Int) == (b : Int)) = false := by simp; omega
theorem eqNatT (a : Nat) : ((a : Int) == (a : Int)) = true := by simp
/-- May the text be a name? -/
def IdentP (s : ByteArray) : Prop := (1 ≤ s.size ∧ s.size ≤ 255) ∧ (∀ x, (strN s)[0]? = some x → isLet x) ∧ ∀ (j x : Nat), (strN s)[j]? = some x → isLet x ∨ isDig x
set_option maxRecDepth 100000 in
set_option maxHeartbeats 1000000 in
theorem ident_any (W : World) (s : ByteArray) :
    Calls Tryz.prog 134 #[.string s] W fun e w => ∃ b : Bool, e = .returned (.bool b) ∧ w = W ∧ (b = true ↔ IdentP s) := by
  by_cases h0 : s.size = 0
  · obtain rfl : s = ⟨#[]⟩ := by cases s with | mk d => cases d with | mk l => cases l with | nil => rfl | cons a r => simp [ByteArray.size] at h0
    go_enter Tryz.func134, Tryz.ntmps134
    go_wp2
    go_ret
    exact ⟨_, rfl, rfl, by simp [IdentP, ByteArray.size]⟩
  · have e0 := isEmptyF h0
    by_cases h1 : s.size ≤ 255
    · obtain ⟨x, hx, hx2, gx⟩ := strN_ex s 0 (by omega)
      have e1 := ltF (a := s.size) (k := 255) (by omega)
      have Hx := hide hx
      clear hx
      go_enter Tryz.func134, Tryz.ntmps134
      go_wp2_with fail
      refine (classOf_any W x hx2).mono ?_
      rintro e w' ⟨rfl, he⟩
      obtain rfl : W = w' := he.symm
      by_cases h2 : isLet x
      · rw [cls_let.2 h2]
        go_wp2_with fail
        refine (row_any W s (by omega)).mono ?_
        rintro e w' ⟨n, rfl, he, hn, hall, hend⟩
        obtain rfl : W = w' := he.symm
        have Hall := hide hall
        have Hend := hide hend
        clear hall hend gx
        by_cases hnn : n = s.size
        · subst hnn
          have e2 := eqNatT s.size
          go_wp2
          go_ret
          refine ⟨_, rfl, rfl, fun _ => ⟨⟨by omega, h1⟩, fun y hy => ?_, fun j y hy => ?_⟩, fun _ => rfl⟩
          · rw [unhide Hx] at hy; obtain rfl := Option.some.inj hy; exact h2
          · exact unhide Hall j y (by have := (List.getElem?_eq_some_iff.1 hy).1; rwa [strN_len] at this) hy
        · have e2 := eqNatF hnn
          go_wp2
          go_ret
          refine ⟨_, rfl, rfl, fun h => by simp at h, fun h => ?_⟩
          obtain ⟨y, hy, _, _⟩ := strN_ex s n (by omega)
          exact absurd (h.2.2 n y hy) (unhide Hend y hy)
      · have h3 : ¬ cls x = 2 := mt cls_let.1 h2
        have e2 : ((cls x : Int) == 2) = false := by simp; omega
        have H2 := hide h2
        clear h2 gx
        generalize cls x = kx at *
        go_wp2
        go_ret
        refine ⟨_, rfl, rfl, fun h => by simp at h, fun h => absurd (h.2.1 x (unhide Hx)) (unhide H2)⟩
    · have e1 := ltT (a := s.size) (k := 255) (by omega)
      go_enter Tryz.func134, Tryz.ntmps134
      go_wp2
      go_ret
      exact ⟨_, rfl, rfl, fun h => by simp at h, fun h => absurd h.1.2 h1⟩
end Go.Proofs.YtdhncpeemcanlaaGreatDoor

namespace Go.Proofs.YtdhncpeemcanlaaGreatDoor
open Go.RowKit
attribute [local go_sem ↓] Go.wp_at_zero Go.wp_at_succ

end Go.Proofs.YtdhncpeemcanlaaGreatDoor

namespace Go.Proofs.YtdhncpeemcanlaaGreatDoor
open Go.RowKit
attribute [local go_sem ↓] Go.wp_at_zero Go.wp_at_succ

theorem identP_iff (s : ByteArray) : ((1 ≤ s.size ∧ s.size ≤ 255) ∧ (∀ x ∈ (strN s).take 1, isLet x) ∧ ∀ x ∈ strN s, isLet x ∨ isDig x) ↔ IdentP s := by
  unfold IdentP
  refine and_congr_right fun _ => and_congr ⟨fun h x hx => h x ?_, fun h x hx => h x ?_⟩ ⟨fun h j x hx => h x (List.mem_of_getElem? hx), fun h x hx => ?_⟩
  · cases hl : strN s with
    | nil => rw [hl] at hx; cases hx
    | cons a r => rw [hl] at hx; rw [← Option.some.inj hx]; exact List.mem_singleton.2 rfl
  · cases hl : strN s with
    | nil => rw [hl] at hx; cases hx
    | cons a r => rw [hl] at hx; rw [List.mem_singleton.1 hx]; rfl
  · obtain ⟨j, hj⟩ := List.getElem?_of_mem hx
    exact h j x hj
instance (s : ByteArray) : Decidable (IdentP s) := decidable_of_iff _ (identP_iff s)
def identB (s : ByteArray) : Bool := decide (IdentP s)
theorem identB_of {s : ByteArray} {b : Bool} (h : b = true ↔ IdentP s) : b = identB s := by
  unfold identB
  by_cases hp : IdentP s
  · simp [hp, h.2 hp]
  · simp [hp]; cases b <;> simp_all
theorem ident_same (W : World) (s : ByteArray) : Calls Tryz.prog 134 #[.string s] W fun e w => e = .returned (.bool (identB s)) ∧ w = W :=
  (ident_any W s).mono fun e w ⟨b, h1, h2, h3⟩ => ⟨by rw [h1, identB_of h3], h2⟩
theorem ident_a : identB ⟨#[97, 95, 49]⟩ = true := by
  refine (identB_of (b := true) ⟨fun _ => ⟨by decide, fun x hx => ?_, fun j x hx => ?_⟩, fun _ => rfl⟩).symm
  · have : x = 97 := by simpa [strN] using hx.symm
    subst this; decide
  · have hx' : [97, 95, 49][j]? = some x := hx
    have := List.mem_of_getElem? hx'
    simp at this
    rcases this with rfl | rfl | rfl <;> decide
theorem ident_1 : identB ⟨#[49, 97]⟩ = false := by
  refine (identB_of (b := false) ⟨fun h => by simp at h, fun h => ?_⟩).symm
  have := h.2.1 49 rfl
  exact absurd this (by decide)
end Go.Proofs.YtdhncpeemcanlaaGreatDoor

namespace Go.Proofs.YtdhncpeemcanlaaGreatDoor
open Go.RowKit
attribute [local go_sem ↓] Go.wp_at_zero Go.wp_at_succ

theorem PR.split {α : Type} {lo b : Nat} {W w : World} {ret : α → Value} {r : Except (Int × Int) (α × PSt)} {e : Ending} (h : PR lo b W ret r e w) : (∃ x : Int × Int, r = .error x ∧ e = flt x.1 x.2 ∧ W.grownBy w (some b)) ∨ ∃ a s', r = .ok (a, s') ∧ e = .returned (ret a) ∧ Rd lo w b s' ∧ W.grownBy w (some b) := by
  unfold PR at h
  cases r with
  | error x => exact .inl ⟨x, rfl, h⟩
  | ok x => exact .inr ⟨x.1, x.2, rfl, h⟩
set_option maxRecDepth 100000 in
theorem need_any {W : World} {lo b : Nat} {s : PSt} (h : Rd lo W b s) (k : Int) : Calls Tryz.prog 63 #[.pointer (some ⟨b, 0, none⟩), .int .i64 k] W (PR lo b W Value.string (pneedF k s)) := by
  have hc := hide (here_any h)
  have Hd := hide h
  have hW : Hid (∀ w, Below W.heap.size W w → Calls Tryz.prog 46 #[.pointer (some ⟨b, 0, none⟩)] w fun e w' => e = flt (wrongE s).1 (wrongE s).2 ∧ Below w.heap.size w w') := fun w hb => wrong_any (h.up hb)
  obtain ⟨t, ht⟩ : ∃ t, s.here = t := ⟨_, rfl⟩
  have Ht := hide ht
  rw [ht] at hc
  obtain ⟨kd, sp, tx⟩ := t
  unfold Tk.val at hc
  simp only at hc
  clear ht h
  by_cases hk : kd = k
  · subst hk
    have HE : Hid (∀ w, Below W.heap.size W w → PR lo b W Value.string (pneedF kd s) (.returned (.string tx)) w) := fun w hb => by
      unfold pneedF
      rw [unhide Ht, if_pos rfl]
      exact ⟨rfl, (unhide Hd).up hb, below_grown b hb⟩
    go_enter Tryz.func63, Tryz.ntmps63
    go_wp2_with fail
    refine (unhide hc).mono ?_
    rintro e w1 ⟨rfl, hb1⟩
    have Hb1 := hide (hb1.alloc hb1.size (.cells #[.int .i64 kd, .int .i64 sp, .string tx] 29))
    clear hb1 hc
    go_wp2
    go_ret
    exact unhide HE _ (unhide Hb1)
  · have hne : (kd != k) = true := by simp [hk]
    have HE : Hid (∀ w, Below W.heap.size W w → PR lo b W Value.string (pneedF k s) (flt (wrongE s).1 (wrongE s).2) w) := fun w hb => by
      unfold pneedF
      rw [if_neg (by rw [unhide Ht]; exact hk)]
      exact ⟨rfl, below_grown b hb⟩
    go_enter Tryz.func63, Tryz.ntmps63
    go_wp2_with fail
    refine (unhide hc).mono ?_
    rintro e w1 ⟨rfl, hb1⟩
    have Hb1 := hide (hb1.alloc hb1.size (.cells #[.int .i64 kd, .int .i64 sp, .string tx] 29))
    clear hb1 hc
    go_wp2_with fail
    refine (unhide hW _ (unhide Hb1)).mono ?_
    rintro e w2 ⟨rfl, hb2⟩
    exact ⟨rfl, unhide HE w2 ((unhide Hb1).trans (hb2.mono (unhide Hb1).size))⟩
noncomputable def nameFaultF (x : ByteArray) : Int := if 255 < x.size then 2 else if identB x = true then 0 else 50
set_option maxRecDepth 100000 in
theorem word_any (W : World) (x : ByteArray) : Calls Tryz.prog 123 #[.string x] W fun e w => e = .returned (.bool (identB x)) ∧ w = W := by
  go_enter Tryz.func123, Tryz.ntmps123
  go_wp2_with fail
  refine (ident_same W x).mono ?_
  rintro e w1 ⟨rfl, hw⟩
  obtain rfl : W = w1 := hw.symm
  clear hw
  go_wp2
  go_ret
  exact ⟨rfl, rfl⟩
set_option maxRecDepth 100000 in
theorem nameFault_any (W : World) (x : ByteArray) (hx : x.size ≤ 140737488355327) : Calls Tryz.prog 106 #[.string x] W fun e w => e = .returned (.int .i64 (nameFaultF x)) ∧ w = W := by
  unfold nameFaultF
  by_cases h1 : 255 < x.size
  · rw [if_pos h1]
    have hd : decide ((255 : Int) < (x.size : Int)) = true := by simp; omega
    clear h1
    go_enter Tryz.func106, Tryz.ntmps106
    go_wp2
    go_ret
    exact ⟨rfl, rfl⟩
  · rw [if_neg h1]
    have hd : decide ((255 : Int) < (x.size : Int)) = false := by simp; omega
    have hw := hide (word_any W x)
    clear h1
    cases hi : identB x with
    | true =>
      rw [hi] at hw
      go_enter Tryz.func106, Tryz.ntmps106
      go_wp2_with fail
      refine (unhide hw).mono ?_
      rintro e w1 ⟨rfl, hw1⟩
      obtain rfl : W = w1 := hw1.symm
      clear hw1 hw hi
      go_wp2
      go_ret
      exact ⟨rfl, rfl⟩
    | false =>
      rw [hi] at hw
      go_enter Tryz.func106, Tryz.ntmps106
      go_wp2_with fail
      refine (unhide hw).mono ?_
      rintro e w1 ⟨rfl, hw1⟩
      obtain rfl : W = w1 := hw1.symm
      clear hw1 hw hi
      go_wp2
      go_ret
      exact ⟨rfl, rfl⟩
/-- A name. -/
noncomputable def pnameF (s : PSt) : Except (Int × Int) (ByteArray × PSt) := if s.here.kind = 1 then (if nameFaultF s.here.text = 0 then (match pnextF s with | .ok (_, s') => .ok (s.here.text, s') | .error e => .error e) else .error (nameFaultF s.here.text, s.here.spot)) else .error (wrongE s)
/-- No token is too long. -/
def Sm (s : PSt) : Prop := ∀ t ∈ s.ts, t.text.size ≤ 140737488355327
theorem Sm.here {s : PSt} (h : Sm s) (he : s.here.kind ≠ 5) (hk : s.en.kind = 5) : s.here.text.size ≤ 140737488355327 := by
  have hp := here_pos hk he
  unfold PSt.here at *
  cases hts : s.ts with
  | nil => rw [hts] at hp; simp at hp
  | cons t r => exact h t (by rw [hts]; simp)
set_option maxRecDepth 100000 in
set_option maxHeartbeats 1000000 in
theorem name_any {W : World} {lo b : Nat} {s : PSt} (h : Rd lo W b s) (hs : Sm s) : Calls Tryz.prog 90 #[.pointer (some ⟨b, 0, none⟩)] W (PR lo b W Value.string (pnameF s)) := by
  have hc := hide (need_any h 1)
  go_enter Tryz.func90, Tryz.ntmps90
  go_wp2_with fail
  refine (unhide hc).mono ?_
  intro e w1 hw
  rcases hw.split with ⟨x, hr, rfl, hg⟩ | ⟨x, s1, hr, rfl, h1, hg⟩
  · have hk : ¬ s.here.kind = 1 := fun e => by unfold pneedF at hr; rw [if_pos e] at hr; cases hr
    unfold pneedF at hr
    rw [if_neg hk] at hr
    obtain rfl : wrongE s = x := Except.error.inj hr
    refine ⟨rfl, ?_⟩
    unfold pnameF
    rw [if_neg hk]
    exact ⟨rfl, hg⟩
  · have hk : s.here.kind = 1 := by
      apply Classical.byContradiction
      intro e
      unfold pneedF at hr
      rw [if_neg e] at hr
      cases hr
    unfold pneedF at hr
    rw [if_pos hk] at hr
    simp only [Except.ok.injEq, Prod.mk.injEq] at hr
    obtain ⟨rfl, rfl⟩ := hr
    have hsz := hs.here (by rw [hk]; decide) h.grown
    have hp := here_pos h.grown (by rw [hk]; decide)
    obtain ⟨x, hx⟩ : ∃ x, s.here.text = x := ⟨_, rfl⟩
    rw [hx] at hsz ⊢
    have H1 := hide h1
    have Hg := hide hg
    have Hx := hide hx
    have Hk := hide hk
    clear hw h1 hg hk hc h hs hx
    go_wp2_with fail
    refine (nameFault_any w1 x hsz).mono ?_
    rintro e w2 ⟨rfl, hw2⟩
    obtain rfl : w1 = w2 := hw2.symm
    clear hw2
    go_wp2_with fail
    refine (check_any (unhide H1) (nameFaultF x)).mono ?_
    intro e w3 hw3
    by_cases h0 : nameFaultF x = 0
    · rw [if_pos h0] at hw3
      obtain ⟨rfl, h3, hg3⟩ := hw3
      have H3 := hide h3
      have Hg3 := hide ((unhide Hg).trans hg3)
      have H0 := hide h0
      clear h3 hg3 h0
      go_wp2_with fail
      refine (next_any (unhide H3) hp).mono ?_
      intro e w4 hw4
      rcases hw4.split with ⟨y, hr, rfl, hg4⟩ | ⟨y, s2, hr, rfl, h4, hg4⟩
      · refine ⟨rfl, ?_⟩
        unfold pnameF
        rw [if_pos (unhide Hk), unhide Hx, if_pos (unhide H0), hr]
        exact ⟨rfl, (unhide Hg3).trans hg4⟩
      · have H4 := hide h4
        have Hg4 := hide ((unhide Hg3).trans hg4)
        have Hr := hide hr
        clear hw4 h4 hg4 hr
        go_wp2_with fail
        refine (clone_any w4 x (by omega)).mono ?_
        rintro e w5 ⟨rfl, hb5⟩
        have HE : Hid (PR lo b W Value.string (pnameF s) (.returned (.string x)) w5) := by
          unfold pnameF
          rw [if_pos (unhide Hk), unhide Hx, if_pos (unhide H0), unhide Hr]
          exact ⟨rfl, (unhide H4).up hb5, (unhide Hg4).trans (below_grown b hb5)⟩
        clear hb5
        go_wp2
        go_ret
        exact unhide HE
    · rw [if_neg h0] at hw3
      obtain ⟨rfl, hg3⟩ := hw3
      refine ⟨rfl, ?_⟩
      unfold pnameF
      rw [if_pos (unhide Hk), unhide Hx, if_neg h0]
      exact ⟨rfl, (unhide Hg).trans hg3⟩
end Go.Proofs.YtdhncpeemcanlaaGreatDoor

namespace Go.Proofs.YtdhncpeemcanlaaGreatDoor
open Go.RowKit Go.Lib
attribute [local go_sem ↓] Go.wp_at_zero Go.wp_at_succ

/-- A text and an error. -/
def UE (W : World) (s : ByteArray) (e : Ending) (w : World) : Prop := Below W.heap.size W w ∧ ∃ (t : ByteArray) (c : Int), e = .returned (.tuple #[.string t, .int .i64 c]) ∧ unqR s = (t, c)
theorem ueIs {W w : World} {s t : ByteArray} {c : Int} (hb : Below W.heap.size W w) (h : unqR s = (t, c)) : UE W s (.returned (.tuple #[.string t, .int .i64 c])) w := ⟨hb, t, c, rfl, h⟩
theorem unqR_long {s : ByteArray} (h : 65536 < s.size) : unqR s = (⟨#[]⟩, 2) := by unfold unqR; rw [if_pos h]; rfl
theorem unqR_cod {s : ByteArray} (h : ¬ 65536 < s.size) (h2 : 0 ≤ utfAt s 0) : unqR s = (⟨#[]⟩, 44) := by unfold unqR; rw [if_neg h, if_pos h2]; rfl
theorem unqR_bad {s : ByteArray} (h : ¬ 65536 < s.size) (h2 : ¬ 0 ≤ utfAt s 0) (h3 : unqL s = none ∨ ∃ l e, unqL s = some (l, e) ∧ ¬ e = s.size) : unqR s = (⟨#[]⟩, 42) := by
  unfold unqR
  rw [if_neg h, if_neg h2]
  rcases h3 with h3 | ⟨l, e, h3, h4⟩
  · rw [h3]; rfl
  · rw [h3]
    show (if e = s.size then (ofN l, (0 : Int)) else (.empty, 42)) = _
    rw [if_neg h4]; rfl
theorem unqR_ok {s : ByteArray} {l : List Nat} (h : ¬ 65536 < s.size) (h2 : ¬ 0 ≤ utfAt s 0) (h3 : unqL s = some (l, s.size)) : unqR s = (ofN l, 0) := by
  unfold unqR
  rw [if_neg h, if_neg h2, h3]
  show (if s.size = s.size then (ofN l, (0 : Int)) else (.empty, 42)) = _
  rw [if_pos rfl]
theorem unqL_le {s : ByteArray} {l : List Nat} {e : Nat} (h : unqL s = some (l, e)) : 1 < e ∧ e ≤ s.size ∧ Byt l := by
  unfold unqL at h
  split at h
  · cases h
  · split at h
    · have := uq_le _ 1 l e (Nat.le_refl _) h
      exact ⟨this.1, this.2.1, this.2.2.1⟩
    · cases h
set_option maxRecDepth 100000 in
set_option maxHeartbeats 1000000 in
theorem unq_any {W : World} (hF : HasF W) (hE : HasE W) (s : ByteArray) : Calls Tryz.prog 62 #[.string s] W (UE W s) := by
  have hb0 := Below.refl W.heap.size W
  by_cases h0 : 65536 < s.size
  · have Hr := hide (unqR_long h0)
    have e0 := ltT (a := s.size) (k := 65536) (by omega)
    clear h0
    go_enter Tryz.func62, Tryz.ntmps62
    go_wp2
    go_ret2
    exact ueIs hb0 (unhide Hr)
  · have e0 := ltF (a := s.size) (k := 65536) (by omega)
    have hs : s.size ≤ 65536 := by omega
    have H0 := hide h0
    clear h0
    go_enter Tryz.func62, Tryz.ntmps62
    go_wp2_with fail
    refine (utf8_any hF s (by omega)).mono ?_
    rintro e w1 ⟨rfl, hb1⟩
    have Hb1 := hide hb1
    clear hb1 hb0
    by_cases h1 : 0 ≤ utfAt s 0
    · have Hr := hide (unqR_cod (unhide H0) h1)
      obtain ⟨u, hu⟩ : ∃ u, u = utfAt s 0 := ⟨_, rfl⟩
      rw [← hu] at h1 ⊢
      have e1 : decide (0 ≤ u) = true := by simp; omega
      clear hu h1
      go_wp2
      go_ret2
      exact ueIs (unhide Hb1) (unhide Hr)
    · have H1 : Hid (utfAt s 0 < 0) := by show _ < _; omega
      obtain ⟨u, hu⟩ : ∃ u, u = utfAt s 0 := ⟨_, rfl⟩
      rw [← hu] at h1 ⊢
      have e1 : decide (0 ≤ u) = false := by simp; omega
      clear hu h1
      go_wp2_with fail
      refine (unquote_any (hE.up (unhide Hb1)) s hs).mono ?_
      rintro e w2 ⟨hb2, ⟨ho, rfl⟩ | ⟨l, n, v, ho, rfl, hv⟩⟩
      · have Hr := hide (unqR_bad (unhide H0) (Int.not_le.2 (unhide H1)) (.inl ho))
        have HB2 : Hid (Below W.heap.size W w2) := (unhide Hb1).trans (hb2.mono (unhide Hb1).size)
        clear ho hb2
        go_wp2
        go_ret2
        exact ueIs (unhide HB2) (unhide Hr)
      · obtain ⟨n1, n2, hbyt⟩ := unqL_le ho
        have HB2 : Hid (Below W.heap.size W w2) := (unhide Hb1).trans (hb2.mono (unhide Hb1).size)
        have n0 : ((n : Int) == 0) = false := by simp; omega
        obtain ⟨va, vn, vc, rfl⟩ := hv.shape
        by_cases h2 : n = s.size
        · have Hr := hide (unqR_ok (unhide H0) (Int.not_le.2 (unhide H1)) (by rw [ho, h2]))
          have hcv := conv_any hv.has hbyt
          have e2 : decide (n < s.size) = false := by simp; omega
          clear ho hb2 hv h2 hbyt
          go_wp2
          go_ret2
          exact ueIs (unhide HB2) (unhide Hr)
        · have Hr := hide (unqR_bad (unhide H0) (Int.not_le.2 (unhide H1)) (.inr ⟨l, n, ho, h2⟩))
          have e2 : decide (n < s.size) = true := by simp; omega
          clear ho hb2 hv h2 hbyt
          go_wp2
          go_ret2
          exact ueIs (unhide HB2) (unhide Hr)
end Go.Proofs.YtdhncpeemcanlaaGreatDoor
