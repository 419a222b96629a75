import Derived.Test.YtckpainohfhopaaGreatDoorJ19
import Derived.Test.YtckpainohfhopaaGreatDoorJ03
import Derived.Test.YtckpainohfhopaaGreatDoorJ12
import Derived.Test.YtckpainohfhopaaGreatDoorJ18

namespace Go.Proofs.YtckpainohfhopaaGreatDoor
open Go.RowKit
attribute [local go_sem ↓] Go.wp_at_zero Go.wp_at_succ

theorem PR.pre {α : Type} {lo b : Nat} {W w w' : World} {ret : α → Value} {r : Except (Int × Int) (α × PSt)} {e : Ending} (hg : W.grownBy w (some b)) (h : PR lo b w ret r e w') : PR lo b W ret r e w' := by
  unfold PR at *
  cases r with
  | error x => exact ⟨h.1, hg.trans h.2⟩
  | ok x => exact ⟨h.1, h.2.1, hg.trans h.2.2⟩
theorem PR.shape {α : Type} {lo b : Nat} {W w : World} {ret : α → Value} {r : Except (Int × Int) (α × PSt)} {e : Ending} (h : PR lo b W ret r e w) : (∃ x : Int × Int, e = flt x.1 x.2) ∨ ∃ a, e = .returned (ret a) := by
  unfold PR at h
  cases r with
  | error x => exact .inl ⟨x, h.1⟩
  | ok x => exact .inr ⟨x.1, h.1⟩
theorem Rd.grown {W : World} {lo b : Nat} {s : PSt} (h : Rd lo W b s) : s.en.kind = 5 := by
  obtain ⟨_, _, _, _, _, _, h⟩ := h
  exact h
/-- A token that is not the end is no end. -/
theorem here_pos {s : PSt} (he : s.en.kind = 5) (h : s.here.kind ≠ 5) : 0 < s.ts.length := by
  unfold PSt.here at h
  cases hts : s.ts with
  | nil => rw [hts] at h; exact absurd he h
  | cons t r => simp
def ptakeF (k : Int) (x : ByteArray) (s : PSt) : Except (Int × Int) (Bool × PSt) := if pisB s.here k x = true then (match pnextF s with | .ok (_, s') => .ok (true, s') | .error e => .error e) else .ok (false, s)
set_option maxRecDepth 100000 in
theorem rtake_any {W : World} {lo b : Nat} {s : PSt} (h : Rd lo W b s) {k : Int} (hk : k ≠ 5) (x : ByteArray) : Calls Tryz.prog 91 #[.pointer (some ⟨b, 0, none⟩), .int .i64 k, .string x] W (PR lo b W Value.bool (ptakeF k x s)) := by
  have hc := hide (here_any h)
  have hI : Hid (∀ w, Calls Tryz.prog 119 #[s.here.val, .int .i64 k, .string x] w fun e w' => e = .returned (.bool (pisB s.here k x)) ∧ Below w.heap.size w w') := fun w => is_any w s.here k x
  have hN : Hid (∀ w, pisB s.here k x = true → Below W.heap.size W w → Calls Tryz.prog 97 #[.pointer (some ⟨b, 0, none⟩)] w (PR lo b w noV (pnextF s))) := fun w hp hb => next_any (h.up hb) (here_pos h.grown (by
    unfold pisB at hp
    rw [Bool.and_eq_true] at hp
    rw [eq_of_beq hp.1]
    exact hk))
  have Hd := hide h
  have Hv : Hid (∃ p q r, s.here.val = .agg #[p, q, r]) := ⟨_, _, _, rfl⟩
  obtain ⟨p, q, r, hv⟩ := unhide Hv
  rw [hv] at hc hI
  clear h hk Hv hv
  go_enter Tryz.func91, Tryz.ntmps91
  go_wp2_with fail
  refine (unhide hc).mono ?_
  rintro e w1 ⟨rfl, hb1⟩
  have Hb1 := hide hb1
  clear hb1 hc
  go_wp2_with fail
  refine (unhide hI w1).mono ?_
  rintro e w2 ⟨rfl, hb2⟩
  have Hb2 : Hid (Below W.heap.size W w2) := (unhide Hb1).trans (hb2.mono (unhide Hb1).size)
  clear hb2 hI Hb1
  cases hp : pisB s.here k x with
  | true =>
    have HN := hide (unhide hN w2 hp (unhide Hb2))
    have HE : Hid (∀ e w, PR lo b w2 noV (pnextF s) e w → (∃ y : Int × Int, pnextF s = .error y ∧ e = flt y.1 y.2 ∧ PR lo b W Value.bool (ptakeF k x s) e w) ∨ (e = .returned (.tuple #[]) ∧ PR lo b W Value.bool (ptakeF k x s) (.returned (.bool true)) w)) := by
      intro e w hw
      unfold ptakeF
      rw [if_pos hp]
      cases hn : pnextF s with
      | error y =>
        rw [hn] at hw
        exact .inl ⟨y, rfl, hw.1, hw.1, (below_grown b (unhide Hb2)).trans hw.2⟩
      | ok y =>
        rw [hn] at hw
        exact .inr ⟨hw.1, rfl, hw.2.1, (below_grown b (unhide Hb2)).trans hw.2.2⟩
    clear hp hN
    go_wp2_with fail
    refine (unhide HN).mono ?_
    intro e w3 hw
    rcases unhide HE e w3 hw with ⟨y, _, rfl, h3⟩ | ⟨rfl, h3⟩
    · exact ⟨rfl, h3⟩
    · have H3 := hide h3
      clear h3 hw HE HN
      go_wp2
      go_ret
      exact unhide H3
  | false =>
    have HE : Hid (PR lo b W Value.bool (ptakeF k x s) (.returned (.bool false)) w2) := by
      unfold ptakeF
      rw [if_neg (by rw [hp]; simp)]
      exact ⟨rfl, (unhide Hd).up (unhide Hb2), below_grown b (unhide Hb2)⟩
    clear hp hN
    go_wp2
    go_ret
    exact unhide HE
set_option maxRecDepth 100000 in
theorem takeSign_any {W : World} {lo b : Nat} {s : PSt} (h : Rd lo W b s) (x : ByteArray) : Calls Tryz.prog 93 #[.pointer (some ⟨b, 0, none⟩), .string x] W (PR lo b W Value.bool (ptakeF 4 x s)) := by
  have hc := hide (rtake_any h (k := 4) (by decide) x)
  clear h
  go_enter Tryz.func93, Tryz.ntmps93
  go_wp2_with fail
  refine (unhide hc).mono ?_
  intro e w hw
  rcases hw.shape with ⟨y, rfl⟩ | ⟨f, rfl⟩
  · exact ⟨rfl, hw⟩
  · have HW := hide hw
    clear hw hc
    go_wp2
    go_ret
    exact unhide HW
set_option maxRecDepth 100000 in
theorem takeWord_any {W : World} {lo b : Nat} {s : PSt} (h : Rd lo W b s) (x : ByteArray) : Calls Tryz.prog 57 #[.pointer (some ⟨b, 0, none⟩), .string x] W (PR lo b W Value.bool (ptakeF 1 x s)) := by
  have hc := hide (rtake_any h (k := 1) (by decide) x)
  clear h
  go_enter Tryz.func57, Tryz.ntmps57
  go_wp2_with fail
  refine (unhide hc).mono ?_
  intro e w hw
  rcases hw.shape with ⟨y, rfl⟩ | ⟨f, rfl⟩
  · exact ⟨rfl, hw⟩
  · have HW := hide hw
    clear hw hc
    go_wp2
    go_ret
    exact unhide HW
def pneedSignF (x : ByteArray) (s : PSt) : Except (Int × Int) (Unit × PSt) := match ptakeF 4 x s with
  | .error e => .error e
  | .ok (true, s') => .ok ((), s')
  | .ok (false, s') => .error (wrongE s')
set_option maxRecDepth 100000 in
theorem needSign_any {W : World} {lo b : Nat} {s : PSt} (h : Rd lo W b s) (x : ByteArray) : Calls Tryz.prog 59 #[.pointer (some ⟨b, 0, none⟩), .string x] W (PR lo b W noV (pneedSignF x s)) := by
  have hc := hide (takeSign_any h x)
  clear h
  go_enter Tryz.func59, Tryz.ntmps59
  go_wp2_with fail
  refine (unhide hc).mono ?_
  intro e w hw
  cases hr : ptakeF 4 x s with
  | error y =>
    rw [hr] at hw
    obtain ⟨rfl, h2⟩ := hw
    have hp : pneedSignF x s = .error y := by unfold pneedSignF; rw [hr]
    exact ⟨rfl, by rw [hp]; exact ⟨rfl, h2⟩⟩
  | ok y =>
    obtain ⟨f, s'⟩ := y
    rw [hr] at hw
    obtain ⟨rfl, h2, h3⟩ := hw
    cases f with
    | true =>
      have hp : pneedSignF x s = .ok ((), s') := by unfold pneedSignF; rw [hr]
      have HE : Hid (PR lo b W noV (pneedSignF x s) (.returned (.tuple #[])) w) := by rw [hp]; exact ⟨rfl, h2, h3⟩
      clear h2 h3 hc hr hp
      go_wp2
      go_end0
      exact unhide HE
    | false =>
      have hp : pneedSignF x s = .error (wrongE s') := by unfold pneedSignF; rw [hr]
      have HW := hide (wrong_any h2)
      have HE : Hid (∀ w2, Below w.heap.size w w2 → PR lo b W noV (pneedSignF x s) (flt (wrongE s').1 (wrongE s').2) w2) := fun w2 hb2 => by rw [hp]; exact ⟨rfl, h3.trans (below_grown b hb2)⟩
      clear h2 h3 hc hr hp
      go_wp2_with fail
      refine (unhide HW).mono ?_
      rintro e w2 ⟨rfl, hb2⟩
      exact ⟨rfl, unhide HE w2 hb2⟩
def pneedF (k : Int) (s : PSt) : Except (Int × Int) (ByteArray × PSt) := if s.here.kind = k then .ok (s.here.text, s) else .error (wrongE s)
set_option maxRecDepth 100000 in
theorem check_any {W : World} {lo b : Nat} {s : PSt} (h : Rd lo W b s) (er : Int) : Calls Tryz.prog 96 #[.pointer (some ⟨b, 0, none⟩), .int .i64 er] W (PR lo b W noV (if er = 0 then .ok ((), s) else .error (er, s.here.spot))) := by
  have hc := hide (fail_any h er)
  have Hd := hide h
  clear h
  by_cases h0 : er = 0
  · subst h0
    rw [if_pos rfl]
    go_enter Tryz.func96, Tryz.ntmps96
    go_wp2
    go_end0
    exact ⟨rfl, unhide Hd, World.grownBy.refl _ _⟩
  · rw [if_neg h0]
    have e0 : (er != 0) = true := by simp [h0]
    go_enter Tryz.func96, Tryz.ntmps96
    go_wp2_with fail
    refine (unhide hc).mono ?_
    rintro e w2 ⟨rfl, hb2⟩
    exact ⟨rfl, rfl, below_grown b hb2⟩
end Go.Proofs.YtckpainohfhopaaGreatDoor

namespace Go.Proofs.YtckpainohfhopaaGreatDoor
open Go.RowKit
attribute [local go_sem ↓] Go.wp_at_zero Go.wp_at_succ

theorem eqNatF {a b : Nat} (h : ¬ a = b) : ((a : Int) == (b : Int)) = false := by simp; omega
theorem eqNatT (a : Nat) : ((a : Int) == (a : Int)) = true := by simp
/-- May the text be a name? -/
def IdentP (s : ByteArray) : Prop := (1 ≤ s.size ∧ s.size ≤ 255) ∧ (∀ x, (strN s)[0]? = some x → isLet x) ∧ ∀ (j x : Nat), (strN s)[j]? = some x → isLet x ∨ isDig x
set_option maxRecDepth 100000 in
set_option maxHeartbeats 1000000 in
theorem ident_any (W : World) (s : ByteArray) :
    Calls Tryz.prog 22 #[.string s] W fun e w => ∃ b : Bool, e = .returned (.bool b) ∧ w = W ∧ (b = true ↔ IdentP s) := by
  by_cases h0 : s.size = 0
  · obtain rfl : s = ⟨#[]⟩ := by cases s with | mk d => cases d with | mk l => cases l with | nil => rfl | cons a r => simp [ByteArray.size] at h0
    go_enter Tryz.func22, Tryz.ntmps22
    go_wp2
    go_ret
    exact ⟨_, rfl, rfl, by simp [IdentP, ByteArray.size]⟩
  · have e0 := isEmptyF h0
    by_cases h1 : s.size ≤ 255
    · obtain ⟨x, hx, hx2, gx⟩ := strN_ex s 0 (by omega)
      have e1 := ltF (a := s.size) (k := 255) (by omega)
      have Hx := hide hx
      clear hx
      go_enter Tryz.func22, Tryz.ntmps22
      go_wp2_with fail
      refine (classOf_any W x hx2).mono ?_
      rintro e w' ⟨rfl, he⟩
      obtain rfl : W = w' := he.symm
      by_cases h2 : isLet x
      · rw [cls_let.2 h2]
        go_wp2_with fail
        refine (row_any W s (by omega)).mono ?_
        rintro e w' ⟨n, rfl, he, hn, hall, hend⟩
        obtain rfl : W = w' := he.symm
        have Hall := hide hall
        have Hend := hide hend
        clear hall hend gx
        by_cases hnn : n = s.size
        · subst hnn
          have e2 := eqNatT s.size
          go_wp2
          go_ret
          refine ⟨_, rfl, rfl, fun _ => ⟨⟨by omega, h1⟩, fun y hy => ?_, fun j y hy => ?_⟩, fun _ => rfl⟩
          · rw [unhide Hx] at hy; obtain rfl := Option.some.inj hy; exact h2
          · exact unhide Hall j y (by have := (List.getElem?_eq_some_iff.1 hy).1; rwa [strN_len] at this) hy
        · have e2 := eqNatF hnn
          go_wp2
          go_ret
          refine ⟨_, rfl, rfl, fun h => by simp at h, fun h => ?_⟩
          obtain ⟨y, hy, _, _⟩ := strN_ex s n (by omega)
          exact absurd (h.2.2 n y hy) (unhide Hend y hy)
      · have h3 : ¬ cls x = 2 := mt cls_let.1 h2
        have e2 : ((cls x : Int) == 2) = false := by simp; omega
        have H2 := hide h2
        clear h2 gx
        generalize cls x = kx at *
        go_wp2
        go_ret
        refine ⟨_, rfl, rfl, fun h => by simp at h, fun h => absurd (h.2.1 x (unhide Hx)) (unhide H2)⟩
    · have e1 := ltT (a := s.size) (k := 255) (by omega)
      go_enter Tryz.func22, Tryz.ntmps22
      go_wp2
      go_ret
      exact ⟨_, rfl, rfl, fun h => by simp at h, fun h => absurd h.1.2 h1⟩
end Go.Proofs.YtckpainohfhopaaGreatDoor

namespace Go.Proofs.YtckpainohfhopaaGreatDoor
open Go.RowKit
attribute [local go_sem ↓] Go.wp_at_zero Go.wp_at_succ

set_option maxRecDepth 100000 in
set_option maxHeartbeats 1000000 in
theorem xident_any (W : World) (s : ByteArray) :
    Calls Tryz.prog 23 #[.string s] W (SaysB W (IdentP s)) := by
  by_cases h0 : s.size = 0
  · have e0 : decide ((s.size : Int) < 1) = true := by simp; omega
    go_enter Tryz.func23, Tryz.ntmps23
    go_wp2
    go_ret
    exact saysB _ (by simp [IdentP]; omega)
  · have e0 : decide ((s.size : Int) < 1) = false := by simp; omega
    by_cases h1 : s.size ≤ 255
    · obtain ⟨x, hx, hx2, gx⟩ := strN_ex s 0 (by omega)
      have e1 := ltF (a := s.size) (k := 255) (by omega)
      have Hx := hide hx
      clear hx
      go_enter Tryz.func23, Tryz.ntmps23
      go_wp2_with fail
      refine (xletter_any W x hx2).mono ?_
      rintro e w' ⟨b, rfl, he, hb⟩
      obtain rfl : W = w' := he.symm
      have Hb := hide hb
      clear hb gx
      cases b with
      | false =>
        go_wp2
        go_ret
        exact saysB _ ⟨fun h => by simp at h, fun h => by have := (unhide Hb).2 (h.2.1 x (unhide Hx)); simp at this⟩
      | true =>
        go_wp2
        go_loopg [3] s.size (fun gk v3 wr => ∃ (k : Nat), v3 = .int .i64 (k : Int) ∧ gk = s.size - k ∧ k ≤ s.size ∧ wr = W ∧ ∀ j x, j < k → (strN s)[j]? = some x → isLet x ∨ isDig x)
        case atStart => exact ⟨0, rfl, rfl, by omega, rfl, fun j x hj => by omega⟩
        case round =>
          obtain ⟨k, rfl, hgk, hk, rfl, hall⟩ := hrel
          have Hgk := hide hgk
          have Hall := hide hall
          clear hgk hall
          by_cases hlt : k < s.size
          · obtain ⟨y, hy, hy2, gy⟩ := strN_ex s k hlt
            have Hy := hide hy
            clear hy
            go_wp2_with fail
            refine (xletter_any wr y hy2).mono ?_
            rintro e w' ⟨b, rfl, he, hb⟩
            obtain rfl : wr = w' := he.symm
            have Hb2 := hide hb
            clear hb
            cases b with
            | true =>
              go_wp2
              go_roundg (s.size - (k + 1))
              case measure => have := unhide Hgk; omega
              case rel =>
                refine ⟨k + 1, by go_num, rfl, by omega, rfl, fun j z hj hz => ?_⟩
                by_cases hjk : j < k
                · exact unhide Hall j z hjk hz
                · obtain rfl : j = k := by omega
                  rw [unhide Hy] at hz
                  obtain rfl := Option.some.inj hz
                  exact .inl (by simpa using unhide Hb2)
            | false =>
              go_wp2_with fail
              refine (xdigit_any wr y hy2).mono ?_
              rintro e w' ⟨b, rfl, he, hb⟩
              obtain rfl : wr = w' := he.symm
              have Hb3 := hide hb
              clear hb
              cases b with
              | true =>
                go_wp2
                go_roundg (s.size - (k + 1))
                case measure => have := unhide Hgk; omega
                case rel =>
                  refine ⟨k + 1, by go_num, rfl, by omega, rfl, fun j z hj hz => ?_⟩
                  by_cases hjk : j < k
                  · exact unhide Hall j z hjk hz
                  · obtain rfl : j = k := by omega
                    rw [unhide Hy] at hz
                    obtain rfl := Option.some.inj hz
                    exact .inr (by simpa using unhide Hb3)
              | false =>
                go_wp2
                go_ret
                refine saysB _ ⟨fun h => by simp at h, fun h => ?_⟩
                rcases h.2.2 k y (unhide Hy) with q | q
                · have := (unhide Hb2).2 q; simp at this
                · have := (unhide Hb3).2 q; simp at this
          · obtain rfl : k = s.size := by omega
            go_wp2
            go_ret
            refine saysB _ ⟨fun _ => ⟨⟨by omega, h1⟩, fun y hy => ?_, fun j y hy => ?_⟩, fun _ => rfl⟩
            · rw [unhide Hx] at hy; obtain rfl := Option.some.inj hy; exact (by simpa using unhide Hb)
            · exact unhide Hall j y (by have := (List.getElem?_eq_some_iff.1 hy).1; rwa [strN_len] at this) hy
    · have e1 := ltT (a := s.size) (k := 255) (by omega)
      go_enter Tryz.func23, Tryz.ntmps23
      go_wp2
      go_ret
      exact saysB _ ⟨fun h => by simp at h, fun h => absurd h.1.2 h1⟩
end Go.Proofs.YtckpainohfhopaaGreatDoor

namespace Go.Proofs.YtckpainohfhopaaGreatDoor
open Go.RowKit
attribute [local go_sem ↓] Go.wp_at_zero Go.wp_at_succ

theorem identP_iff (s : ByteArray) : ((1 ≤ s.size ∧ s.size ≤ 255) ∧ (∀ x ∈ (strN s).take 1, isLet x) ∧ ∀ x ∈ strN s, isLet x ∨ isDig x) ↔ IdentP s := by
  unfold IdentP
  refine and_congr_right fun _ => and_congr ⟨fun h x hx => h x ?_, fun h x hx => h x ?_⟩ ⟨fun h j x hx => h x (List.mem_of_getElem? hx), fun h x hx => ?_⟩
  · cases hl : strN s with
    | nil => rw [hl] at hx; cases hx
    | cons a r => rw [hl] at hx; rw [← Option.some.inj hx]; exact List.mem_singleton.2 rfl
  · cases hl : strN s with
    | nil => rw [hl] at hx; cases hx
    | cons a r => rw [hl] at hx; rw [List.mem_singleton.1 hx]; rfl
  · obtain ⟨j, hj⟩ := List.getElem?_of_mem hx
    exact h j x hj
instance (s : ByteArray) : Decidable (IdentP s) := decidable_of_iff _ (identP_iff s)
def identB (s : ByteArray) : Bool := decide (IdentP s)
theorem identB_of {s : ByteArray} {b : Bool} (h : b = true ↔ IdentP s) : b = identB s := by
  unfold identB
  by_cases hp : IdentP s
  · simp [hp, h.2 hp]
  · simp [hp]; cases b <;> simp_all
theorem ident_same (W : World) (s : ByteArray) : Calls Tryz.prog 22 #[.string s] W fun e w => e = .returned (.bool (identB s)) ∧ w = W :=
  (ident_any W s).mono fun e w ⟨b, h1, h2, h3⟩ => ⟨by rw [h1, identB_of h3], h2⟩
theorem xident_same (W : World) (s : ByteArray) : Calls Tryz.prog 23 #[.string s] W fun e w => e = .returned (.bool (identB s)) ∧ w = W :=
  (xident_any W s).mono fun e w ⟨b, h1, h2, h3⟩ => ⟨by rw [h1, identB_of h3], h2⟩
theorem ident_a : identB ⟨#[97, 95, 49]⟩ = true := by
  refine (identB_of (b := true) ⟨fun _ => ⟨by decide, fun x hx => ?_, fun j x hx => ?_⟩, fun _ => rfl⟩).symm
  · have : x = 97 := by simpa [strN] using hx.symm
    subst this; decide
  · have hx' : [97, 95, 49][j]? = some x := hx
    have := List.mem_of_getElem? hx'
    simp at this
    rcases this with rfl | rfl | rfl <;> decide
theorem ident_1 : identB ⟨#[49, 97]⟩ = false := by
  refine (identB_of (b := false) ⟨fun h => by simp at h, fun h => ?_⟩).symm
  have := h.2.1 49 rfl
  exact absurd this (by decide)
end Go.Proofs.YtckpainohfhopaaGreatDoor
