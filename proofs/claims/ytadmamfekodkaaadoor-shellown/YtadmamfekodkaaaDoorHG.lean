import Derived.Test.YtadmamfekodkaaaDoorHF

namespace Go.Proofs.YtadmamfekodkaaaDoor
open Go.RowKit
attribute [local go_sem ↓] Go.wp_at_zero Go.wp_at_succ

def rs0 : RS := ⟨0, [], [], 0, false⟩
/-- What Words answers: the words and the error's number. -/
def wR (s : ByteArray) : List (List Nat) × Nat := if 65536 < s.size then ([], 2) else match finR (runR (strN s) rs0) with
  | none => ([], 200)
  | some ws => (ws, 0)
def WdQ (W : World) (r : List (List Nat) × Nat) (e : Ending) (w : World) : Prop := ∃ v, e = .returned (.tuple #[v, .int .i64 (r.2 : Int)]) ∧ w.ownsRow W.heap.size 9 1 v r.1.length (wsC r.1) ∧ Below W.heap.size W w
theorem next_len (c : Nat) (s : RS) : (nextR c s).word.length ≤ s.word.length + 1 ∧ (nextR c s).words.length ≤ s.words.length + 1 := by
  unfold nextR firstR insideR escR plainR endsR
  repeat' split
  all_goals simp
theorem next_dig (c : Nat) (s : RS) : (nextR c s).inn = 5 → (nextR c s).bad = false → s.bad = false → (s.inn = 5 → 0 ≤ s.dig) → 0 ≤ (nextR c s).dig := by
  unfold nextR firstR insideR escR plainR endsR
  repeat' split
  all_goals simp
  all_goals first
    | omega
    | (intro h1 h2 h3; omega)
    | (intro h1 h2 h3 h4; first | omega | (intros; omega) | (exact h4 (by omega)) | (simp_all))
    | (intros; omega)
    | skip
set_option maxRecDepth 100000 in
set_option maxHeartbeats 2000000 in
theorem xWords_any (W : World) (s : ByteArray) : Calls Tryd.prog 8 #[.string s] W (WdQ W (wR s)) := by
  by_cases hl : 65536 < s.size
  · have f1 : decide ((65536 : Int) < (s.size : Int)) = true := by simp; omega
    have e : wR s = ([], 2) := by unfold wR; rw [if_pos hl]
    rw [e]
    clear e hl
    go_enter Tryd.func8, Tryd.ntmps8
    go_wp2
    go_ret2
    exact ⟨_, rfl, ⟨rfl, .inl ⟨rfl, rfl⟩⟩, Below.refl _ _⟩
  · have f1 : decide ((65536 : Int) < (s.size : Int)) = false := by simp; omega
    have hR : wR s = match finR (runR (strN s) rs0) with
      | none => ([], 200)
      | some ws => (ws, 0) := by unfold wR; rw [if_neg hl]
    obtain ⟨R, hR0⟩ : ∃ R, wR s = R := ⟨_, rfl⟩
    rw [hR0] at hR ⊢
    have HR := hide hR
    have hsz : s.size ≤ 65536 := by omega
    have hb0 : Below W.heap.size W (W.alloc (.cells #[.int .i64 0, .slice none 0 0, .slice none 0 0, .int .i64 0, .bool false] 43)) := (Below.refl _ _).alloc (Nat.le_refl _) _
    have HS0 : Hid (Sr W.heap.size rs0 (W.alloc (.cells #[.int .i64 0, .slice none 0 0, .slice none 0 0, .int .i64 0, .bool false] 43))) := ⟨⟨.slice none 0 0, .slice none 0 0, heap_new _ _, bytes_nil _ _, ⟨rfl, .inl ⟨rfl, rfl⟩⟩⟩, by decide, fun x hx => by (cases hx), fun x hx => by cases hx⟩
    have HB0 := hide hb0
    clear hR hR0 hl hb0
    go_enter Tryd.func8, Tryd.ntmps8
    go_wp2
    go_loopg [5] s.size (fun gk v5 wr => ∃ (i : Nat) (st : RS), v5 = .int .i64 (i : Int) ∧ gk = s.size - i ∧ i ≤ s.size ∧ Hid (Sr W.heap.size st wr) ∧ Hid (Below W.heap.size W wr) ∧ Hid (runR (strN s) rs0 = runR ((strN s).drop i) st) ∧ Hid (st.word.length ≤ i ∧ st.words.length ≤ i) ∧ Hid (st.bad = false → st.inn = 5 → 0 ≤ st.dig))
    case atStart => exact ⟨0, rs0, rfl, rfl, by omega, HS0, HB0, rfl, ⟨Nat.le_refl _, Nat.le_refl _⟩, fun _ h => by cases h⟩
    case round =>
      obtain ⟨i, st, rfl, hgk, hi2, HS, HB, HU, HN, HD⟩ := hrel
      have Hgk := hide hgk
      clear hgk HS0 HB0
      obtain ⟨wa, wc, sa, sc, x0, -, x2, -, x4, -, x6, x7, -⟩ := (unhide HS).cells
      have HX7 := hide x7
      clear x6 x7
      by_cases hgo : i < s.size ∧ st.bad = false
      · obtain ⟨hlt, hbd⟩ := hgo
        rw [hbd] at x4
        obtain ⟨x, hx, hx2, gx⟩ := strN_ex s i hlt
        have HP := hide (znext_any (unhide HS) (by have := (unhide HN).1; omega) (by have := (unhide HN).2; omega) (unhide HD hbd) hx2)
        have HNx := hide (next_len x st)
        have HDx := hide (next_dig x st)
        have Hlt := hide hlt
        have Hbd := hide hbd
        have HU2 : Hid (runR (strN s) rs0 = runR ((strN s).drop (i + 1)) (nextR x st)) := by
          show _ = _
          rw [unhide HU, List.drop_eq_getElem_cons (by rw [strN_len]; exact hlt), run_step hbd]
          congr 2
          have := List.getElem?_eq_getElem (l := strN s) (i := i) (by rw [strN_len]; exact hlt)
          rw [hx] at this
          exact (Option.some.inj this).symm
        clear hx hx2 hbd x2
        go_wp2_with fail
        refine (unhide HP).mono ?_
        rintro e w1 ⟨rfl, h1, b1⟩
        have HS1 := hide h1
        have HB1 := hide ((unhide HB).trans b1)
        clear h1 b1 HP x0 x4 gx
        go_wp2
        go_roundg (s.size - (i + 1))
        case measure => have := unhide Hgk; have := unhide Hlt; omega
        case rel => exact ⟨i + 1, nextR x st, by go_num, rfl, unhide Hlt, HS1, HB1, HU2, ⟨by have := unhide HN; have := unhide HNx; omega, by have := unhide HN; have := unhide HNx; omega⟩, fun h1 h2 => unhide HDx h2 h1 (unhide Hbd) (unhide HD (unhide Hbd))⟩
      · by_cases hlt : i < s.size
        · have hbd : st.bad = true := by
            cases h : st.bad with
            | true => rfl
            | false => exact absurd ⟨hlt, h⟩ hgo
          have HEn : Hid (runR (strN s) rs0 = st) := (unhide HU).trans (runR_bad hbd)
          have hBT := hbd
          clear hgo hbd
          have HRt : Hid (R = match finR st with | none => ([], 200) | some ws => (ws, 0)) := by show _ = _; rw [unhide HR, unhide HEn]
          have HEd := hide (zends_any (unhide HS) (by have := (unhide HN).2; omega))
          clear HU HR
          obtain ⟨m, hm⟩ : ∃ m : Nat, st.inn = m := ⟨_, rfl⟩
          rw [hm] at x0
          have Hm := hide hm
          obtain ⟨bd, hbd⟩ : ∃ x, st.bad = x := ⟨_, rfl⟩
          rw [hbd] at x4
          obtain rfl : bd = true := hbd.symm.trans hBT
          have Hbd := hide hbd
          clear hm hbd
          clear hBT
          have HFin : ∀ w, Below W.heap.size W w → Hid (R = ([], 200)) → Hid (WdQ W R (.returned (.tuple #[.slice none 0 0, .int .i64 200])) w) := fun w hb h => by
            rw [unhide h]
            exact ⟨_, rfl, ⟨rfl, .inl ⟨rfl, rfl⟩⟩, hb⟩
          have HFin := hide HFin
          rcases (by omega : m = 1 ∨ m = 2 ∨ m = 3 ∨ m = 4 ∨ m = 5 ∨ (m ≠ 1 ∧ m ≠ 2 ∧ m ≠ 3 ∧ m ≠ 4 ∧ m ≠ 5)) with rfl | rfl | rfl | rfl | rfl | ⟨g1, g2, g3, g4, g5⟩
          · go_wp2_with fail
            refine (unhide HEd).mono ?_
            rintro e w1 ⟨rfl, h1, b1⟩
            have HS1 := hide h1
            have HB1 := hide ((unhide HB).trans b1)
            clear h1 b1 HEd x0 x2 x4
            obtain ⟨wa', wc', sa', sc', x0, -, x2, -, x4, -, -, x7, -⟩ := (unhide HS1).cells
            have HX8 := hide x7
            rw [show (endsR st).inn = 1 from unhide Hm] at x0
            rw [show (endsR st).bad = true from unhide Hbd] at x4
            have x0 : w1.cell? ⟨W.heap.size, 0, none⟩ = some (.int .i64 1) := x0
            clear x7
            have hr := unhide HFin w1 (unhide HB1) (by show R = _; rw [unhide HRt]; unfold finR; rw [if_pos (unhide Hm), if_pos (unhide Hbd)])
            go_wp2
            go_ret2
            exact unhide hr
          · have x0 : wr.cell? ⟨W.heap.size, 0, none⟩ = some (.int .i64 2) := x0
            have hr := unhide HFin wr (unhide HB) (by show R = _; rw [unhide HRt]; unfold finR; rw [if_neg (by rw [unhide Hm]; decide), if_pos (.inr (by rw [unhide Hm]; decide))])
            clear HEd
            go_wp2
            go_ret2
            exact unhide hr
          · have x0 : wr.cell? ⟨W.heap.size, 0, none⟩ = some (.int .i64 3) := x0
            have hr := unhide HFin wr (unhide HB) (by show R = _; rw [unhide HRt]; unfold finR; rw [if_neg (by rw [unhide Hm]; decide), if_pos (.inr (by rw [unhide Hm]; decide))])
            clear HEd
            go_wp2
            go_ret2
            exact unhide hr
          · have x0 : wr.cell? ⟨W.heap.size, 0, none⟩ = some (.int .i64 4) := x0
            have hr := unhide HFin wr (unhide HB) (by show R = _; rw [unhide HRt]; unfold finR; rw [if_neg (by rw [unhide Hm]; decide), if_pos (.inr (by rw [unhide Hm]; decide))])
            clear HEd
            go_wp2
            go_ret2
            exact unhide hr
          · have x0 : wr.cell? ⟨W.heap.size, 0, none⟩ = some (.int .i64 5) := x0
            have hr := unhide HFin wr (unhide HB) (by show R = _; rw [unhide HRt]; unfold finR; rw [if_neg (by rw [unhide Hm]; decide), if_pos (.inr (by rw [unhide Hm]; decide))])
            clear HEd
            go_wp2
            go_ret2
            exact unhide hr
          · have n1 : ((m : Int) == 1) = false := beq_false_of_ne (by omega)
            have n2 : ((m : Int) == 2) = false := beq_false_of_ne (by omega)
            have n3 : ((m : Int) == 3) = false := beq_false_of_ne (by omega)
            have n4 : ((m : Int) == 4) = false := beq_false_of_ne (by omega)
            have n5 : ((m : Int) == 5) = false := beq_false_of_ne (by omega)
            have HG := hide (And.intro g1 (And.intro g2 (And.intro g3 (And.intro g4 g5))))
            clear g1 g2 g3 g4 g5 HEd
            have hr := unhide HFin wr (unhide HB) (by show R = _; rw [unhide HRt]; unfold finR; rw [if_neg (by rw [unhide Hm]; exact (unhide HG).1), if_pos (.inl (unhide Hbd))])
            go_wp2
            go_ret2
            exact unhide hr
        · obtain rfl : i = s.size := by omega
          have HEn : Hid (runR (strN s) rs0 = st) := by show _ = _; rw [unhide HU, List.drop_eq_nil_of_le (by rw [strN_len]; exact Nat.le_refl _)]; rfl
          clear hgo hlt
          have HRt : Hid (R = match finR st with | none => ([], 200) | some ws => (ws, 0)) := by show _ = _; rw [unhide HR, unhide HEn]
          have HEd := hide (zends_any (unhide HS) (by have := (unhide HN).2; omega))
          clear HU HR
          obtain ⟨m, hm⟩ : ∃ m : Nat, st.inn = m := ⟨_, rfl⟩
          rw [hm] at x0
          have Hm := hide hm
          obtain ⟨bd, hbd⟩ : ∃ x, st.bad = x := ⟨_, rfl⟩
          rw [hbd] at x4
          have Hbd := hide hbd
          clear hm hbd
          have HFin : ∀ w, Below W.heap.size W w → Hid (R = ([], 200)) → Hid (WdQ W R (.returned (.tuple #[.slice none 0 0, .int .i64 200])) w) := fun w hb h => by
            rw [unhide h]
            exact ⟨_, rfl, ⟨rfl, .inl ⟨rfl, rfl⟩⟩, hb⟩
          have HFin := hide HFin
          rcases (by omega : m = 1 ∨ m = 2 ∨ m = 3 ∨ m = 4 ∨ m = 5 ∨ (m ≠ 1 ∧ m ≠ 2 ∧ m ≠ 3 ∧ m ≠ 4 ∧ m ≠ 5)) with rfl | rfl | rfl | rfl | rfl | ⟨g1, g2, g3, g4, g5⟩
          · go_wp2_with fail
            refine (unhide HEd).mono ?_
            rintro e w1 ⟨rfl, h1, b1⟩
            have HS1 := hide h1
            have HB1 := hide ((unhide HB).trans b1)
            clear h1 b1 HEd x0 x2 x4
            obtain ⟨wa', wc', sa', sc', x0, -, x2, -, x4, -, -, x7, -⟩ := (unhide HS1).cells
            have HX8 := hide x7
            rw [show (endsR st).inn = 1 from unhide Hm] at x0
            rw [show (endsR st).bad = bd from unhide Hbd] at x4
            have x0 : w1.cell? ⟨W.heap.size, 0, none⟩ = some (.int .i64 1) := x0
            clear x7
            cases bd with
            | true =>
              have hr := unhide HFin w1 (unhide HB1) (by show R = _; rw [unhide HRt]; unfold finR; rw [if_pos (unhide Hm), if_pos (unhide Hbd)])
              go_wp2
              go_ret2
              exact unhide hr
            | false =>
              have hr : Hid (WdQ W R (.returned (.tuple #[.slice sa' (endsR st).words.length sc', .int .i64 0])) w1) := by
                have e : R = ((endsR st).words, 0) := by rw [unhide HRt]; unfold finR; rw [if_pos (unhide Hm), if_neg (by rw [unhide Hbd]; decide)]; rfl
                rw [e]
                exact ⟨_, rfl, own_low (unhide HX8) (Nat.le_succ _), unhide HB1⟩
              go_wp2
              go_ret2
              exact unhide hr
          · have x0 : wr.cell? ⟨W.heap.size, 0, none⟩ = some (.int .i64 2) := x0
            have hr := unhide HFin wr (unhide HB) (by show R = _; rw [unhide HRt]; unfold finR; rw [if_neg (by rw [unhide Hm]; decide), if_pos (.inr (by rw [unhide Hm]; decide))])
            clear HEd
            cases bd with
            | true =>
              go_wp2
              go_ret2
              exact unhide hr
            | false =>
              go_wp2
              go_ret2
              exact unhide hr
          · have x0 : wr.cell? ⟨W.heap.size, 0, none⟩ = some (.int .i64 3) := x0
            have hr := unhide HFin wr (unhide HB) (by show R = _; rw [unhide HRt]; unfold finR; rw [if_neg (by rw [unhide Hm]; decide), if_pos (.inr (by rw [unhide Hm]; decide))])
            clear HEd
            cases bd with
            | true =>
              go_wp2
              go_ret2
              exact unhide hr
            | false =>
              go_wp2
              go_ret2
              exact unhide hr
          · have x0 : wr.cell? ⟨W.heap.size, 0, none⟩ = some (.int .i64 4) := x0
            have hr := unhide HFin wr (unhide HB) (by show R = _; rw [unhide HRt]; unfold finR; rw [if_neg (by rw [unhide Hm]; decide), if_pos (.inr (by rw [unhide Hm]; decide))])
            clear HEd
            cases bd with
            | true =>
              go_wp2
              go_ret2
              exact unhide hr
            | false =>
              go_wp2
              go_ret2
              exact unhide hr
          · have x0 : wr.cell? ⟨W.heap.size, 0, none⟩ = some (.int .i64 5) := x0
            have hr := unhide HFin wr (unhide HB) (by show R = _; rw [unhide HRt]; unfold finR; rw [if_neg (by rw [unhide Hm]; decide), if_pos (.inr (by rw [unhide Hm]; decide))])
            clear HEd
            cases bd with
            | true =>
              go_wp2
              go_ret2
              exact unhide hr
            | false =>
              go_wp2
              go_ret2
              exact unhide hr
          · have n1 : ((m : Int) == 1) = false := beq_false_of_ne (by omega)
            have n2 : ((m : Int) == 2) = false := beq_false_of_ne (by omega)
            have n3 : ((m : Int) == 3) = false := beq_false_of_ne (by omega)
            have n4 : ((m : Int) == 4) = false := beq_false_of_ne (by omega)
            have n5 : ((m : Int) == 5) = false := beq_false_of_ne (by omega)
            have HG := hide (And.intro g1 (And.intro g2 (And.intro g3 (And.intro g4 g5))))
            clear g1 g2 g3 g4 g5 HEd
            cases bd with
            | true =>
              have hr := unhide HFin wr (unhide HB) (by show R = _; rw [unhide HRt]; unfold finR; rw [if_neg (by rw [unhide Hm]; exact (unhide HG).1), if_pos (.inl (unhide Hbd))])
              go_wp2
              go_ret2
              exact unhide hr
            | false =>
              have hr : Hid (WdQ W R (.returned (.tuple #[.slice sa st.words.length sc, .int .i64 0])) wr) := by
                have e : R = (st.words, 0) := by
                  obtain ⟨g1, g2, g3, g4, g5⟩ := unhide HG
                  rw [unhide HRt]
                  unfold finR
                  rw [if_neg (by rw [unhide Hm]; exact g1), if_neg (by rw [unhide Hbd, unhide Hm]; simp; omega)]
                rw [e]
                exact ⟨_, rfl, own_low (unhide HX7) (Nat.le_succ _), unhide HB⟩
              go_wp2
              go_ret2
              exact unhide hr
end Go.Proofs.YtadmamfekodkaaaDoor
