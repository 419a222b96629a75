import Derived.Test.YtgbadnbhgpnppaaDoorWJM
namespace Go.Proofs.YtgbadnbhgpnppaaDoor
open Go.RowKit
attribute [local go_sem ↓] Go.wp_at_zero Go.wp_at_succ

theorem emptyL : (⟨#[]⟩ : ByteArray).toList = [] := by rw [Lib.toList_data]
theorem rok0 (x : Int) : (if rightK 0 x ⟨#[]⟩ ([] : List Ri).length = true then fkL [] else 1) = 0 := by
  have e : rightK 0 x ⟨#[]⟩ ([] : List Ri).length = (decide ((⟨#[]⟩ : ByteArray).toList = []) && decide ((0 : Nat) = 0)) := rfl
  rw [e, emptyL]; rfl
theorem rok1 (x : Int) : (if rightK 1 x ⟨#[]⟩ ([] : List Ri).length = true then fkL [] else 1) = 0 := by
  have e : rightK 1 x ⟨#[]⟩ ([] : List Ri).length = (decide ((⟨#[]⟩ : ByteArray).toList = []) && decide ((0 : Nat) = 0)) := rfl
  rw [e, emptyL]; rfl
theorem rok3 (li : List Ri) : (if rightK 3 0 ⟨#[]⟩ li.length = true then fkL li else 1) = fkL li := by
  have e : rightK 3 0 ⟨#[]⟩ li.length = (decide ((0 : Int) = 0) && decide ((⟨#[]⟩ : ByteArray).toList = [])) := rfl
  rw [e, emptyL]; rfl
theorem rok5 {x : Int} (h : 0 ≤ x ∧ x ≤ 4294967295) : (if rightK 5 x ⟨#[]⟩ ([] : List Ri).length = true then fkL [] else 1) = 0 := by
  have e : rightK 5 x ⟨#[]⟩ ([] : List Ri).length = (decide (0 ≤ x ∧ x ≤ 4294967295) && (decide ((⟨#[]⟩ : ByteArray).toList = []) && decide ((0 : Nat) = 0))) := rfl
  rw [e, emptyL, decide_eq_true h]; rfl
theorem rbad5 {x : Int} (h : ¬ (0 ≤ x ∧ x ≤ 4294967295)) : rightK 5 x ⟨#[]⟩ ([] : List Ri).length = false := by
  have e : rightK 5 x ⟨#[]⟩ ([] : List Ri).length = (decide (0 ≤ x ∧ x ≤ 4294967295) && (decide ((⟨#[]⟩ : ByteArray).toList = []) && decide ((0 : Nat) = 0))) := rfl
  rw [e, decide_eq_false h]; rfl
set_option maxRecDepth 100000 in
set_option maxHeartbeats 32000000 in
theorem xwrong_ri {W : World} {v : Value} {rs : List Ri} (h : HasRi W v rs) : ∀ w0, Below W.heap.size W w0 → Calls Tryd.prog 33 #[v] w0 fun e W' => e = .returned (.int .i64 ((fkL rs : Nat) : Int)) ∧ Below w0.heap.size w0 W' := by
  induction h with
  | nil a c =>
    intro w0 _
    go_enter Tryd.func33, Tryd.ntmps33
    go_wp2
    refine wp_loop_rounds 1 ?_
    rw [rounds_succ]
    go_wp2
    go_ret
    exact ⟨rfl, Below.refl _ _⟩
  | row g off n c rs us hn hm hg hw hc hi ih =>
    intro w0 hw0
    unfold maxLen at hm
    have Hc := hide hc
    have Hih := hide ih
    have Hi := hide hi
    have Hn := hide hn
    have Hw0 := hide hw0
    clear hc ih hi hn hw0 hw
    obtain ⟨D, hD⟩ : ∃ D, fkL rs = D := ⟨_, rfl⟩
    rw [hD]
    have HD := hide hD
    clear hD
    go_enter Tryd.func33, Tryd.ntmps33
    go_wp2
    go_loopg [3] n (fun gk v3 wr => ∃ (i : Nat), v3 = .int .i64 (i : Int) ∧ gk = n - i ∧ i ≤ n ∧ Hid (fkL (rs.take i) = 0) ∧ Hid (Below w0.heap.size w0 wr))
    case atStart => exact ⟨0, rfl, rfl, Nat.zero_le _, by show fkL (rs.take 0) = 0; rfl, Below.refl _ _⟩
    case round =>
      obtain ⟨i, rfl, hgk, hin, HF, HB⟩ := hrel
      have Hgk := hide hgk
      clear hgk
      by_cases hlt : i < n
      · obtain ⟨r, hr⟩ : ∃ r, rs[i]? = some r := ⟨_, List.getElem?_eq_getElem (by rw [unhide Hn]; exact hlt)⟩
        have hBW : Below W.heap.size W wr := (unhide Hw0).trans ((unhide HB).mono (unhide Hw0).size)
        have hcs := unhide Hc i r hr
        obtain ⟨ia, ic, eu⟩ := (unhide Hi i r hr).form
        have hcall0 := unhide Hih i r hr
        rw [eu] at hcs hcall0
        have hnx := fk_next hr (unhide HF)
        rw [unhide HD] at hnx
        obtain ⟨nb, kd, x, t, li⟩ := r
        have Hno : Hid (fkR (.mk nb kd x t li) = 0 → fkL (rs.take (i + 1)) = 0) := hnx.1
        have Hyes : Hid (fkR (.mk nb kd x t li) ≠ 0 → D = fkR (.mk nb kd x t li)) := hnx.2
        have Hcall : Hid (∀ w0, Below W.heap.size W w0 → Calls Tryd.prog 33 #[.slice ia li.length ic] w0 fun e W' => e = .returned (.int .i64 ((fkL li : Nat) : Int)) ∧ Below w0.heap.size w0 W') := hcall0
        have d0 := (hBW.cell (p := ⟨g, off + i * 5, none⟩) hg).trans (hcs 0 _ rfl)
        have d1 := (hBW.cell (p := ⟨g, off + i * 5 + 1, none⟩) hg).trans (hcs 1 _ rfl)
        have d2 := (hBW.cell (p := ⟨g, off + i * 5 + 2, none⟩) hg).trans (hcs 2 _ rfl)
        have d3 := (hBW.cell (p := ⟨g, off + i * 5 + 3, none⟩) hg).trans (hcs 3 _ rfl)
        have d4 : wr.cell? ⟨g, off + i * 5 + 4, none⟩ = some (.slice ia li.length ic) := (hBW.cell (p := ⟨g, off + i * 5 + 4, none⟩) hg).trans (hcs 4 _ rfl)
        have hi0 : (0 : Int) ≤ (i : Int) := Int.natCast_nonneg _
        have hi1 : (i : Int) < (n : Int) := by omega
        have HBW := hide hBW
        clear hcs eu hcall0 hBW hr hnx
        by_cases hA : nb < 1 ∨ 536870911 < nb
        · have hfin : D = 24 := (unhide Hyes) (by rw [fkR, if_pos hA]; decide) |>.trans (by rw [fkR, if_pos hA])
          have ha2 : nb < 1 ∨ (¬ nb < 1 ∧ 536870911 < nb) := by omega
          clear hA
          rcases ha2 with ha | ⟨ha, ha3⟩
          · go_wp2
            go_ret
            exact ⟨by first | rfl | (rw [hfin]; rfl), (unhide HB).alloc (unhide HB).size _⟩
          · go_wp2
            go_ret
            exact ⟨by first | rfl | (rw [hfin]; rfl), (unhide HB).alloc (unhide HB).size _⟩
        have hA1 : ¬ nb < 1 := by omega
        have hA2 : ¬ 536870911 < nb := by omega
        by_cases hK : kd < 0 ∨ 5 < kd
        · have hfin : D = 23 := (unhide Hyes) (by rw [fkR, if_neg hA, if_pos hK]; decide) |>.trans (by rw [fkR, if_neg hA, if_pos hK])
          have ha2 : kd < 0 ∨ (¬ kd < 0 ∧ 5 < kd) := by omega
          clear hK hA
          rcases ha2 with ha | ⟨ha, ha3⟩
          · go_wp2
            go_ret
            exact ⟨by first | rfl | (rw [hfin]; rfl), (unhide HB).alloc (unhide HB).size _⟩
          · go_wp2
            go_ret
            exact ⟨by first | rfl | (rw [hfin]; rfl), (unhide HB).alloc (unhide HB).size _⟩
        have hkk : kd = 0 ∨ kd = 1 ∨ kd = 2 ∨ kd = 3 ∨ kd = 4 ∨ kd = 5 := by omega
        rcases hkk with rfl | rfl | rfl | rfl | rfl | rfl
        · have hfk : fkR (.mk nb 0 x t li) = if rightK 0 x t li.length = true then fkL li else 1 := by rw [fkR, if_neg hA, if_neg hK, if_neg (by decide)]; rfl
          rw [hfk] at Hyes Hno
          clear hfk hA hK
          by_cases te : t.toList = []
          · obtain rfl := empty_of te
            clear te
            by_cases l0 : li.length = 0
            · obtain rfl := List.eq_nil_of_length_eq_zero l0
              clear l0
              replace d4 : wr.cell? ⟨g, off + i * 5 + 4, none⟩ = some (.slice ia 0 ic) := d4
              replace Hcall : Hid (∀ w0, Below W.heap.size W w0 → Calls Tryd.prog 33 #[.slice ia 0 ic] w0 fun e W' => e = .returned (.int .i64 0) ∧ Below w0.heap.size w0 W') := Hcall
              by_cases x0 : x = 0
              · subst x0
                have HF2 : Hid (fkL (rs.take (i + 1)) = 0) := unhide Hno (by exact rok0 0)
                clear Hyes Hno
                go_wp2_with fail
                refine (unhide Hcall _ ((unhide HBW).alloc (unhide HBW).size _)).mono ?_
                rintro e W3 ⟨rfl, hb3⟩
                have HB3 : Hid (Below w0.heap.size w0 W3) := ((unhide HB).alloc (unhide HB).size (.cells #[.int .i64 nb, .int .i64 0, .int .i64 0, .string ⟨#[]⟩, .slice ia 0 ic] 55)).trans (hb3.mono ((unhide HB).alloc (unhide HB).size _).size)
                clear hb3
                go_wp2
                go_roundg (n - (i + 1))
                case measure => have := unhide Hgk; omega
                case rel => exact ⟨i + 1, by go_num, rfl, by omega, HF2, HB3⟩
              · have HF2 : Hid (fkL (rs.take (i + 1)) = 0) := unhide Hno (by exact rok0 x)
                clear Hyes Hno
                go_wp2_with fail
                refine (unhide Hcall _ ((unhide HBW).alloc (unhide HBW).size _)).mono ?_
                rintro e W3 ⟨rfl, hb3⟩
                have HB3 : Hid (Below w0.heap.size w0 W3) := ((unhide HB).alloc (unhide HB).size (.cells #[.int .i64 nb, .int .i64 0, .int .i64 x, .string ⟨#[]⟩, .slice ia 0 ic] 55)).trans (hb3.mono ((unhide HB).alloc (unhide HB).size _).size)
                clear hb3
                go_wp2
                go_roundg (n - (i + 1))
                case measure => have := unhide Hgk; omega
                case rel => exact ⟨i + 1, by go_num, rfl, by omega, HF2, HB3⟩
            · have wr' : rightK 0 x ⟨#[]⟩ li.length = false := by simp [rightK, l0]
              have hfin : D = 1 := (unhide Hyes (by rw [if_neg (by rw [wr']; decide)]; decide)).trans (by rw [if_neg (by rw [wr']; decide)])
              clear wr' Hyes Hno Hcall
              go_wp2
              go_ret
              exact ⟨by first | rfl | (rw [hfin]; rfl), (unhide HB).alloc (unhide HB).size _⟩
          · have wr' : rightK 0 x t li.length = false := by simp [rightK, te]
            have hfin : D = 1 := (unhide Hyes (by rw [if_neg (by rw [wr']; decide)]; decide)).trans (by rw [if_neg (by rw [wr']; decide)])
            clear wr' Hyes Hno Hcall
            go_wp2
            go_ret
            exact ⟨by first | rfl | (rw [hfin]; rfl), (unhide HB).alloc (unhide HB).size _⟩
        · have hfk : fkR (.mk nb 1 x t li) = if rightK 1 x t li.length = true then fkL li else 1 := by rw [fkR, if_neg hA, if_neg hK, if_neg (by decide)]; rfl
          rw [hfk] at Hyes Hno
          clear hfk hA hK
          by_cases te : t.toList = []
          · obtain rfl := empty_of te
            clear te
            by_cases l0 : li.length = 0
            · obtain rfl := List.eq_nil_of_length_eq_zero l0
              clear l0
              replace d4 : wr.cell? ⟨g, off + i * 5 + 4, none⟩ = some (.slice ia 0 ic) := d4
              replace Hcall : Hid (∀ w0, Below W.heap.size W w0 → Calls Tryd.prog 33 #[.slice ia 0 ic] w0 fun e W' => e = .returned (.int .i64 0) ∧ Below w0.heap.size w0 W') := Hcall
              by_cases x0 : x = 0
              · subst x0
                have HF2 : Hid (fkL (rs.take (i + 1)) = 0) := unhide Hno (by exact rok1 0)
                clear Hyes Hno
                go_wp2_with fail
                refine (unhide Hcall _ ((unhide HBW).alloc (unhide HBW).size _)).mono ?_
                rintro e W3 ⟨rfl, hb3⟩
                have HB3 : Hid (Below w0.heap.size w0 W3) := ((unhide HB).alloc (unhide HB).size (.cells #[.int .i64 nb, .int .i64 1, .int .i64 0, .string ⟨#[]⟩, .slice ia 0 ic] 55)).trans (hb3.mono ((unhide HB).alloc (unhide HB).size _).size)
                clear hb3
                go_wp2
                go_roundg (n - (i + 1))
                case measure => have := unhide Hgk; omega
                case rel => exact ⟨i + 1, by go_num, rfl, by omega, HF2, HB3⟩
              · have HF2 : Hid (fkL (rs.take (i + 1)) = 0) := unhide Hno (by exact rok1 x)
                clear Hyes Hno
                go_wp2_with fail
                refine (unhide Hcall _ ((unhide HBW).alloc (unhide HBW).size _)).mono ?_
                rintro e W3 ⟨rfl, hb3⟩
                have HB3 : Hid (Below w0.heap.size w0 W3) := ((unhide HB).alloc (unhide HB).size (.cells #[.int .i64 nb, .int .i64 1, .int .i64 x, .string ⟨#[]⟩, .slice ia 0 ic] 55)).trans (hb3.mono ((unhide HB).alloc (unhide HB).size _).size)
                clear hb3
                go_wp2
                go_roundg (n - (i + 1))
                case measure => have := unhide Hgk; omega
                case rel => exact ⟨i + 1, by go_num, rfl, by omega, HF2, HB3⟩
            · have wr' : rightK 1 x ⟨#[]⟩ li.length = false := by simp [rightK, l0]
              have hfin : D = 1 := (unhide Hyes (by rw [if_neg (by rw [wr']; decide)]; decide)).trans (by rw [if_neg (by rw [wr']; decide)])
              clear wr' Hyes Hno Hcall
              go_wp2
              go_ret
              exact ⟨by first | rfl | (rw [hfin]; rfl), (unhide HB).alloc (unhide HB).size _⟩
          · have wr' : rightK 1 x t li.length = false := by simp [rightK, te]
            have hfin : D = 1 := (unhide Hyes (by rw [if_neg (by rw [wr']; decide)]; decide)).trans (by rw [if_neg (by rw [wr']; decide)])
            clear wr' Hyes Hno Hcall
            go_wp2
            go_ret
            exact ⟨by first | rfl | (rw [hfin]; rfl), (unhide HB).alloc (unhide HB).size _⟩
        · have hfk : fkR (.mk nb 2 x t li) = if rightK 2 x t li.length = true then fkL li else 1 := by rw [fkR, if_neg hA, if_neg hK, if_neg (by decide)]; rfl
          rw [hfk] at Hyes Hno
          clear hfk hA hK
          by_cases l0 : li.length = 0
          · obtain rfl := List.eq_nil_of_length_eq_zero l0
            clear l0
            replace d4 : wr.cell? ⟨g, off + i * 5 + 4, none⟩ = some (.slice ia 0 ic) := d4
            replace Hcall : Hid (∀ w0, Below W.heap.size W w0 → Calls Tryd.prog 33 #[.slice ia 0 ic] w0 fun e W' => e = .returned (.int .i64 0) ∧ Below w0.heap.size w0 W') := Hcall
            by_cases x0 : x = 0
            · subst x0
              have HF2 : Hid (fkL (rs.take (i + 1)) = 0) := unhide Hno (by rfl)
              clear Hyes Hno
              go_wp2_with fail
              refine (unhide Hcall _ ((unhide HBW).alloc (unhide HBW).size _)).mono ?_
              rintro e W3 ⟨rfl, hb3⟩
              have HB3 : Hid (Below w0.heap.size w0 W3) := ((unhide HB).alloc (unhide HB).size (.cells #[.int .i64 nb, .int .i64 2, .int .i64 0, .string t, .slice ia 0 ic] 55)).trans (hb3.mono ((unhide HB).alloc (unhide HB).size _).size)
              clear hb3
              go_wp2
              go_roundg (n - (i + 1))
              case measure => have := unhide Hgk; omega
              case rel => exact ⟨i + 1, by go_num, rfl, by omega, HF2, HB3⟩
            · have wr' : rightK 2 x t ([] : List Ri).length = false := by simp [rightK, x0]
              have hfin : D = 1 := (unhide Hyes (by rw [if_neg (by rw [wr']; decide)]; decide)).trans (by rw [if_neg (by rw [wr']; decide)])
              clear wr' Hyes Hno Hcall
              go_wp2
              go_ret
              exact ⟨by first | rfl | (rw [hfin]; rfl), (unhide HB).alloc (unhide HB).size _⟩
          · have wr' : rightK 2 x t li.length = false := by simp [rightK, l0]
            have hfin : D = 1 := (unhide Hyes (by rw [if_neg (by rw [wr']; decide)]; decide)).trans (by rw [if_neg (by rw [wr']; decide)])
            clear wr' Hyes Hno Hcall
            go_wp2
            go_ret
            exact ⟨by first | rfl | (rw [hfin]; rfl), (unhide HB).alloc (unhide HB).size _⟩
        · have hfk : fkR (.mk nb 3 x t li) = if rightK 3 x t li.length = true then fkL li else 1 := by rw [fkR, if_neg hA, if_neg hK, if_neg (by decide)]; rfl
          rw [hfk] at Hyes Hno
          clear hfk hA hK
          by_cases te : t.toList = []
          · obtain rfl := empty_of te
            clear te
            by_cases x0 : x = 0
            · subst x0
              rw [rok3] at Hyes Hno
              have Hyes2 : Hid (fkL li ≠ 0 → D = fkL li) := unhide Hyes
              have Hno2 : Hid (fkL li = 0 → fkL (rs.take (i + 1)) = 0) := unhide Hno
              clear Hyes Hno
              go_wp2_with fail
              refine (unhide Hcall _ ((unhide HBW).alloc (unhide HBW).size _)).mono ?_
              rintro e W3 ⟨rfl, hb3⟩
              have HB3 : Hid (Below w0.heap.size w0 W3) := ((unhide HB).alloc (unhide HB).size (.cells #[.int .i64 nb, .int .i64 3, .int .i64 0, .string ⟨#[]⟩, .slice ia li.length ic] 55)).trans (hb3.mono ((unhide HB).alloc (unhide HB).size _).size)
              obtain ⟨lf, hlf⟩ : ∃ lf, fkL li = lf := ⟨_, rfl⟩
              rw [hlf] at Hyes2 Hno2 ⊢
              clear hlf hb3
              by_cases hz : lf = 0
              · subst hz
                have HF2 : Hid (fkL (rs.take (i + 1)) = 0) := unhide Hno2 rfl
                go_wp2
                go_roundg (n - (i + 1))
                case measure => have := unhide Hgk; omega
                case rel => exact ⟨i + 1, by go_num, rfl, by omega, HF2, HB3⟩
              · have q2 : ((lf : Int) != 0) = true := by simpa using hz
                have hfin : D = lf := unhide Hyes2 hz
                go_wp2
                go_ret
                exact ⟨by first | rfl | (rw [hfin]; rfl), unhide HB3⟩
            · have wr' : rightK 3 x ⟨#[]⟩ li.length = false := by simp [rightK, x0]
              have hfin : D = 1 := (unhide Hyes (by rw [if_neg (by rw [wr']; decide)]; decide)).trans (by rw [if_neg (by rw [wr']; decide)])
              clear wr' Hyes Hno Hcall
              go_wp2
              go_ret
              exact ⟨by first | rfl | (rw [hfin]; rfl), (unhide HB).alloc (unhide HB).size _⟩
          · have wr' : rightK 3 x t li.length = false := by simp [rightK, te]
            have hfin : D = 1 := (unhide Hyes (by rw [if_neg (by rw [wr']; decide)]; decide)).trans (by rw [if_neg (by rw [wr']; decide)])
            clear wr' Hyes Hno Hcall
            go_wp2
            go_ret
            exact ⟨by first | rfl | (rw [hfin]; rfl), (unhide HB).alloc (unhide HB).size _⟩
        · have hfin : D = 23 := (unhide Hyes) (by rw [fkR, if_neg hA, if_neg hK, if_pos rfl]; decide) |>.trans (by rw [fkR, if_neg hA, if_neg hK, if_pos rfl])
          clear hA hK
          go_wp2
          go_ret
          exact ⟨by first | rfl | (rw [hfin]; rfl), (unhide HB).alloc (unhide HB).size _⟩
        · have hfk : fkR (.mk nb 5 x t li) = if rightK 5 x t li.length = true then fkL li else 1 := by rw [fkR, if_neg hA, if_neg hK, if_neg (by decide)]; rfl
          rw [hfk] at Hyes Hno
          clear hfk hA hK
          by_cases te : t.toList = []
          · obtain rfl := empty_of te
            clear te
            by_cases l0 : li.length = 0
            · obtain rfl := List.eq_nil_of_length_eq_zero l0
              clear l0
              replace d4 : wr.cell? ⟨g, off + i * 5 + 4, none⟩ = some (.slice ia 0 ic) := d4
              replace Hcall : Hid (∀ w0, Below W.heap.size W w0 → Calls Tryd.prog 33 #[.slice ia 0 ic] w0 fun e W' => e = .returned (.int .i64 0) ∧ Below w0.heap.size w0 W') := Hcall
              by_cases x0 : x = 0
              · subst x0
                have HF2 : Hid (fkL (rs.take (i + 1)) = 0) := unhide Hno (by exact rok5 (by decide))
                clear Hyes Hno
                go_wp2_with fail
                refine (unhide Hcall _ ((unhide HBW).alloc (unhide HBW).size _)).mono ?_
                rintro e W3 ⟨rfl, hb3⟩
                have HB3 : Hid (Below w0.heap.size w0 W3) := ((unhide HB).alloc (unhide HB).size (.cells #[.int .i64 nb, .int .i64 5, .int .i64 0, .string ⟨#[]⟩, .slice ia 0 ic] 55)).trans (hb3.mono ((unhide HB).alloc (unhide HB).size _).size)
                clear hb3
                go_wp2
                go_roundg (n - (i + 1))
                case measure => have := unhide Hgk; omega
                case rel => exact ⟨i + 1, by go_num, rfl, by omega, HF2, HB3⟩
              · by_cases wl : x < 0
                · have ww : ¬ (0 ≤ x ∧ x ≤ 4294967295) := by omega
                  have wr' : rightK 5 x ⟨#[]⟩ ([] : List Ri).length = false := by exact rbad5 ww
                  have hfin : D = 1 := (unhide Hyes (by rw [if_neg (by rw [wr']; decide)]; decide)).trans (by rw [if_neg (by rw [wr']; decide)])
                  clear wr' ww Hyes Hno Hcall
                  go_wp2
                  go_ret
                  exact ⟨by first | rfl | (rw [hfin]; rfl), (unhide HB).alloc (unhide HB).size _⟩
                · by_cases wh : 4294967295 < x
                  · have ww : ¬ (0 ≤ x ∧ x ≤ 4294967295) := by omega
                    have wr' : rightK 5 x ⟨#[]⟩ ([] : List Ri).length = false := by exact rbad5 ww
                    have hfin : D = 1 := (unhide Hyes (by rw [if_neg (by rw [wr']; decide)]; decide)).trans (by rw [if_neg (by rw [wr']; decide)])
                    clear wr' ww Hyes Hno Hcall
                    go_wp2
                    go_ret
                    exact ⟨by first | rfl | (rw [hfin]; rfl), (unhide HB).alloc (unhide HB).size _⟩
                  · have ww : 0 ≤ x ∧ x ≤ 4294967295 := by omega
                    have HF2 : Hid (fkL (rs.take (i + 1)) = 0) := unhide Hno (by exact rok5 ww)
                    clear Hyes Hno ww
                    go_wp2_with fail
                    refine (unhide Hcall _ ((unhide HBW).alloc (unhide HBW).size _)).mono ?_
                    rintro e W3 ⟨rfl, hb3⟩
                    have HB3 : Hid (Below w0.heap.size w0 W3) := ((unhide HB).alloc (unhide HB).size (.cells #[.int .i64 nb, .int .i64 5, .int .i64 x, .string ⟨#[]⟩, .slice ia 0 ic] 55)).trans (hb3.mono ((unhide HB).alloc (unhide HB).size _).size)
                    clear hb3
                    go_wp2
                    go_roundg (n - (i + 1))
                    case measure => have := unhide Hgk; omega
                    case rel => exact ⟨i + 1, by go_num, rfl, by omega, HF2, HB3⟩
            · have wr' : rightK 5 x ⟨#[]⟩ li.length = false := by simp [rightK, l0]
              have hfin : D = 1 := (unhide Hyes (by rw [if_neg (by rw [wr']; decide)]; decide)).trans (by rw [if_neg (by rw [wr']; decide)])
              clear wr' Hyes Hno Hcall
              go_wp2
              go_ret
              exact ⟨by first | rfl | (rw [hfin]; rfl), (unhide HB).alloc (unhide HB).size _⟩
          · have wr' : rightK 5 x t li.length = false := by simp [rightK, te]
            have hfin : D = 1 := (unhide Hyes (by rw [if_neg (by rw [wr']; decide)]; decide)).trans (by rw [if_neg (by rw [wr']; decide)])
            clear wr' Hyes Hno Hcall
            go_wp2
            go_ret
            exact ⟨by first | rfl | (rw [hfin]; rfl), (unhide HB).alloc (unhide HB).size _⟩
      · obtain rfl : i = n := by omega
        have hF := unhide HF
        rw [List.take_of_length_le (by rw [unhide Hn]; exact Nat.le_refl _), unhide HD] at hF
        subst hF
        go_wp2
        go_ret
        exact ⟨rfl, unhide HB⟩
#print axioms xwrong_ri
end Go.Proofs.YtgbadnbhgpnppaaDoor
