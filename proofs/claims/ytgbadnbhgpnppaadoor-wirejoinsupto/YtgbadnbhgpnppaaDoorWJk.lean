import Derived.Test.YtgbadnbhgpnppaaDoorWJM
namespace Go.Proofs.YtgbadnbhgpnppaaDoor
open Go.RowKit
attribute [local go_sem ↓] Go.wp_at_zero Go.wp_at_succ

set_option maxRecDepth 100000 in
set_option maxHeartbeats 16000000 in
/-- A lent copy is as it was. -/
theorem back_rk {W : World} {P : Nat → Prop} {v : Value} {rs : List Ri} (h : HasRk W P v rs) : ∀ u, HasRi W u rs → ∀ w0, Below W.heap.size W w0 → Calls Tryd.prog 11 #[v, u] w0 fun e W' => e = .returned (.bool true) ∧ Below w0.heap.size w0 W' := by
  induction h with
  | row g n rs us hp hn hm hg hk hw hc hi ih =>
    intro u hu w0 hw0
    have Hu := hide hu
    obtain ⟨va, vc, rfl⟩ := hu.form
    rw [hn]
    obtain ⟨n1, hn1⟩ : ∃ n1, n + 1 = n1 := ⟨_, rfl⟩
    have eN : (n : Int) + 1 = (n1 : Int) := by omega
    rw [hn1]
    have hnz : ¬ n1 = 0 := by omega
    have hnb : n1 ≤ 1048577 := by omega
    have hb0 : (0 : Int) ≤ (n1 : Int) := by omega
    have hb1 : (n : Int) < (n1 : Int) := by omega
    have hb2 : (0 : Int) ≤ (n : Int) := by omega
    have hmk := (hw0.cell (p := ⟨g, n * 5, none⟩) hg).trans hk
    have d0 : ((n : Int) != (n : Int)) = false := by simp
    have Hc := hide hc
    have Hih := hide ih
    have Hi := hide hi
    have Hn := hide hn
    have Hw0 := hide hw0
    clear hc ih hi hn hp hw0 hk hw hu hn1
    go_enter Tryd.func11, Tryd.ntmps11
    go_wp2
    go_loopg [5] n (fun gk v5 wr => ∃ (i : Nat), v5 = .int .i64 (i : Int) ∧ gk = n - i ∧ i ≤ n ∧ Hid (Below w0.heap.size w0 wr))
    case atStart => exact ⟨0, rfl, rfl, Nat.zero_le _, Below.refl _ _⟩
    case round =>
      obtain ⟨i, rfl, hgk, hin, HB⟩ := hrel
      have Hgk := hide hgk
      clear hgk hmk d0
      by_cases hlt : i < n
      · obtain ⟨r, hr⟩ : ∃ r, rs[i]? = some r := ⟨_, List.getElem?_eq_getElem (by rw [unhide Hn]; exact hlt)⟩
        have hBW : Below W.heap.size W wr := (unhide Hw0).trans ((unhide HB).mono (unhide Hw0).size)
        have hcs := unhide Hc i r hr
        obtain ⟨ia, ic, eu⟩ := (unhide Hi i r hr).form2
        have hcall0 := unhide Hih i r hr
        rw [eu] at hcs hcall0
        obtain ⟨nb, kd, x, t, li⟩ := r
        obtain ⟨g', off, c1, ja, jc, ev, hg', _, q0, q1, q2, q3, q4, hin2⟩ := (unhide Hu).rec' hr
        obtain ⟨rfl, rfl⟩ : va = some ⟨g', off, none⟩ ∧ vc = c1 := by injection ev with x1 x2 x3; exact ⟨x1, x3⟩
        have Hcall : Hid (∀ w0, Below W.heap.size W w0 → Calls Tryd.prog 11 #[.slice ia li.length ic, .slice ja li.length jc] w0 fun e W' => e = .returned (.bool true) ∧ Below w0.heap.size w0 W') := hcall0 _ hin2
        have d0 := (hBW.cell (p := ⟨g, i * 5, none⟩) hg).trans (hcs 0 _ rfl)
        have d1 := (hBW.cell (p := ⟨g, i * 5 + 1, none⟩) hg).trans (hcs 1 _ rfl)
        have d2 := (hBW.cell (p := ⟨g, i * 5 + 2, none⟩) hg).trans (hcs 2 _ rfl)
        have d3 := (hBW.cell (p := ⟨g, i * 5 + 3, none⟩) hg).trans (hcs 3 _ rfl)
        have d4 : wr.cell? ⟨g, i * 5 + 4, none⟩ = some (.slice ia li.length ic) := (hBW.cell (p := ⟨g, i * 5 + 4, none⟩) hg).trans (hcs 4 _ rfl)
        have f0 := (hBW.cell (p := ⟨g', off + i * 5, none⟩) hg').trans q0
        have f1 := (hBW.cell (p := ⟨g', off + i * 5 + 1, none⟩) hg').trans q1
        have f2 := (hBW.cell (p := ⟨g', off + i * 5 + 2, none⟩) hg').trans q2
        have f3 := (hBW.cell (p := ⟨g', off + i * 5 + 3, none⟩) hg').trans q3
        have f4 := (hBW.cell (p := ⟨g', off + i * 5 + 4, none⟩) hg').trans q4
        have hi0 : (0 : Int) ≤ (i : Int) := Int.natCast_nonneg _
        have hi1 : (i : Int) < (n : Int) := by omega
        have e0 : (nb != nb) = false := by simp
        have e1 : (kd != kd) = false := by simp
        have e2 : (x != x) = false := by simp
        have hgw : g < wr.heap.size := Nat.lt_of_lt_of_le hg hBW.size
        have hgw' : g' < wr.heap.size := Nat.lt_of_lt_of_le hg' hBW.size
        have HBW := hide hBW
        have HS : Hid (∀ w', Below wr.heap.size wr w' → (w'.cell? ⟨g, i * 5, none⟩ = some (.int .i64 nb) ∧ w'.cell? ⟨g, i * 5 + 1, none⟩ = some (.int .i64 kd) ∧ w'.cell? ⟨g, i * 5 + 2, none⟩ = some (.int .i64 x) ∧ w'.cell? ⟨g, i * 5 + 3, none⟩ = some (.string t) ∧ w'.cell? ⟨g, i * 5 + 4, none⟩ = some (.slice ia li.length ic) ∧ w'.cell? ⟨g', off + i * 5, none⟩ = some (.int .i64 nb) ∧ w'.cell? ⟨g', off + i * 5 + 1, none⟩ = some (.int .i64 kd) ∧ w'.cell? ⟨g', off + i * 5 + 2, none⟩ = some (.int .i64 x) ∧ w'.cell? ⟨g', off + i * 5 + 3, none⟩ = some (.string t) ∧ w'.cell? ⟨g', off + i * 5 + 4, none⟩ = some (.slice ja li.length jc)) ∧ Below wr.heap.size wr w') := fun w' h => ⟨⟨(h.cell (p := ⟨g, i * 5, none⟩) hgw).trans d0, (h.cell (p := ⟨g, i * 5 + 1, none⟩) hgw).trans d1, (h.cell (p := ⟨g, i * 5 + 2, none⟩) hgw).trans d2, (h.cell (p := ⟨g, i * 5 + 3, none⟩) hgw).trans d3, (h.cell (p := ⟨g, i * 5 + 4, none⟩) hgw).trans d4, (h.cell (p := ⟨g', off + i * 5, none⟩) hgw').trans f0, (h.cell (p := ⟨g', off + i * 5 + 1, none⟩) hgw').trans f1, (h.cell (p := ⟨g', off + i * 5 + 2, none⟩) hgw').trans f2, (h.cell (p := ⟨g', off + i * 5 + 3, none⟩) hgw').trans f3, (h.cell (p := ⟨g', off + i * 5 + 4, none⟩) hgw').trans f4⟩, h⟩
        clear hcs eu hcall0 hBW q0 q1 q2 q3 q4 hin2 ev hr d0 d1 d2 d3 d4 f0 f1 f2 f3 f4
        go_wp2_with fail
        go_region_held3 (fun w' => (w'.cell? ⟨g, i * 5, none⟩ = some (.int .i64 nb) ∧ w'.cell? ⟨g, i * 5 + 1, none⟩ = some (.int .i64 kd) ∧ w'.cell? ⟨g, i * 5 + 2, none⟩ = some (.int .i64 x) ∧ w'.cell? ⟨g, i * 5 + 3, none⟩ = some (.string t) ∧ w'.cell? ⟨g, i * 5 + 4, none⟩ = some (.slice ia li.length ic) ∧ w'.cell? ⟨g', off + i * 5, none⟩ = some (.int .i64 nb) ∧ w'.cell? ⟨g', off + i * 5 + 1, none⟩ = some (.int .i64 kd) ∧ w'.cell? ⟨g', off + i * 5 + 2, none⟩ = some (.int .i64 x) ∧ w'.cell? ⟨g', off + i * 5 + 3, none⟩ = some (.string t) ∧ w'.cell? ⟨g', off + i * 5 + 4, none⟩ = some (.slice ja li.length jc)) ∧ Below wr.heap.size wr w')
          ((refine unhide HS _ ?_; first | exact (Below.refl _ _).drew | exact hB2 | exact Below.refl _ _))
          (first
            | (go_at_call 11; refine (unhide Hcall _ ((unhide HBW).drew)).mono ?_; rintro o W2 ⟨rfl, hb2⟩; have hB2 : Below wr.heap.size wr W2 := ((Below.refl _ wr).drew).trans hb2))
        go_wp2
        go_roundg (n - (i + 1))
        case measure => have := unhide Hgk; omega
        case rel => exact ⟨i + 1, by go_num, rfl, by omega, (unhide HB).trans (hB2.mono (unhide HB).size)⟩
      · obtain rfl : i = n := by omega
        go_wp2
        go_ret
        exact ⟨rfl, unhide HB⟩
#print axioms back_rk
end Go.Proofs.YtgbadnbhgpnppaaDoor
