import Derived.Test.YtobomdokdajbaaaDoorJ12
import Derived.Test.YtobomdokdajbaaaDoorJ12

namespace Go.Proofs.YtobomdokdajbaaaDoor
open Go.RowKit
attribute [local go_sem ↓] Go.wp_at_zero Go.wp_at_succ

def CtA (W : World) (c : Nat) (v : Value) (s : ByteArray) (k : Nat) (st : Bool) (e : Ending) (W' : World) : (ByteArray × Nat) ⊕ Nat → Prop
  | .inl (t, k') => e = .returned (.tuple #[.string t, .int .i64 0]) ∧ Upd W c (.cells #[v, .int .i64 (k' : Int), .int .i64 (s.size : Int), .bool st] 88 (0, 0)) W'
  | .inr n => e = .returned (.tuple #[.string .empty, .int .i64 (n : Int)]) ∧ n ≠ 0 ∧ Upd W c (.cells #[v, .int .i64 (k : Int), .int .i64 (s.size : Int), .bool st] 88 (0, 0)) W'
theorem upd_at {W : World} {c : Nat} {x y z u : Value} {t : TypeId} {w1 : World} (hU : Upd W c (.cells #[x, y, z, u] t (0, 0)) w1) (n : Nat) (y' : Value) : Upd W c (.cells #[x, y', z, u] t (0, 0)) ((w1.drewN n).setCell ⟨c, 1, none⟩ y') :=
  ⟨hU.os, hU.tape, hU.output, by rw [World.size_setCell]; exact hU.size, heap_setCell_same (w1.drewN n) c 1 _ _ y' hU.at', fun q hq hn => (heap_setCell_other (w1.drewN n) ⟨c, 1, none⟩ q y' hn).trans (hU.far q hq hn)⟩
theorem ext_list (s : ByteArray) (a b : Nat) (h : b ≤ s.size) : s.extract a b = ⟨((List.range (b - a)).map fun i => (bAt s (a + i)).toUInt8).toArray⟩ := by
  apply ByteArray.ext
  apply Array.ext
  · simp; omega
  · intro i h1 h2
    simp at h1 h2 ⊢
    rw [bAt_eq (by omega)]
    simp
    rfl
set_option maxRecDepth 100000 in
set_option maxHeartbeats 4000000 in
theorem cText_any {W : World} {c : Nat} {v : Value} {s : ByteArray} {k : Nat} {st : Bool} (h : CuAt W c v s k st) (hB : Bs W v s) (hk : k ≤ s.size) (hs : s.size ≤ 1048576) (hne : ∀ a l cp, v = .slice (some a) l cp → 0 < s.size → a.block ≠ c ∧ cp ≤ 9223372036854775807) :
    Calls Tryd.prog 56 #[.pointer (some ⟨c, 0, none⟩)] W fun e W' => CtA W c v s k st e W' (tAt s st k) := by
  have hv := cVarint_any h hB hk hs
  have hlt : ∀ u k', vAt s st k = .inl (u, k') → u < 18446744073709551616 ∧ k < k' ∧ k' ≤ s.size := fun u k' h => vAt_lt h
  unfold tAt
  obtain ⟨R, hR⟩ : ∃ R, vAt s st k = R := ⟨_, rfl⟩
  rw [hR] at hv hlt ⊢
  clear hR
  have Hlt := hide hlt
  clear hlt
  obtain ⟨c0, c1, c2, c3, f1⟩ := cells4_of h
  have Hh := hide h
  have Hv := hide hv
  clear h hv
  obtain ⟨a, cp, rfl, hcp, hB3⟩ := hB
  have HB := hide hB3
  have Hne := hide hne
  clear hB3 hne
  cases R with
  | inr n =>
    go_enter Tryd.func56, Tryd.ntmps56
    go_wp2_with fail
    refine (unhide Hv).mono ?_
    intro e w1 hq
    clear Hv
    obtain ⟨rfl, hc, m, rfl⟩ := hq
    have qc : ((n : Int) != 0) = true := by simp; omega
    go_wp2
    go_ret2
    exact ⟨rfl, hc, upd_same (unhide Hh) m⟩
  | inl p =>
    obtain ⟨u, k'⟩ := p
    obtain ⟨hu, hk1, hk2⟩ := unhide Hlt u k' rfl
    clear Hlt
    show Calls Tryd.prog 56 #[.pointer (some ⟨c, 0, none⟩)] W fun e W' => CtA W c _ s k st e W' (if s.size - k' < u then .inr 20 else .inl (s.extract k' (k' + u), k' + u))
    by_cases hc : s.size - k' < u
    · rw [if_pos hc]
      have hd : decide (wrap64 (u : Int) < 0) = true ∨ (decide (wrap64 (u : Int) < 0) = false ∧ decide ((s.size : Int) - (k' : Int) < wrap64 (u : Int)) = true) := by
        rw [wrap64_eq]
        by_cases q : (u : Int) < 9223372036854775808
        · exact .inr ⟨decide_eq_false (by omega), decide_eq_true (by omega)⟩
        · exact .inl (decide_eq_true (by omega))
      clear hc
      go_enter Tryd.func56, Tryd.ntmps56
      go_wp2_with fail
      refine (unhide Hv).mono ?_
      intro e w1 hq
      clear Hv
      obtain ⟨rfl, hU⟩ := hq
      obtain ⟨d0, d1, d2, d3, g1⟩ := cells4_of hU.at'
      have HU := hide hU
      clear hU c0 c1 c2 c3 f1 Hh
      generalize wrap64 (u : Int) = wu at *
      rcases hd with e1 | ⟨e1, e2⟩
      all_goals (
        go_wp2
        go_quiet (fail)
        go_wp2
        go_ret2
        exact ⟨rfl, by decide, upd_at (unhide HU) _ _⟩)
    · rw [if_neg hc]
      have hu2 : wrap64 (u : Int) = (u : Int) := by rw [wrap64_eq]; omega
      have Hu2 := hide hu2
      have e1 : decide ((u : Int) < 0) = false := by simp
      have e2 : decide ((s.size : Int) - (k' : Int) < (u : Int)) = false := by simp; omega
      have hb : k' + u ≤ s.size := by omega
      have hb5 : (0 : Int) ≤ (k' : Int) := by omega
      obtain ⟨p, hp⟩ : ∃ p, k' + u = p := ⟨_, rfl⟩
      have ep : (k' : Int) + (u : Int) = (p : Int) := by omega
      have hb2 : p ≤ cp := by omega
      have hb3 : (p : Int) ≤ (cp : Int) := by omega
      have hb4 : (k' : Int) ≤ (p : Int) := by omega
      have hb6 : k' ≤ p := by omega
      have hb7 : p - k' = u := by omega
      have hb8 : (p : Int) - (k' : Int) = (u : Int) := by omega
      obtain ⟨g, off, rfl, hg, hcell⟩ := unhide HB (by omega)
      obtain ⟨hgc, hcm⟩ := unhide Hne ⟨g, off, none⟩ _ _ rfl (by omega)
      have hgc : g ≠ c := hgc
      have hcv0 : ∀ (w1 : World) (base cp' : Nat), (base = off + k' ∨ u = 0) → w1.heap[g]? = W.heap[g]? → (convert 24 9 (.slice (some ⟨g, base, none⟩) u cp')).run Tryd.prog w1 = .ok (.string (s.extract k' p)) w1 := by
        intro w1 base cp' hbase hw
        have hl : (((List.range (p - k')).map fun i => (bAt s (k' + i)).toUInt8)).length = u := by simp; omega
        have := run_convert_bytes_back (P := Tryd.prog) w1 24 9 5 ⟨g, base, none⟩ cp' ((List.range (p - k')).map fun i => (bAt s (k' + i)).toUInt8) Tryd.underlying24 Tryd.underlying5 Tryd.underlying9 (fun j hj => by
          rw [Go.WideShapes.add_plain]
          have hj' : j < u := by rw [hl] at hj; exact hj
          obtain rfl : base = off + k' := by omega
          have hx := hcell (k' + j) (by omega)
          have hx2 : w1.cell? ⟨g, off + (k' + j), none⟩ = some (.int .u8 (bAt s (k' + j) : Int)) := by rw [← hx]; unfold World.cell?; rw [hw]
          show w1.cell? ⟨g, off + k' + j, none⟩ = _
          rw [Nat.add_assoc, hx2]
          have := bAt_lt s (k' + j)
          simp
          omega)
        rw [hl] at this
        rw [ext_list s k' p (by omega)]
        exact this
      have Hcv0 := hide hcv0
      rw [hp]
      have hq : (cp = k' ∧ u = 0) ∨ ¬ cp = k' := by omega
      clear hc hu2 HB Hne hcell hcv0 hp
      rcases hq with ⟨q1, q2⟩ | q1
      · have hcvx : ∀ (w1 : World) (cp' : Nat), w1.heap[g]? = W.heap[g]? → (convert 24 9 (.slice (some ⟨g, off, none⟩) u cp')).run Tryd.prog w1 = .ok (.string (s.extract k' p)) w1 := fun w1 cp' hw => unhide Hcv0 w1 off cp' (.inr q2) hw
        have Hcv1 := hide hcvx
        clear hcvx Hcv0 q2
        subst q1
        (
          go_enter Tryd.func56, Tryd.ntmps56
          go_wp2_with fail
          refine (unhide Hv).mono ?_
          intro e w1 hq
          clear Hv
          obtain ⟨he, hU⟩ := hq
          rw [unhide Hu2] at he
          subst he
          obtain ⟨d0, d1, d2, d3, g1⟩ := cells4_of hU.at'
          have hcv := fun (m cp' : Nat) => unhide Hcv1 (w1.drewN m) cp' (hU.far g hg hgc)
          have HU := hide hU
          clear hU c0 c1 c2 c3 f1 Hh Hcv1
          go_wp2
          go_quiet (fail)
          go_wp2
          go_quiet (fail)
          go_wp2
          go_ret2
          exact ⟨rfl, upd_at (unhide HU) _ _⟩)
      · have hcvx : ∀ (w1 : World) (cp' : Nat), w1.heap[g]? = W.heap[g]? → (convert 24 9 (.slice (some ⟨g, off + k', none⟩) u cp')).run Tryd.prog w1 = .ok (.string (s.extract k' p)) w1 := fun w1 cp' hw => unhide Hcv0 w1 _ cp' (.inl rfl) hw
        have Hcv1 := hide hcvx
        clear hcvx Hcv0
        (
          go_enter Tryd.func56, Tryd.ntmps56
          go_wp2_with fail
          refine (unhide Hv).mono ?_
          intro e w1 hq
          clear Hv
          obtain ⟨he, hU⟩ := hq
          rw [unhide Hu2] at he
          subst he
          obtain ⟨d0, d1, d2, d3, g1⟩ := cells4_of hU.at'
          have hcv := fun (m cp' : Nat) => unhide Hcv1 (w1.drewN m) cp' (hU.far g hg hgc)
          have HU := hide hU
          clear hU c0 c1 c2 c3 f1 Hh Hcv1
          go_wp2
          go_quiet (fail)
          go_wp2
          go_quiet (fail)
          go_wp2
          go_ret2
          exact ⟨rfl, upd_at (unhide HU) _ _⟩)
end Go.Proofs.YtobomdokdajbaaaDoor

namespace Go.Proofs.YtobomdokdajbaaaDoor
open Go.RowKit
attribute [local go_sem ↓] Go.wp_at_zero Go.wp_at_succ

def CgA (W : World) (c : Nat) (v : Value) (s : ByteArray) (k : Nat) (st : Bool) (e : Ending) (W' : World) : (Nat × Nat) ⊕ Nat → Prop
  | .inr n => e = .returned (.tuple #[.int .i64 0, .int .i64 0, .int .i64 (n : Int)]) ∧ n ≠ 0 ∧ ∃ m, W' = W.drewN m
  | .inl (u, k') => if u / 8 < 1 ∨ 536870911 < u / 8 then e = .returned (.tuple #[.int .i64 0, .int .i64 0, .int .i64 24]) ∧ Upd W c (.cells #[v, .int .i64 (k : Int), .int .i64 (s.size : Int), .bool st] 88 (0, 0)) W'
      else if 5 < u % 8 then e = .returned (.tuple #[.int .i64 0, .int .i64 0, .int .i64 23]) ∧ Upd W c (.cells #[v, .int .i64 (k : Int), .int .i64 (s.size : Int), .bool st] 88 (0, 0)) W'
      else e = .returned (.tuple #[.int .i64 ((u / 8 : Nat) : Int), .int .i64 ((u % 8 : Nat) : Int), .int .i64 0]) ∧ Upd W c (.cells #[v, .int .i64 (k' : Int), .int .i64 (s.size : Int), .bool st] 88 (0, 0)) W'
theorem upd_at0 {W : World} {c : Nat} {x y z u : Value} {t : TypeId} {w1 : World} (hU : Upd W c (.cells #[x, y, z, u] t (0, 0)) w1) (y' : Value) : Upd W c (.cells #[x, y', z, u] t (0, 0)) (w1.setCell ⟨c, 1, none⟩ y') :=
  ⟨hU.os, hU.tape, hU.output, by rw [World.size_setCell]; exact hU.size, heap_setCell_same w1 c 1 _ _ y' hU.at', fun q hq hn => (heap_setCell_other w1 ⟨c, 1, none⟩ q y' hn).trans (hU.far q hq hn)⟩
theorem num_bad {n : Nat} (h : n < 1 ∨ 536870911 < n) : decide ((n : Int) < 1) = true ∨ (decide ((n : Int) < 1) = false ∧ decide ((536870911 : Int) < (n : Int)) = true) := by
  by_cases z : n < 1
  · exact .inl (decide_eq_true (by omega))
  · exact .inr ⟨decide_eq_false (by omega), decide_eq_true (by omega)⟩
theorem num_ok {n : Nat} (h : ¬ (n < 1 ∨ 536870911 < n)) : decide ((n : Int) < 1) = false ∧ decide ((536870911 : Int) < (n : Int)) = false := ⟨decide_eq_false (by omega), decide_eq_false (by omega)⟩
theorem kind_bad {n : Nat} (h : 5 < n) : decide ((5 : Int) < (n : Int)) = true := decide_eq_true (by omega)
theorem kind_ok {n : Nat} (h : ¬ 5 < n) : decide ((5 : Int) < (n : Int)) = false := decide_eq_false (by omega)
theorem wrap64_id {n : Int} (h0 : 0 ≤ n) (h : n < 9223372036854775808) : wrap64 n = n := by rw [wrap64_eq]; omega
theorem un_wrap64 {u : Nat} (h : u < 18446744073709551616) : un (wrap64 (u : Int)) = u := by
  have := un_eq (wrap64 (u : Int))
  rw [wrap64_eq] at this
  rw [wrap64_eq]
  omega
theorem tagParts {u : Nat} (h : u < 18446744073709551616) : ∃ q r n kd r8 : Nat, u / 128 = q ∧ u % 128 = r ∧ u / 8 = n ∧ u % 8 = kd ∧ wrap64 (16 * (q : Int)) = 16 * (q : Int) ∧ (r : Int).tdiv 8 = (r8 : Int) ∧ (r : Int).tmod 8 = (kd : Int) ∧ 16 * (q : Int) + (r8 : Int) = (n : Int) ∧ wrap64 (n : Int) = (n : Int) ∧ wrap64 (r8 : Int) = (r8 : Int) := by
  refine ⟨u / 128, u % 128, u / 8, u % 8, u % 128 / 8, rfl, rfl, rfl, rfl, wrap64_id (by omega) (by omega), ?_, ?_, by omega, wrap64_id (by omega) (by omega), wrap64_id (by omega) (by omega)⟩
  · rw [Int.tdiv_eq_ediv_of_nonneg (Int.natCast_nonneg _)]; omega
  · rw [Int.tmod_eq_emod_of_nonneg (Int.natCast_nonneg _)]; omega
set_option maxRecDepth 100000 in
set_option maxHeartbeats 1000000 in
theorem cTag_any {W : World} {c : Nat} {v : Value} {s : ByteArray} {k : Nat} {st : Bool} (h : CuAt W c v s k st) (hB : Bs W v s) (hk : k ≤ s.size) (hs : s.size ≤ 1048576) :
    Calls Tryd.prog 58 #[.pointer (some ⟨c, 0, none⟩)] W fun e W' => CgA W c v s k st e W' (vAt s st k) := by
  have hv := cVarint_any h hB hk hs
  have hlt : ∀ u k', vAt s st k = .inl (u, k') → u < 18446744073709551616 ∧ k < k' ∧ k' ≤ s.size := fun u k' h => vAt_lt h
  obtain ⟨R, hR⟩ : ∃ R, vAt s st k = R := ⟨_, rfl⟩
  rw [hR] at hv hlt ⊢
  clear hR
  have Hlt := hide hlt
  clear hlt
  obtain ⟨c0, c1, c2, c3, f1⟩ := cells4_of h
  have Hh := hide h
  have Hv := hide hv
  clear h hv
  obtain ⟨a, cp, rfl, hcp, hB3⟩ := hB
  clear hB3 hcp
  cases R with
  | inr n =>
    go_enter Tryd.func58, Tryd.ntmps58
    go_wp2_with fail
    refine (unhide Hv).mono ?_
    intro e w1 hq
    clear Hv
    obtain ⟨rfl, hc, m, rfl⟩ := hq
    have qc : ((n : Int) != 0) = true := by simp; omega
    go_wp2
    go_ret3
    exact ⟨rfl, hc, m, rfl⟩
  | inl p =>
    obtain ⟨u, k'⟩ := p
    obtain ⟨hu, hk1, hk2⟩ := unhide Hlt u k' rfl
    have hhv : ∀ X : World, _ := fun X => halves_any X (wrap64 (u : Int)) (by unfold Rng; rw [wrap64_eq]; omega)
    rw [un_wrap64 hu] at hhv
    obtain ⟨q, r, n, kd, r8, hq, hr, hn, hkd, e1, e2, e3, e4, e5, e6⟩ := tagParts hu
    rw [hq, hr] at hhv
    have Hhv := hide hhv
    have Hn := hide hn
    have Hkd := hide hkd
    clear hhv hq hr hn hkd Hlt
    go_enter Tryd.func58, Tryd.ntmps58
    go_wp2_with fail
    refine (unhide Hv).mono ?_
    intro e w1 hq
    clear Hv
    obtain ⟨rfl, hU⟩ := hq
    obtain ⟨d0, d1, d2, d3, g1⟩ := cells4_of hU.at'
    have HU := hide hU
    clear hU c0 c1 c2 c3 f1 Hh
    generalize wrap64 (u : Int) = wu at *
    go_wp2_with fail
    refine (unhide Hhv w1).mono ?_
    rintro e w2 ⟨rfl, hw⟩
    obtain rfl : w1 = w2 := hw.symm
    clear hw Hhv
    by_cases h24 : n < 1 ∨ 536870911 < n
    · have Hend : Hid (CgA W c (.slice a s.size cp) s k st (.returned (.tuple #[.int .i64 0, .int .i64 0, .int .i64 24])) (w1.setCell ⟨c, 1, none⟩ (.int .i64 (k : Int))) (.inl (u, k'))) := by
        show (if u / 8 < 1 ∨ 536870911 < u / 8 then (_ : Prop) else _)
        rw [unhide Hn, if_pos h24]
        exact ⟨rfl, upd_at0 (unhide HU) _⟩
      have hd : decide ((n : Int) < 1) = true ∨ (decide ((n : Int) < 1) = false ∧ decide ((536870911 : Int) < (n : Int)) = true) := num_bad h24
      clear h24
      rcases hd with b1 | ⟨b1, b2⟩
      all_goals (
        go_wp2
        go_ret3
        exact unhide Hend)
    · obtain ⟨b1, b2⟩ := num_ok h24
      by_cases h23 : 5 < kd
      · have b3 : decide ((5 : Int) < (kd : Int)) = true := kind_bad h23
        have Hend : Hid (CgA W c (.slice a s.size cp) s k st (.returned (.tuple #[.int .i64 0, .int .i64 0, .int .i64 23])) (w1.setCell ⟨c, 1, none⟩ (.int .i64 (k : Int))) (.inl (u, k'))) := by
          show (if u / 8 < 1 ∨ 536870911 < u / 8 then (_ : Prop) else if 5 < u % 8 then _ else _)
          rw [unhide Hn, if_neg h24, unhide Hkd, if_pos h23]
          exact ⟨rfl, upd_at0 (unhide HU) _⟩
        clear h24 h23
        go_wp2
        go_ret3
        exact unhide Hend
      · have b3 : decide ((5 : Int) < (kd : Int)) = false := kind_ok h23
        have Hend : Hid (CgA W c (.slice a s.size cp) s k st (.returned (.tuple #[.int .i64 (wrap64 (n : Int)), .int .i64 (kd : Int), .int .i64 0])) w1 (.inl (u, k'))) := by
          show (if u / 8 < 1 ∨ 536870911 < u / 8 then (_ : Prop) else if 5 < u % 8 then _ else _)
          rw [unhide Hn, if_neg h24, unhide Hkd, if_neg h23]
          exact ⟨by rw [e5], unhide HU⟩
        clear h24 h23
        go_wp2
        go_ret3
        exact unhide Hend
end Go.Proofs.YtobomdokdajbaaaDoor
