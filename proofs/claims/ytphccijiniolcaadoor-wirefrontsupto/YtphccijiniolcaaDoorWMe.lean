import Derived.Test.YtphccijiniolcaaDoorWMC
import Derived.Test.YtphccijiniolcaaDoorXH
namespace Go.Proofs.YtphccijiniolcaaDoor
open Go.RowKit
attribute [local go_sem ↓] Go.wp_at_zero Go.wp_at_succ

def CtA (W : World) (c : Nat) (v : Value) (s : ByteArray) (k : Nat) (st : Bool) (e : Ending) (W' : World) : (ByteArray × Nat) ⊕ Nat → Prop
  | .inl (t, k') => e = .returned (.tuple #[.string t, .int .i64 0]) ∧ Upd W c (.cells #[v, .int .i64 (k' : Int), .int .i64 (s.size : Int), .bool st] 89 (0, 0)) W'
  | .inr n => e = .returned (.tuple #[.string .empty, .int .i64 (n : Int)]) ∧ n ≠ 0 ∧ Upd W c (.cells #[v, .int .i64 (k : Int), .int .i64 (s.size : Int), .bool st] 89 (0, 0)) W'
theorem upd_at {W : World} {c : Nat} {x y z u : Value} {t : TypeId} {w1 : World} (hU : Upd W c (.cells #[x, y, z, u] t (0, 0)) w1) (n : Nat) (y' : Value) : Upd W c (.cells #[x, y', z, u] t (0, 0)) ((w1.drewN n).setCell ⟨c, 1, none⟩ y') :=
  ⟨hU.os, hU.tape, hU.output, by rw [World.size_setCell]; exact hU.size, heap_setCell_same (w1.drewN n) c 1 _ _ y' hU.at', fun q hq hn => (heap_setCell_other (w1.drewN n) ⟨c, 1, none⟩ q y' hn).trans (hU.far q hq hn)⟩
theorem ext_list (s : ByteArray) (a b : Nat) (h : b ≤ s.size) : s.extract a b = ⟨((List.range (b - a)).map fun i => (bAt s (a + i)).toUInt8).toArray⟩ := by
  apply ByteArray.ext
  apply Array.ext
  · simp; omega
  · intro i h1 h2
    simp at h1 h2 ⊢
    rw [bAt_eq (by omega)]
    simp
    rfl
set_option maxRecDepth 100000 in
set_option maxHeartbeats 4000000 in
theorem cText_any {W : World} {c : Nat} {v : Value} {s : ByteArray} {k : Nat} {st : Bool} (h : CuAt W c v s k st) (hB : Bs W v s) (hk : k ≤ s.size) (hs : s.size ≤ 1048576) (hne : ∀ a l cp, v = .slice (some a) l cp → 0 < s.size → a.block ≠ c ∧ cp ≤ 9223372036854775807) :
    Calls Tryd.prog 62 #[.pointer (some ⟨c, 0, none⟩)] W fun e W' => CtA W c v s k st e W' (tAt s st k) := by
  have hv := cVarint_any h hB hk hs
  have hlt : ∀ u k', vAt s st k = .inl (u, k') → u < 18446744073709551616 ∧ k < k' ∧ k' ≤ s.size := fun u k' h => vAt_lt h
  unfold tAt
  obtain ⟨R, hR⟩ : ∃ R, vAt s st k = R := ⟨_, rfl⟩
  rw [hR] at hv hlt ⊢
  clear hR
  have Hlt := hide hlt
  clear hlt
  obtain ⟨c0, c1, c2, c3, f1⟩ := cells4_of h
  have Hh := hide h
  have Hv := hide hv
  clear h hv
  obtain ⟨a, cp, rfl, hcp, hB3⟩ := hB
  have HB := hide hB3
  have Hne := hide hne
  clear hB3 hne
  cases R with
  | inr n =>
    go_enter Tryd.func62, Tryd.ntmps62
    go_wp2_with fail
    refine (unhide Hv).mono ?_
    intro e w1 hq
    clear Hv
    obtain ⟨rfl, hc, m, rfl⟩ := hq
    have qc : ((n : Int) != 0) = true := by simp; omega
    go_wp2
    go_ret2
    exact ⟨rfl, hc, upd_same (unhide Hh) m⟩
  | inl p =>
    obtain ⟨u, k'⟩ := p
    obtain ⟨hu, hk1, hk2⟩ := unhide Hlt u k' rfl
    clear Hlt
    show Calls Tryd.prog 62 #[.pointer (some ⟨c, 0, none⟩)] W fun e W' => CtA W c _ s k st e W' (if s.size - k' < u then .inr 20 else .inl (s.extract k' (k' + u), k' + u))
    by_cases hc : s.size - k' < u
    · rw [if_pos hc]
      have hd : decide (wrap64 (u : Int) < 0) = true ∨ (decide (wrap64 (u : Int) < 0) = false ∧ decide ((s.size : Int) - (k' : Int) < wrap64 (u : Int)) = true) := by
        rw [wrap64_eq]
        by_cases q : (u : Int) < 9223372036854775808
        · exact .inr ⟨decide_eq_false (by omega), decide_eq_true (by omega)⟩
        · exact .inl (decide_eq_true (by omega))
      clear hc
      go_enter Tryd.func62, Tryd.ntmps62
      go_wp2_with fail
      refine (unhide Hv).mono ?_
      intro e w1 hq
      clear Hv
      obtain ⟨rfl, hU⟩ := hq
      obtain ⟨d0, d1, d2, d3, g1⟩ := cells4_of hU.at'
      have HU := hide hU
      clear hU c0 c1 c2 c3 f1 Hh
      generalize wrap64 (u : Int) = wu at *
      rcases hd with e1 | ⟨e1, e2⟩
      all_goals (
        go_wp2
        go_quiet (fail)
        go_wp2
        go_ret2
        exact ⟨rfl, by decide, upd_at (unhide HU) _ _⟩)
    · rw [if_neg hc]
      have hu2 : wrap64 (u : Int) = (u : Int) := by rw [wrap64_eq]; omega
      have Hu2 := hide hu2
      have e1 : decide ((u : Int) < 0) = false := by simp
      have e2 : decide ((s.size : Int) - (k' : Int) < (u : Int)) = false := by simp; omega
      have hb : k' + u ≤ s.size := by omega
      have hb5 : (0 : Int) ≤ (k' : Int) := by omega
      obtain ⟨p, hp⟩ : ∃ p, k' + u = p := ⟨_, rfl⟩
      have ep : (k' : Int) + (u : Int) = (p : Int) := by omega
      have hb2 : p ≤ cp := by omega
      have hb3 : (p : Int) ≤ (cp : Int) := by omega
      have hb4 : (k' : Int) ≤ (p : Int) := by omega
      have hb6 : k' ≤ p := by omega
      have hb7 : p - k' = u := by omega
      have hb8 : (p : Int) - (k' : Int) = (u : Int) := by omega
      obtain ⟨g, off, rfl, hg, hcell⟩ := unhide HB (by omega)
      obtain ⟨hgc, hcm⟩ := unhide Hne ⟨g, off, none⟩ _ _ rfl (by omega)
      have hgc : g ≠ c := hgc
      have hcv0 : ∀ (w1 : World) (base cp' : Nat), (base = off + k' ∨ u = 0) → w1.heap[g]? = W.heap[g]? → (convert 24 9 (.slice (some ⟨g, base, none⟩) u cp')).run Tryd.prog w1 = .ok (.string (s.extract k' p)) w1 := by
        intro w1 base cp' hbase hw
        have hl : (((List.range (p - k')).map fun i => (bAt s (k' + i)).toUInt8)).length = u := by simp; omega
        have := run_convert_bytes_back (P := Tryd.prog) w1 24 9 5 ⟨g, base, none⟩ cp' ((List.range (p - k')).map fun i => (bAt s (k' + i)).toUInt8) Tryd.underlying24 Tryd.underlying5 Tryd.underlying9 (fun j hj => by
          rw [Go.WideShapes.add_plain]
          have hj' : j < u := by rw [hl] at hj; exact hj
          obtain rfl : base = off + k' := by omega
          have hx := hcell (k' + j) (by omega)
          have hx2 : w1.cell? ⟨g, off + (k' + j), none⟩ = some (.int .u8 (bAt s (k' + j) : Int)) := by rw [← hx]; unfold World.cell?; rw [hw]
          show w1.cell? ⟨g, off + k' + j, none⟩ = _
          rw [Nat.add_assoc, hx2]
          have := bAt_lt s (k' + j)
          simp
          omega)
        rw [hl] at this
        rw [ext_list s k' p (by omega)]
        exact this
      have Hcv0 := hide hcv0
      rw [hp]
      have hq : (cp = k' ∧ u = 0) ∨ ¬ cp = k' := by omega
      clear hc hu2 HB Hne hcell hcv0 hp
      rcases hq with ⟨q1, q2⟩ | q1
      · have hcvx : ∀ (w1 : World) (cp' : Nat), w1.heap[g]? = W.heap[g]? → (convert 24 9 (.slice (some ⟨g, off, none⟩) u cp')).run Tryd.prog w1 = .ok (.string (s.extract k' p)) w1 := fun w1 cp' hw => unhide Hcv0 w1 off cp' (.inr q2) hw
        have Hcv1 := hide hcvx
        clear hcvx Hcv0 q2
        subst q1
        (
          go_enter Tryd.func62, Tryd.ntmps62
          go_wp2_with fail
          refine (unhide Hv).mono ?_
          intro e w1 hq
          clear Hv
          obtain ⟨he, hU⟩ := hq
          rw [unhide Hu2] at he
          subst he
          obtain ⟨d0, d1, d2, d3, g1⟩ := cells4_of hU.at'
          have hcv := fun (m cp' : Nat) => unhide Hcv1 (w1.drewN m) cp' (hU.far g hg hgc)
          have HU := hide hU
          clear hU c0 c1 c2 c3 f1 Hh Hcv1
          go_wp2
          go_quiet (fail)
          go_wp2
          go_quiet (fail)
          go_wp2
          go_ret2
          exact ⟨rfl, upd_at (unhide HU) _ _⟩)
      · have hcvx : ∀ (w1 : World) (cp' : Nat), w1.heap[g]? = W.heap[g]? → (convert 24 9 (.slice (some ⟨g, off + k', none⟩) u cp')).run Tryd.prog w1 = .ok (.string (s.extract k' p)) w1 := fun w1 cp' hw => unhide Hcv0 w1 _ cp' (.inl rfl) hw
        have Hcv1 := hide hcvx
        clear hcvx Hcv0
        (
          go_enter Tryd.func62, Tryd.ntmps62
          go_wp2_with fail
          refine (unhide Hv).mono ?_
          intro e w1 hq
          clear Hv
          obtain ⟨he, hU⟩ := hq
          rw [unhide Hu2] at he
          subst he
          obtain ⟨d0, d1, d2, d3, g1⟩ := cells4_of hU.at'
          have hcv := fun (m cp' : Nat) => unhide Hcv1 (w1.drewN m) cp' (hU.far g hg hgc)
          have HU := hide hU
          clear hU c0 c1 c2 c3 f1 Hh Hcv1
          go_wp2
          go_quiet (fail)
          go_wp2
          go_quiet (fail)
          go_wp2
          go_ret2
          exact ⟨rfl, upd_at (unhide HU) _ _⟩)
end Go.Proofs.YtphccijiniolcaaDoor
