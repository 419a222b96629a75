import Derived.Test.YtfcjkkljmjmhmaaDoorWMa
namespace Go.Proofs.YtfcjkkljmjmhmaaDoor
open Go.RowKit
attribute [local go_sem ↓] Go.wp_at_zero Go.wp_at_succ

theorem upd_same {W : World} {b : Nat} {o : Obj} (h : W.heap[b]? = some o) (n : Nat) : Upd W b o (W.drewN n) := ⟨rfl, rfl, rfl, Nat.le_refl _, h, fun _ _ _ => rfl⟩
/-- A text at a place. -/
def tAt (s : ByteArray) (st : Bool) (k : Nat) : (ByteArray × Nat) ⊕ Nat :=
  match vAt s st k with
  | .inr c => .inr c
  | .inl (u, k') => if s.size - k' < u then .inr 20 else .inl (s.extract k' (k' + u), k' + u)
def TxtA (W : World) (b : Nat) (s : ByteArray) (k : Nat) (st : Bool) (e : Ending) (W' : World) : (ByteArray × Nat) ⊕ Nat → Prop
  | .inl (t, k') => e = .returned (.tuple #[.string t, .int .i64 0]) ∧ Upd W b (.cells #[.string s, .int .i64 (k' : Int), .bool st] 77 (0, 0)) W'
  | .inr c => e = .returned (.tuple #[.string .empty, .int .i64 (c : Int)]) ∧ c ≠ 0 ∧ Upd W b (.cells #[.string s, .int .i64 (k : Int), .bool st] 77 (0, 0)) W'
set_option maxRecDepth 100000 in
set_option maxHeartbeats 4000000 in
theorem rText_any {W : World} {b : Nat} {s : ByteArray} {k : Nat} {st : Bool} (h : RdAt W b s k st) (hk : k ≤ s.size) (hs : s.size ≤ 1048576) :
    Calls Tryd.prog 50 #[.pointer (some ⟨b, 0, none⟩)] W fun e W' => TxtA W b s k st e W' (tAt s st k) := by
  have hv := rVarint_any h hk hs
  have hlt : ∀ u k', vAt s st k = .inl (u, k') → u < 18446744073709551616 ∧ k < k' ∧ k' ≤ s.size := fun u k' h => vAt_lt h
  unfold tAt
  obtain ⟨R, hR⟩ : ∃ R, vAt s st k = R := ⟨_, rfl⟩
  rw [hR] at hv hlt ⊢
  clear hR
  have Hlt := hide hlt
  clear hlt
  obtain ⟨c0, c1, c2, f0, f1, f2⟩ := cells3_of h
  have Hh := hide h
  have Hv := hide hv
  clear h hv
  cases R with
  | inr c =>
    go_enter Tryd.func50, Tryd.ntmps50
    go_wp2_with fail
    refine (unhide Hv).mono ?_
    intro e w1 hq
    clear Hv
    obtain ⟨rfl, hc, n, rfl⟩ := hq
    have qc : ((c : Int) != 0) = true := by simp; omega
    go_wp2
    go_ret2
    exact ⟨rfl, hc, upd_same (unhide Hh) n⟩
  | inl p =>
    obtain ⟨u, k'⟩ := p
    obtain ⟨hu, hk1, hk2⟩ := unhide Hlt u k' rfl
    clear Hlt
    show Calls Tryd.prog 50 #[.pointer (some ⟨b, 0, none⟩)] W fun e W' => TxtA W b s k st e W' (if s.size - k' < u then .inr 20 else .inl (s.extract k' (k' + u), k' + u))
    have e1 : IntKind.u64.wrap (wrap64 (u : Int)) = (u : Int) := by rw [wrapu_eq, wrap64_eq]; omega
    have e2 : IntKind.u64.wrap ((s.size : Int) - (k' : Int)) = (s.size : Int) - (k' : Int) := by rw [wrapu_eq]; omega
    by_cases hc : s.size - k' < u
    · rw [if_pos hc]
      have d1 : decide ((s.size : Int) - (k' : Int) < (u : Int)) = true := by simp; omega
      have hUb : ∀ (w1 : World) (n : Nat) (z : Value), Upd W b (.cells #[.string s, .int .i64 (k' : Int), .bool st] 77 (0, 0)) w1 → Upd W b (.cells #[.string s, z, .bool st] 77 (0, 0)) ((w1.drewN n).setCell ⟨b, 1, none⟩ z) := fun w1 n z hU => ⟨hU.os, hU.tape, hU.output, by rw [World.size_setCell]; exact hU.size, heap_setCell_same (w1.drewN n) b 1 _ _ z hU.at', fun q hq hn => (heap_setCell_other (w1.drewN n) ⟨b, 1, none⟩ q z hn).trans (hU.far q hq hn)⟩
      have HUb := hide hUb
      clear hUb hc
      go_enter Tryd.func50, Tryd.ntmps50
      go_wp2_with fail
      refine (unhide Hv).mono ?_
      intro e w1 hq
      clear Hv
      obtain ⟨rfl, hU⟩ := hq
      obtain ⟨d0, d2, d3, g0, g1, g2⟩ := cells3_of hU.at'
      have HU := hide hU
      clear hU c0 c1 c2 f0 f1 f2 Hh
      generalize wrap64 (u : Int) = wu at *
      go_wp2
      go_quiet (fail)
      go_wp2
      go_ret2
      exact ⟨rfl, by decide, unhide HUb _ _ _ (unhide HU)⟩
    · rw [if_neg hc]
      have hu2 : wrap64 (u : Int) = (u : Int) := by rw [wrap64_eq]; omega
      have d1 : decide ((s.size : Int) - (k' : Int) < (u : Int)) = false := by simp; omega
      have hUb : ∀ (w1 : World) (n : Nat) (z : Value), Upd W b (.cells #[.string s, .int .i64 (k' : Int), .bool st] 77 (0, 0)) w1 → Upd W b (.cells #[.string s, z, .bool st] 77 (0, 0)) ((w1.drewN n).setCell ⟨b, 1, none⟩ z) := fun w1 n z hU => ⟨hU.os, hU.tape, hU.output, by rw [World.size_setCell]; exact hU.size, heap_setCell_same (w1.drewN n) b 1 _ _ z hU.at', fun q hq hn => (heap_setCell_other (w1.drewN n) ⟨b, 1, none⟩ q z hn).trans (hU.far q hq hn)⟩
      have HUb := hide hUb
      have hb : k' + u ≤ s.size := by omega
      rw [hu2] at e1
      have Hu2 := hide hu2
      clear hUb hc hu2
      go_enter Tryd.func50, Tryd.ntmps50
      go_wp2_with fail
      refine (unhide Hv).mono ?_
      intro e w1 hq
      clear Hv
      obtain ⟨he, hU⟩ := hq
      rw [unhide Hu2] at he
      subst he
      obtain ⟨d0, d2, d3, g0, g1, g2⟩ := cells3_of hU.at'
      have HU := hide hU
      clear hU c0 c1 c2 f0 f1 f2 Hh
      go_wp2
      go_quiet (fail)
      go_wp2
      go_quiet (fail)
      go_wp2
      go_ret2
      exact ⟨rfl, unhide HUb _ _ _ (unhide HU)⟩
end Go.Proofs.YtfcjkkljmjmhmaaDoor
