import Derived.Test.YtobomdokdajbaaaDoorJ08

namespace Go.Proofs.YtobomdokdajbaaaDoor
open Go.RowKit
attribute [local go_sem ↓] Go.wp_at_zero Go.wp_at_succ

/-- What Split makes of one record of a number, or its fault: the place and the error. -/
def oneR (s : ByteArray) (st : Bool) : (Nat × Nat) ⊕ (Nat × Nat) :=
  match vAt s st 0 with
  | .inr c => .inr (0, c)
  | .inl (t, k1) => match vAt s st k1 with
    | .inr c => .inr (k1, c)
    | .inl (u, _) => .inl (t / 8, u)
theorem oneR_a {s : ByteArray} {st : Bool} {c : Nat} (h : vAt s st 0 = .inr c) : oneR s st = .inr (0, c) := by unfold oneR; rw [h]
theorem oneR_b {s : ByteArray} {st : Bool} {t k1 c : Nat} (h : vAt s st 0 = .inl (t, k1)) (h2 : vAt s st k1 = .inr c) : oneR s st = .inr (k1, c) := by simp only [oneR, h, h2]
theorem oneR_c {s : ByteArray} {st : Bool} {t k1 u k2 : Nat} (h : vAt s st 0 = .inl (t, k1)) (h2 : vAt s st k1 = .inl (u, k2)) : oneR s st = .inl (t / 8, u) := by simp only [oneR, h, h2]
/-- The bytes are one record of a number, or its front. -/
def OneOk (s : ByteArray) (st : Bool) : Prop := ∀ t k1, vAt s st 0 = .inl (t, k1) → (t % 8 = 0 ∧ 1 ≤ t / 8 ∧ t / 8 ≤ 536870911) ∧ ∀ u k2, vAt s st k1 = .inl (u, k2) → k2 = s.size
def StepE (b wb : Nat) (s : ByteArray) (st : Bool) (depth num0 : Int) (ag : Value) (e : Ending) (W' : World) : (Nat × Nat) ⊕ (Nat × Nat) → Prop
  | .inr (k, c) => e = .returned (.int .i64 (c : Int)) ∧ c ≠ 0 ∧ RdAt W' b s k st
  | .inl (n, u) => e = .returned (.int .i64 0) ∧ ∃ v, RdAt W' b s s.size st ∧ WkAt W' wb b 0 depth num0 v ag ∧ HasR W' v [⟨n, 0, wrap64 (u : Int), .empty, none, 0⟩]
set_option maxRecDepth 100000 in
set_option maxHeartbeats 4000000 in
theorem wstep_one (hadd : AddNil) {W : World} {b wb : Nat} {s : ByteArray} {st : Bool} {depth num0 : Int} {ag : Value} (h : RdAt W b s 0 st) (hs : s.size ≤ 1048576) (hw : WkAt W wb b 0 depth num0 (.slice none 0 0) ag) (ho : OneOk s st) :
    Calls Tryd.prog 48 #[.pointer (some ⟨wb, 0, none⟩)] W fun e W' => StepE b wb s st depth num0 ag e W' (oneR s st) ∧ (∀ n, n ≤ W.heap.size → n ≤ b → n ≤ wb → Below n W W') := by
  obtain ⟨c0, c1, c2, c3, c4, c5, c6, f1⟩ := walk_cells hw
  obtain ⟨d0, d1, d2, _⟩ := cells3_of h
  have hne : wb ≠ b := fun e => by subst e; unfold RdAt at h; unfold WkAt at hw; rw [h] at hw; cases hw
  have hwb := (Array.getElem?_eq_some_iff.1 hw).1
  have hb' := (Array.getElem?_eq_some_iff.1 h).1
  obtain ⟨R, hR⟩ : ∃ R, oneR s st = R := ⟨_, rfl⟩
  have HR := hide hR
  have Ho := hide ho
  have Hadd := hide hadd
  rw [hR]
  clear hR ho hadd
  go_enter Tryd.func48, Tryd.ntmps48
  go_wp2_with fail
  have hS := heap_setCell_same W wb 1 _ _ (.int .i64 0) hw
  have hSb := (heap_setCell_other W ⟨wb, 1, none⟩ b (.int .i64 0) (Ne.symm hne)).trans h
  have hSB : ∀ n, n ≤ wb → Below n W (W.setCell ⟨wb, 1, none⟩ (.int .i64 0)) := fun n hn => (Below.refl n W).setCell (p := ⟨wb, 1, none⟩) hn _
  have hSz : (W.setCell ⟨wb, 1, none⟩ (.int .i64 0)).heap.size = W.heap.size := World.size_setCell _ _ _
  generalize W.setCell ⟨wb, 1, none⟩ (.int .i64 0) = S at *
  have ht := rTag_any (W := S) (k := 0) hSb (by omega) hs
  have Ht := hide ht
  clear ht
  refine (unhide Ht).mono ?_
  intro e w1 hq
  clear c0 c1 c2 c3 c4 c5 c6 f1 d0 d1 d2 Ht
  cases hv0 : vAt s st 0 with
  | inr c =>
    rw [hv0] at hq
    obtain ⟨rfl, hc, n1, rfl⟩ := hq
    have hR : Sum.inr (0, c) = R := (oneR_a hv0).symm.trans (unhide HR)
    subst hR
    have qc : ((c : Int) != 0) = true := by simp; omega
    have Hend : Hid (StepE b wb s st depth num0 ag (.returned (.int .i64 (c : Int))) (S.drewN n1) (.inr (0, c)) ∧ (∀ n, n ≤ W.heap.size → n ≤ b → n ≤ wb → Below n W (S.drewN n1))) := ⟨⟨rfl, hc, hSb⟩, fun n _ _ h3 => below_drewN (hSB n h3) n1⟩
    clear hv0 HR Ho
    go_wp2
    go_ret
    exact unhide Hend
  | inl p =>
    obtain ⟨t, k1⟩ := p
    obtain ⟨⟨t1, t2, t3⟩, ho2⟩ := unhide Ho t k1 hv0
    obtain ⟨-, hk1, hk2⟩ := vAt_lt hv0
    rw [hv0] at hq
    replace hq : if t / 8 < 1 ∨ 536870911 < t / 8 then _ else if 5 < t % 8 then _ else (e = .returned (.tuple #[.int .i64 ((t / 8 : Nat) : Int), .int .i64 ((t % 8 : Nat) : Int), .int .i64 0]) ∧ Upd S b (.cells #[.string s, .int .i64 (k1 : Int), .bool st] 78 (0, 0)) w1) := hq
    rw [if_neg (by omega), if_neg (by omega), t1] at hq
    obtain ⟨rfl, hU⟩ := hq
    have hw1 : WkAt w1 wb b 0 depth num0 (.slice none 0 0) ag := (hU.far wb (by omega) hne).trans hS
    have hr1 : RdAt w1 b s k1 st := hU.at'
    have hz1 := hU.size
    have hB1 : ∀ n, n ≤ W.heap.size → n ≤ b → n ≤ wb → Below n W w1 := fun n h1 h2 h3 => (hSB n h3).trans (hU.below (by omega) h2)
    have HB1 := hide hB1
    have hw1b : wb < w1.heap.size := (Array.getElem?_eq_some_iff.1 hw1).1
    have hr1b : b < w1.heap.size := (Array.getElem?_eq_some_iff.1 hr1).1
    have Hw1 := hide hw1
    have Hr1 := hide hr1
    have Hv0 := hide hv0
    clear hU hv0 Ho hB1 hw1 hr1 hS hSb hSB
    generalize ht8 : t / 8 = n8 at *
    cases hv1 : vAt s st k1 with
    | inr c =>
      have hR : Sum.inr (k1, c) = R := (oneR_b (unhide Hv0) hv1).symm.trans (unhide HR)
      subst hR
      clear HR Hv0
      have htk := wtake_any (W := w1) (wb := wb) (n := n8) (R := fun X e w => e = .returned (.int .i64 (c : Int)) ∧ c ≠ 0 ∧ Below X.heap.size X w) (fun X hX => take_bad (W := X) (b := b) (wb := wb) ((hX.block b hr1b).trans (unhide Hr1)) (by omega) hs ((hX.block wb hw1b).trans (unhide Hw1)) hv1) (fun X e w hq => ⟨_, hq.1⟩)
      have Htk := hide htk
      clear htk hv1
      go_wp2_with fail
      refine (unhide Htk).mono ?_
      rintro e w2 ⟨X, hX, rfl, hc, hb2⟩
      have hbw : Below w1.heap.size w1 w2 := hX.trans (hb2.mono hX.size)
      have Hend : Hid (StepE b wb s st depth num0 ag (.returned (.int .i64 (c : Int))) w2 (.inr (k1, c)) ∧ (∀ n, n ≤ W.heap.size → n ≤ b → n ≤ wb → Below n W w2)) := ⟨⟨rfl, hc, (hbw.block b hr1b).trans (unhide Hr1)⟩, fun n h1 h2 h3 => (unhide HB1 n h1 h2 h3).trans (hbw.mono (by omega))⟩
      clear hX hb2 hbw
      go_wp2
      go_ret
      exact unhide Hend
    | inl p =>
      obtain ⟨u, k2⟩ := p
      have hk2e := ho2 u k2 hv1
      subst hk2e
      have hR : Sum.inl (n8, u) = R := by rw [← ht8]; exact (oneR_c (unhide Hv0) hv1).symm.trans (unhide HR)
      subst hR
      clear HR Hv0
      have htk := wtake_any (W := w1) (wb := wb) (n := n8) (R := fun X e w => e = .returned (.int .i64 0) ∧ ∃ v W1, Upd X b (.cells #[.string s, .int .i64 (s.size : Int), .bool st] 78 (0, 0)) W1 ∧ Upd W1 wb (.cells #[.pointer (some ⟨b, 0, none⟩), .int .i64 0, .int .i64 depth, .bool true, .int .i64 num0, v, ag] 83 (0, 0)) w ∧ HasR w v [⟨n8, 0, wrap64 (u : Int), .empty, none, 0⟩]) (fun X hX => take_ok (unhide Hadd) (W := X) (b := b) (wb := wb) ((hX.block b hr1b).trans (unhide Hr1)) (by omega) hs ((hX.block wb hw1b).trans (unhide Hw1)) hv1) (fun X e w hq => ⟨_, hq.1⟩)
      have Htk := hide htk
      clear htk hv1
      go_wp2_with fail
      refine (unhide Htk).mono ?_
      rintro e w2 ⟨X, hX, rfl, v, W1, hU1, hU2, hRr⟩
      have z1 := hX.size
      have z2 := hU1.size
      have Hend : Hid (StepE b wb s st depth num0 ag (.returned (.int .i64 0)) w2 (.inl (n8, u)) ∧ (∀ n, n ≤ W.heap.size → n ≤ b → n ≤ wb → Below n W w2)) := ⟨⟨rfl, v, (hU2.far b (by omega) (Ne.symm hne)).trans hU1.at', hU2.at', hRr⟩, fun n h1 h2 h3 => (unhide HB1 n h1 h2 h3).trans ((hX.mono (by omega)).trans ((hU1.below (by omega) h2).trans (hU2.below (by omega) h3)))⟩
      clear hX hU1 hU2 hRr
      go_wp2
      go_ret
      exact unhide Hend
/-- What Split answers. -/
def SplitA (W' : World) (e : Ending) : (Nat × Nat) ⊕ (Nat × Nat) → Prop
  | .inr (k, c) => c ≠ 0 ∧ e = .returned (.tuple #[.slice none 0 0, .int .i64 (k : Int), .int .i64 (c : Int)])
  | .inl (n, u) => ∃ v, e = .returned (.tuple #[v, .int .i64 0, .int .i64 0]) ∧ HasR W' v [⟨n, 0, wrap64 (u : Int), .empty, none, 0⟩]
set_option maxRecDepth 100000 in
set_option maxHeartbeats 4000000 in
theorem split_one (hadd : AddNil) {W : World} {v : Value} {l : List Nat} {st : Bool} (h : HasB W v (byB l)) (hl : ∀ x ∈ l, x < 256) (hn : l.length ≤ 1048576) (hp : 0 < l.length) (ho : OneOk (sOf l) st) :
    Calls Tryd.prog 14 #[v, .bool st] W fun e W' => SplitA W' e (oneR (sOf l) st) ∧ Below W.heap.size W W' := by
  have hrd := read_any (st := st) h hl hn hp
  have hsz : (sOf l).size = l.length := sOf_size l
  generalize sOf l = s at *
  obtain ⟨R, hR⟩ : ∃ R, oneR s st = R := ⟨_, rfl⟩
  have HR := hide hR
  rw [hR]
  clear hR
  have hbl : (byB l).length = l.length := by simp [byB]
  obtain ⟨va, vc, rfl, -, -⟩ := id h
  rw [hbl] at hrd ⊢
  have Ho := hide ho
  have Hrd := hide hrd
  have Hadd := hide hadd
  clear hadd hrd ho h hl hbl
  go_enter Tryd.func14, Tryd.ntmps14
  go_wp2_with fail
  refine (unhide Hrd).mono ?_
  rintro e w1 ⟨rfl, hr, hb1⟩
  have hz1 := (Array.getElem?_eq_some_iff.1 hr).1
  have Hb1 := hide hb1
  have hnw : Calls Tryd.prog 45 #[.pointer (some ⟨W.heap.size, 0, none⟩), .int .i64 63, .bool true] w1 fun e W' => e = .returned (.pointer (some ⟨w1.heap.size, 0, none⟩)) ∧ WkAt W' w1.heap.size W.heap.size 0 63 0 (.slice none 0 0) (.slice none 0 0) ∧ Below w1.heap.size w1 W' := by
    obtain ⟨d0, d1, d2, _⟩ := cells3_of hr
    have hnw := heap_alloc_new w1 (.cells #[.pointer (some ⟨W.heap.size, 0, none⟩), .int .i64 0, .int .i64 63, .bool true, .int .i64 0, .slice none 0 0, .slice none 0 0] 83)
    have hB : Below w1.heap.size w1 (w1.alloc (.cells #[.pointer (some ⟨W.heap.size, 0, none⟩), .int .i64 0, .int .i64 63, .bool true, .int .i64 0, .slice none 0 0, .slice none 0 0] 83)) := (Below.refl _ _).alloc (Nat.le_refl _) _
    go_enter Tryd.func45, Tryd.ntmps45
    go_wp2
    go_ret
    exact ⟨rfl, hnw, hB⟩
  have Hnw := hide hnw
  have Hr := hide hr
  clear hnw hb1 hr Hrd
  go_wp2_with fail
  refine (unhide Hnw).mono ?_
  rintro e w2 ⟨rfl, hw, hb2⟩
  have hr2 : RdAt w2 W.heap.size s 0 st := (hb2.block W.heap.size hz1).trans (unhide Hr)
  have hB2 : Below W.heap.size W w2 := (unhide Hb1).trans (hb2.mono (unhide Hb1).size)
  have HB2 := hide hB2
  have Hr2 := hide hr2
  have Hw2 := hide hw
  have hws : W.heap.size ≤ w1.heap.size := (unhide Hb1).size
  clear Hb1 Hnw hb2 Hr hr2 hw hB2
  generalize w1.heap.size = wb at *
  go_wp2_with fail
  refine wp_loop_rounds 2 ?_
  rw [rounds_succ]
  go_wp2_with fail
  refine (more_any (unhide Hr2)).mono ?_
  rintro e w3 ⟨rfl, k3, rfl⟩
  have hm0 : decide (0 < s.size) = true := by simp; omega
  rw [hm0]
  have hst := wstep_one (unhide Hadd) (W := w2.drewN k3) (b := W.heap.size) (wb := wb) (unhide Hr2) (by omega) (unhide Hw2) (unhide Ho)
  rw [unhide HR] at hst
  have Hst := hide hst
  clear hst hm0 Ho
  go_wp2_with fail
  refine (unhide Hst).mono ?_
  rintro e w4 ⟨hq, hB4⟩
  have HB4 : Hid (Below W.heap.size W w4) := (below_drewN (unhide HB2) k3).trans (hB4 W.heap.size (unhide HB2).size (Nat.le_refl _) hws)
  clear hB4 Hst
  cases R with
  | inr p =>
    obtain ⟨k, c⟩ := p
    obtain ⟨rfl, hc, hr4⟩ := hq
    obtain ⟨d0, d1, d2, _⟩ := cells3_of hr4
    have qc : ((c : Int) != 0) = true := by simp; omega
    clear hr4 HR
    go_wp2
    go_quiet (fail)
    go_wp2
    go_ret3
    exact ⟨⟨hc, rfl⟩, below_drewN (unhide HB4) _⟩
  | inl p =>
    obtain ⟨n, u⟩ := p
    obtain ⟨rfl, v, hr4, hw4, hR4⟩ := hq
    have Hr4 := hide hr4
    have Hw4 := hide hw4
    have HR4 := hide hR4
    have hig := ingroup0 hw4
    clear hr4 hR4 HR hig hw4
    go_wp2_with fail
    rw [rounds_succ]
    go_wp2_with fail
    refine (more_any (unhide Hr4)).mono ?_
    rintro e w5 ⟨rfl, k5, rfl⟩
    have hm1 : decide (s.size < s.size) = false := by simp
    rw [hm1]
    have hw5 : WkAt (w4.drewN k5) wb W.heap.size 0 63 0 v (.slice none 0 0) := unhide Hw4
    have hig := ingroup0 (W := w4.drewN k5) hw5
    obtain ⟨c0, c1, c2, c3, c4, c5, c6, f1⟩ := walk_cells hw5
    have Hig := hide hig
    have hvs : ∃ va vc, v = .slice va 1 vc := by
      obtain ⟨a, c, e, _⟩ := unhide HR4
      exact ⟨a, c, e⟩
    obtain ⟨va', vc', rfl⟩ := hvs
    have Hend : Hid (SplitA (w4.drewN k5) (.returned (.tuple #[.slice va' 1 vc', .int .i64 0, .int .i64 0])) (.inl (n, u)) ∧ Below W.heap.size W (w4.drewN k5)) := ⟨⟨_, rfl, unhide HR4⟩, below_drewN (unhide HB4) _⟩
    clear hig hw5 hm1
    generalize w4.drewN k5 = Z at *
    go_wp2_with fail
    refine (unhide Hig).mono ?_
    rintro e w' ⟨rfl, hw'⟩
    obtain rfl : Z = w' := hw'.symm
    clear hw' Hig
    go_wp2
    go_ret3
    exact unhide Hend
end Go.Proofs.YtobomdokdajbaaaDoor
