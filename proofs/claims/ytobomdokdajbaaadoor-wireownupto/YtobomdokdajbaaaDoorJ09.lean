import Derived.Test.YtobomdokdajbaaaDoorJ08
import Derived.Test.YtobomdokdajbaaaDoorJ08

namespace Go.Proofs.YtobomdokdajbaaaDoor
open Go.RowKit
attribute [local go_sem ↓] Go.wp_at_zero Go.wp_at_succ

/-- A walk that keeps nothing. -/
def WkS (W : World) (wb b : Nat) (tag depth num0 : Int) (v ag : Value) : Prop := W.heap[wb]? = some (.cells #[.pointer (some ⟨b, 0, none⟩), .int .i64 tag, .int .i64 depth, .bool false, .int .i64 num0, v, ag] 83 (0, 0))
theorem Upd.below' {W W1 W2 : World} {b : Nat} {o : Obj} (h : Upd W b o W1) (hb : Below W1.heap.size W1 W2) : Upd W b o W2 :=
  ⟨hb.os.trans h.os, hb.tape.trans h.tape, hb.output.trans h.output, Nat.le_trans h.size hb.size, (hb.block b (Array.getElem?_eq_some_iff.1 h.at').1).trans h.at', fun k hk hn => (hb.block k (Nat.lt_of_lt_of_le hk h.size)).trans (h.far k hk hn)⟩
/-- What a read does, by the place behind it or its error. -/
def TkA (W : World) (b : Nat) (s : ByteArray) (k : Nat) (st : Bool) (e : Ending) (W' : World) : Nat ⊕ Nat → Prop
  | .inl k' => e = .returned (.int .i64 0) ∧ Upd W b (.cells #[.string s, .int .i64 (k' : Int), .bool st] 78 (0, 0)) W'
  | .inr c => e = .returned (.int .i64 (c : Int)) ∧ c ≠ 0 ∧ Upd W b (.cells #[.string s, .int .i64 (k : Int), .bool st] 78 (0, 0)) W'
def plc {α : Type} : (α × Nat) ⊕ Nat → Nat ⊕ Nat
  | .inl (_, k') => .inl k'
  | .inr c => .inr c
set_option maxRecDepth 100000 in
set_option maxHeartbeats 2000000 in
theorem add_skip {W : World} {wb b : Nat} {tag depth num0 : Int} {v ag : Value} {x0 x1 x2 : Int} {t : ByteArray} {ia : Option Addr} {il ic c : Nat} (hw : WkS W wb b tag depth num0 v ag) :
    Calls Tryd.prog 75 #[.pointer (some ⟨wb, 0, none⟩), .agg #[.int .i64 x0, .int .i64 x1, .int .i64 x2, .string t, .slice ia il ic], .int .i64 (c : Int)] W fun e W' => e = .returned (.int .i64 (c : Int)) ∧ Below W.heap.size W W' := by
  obtain ⟨c0, c1, c2, c3, c4, c5, c6, f1⟩ := walk_cells hw
  have hwb : wb < W.heap.size := (Array.getElem?_eq_some_iff.1 hw).1
  have HB : Hid (Below W.heap.size W (W.alloc (.cells #[.int .i64 x0, .int .i64 x1, .int .i64 x2, .string t, .slice ia il ic] 35))) := (Below.refl _ _).alloc (Nat.le_refl _) _
  have hcA : (W.alloc (.cells #[.int .i64 x0, .int .i64 x1, .int .i64 x2, .string t, .slice ia il ic] 35)).cell? ⟨wb, 3, none⟩ = some (.bool false) := (unhide HB).cell (p := ⟨wb, 3, none⟩) hwb |>.trans c3
  clear hw
  go_enter Tryd.func75, Tryd.ntmps75
  go_wp2
  go_ret
  exact ⟨rfl, unhide HB⟩
set_option maxRecDepth 100000 in
set_option maxHeartbeats 2000000 in
theorem take0_skip {W : World} {b wb : Nat} {s : ByteArray} {k n : Nat} {st : Bool} {tag depth num0 : Int} {v ag : Value} (h : RdAt W b s k st) (hk : k ≤ s.size) (hs : s.size ≤ 1048576) (hw : WkS W wb b tag depth num0 v ag) :
    Calls Tryd.prog 74 #[.pointer (some ⟨wb, 0, none⟩), .int .i64 (n : Int)] W fun e W' => TkA W b s k st e W' (plc (vAt s st k)) := by
  obtain ⟨c0, c1, c2, c3, c4, c5, c6, f1⟩ := walk_cells hw
  have hne : wb ≠ b := fun e => by subst e; unfold RdAt at h; unfold WkS at hw; rw [h] at hw; cases hw
  have hva := rVarint_any h hk hs
  obtain ⟨R, hR⟩ : ∃ R, vAt s st k = R := ⟨_, rfl⟩
  rw [hR] at hva ⊢
  have Hva := hide hva
  have Hh := hide h
  have Hw := hide hw
  clear hva h hR hw
  cases R with
  | inr c =>
    go_enter Tryd.func74, Tryd.ntmps74
    go_wp2_with fail
    refine (unhide Hva).mono ?_
    rintro e w1 ⟨rfl, hc, hw1'⟩
    have hU : Upd W b (.cells #[.string s, .int .i64 (k : Int), .bool st] 78 (0, 0)) w1 := by obtain ⟨m, rfl⟩ := hw1'; exact upd_same (unhide Hh) m
    have hw1 : WkS w1 wb b tag depth num0 v ag := (hU.far wb (Array.getElem?_eq_some_iff.1 (unhide Hw)).1 hne).trans (unhide Hw)
    have Hw1 := hide hw1
    have HU := hide hU
    clear hw1 hU hw1' Hva
    go_wp2_with fail
    refine (add_skip (unhide Hw1)).mono ?_
    rintro e w2 ⟨rfl, hb⟩
    have HU2 := hide ((unhide HU).below' hb)
    clear hb
    go_wp2
    go_ret
    exact ⟨rfl, hc, unhide HU2⟩
  | inl p =>
    obtain ⟨u, k'⟩ := p
    go_enter Tryd.func74, Tryd.ntmps74
    go_wp2_with fail
    refine (unhide Hva).mono ?_
    rintro e w1 ⟨rfl, hU⟩
    have hw1 : WkS w1 wb b tag depth num0 v ag := (hU.far wb (Array.getElem?_eq_some_iff.1 (unhide Hw)).1 hne).trans (unhide Hw)
    have Hw1 := hide hw1
    have HU := hide hU
    clear hw1 hU Hva
    generalize wrap64 (u : Int) = wu at *
    go_wp2_with fail
    refine (add_skip (c := 0) (unhide Hw1)).mono ?_
    rintro e w2 ⟨rfl, hb⟩
    have HU2 := hide ((unhide HU).below' hb)
    clear hb
    go_wp2
    go_ret
    exact ⟨rfl, unhide HU2⟩
set_option maxRecDepth 100000 in
set_option maxHeartbeats 2000000 in
theorem take1_skip {W : World} {b wb : Nat} {s : ByteArray} {k n : Nat} {st : Bool} {tag depth num0 : Int} {v ag : Value} (h : RdAt W b s k st) (hk : k ≤ s.size) (hs : s.size ≤ 1048576) (hw : WkS W wb b tag depth num0 v ag) :
    Calls Tryd.prog 79 #[.pointer (some ⟨wb, 0, none⟩), .int .i64 (n : Int)] W fun e W' => TkA W b s k st e W' (plc (xAt s k 8)) := by
  obtain ⟨c0, c1, c2, c3, c4, c5, c6, f1⟩ := walk_cells hw
  have hne : wb ≠ b := fun e => by subst e; unfold RdAt at h; unfold WkS at hw; rw [h] at hw; cases hw
  have hva := rFixed_any h hs hk (.inr rfl)
  obtain ⟨R, hR⟩ : ∃ R, xAt s k 8 = R := ⟨_, rfl⟩
  rw [hR] at hva ⊢
  have Hva := hide hva
  have Hh := hide h
  have Hw := hide hw
  clear hva h hR hw
  cases R with
  | inr c =>
    go_enter Tryd.func79, Tryd.ntmps79
    go_wp2_with fail
    refine (unhide Hva).mono ?_
    rintro e w1 ⟨rfl, hc, hw1'⟩
    have hU : Upd W b (.cells #[.string s, .int .i64 (k : Int), .bool st] 78 (0, 0)) w1 := by obtain ⟨m, rfl⟩ := hw1'; exact upd_same (unhide Hh) m
    have hw1 : WkS w1 wb b tag depth num0 v ag := (hU.far wb (Array.getElem?_eq_some_iff.1 (unhide Hw)).1 hne).trans (unhide Hw)
    have Hw1 := hide hw1
    have HU := hide hU
    clear hw1 hU hw1' Hva
    go_wp2_with fail
    refine (add_skip (unhide Hw1)).mono ?_
    rintro e w2 ⟨rfl, hb⟩
    have HU2 := hide ((unhide HU).below' hb)
    clear hb
    go_wp2
    go_ret
    exact ⟨rfl, hc, unhide HU2⟩
  | inl p =>
    obtain ⟨u, k'⟩ := p
    go_enter Tryd.func79, Tryd.ntmps79
    go_wp2_with fail
    refine (unhide Hva).mono ?_
    rintro e w1 ⟨rfl, hU⟩
    have hw1 : WkS w1 wb b tag depth num0 v ag := (hU.far wb (Array.getElem?_eq_some_iff.1 (unhide Hw)).1 hne).trans (unhide Hw)
    have Hw1 := hide hw1
    have HU := hide hU
    clear hw1 hU Hva
    generalize wrap64 (u : Int) = wu at *
    go_wp2_with fail
    refine (add_skip (c := 0) (unhide Hw1)).mono ?_
    rintro e w2 ⟨rfl, hb⟩
    have HU2 := hide ((unhide HU).below' hb)
    clear hb
    go_wp2
    go_ret
    exact ⟨rfl, unhide HU2⟩
set_option maxRecDepth 100000 in
set_option maxHeartbeats 2000000 in
theorem take5_skip {W : World} {b wb : Nat} {s : ByteArray} {k n : Nat} {st : Bool} {tag depth num0 : Int} {v ag : Value} (h : RdAt W b s k st) (hk : k ≤ s.size) (hs : s.size ≤ 1048576) (hw : WkS W wb b tag depth num0 v ag) :
    Calls Tryd.prog 92 #[.pointer (some ⟨wb, 0, none⟩), .int .i64 (n : Int)] W fun e W' => TkA W b s k st e W' (plc (xAt s k 4)) := by
  obtain ⟨c0, c1, c2, c3, c4, c5, c6, f1⟩ := walk_cells hw
  have hne : wb ≠ b := fun e => by subst e; unfold RdAt at h; unfold WkS at hw; rw [h] at hw; cases hw
  have hva := rFixed_any h hs hk (.inl rfl)
  obtain ⟨R, hR⟩ : ∃ R, xAt s k 4 = R := ⟨_, rfl⟩
  rw [hR] at hva ⊢
  have Hva := hide hva
  have Hh := hide h
  have Hw := hide hw
  clear hva h hR hw
  cases R with
  | inr c =>
    go_enter Tryd.func92, Tryd.ntmps92
    go_wp2_with fail
    refine (unhide Hva).mono ?_
    rintro e w1 ⟨rfl, hc, hw1'⟩
    have hU : Upd W b (.cells #[.string s, .int .i64 (k : Int), .bool st] 78 (0, 0)) w1 := by obtain ⟨m, rfl⟩ := hw1'; exact upd_same (unhide Hh) m
    have hw1 : WkS w1 wb b tag depth num0 v ag := (hU.far wb (Array.getElem?_eq_some_iff.1 (unhide Hw)).1 hne).trans (unhide Hw)
    have Hw1 := hide hw1
    have HU := hide hU
    clear hw1 hU hw1' Hva
    go_wp2_with fail
    refine (add_skip (unhide Hw1)).mono ?_
    rintro e w2 ⟨rfl, hb⟩
    have HU2 := hide ((unhide HU).below' hb)
    clear hb
    go_wp2
    go_ret
    exact ⟨rfl, hc, unhide HU2⟩
  | inl p =>
    obtain ⟨u, k'⟩ := p
    go_enter Tryd.func92, Tryd.ntmps92
    go_wp2_with fail
    refine (unhide Hva).mono ?_
    rintro e w1 ⟨rfl, hU⟩
    have hw1 : WkS w1 wb b tag depth num0 v ag := (hU.far wb (Array.getElem?_eq_some_iff.1 (unhide Hw)).1 hne).trans (unhide Hw)
    have Hw1 := hide hw1
    have HU := hide hU
    clear hw1 hU Hva
    generalize wrap64 (u : Int) = wu at *
    go_wp2_with fail
    refine (add_skip (c := 0) (unhide Hw1)).mono ?_
    rintro e w2 ⟨rfl, hb⟩
    have HU2 := hide ((unhide HU).below' hb)
    clear hb
    go_wp2
    go_ret
    exact ⟨rfl, unhide HU2⟩
set_option maxRecDepth 100000 in
set_option maxHeartbeats 2000000 in
theorem take2_skip {W : World} {b wb : Nat} {s : ByteArray} {k n : Nat} {st : Bool} {tag depth num0 : Int} {v ag : Value} (h : RdAt W b s k st) (hk : k ≤ s.size) (hs : s.size ≤ 1048576) (hw : WkS W wb b tag depth num0 v ag) :
    Calls Tryd.prog 83 #[.pointer (some ⟨wb, 0, none⟩), .int .i64 (n : Int)] W fun e W' => TkA W b s k st e W' (plc (tAt s st k)) := by
  obtain ⟨c0, c1, c2, c3, c4, c5, c6, f1⟩ := walk_cells hw
  have hne : wb ≠ b := fun e => by subst e; unfold RdAt at h; unfold WkS at hw; rw [h] at hw; cases hw
  have hva := rText_any h hk hs
  obtain ⟨R, hR⟩ : ∃ R, tAt s st k = R := ⟨_, rfl⟩
  rw [hR] at hva ⊢
  have Hva := hide hva
  have Hh := hide h
  have Hw := hide hw
  clear hva h hR hw
  cases R with
  | inr c =>
    go_enter Tryd.func83, Tryd.ntmps83
    go_wp2_with fail
    refine (unhide Hva).mono ?_
    rintro e w1 ⟨rfl, hc, hw1'⟩
    have hU : Upd W b (.cells #[.string s, .int .i64 (k : Int), .bool st] 78 (0, 0)) w1 := hw1'
    have hw1 : WkS w1 wb b tag depth num0 v ag := (hU.far wb (Array.getElem?_eq_some_iff.1 (unhide Hw)).1 hne).trans (unhide Hw)
    have Hw1 := hide hw1
    have HU := hide hU
    clear hw1 hU hw1' Hva
    go_wp2_with fail
    refine (add_skip (unhide Hw1)).mono ?_
    rintro e w2 ⟨rfl, hb⟩
    have HU2 := hide ((unhide HU).below' hb)
    clear hb
    go_wp2
    go_ret
    exact ⟨rfl, hc, unhide HU2⟩
  | inl p =>
    obtain ⟨u, k'⟩ := p
    go_enter Tryd.func83, Tryd.ntmps83
    go_wp2_with fail
    refine (unhide Hva).mono ?_
    rintro e w1 ⟨rfl, hU⟩
    have hw1 : WkS w1 wb b tag depth num0 v ag := (hU.far wb (Array.getElem?_eq_some_iff.1 (unhide Hw)).1 hne).trans (unhide Hw)
    have Hw1 := hide hw1
    have HU := hide hU
    clear hw1 hU Hva
    skip
    go_wp2_with fail
    refine (add_skip (c := 0) (unhide Hw1)).mono ?_
    rintro e w2 ⟨rfl, hb⟩
    have HU2 := hide ((unhide HU).below' hb)
    clear hb
    go_wp2
    go_ret
    exact ⟨rfl, unhide HU2⟩
end Go.Proofs.YtobomdokdajbaaaDoor

namespace Go.Proofs.YtobomdokdajbaaaDoor
open Go.RowKit
attribute [local go_sem ↓] Go.wp_at_zero Go.wp_at_succ

set_option maxRecDepth 100000 in
set_option maxHeartbeats 2000000 in
theorem wtake1 {W : World} {wb n : Nat} {R : World → Ending → World → Prop} (hR : ∀ X, Below W.heap.size W X → Calls Tryd.prog 79 #[.pointer (some ⟨wb, 0, none⟩), .int .i64 (n : Int)] X (R X)) (hret : ∀ X e w, R X e w → ∃ c : Int, e = .returned (.int .i64 c)) :
    Calls Tryd.prog 66 #[.pointer (some ⟨wb, 0, none⟩), .int .i64 (n : Int), .int .i64 1] W fun e W' => ∃ X, Below W.heap.size W X ∧ R X e W' := by
  have HR := hide hR
  have Hret := hide hret
  clear hR hret
  go_enter Tryd.func66, Tryd.ntmps66
  go_wp2_with fail
  refine (acts_any W).mono ?_
  rintro e w1 ⟨rfl, hb1⟩
  obtain ⟨A, hA, hTab⟩ : ∃ A, actCells.toArray = A ∧ Tab A := ⟨_, rfl, tab_any⟩
  rw [hA]
  clear hA
  have hth := there_new w1 hTab
  have hif := hTab.info
  have hone := hTab.one
  have hT := hasT_new w1 hTab
  have hB0 := below_setCells hb1.size A.toList 0 _ (hb1.alloc hb1.size (.cells #[.nilFunc, .nilFunc, .nilFunc, .nilFunc, .nilFunc, .nilFunc, .nilFunc, .nilFunc, .nilFunc, .nilFunc, .nilFunc, .nilFunc, .nilFunc, .nilFunc, .nilFunc, .nilFunc, .nilFunc, .nilFunc, .nilFunc, .nilFunc, .nilFunc, .nilFunc, .nilFunc, .nilFunc] 113))
  have ht1 := (hT.cell 7).trans (show actCells[7]? = some (.func (.func 79) #[] #[]) from rfl)
  go_wp2_with (first | (go_at_call 79; fail) | (refine wpList_store_mid rfl 113 (.tmp 7) (.tmp 8) rfl w1.heap.size 0 A rfl rfl hth hif hone ?_; generalize (w1.alloc (.cells #[.nilFunc, .nilFunc, .nilFunc, .nilFunc, .nilFunc, .nilFunc, .nilFunc, .nilFunc, .nilFunc, .nilFunc, .nilFunc, .nilFunc, .nilFunc, .nilFunc, .nilFunc, .nilFunc, .nilFunc, .nilFunc, .nilFunc, .nilFunc, .nilFunc, .nilFunc, .nilFunc, .nilFunc] 113)).setCells w1.heap.size 0 A.toList = X at *))
  refine (unhide HR X hB0).mono ?_
  intro e w2 hq
  obtain ⟨c, rfl⟩ := unhide Hret X e w2 hq
  have Hq := hide hq
  have HB0 := hide hB0
  clear hq hT ht1 hB0
  go_wp2
  go_ret
  exact ⟨X, unhide HB0, unhide Hq⟩
set_option maxRecDepth 100000 in
set_option maxHeartbeats 2000000 in
theorem wtake2 {W : World} {wb n : Nat} {R : World → Ending → World → Prop} (hR : ∀ X, Below W.heap.size W X → Calls Tryd.prog 83 #[.pointer (some ⟨wb, 0, none⟩), .int .i64 (n : Int)] X (R X)) (hret : ∀ X e w, R X e w → ∃ c : Int, e = .returned (.int .i64 c)) :
    Calls Tryd.prog 66 #[.pointer (some ⟨wb, 0, none⟩), .int .i64 (n : Int), .int .i64 2] W fun e W' => ∃ X, Below W.heap.size W X ∧ R X e W' := by
  have HR := hide hR
  have Hret := hide hret
  clear hR hret
  go_enter Tryd.func66, Tryd.ntmps66
  go_wp2_with fail
  refine (acts_any W).mono ?_
  rintro e w1 ⟨rfl, hb1⟩
  obtain ⟨A, hA, hTab⟩ : ∃ A, actCells.toArray = A ∧ Tab A := ⟨_, rfl, tab_any⟩
  rw [hA]
  clear hA
  have hth := there_new w1 hTab
  have hif := hTab.info
  have hone := hTab.one
  have hT := hasT_new w1 hTab
  have hB0 := below_setCells hb1.size A.toList 0 _ (hb1.alloc hb1.size (.cells #[.nilFunc, .nilFunc, .nilFunc, .nilFunc, .nilFunc, .nilFunc, .nilFunc, .nilFunc, .nilFunc, .nilFunc, .nilFunc, .nilFunc, .nilFunc, .nilFunc, .nilFunc, .nilFunc, .nilFunc, .nilFunc, .nilFunc, .nilFunc, .nilFunc, .nilFunc, .nilFunc, .nilFunc] 113))
  have ht1 := (hT.cell 11).trans (show actCells[11]? = some (.func (.func 83) #[] #[]) from rfl)
  go_wp2_with (first | (go_at_call 83; fail) | (refine wpList_store_mid rfl 113 (.tmp 7) (.tmp 8) rfl w1.heap.size 0 A rfl rfl hth hif hone ?_; generalize (w1.alloc (.cells #[.nilFunc, .nilFunc, .nilFunc, .nilFunc, .nilFunc, .nilFunc, .nilFunc, .nilFunc, .nilFunc, .nilFunc, .nilFunc, .nilFunc, .nilFunc, .nilFunc, .nilFunc, .nilFunc, .nilFunc, .nilFunc, .nilFunc, .nilFunc, .nilFunc, .nilFunc, .nilFunc, .nilFunc] 113)).setCells w1.heap.size 0 A.toList = X at *))
  refine (unhide HR X hB0).mono ?_
  intro e w2 hq
  obtain ⟨c, rfl⟩ := unhide Hret X e w2 hq
  have Hq := hide hq
  have HB0 := hide hB0
  clear hq hT ht1 hB0
  go_wp2
  go_ret
  exact ⟨X, unhide HB0, unhide Hq⟩
set_option maxRecDepth 100000 in
set_option maxHeartbeats 2000000 in
theorem wtake3 {W : World} {wb n : Nat} {R : World → Ending → World → Prop} (hR : ∀ X, Below W.heap.size W X → Calls Tryd.prog 87 #[.pointer (some ⟨wb, 0, none⟩), .int .i64 (n : Int)] X (R X)) (hret : ∀ X e w, R X e w → ∃ c : Int, e = .returned (.int .i64 c)) :
    Calls Tryd.prog 66 #[.pointer (some ⟨wb, 0, none⟩), .int .i64 (n : Int), .int .i64 3] W fun e W' => ∃ X, Below W.heap.size W X ∧ R X e W' := by
  have HR := hide hR
  have Hret := hide hret
  clear hR hret
  go_enter Tryd.func66, Tryd.ntmps66
  go_wp2_with fail
  refine (acts_any W).mono ?_
  rintro e w1 ⟨rfl, hb1⟩
  obtain ⟨A, hA, hTab⟩ : ∃ A, actCells.toArray = A ∧ Tab A := ⟨_, rfl, tab_any⟩
  rw [hA]
  clear hA
  have hth := there_new w1 hTab
  have hif := hTab.info
  have hone := hTab.one
  have hT := hasT_new w1 hTab
  have hB0 := below_setCells hb1.size A.toList 0 _ (hb1.alloc hb1.size (.cells #[.nilFunc, .nilFunc, .nilFunc, .nilFunc, .nilFunc, .nilFunc, .nilFunc, .nilFunc, .nilFunc, .nilFunc, .nilFunc, .nilFunc, .nilFunc, .nilFunc, .nilFunc, .nilFunc, .nilFunc, .nilFunc, .nilFunc, .nilFunc, .nilFunc, .nilFunc, .nilFunc, .nilFunc] 113))
  have ht1 := (hT.cell 15).trans (show actCells[15]? = some (.func (.func 87) #[] #[]) from rfl)
  go_wp2_with (first | (go_at_call 87; fail) | (refine wpList_store_mid rfl 113 (.tmp 7) (.tmp 8) rfl w1.heap.size 0 A rfl rfl hth hif hone ?_; generalize (w1.alloc (.cells #[.nilFunc, .nilFunc, .nilFunc, .nilFunc, .nilFunc, .nilFunc, .nilFunc, .nilFunc, .nilFunc, .nilFunc, .nilFunc, .nilFunc, .nilFunc, .nilFunc, .nilFunc, .nilFunc, .nilFunc, .nilFunc, .nilFunc, .nilFunc, .nilFunc, .nilFunc, .nilFunc, .nilFunc] 113)).setCells w1.heap.size 0 A.toList = X at *))
  refine (unhide HR X hB0).mono ?_
  intro e w2 hq
  obtain ⟨c, rfl⟩ := unhide Hret X e w2 hq
  have Hq := hide hq
  have HB0 := hide hB0
  clear hq hT ht1 hB0
  go_wp2
  go_ret
  exact ⟨X, unhide HB0, unhide Hq⟩
set_option maxRecDepth 100000 in
set_option maxHeartbeats 2000000 in
theorem wtake4 {W : World} {wb n : Nat} {R : World → Ending → World → Prop} (hR : ∀ X, Below W.heap.size W X → Calls Tryd.prog 88 #[.pointer (some ⟨wb, 0, none⟩), .int .i64 (n : Int)] X (R X)) (hret : ∀ X e w, R X e w → ∃ c : Int, e = .returned (.int .i64 c)) :
    Calls Tryd.prog 66 #[.pointer (some ⟨wb, 0, none⟩), .int .i64 (n : Int), .int .i64 4] W fun e W' => ∃ X, Below W.heap.size W X ∧ R X e W' := by
  have HR := hide hR
  have Hret := hide hret
  clear hR hret
  go_enter Tryd.func66, Tryd.ntmps66
  go_wp2_with fail
  refine (acts_any W).mono ?_
  rintro e w1 ⟨rfl, hb1⟩
  obtain ⟨A, hA, hTab⟩ : ∃ A, actCells.toArray = A ∧ Tab A := ⟨_, rfl, tab_any⟩
  rw [hA]
  clear hA
  have hth := there_new w1 hTab
  have hif := hTab.info
  have hone := hTab.one
  have hT := hasT_new w1 hTab
  have hB0 := below_setCells hb1.size A.toList 0 _ (hb1.alloc hb1.size (.cells #[.nilFunc, .nilFunc, .nilFunc, .nilFunc, .nilFunc, .nilFunc, .nilFunc, .nilFunc, .nilFunc, .nilFunc, .nilFunc, .nilFunc, .nilFunc, .nilFunc, .nilFunc, .nilFunc, .nilFunc, .nilFunc, .nilFunc, .nilFunc, .nilFunc, .nilFunc, .nilFunc, .nilFunc] 113))
  have ht1 := (hT.cell 19).trans (show actCells[19]? = some (.func (.func 88) #[] #[]) from rfl)
  go_wp2_with (first | (go_at_call 88; fail) | (refine wpList_store_mid rfl 113 (.tmp 7) (.tmp 8) rfl w1.heap.size 0 A rfl rfl hth hif hone ?_; generalize (w1.alloc (.cells #[.nilFunc, .nilFunc, .nilFunc, .nilFunc, .nilFunc, .nilFunc, .nilFunc, .nilFunc, .nilFunc, .nilFunc, .nilFunc, .nilFunc, .nilFunc, .nilFunc, .nilFunc, .nilFunc, .nilFunc, .nilFunc, .nilFunc, .nilFunc, .nilFunc, .nilFunc, .nilFunc, .nilFunc] 113)).setCells w1.heap.size 0 A.toList = X at *))
  refine (unhide HR X hB0).mono ?_
  intro e w2 hq
  obtain ⟨c, rfl⟩ := unhide Hret X e w2 hq
  have Hq := hide hq
  have HB0 := hide hB0
  clear hq hT ht1 hB0
  go_wp2
  go_ret
  exact ⟨X, unhide HB0, unhide Hq⟩
set_option maxRecDepth 100000 in
set_option maxHeartbeats 2000000 in
theorem wtake5 {W : World} {wb n : Nat} {R : World → Ending → World → Prop} (hR : ∀ X, Below W.heap.size W X → Calls Tryd.prog 92 #[.pointer (some ⟨wb, 0, none⟩), .int .i64 (n : Int)] X (R X)) (hret : ∀ X e w, R X e w → ∃ c : Int, e = .returned (.int .i64 c)) :
    Calls Tryd.prog 66 #[.pointer (some ⟨wb, 0, none⟩), .int .i64 (n : Int), .int .i64 5] W fun e W' => ∃ X, Below W.heap.size W X ∧ R X e W' := by
  have HR := hide hR
  have Hret := hide hret
  clear hR hret
  go_enter Tryd.func66, Tryd.ntmps66
  go_wp2_with fail
  refine (acts_any W).mono ?_
  rintro e w1 ⟨rfl, hb1⟩
  obtain ⟨A, hA, hTab⟩ : ∃ A, actCells.toArray = A ∧ Tab A := ⟨_, rfl, tab_any⟩
  rw [hA]
  clear hA
  have hth := there_new w1 hTab
  have hif := hTab.info
  have hone := hTab.one
  have hT := hasT_new w1 hTab
  have hB0 := below_setCells hb1.size A.toList 0 _ (hb1.alloc hb1.size (.cells #[.nilFunc, .nilFunc, .nilFunc, .nilFunc, .nilFunc, .nilFunc, .nilFunc, .nilFunc, .nilFunc, .nilFunc, .nilFunc, .nilFunc, .nilFunc, .nilFunc, .nilFunc, .nilFunc, .nilFunc, .nilFunc, .nilFunc, .nilFunc, .nilFunc, .nilFunc, .nilFunc, .nilFunc] 113))
  have ht1 := (hT.cell 23).trans (show actCells[23]? = some (.func (.func 92) #[] #[]) from rfl)
  go_wp2_with (first | (go_at_call 92; fail) | (refine wpList_store_mid rfl 113 (.tmp 7) (.tmp 8) rfl w1.heap.size 0 A rfl rfl hth hif hone ?_; generalize (w1.alloc (.cells #[.nilFunc, .nilFunc, .nilFunc, .nilFunc, .nilFunc, .nilFunc, .nilFunc, .nilFunc, .nilFunc, .nilFunc, .nilFunc, .nilFunc, .nilFunc, .nilFunc, .nilFunc, .nilFunc, .nilFunc, .nilFunc, .nilFunc, .nilFunc, .nilFunc, .nilFunc, .nilFunc, .nilFunc] 113)).setCells w1.heap.size 0 A.toList = X at *))
  refine (unhide HR X hB0).mono ?_
  intro e w2 hq
  obtain ⟨c, rfl⟩ := unhide Hret X e w2 hq
  have Hq := hide hq
  have HB0 := hide hB0
  clear hq hT ht1 hB0
  go_wp2
  go_ret
  exact ⟨X, unhide HB0, unhide Hq⟩
end Go.Proofs.YtobomdokdajbaaaDoor
