import Derived.Test.YtgbadnbhgpnppaaDoorWLc
namespace Go.Proofs.YtgbadnbhgpnppaaDoor
open Go.RowKit
attribute [local go_sem ↓] Go.wp_at_zero Go.wp_at_succ

theorem below_drewN {n : Nat} {A W : World} (h : Below n A W) (k : Nat) : Below n A (W.drewN k) := ⟨h.os, h.tape, h.output, h.size, h.block⟩
def WkAt (W : World) (wb b : Nat) (tag depth num0 : Int) (v ag : Value) : Prop := W.heap[wb]? = some (.cells #[.pointer (some ⟨b, 0, none⟩), .int .i64 tag, .int .i64 depth, .bool true, .int .i64 num0, v, ag] 100 (0, 0))
set_option maxRecDepth 100000 in
set_option maxHeartbeats 2000000 in
theorem add_err {W : World} {wb b : Nat} {tag depth num0 : Int} {v ag : Value} {x0 x1 x2 : Int} {t : ByteArray} {ia : Option Addr} {il ic c : Nat} (hw : WkAt W wb b tag depth num0 v ag) (hc : c ≠ 0) :
    Calls Tryd.prog 71 #[.pointer (some ⟨wb, 0, none⟩), .agg #[.int .i64 x0, .int .i64 x1, .int .i64 x2, .string t, .slice ia il ic], .int .i64 (c : Int)] W fun e W' => e = .returned (.int .i64 (c : Int)) ∧ Below W.heap.size W W' := by
  obtain ⟨c0, c1, c2, c3, c4, c5, c6, f1⟩ := walk_cells hw
  have hwb : wb < W.heap.size := (Array.getElem?_eq_some_iff.1 hw).1
  have hq : ((c : Int) == 0) = false := beq_eq_false_iff_ne.2 (by omega)
  have HB : Hid (Below W.heap.size W (W.alloc (.cells #[.int .i64 x0, .int .i64 x1, .int .i64 x2, .string t, .slice ia il ic] 55))) := (Below.refl _ _).alloc (Nat.le_refl _) _
  have hcA : (W.alloc (.cells #[.int .i64 x0, .int .i64 x1, .int .i64 x2, .string t, .slice ia il ic] 55)).cell? ⟨wb, 3, none⟩ = some (.bool true) := (unhide HB).cell (p := ⟨wb, 3, none⟩) hwb |>.trans c3
  clear hw
  go_enter Tryd.func71, Tryd.ntmps71
  go_wp2
  go_ret
  exact ⟨rfl, unhide HB⟩
set_option maxRecDepth 100000 in
set_option maxHeartbeats 2000000 in
theorem take_ok (hadd : AddNil) {W : World} {b wb : Nat} {s : ByteArray} {k u k' n : Nat} {st : Bool} {tag depth num0 : Int} {ag : Value} (h : RdAt W b s k st) (hk : k ≤ s.size) (hs : s.size ≤ 1048576) (hw : WkAt W wb b tag depth num0 (.slice none 0 0) ag) (hv : vAt s st k = .inl (u, k')) :
    Calls Tryd.prog 70 #[.pointer (some ⟨wb, 0, none⟩), .int .i64 (n : Int)] W fun e W' => e = .returned (.int .i64 0) ∧ ∃ v W1, Upd W b (.cells #[.string s, .int .i64 (k' : Int), .bool st] 70 (0, 0)) W1 ∧ Upd W1 wb (.cells #[.pointer (some ⟨b, 0, none⟩), .int .i64 tag, .int .i64 depth, .bool true, .int .i64 num0, v, ag] 100 (0, 0)) W' ∧ HasR W' v [⟨n, 0, wrap64 (u : Int), .empty, none, 0⟩] := by
  obtain ⟨c0, c1, c2, c3, c4, c5, c6, f1⟩ := walk_cells hw
  have hne : wb ≠ b := fun e => by subst e; unfold RdAt at h; unfold WkAt at hw; rw [h] at hw; cases hw
  have hva := rVarint_any h hk hs
  rw [hv] at hva
  obtain ⟨wu, hwu⟩ : ∃ wu, wrap64 (u : Int) = wu := ⟨_, rfl⟩
  have hva2 : Calls Tryd.prog 36 #[.pointer (some ⟨b, 0, none⟩)] W fun e W' => e = .returned (.tuple #[.int .i64 wu, .int .i64 0]) ∧ Upd W b (.cells #[.string s, .int .i64 (k' : Int), .bool st] 70 (0, 0)) W' := by rw [← hwu]; exact hva
  rw [hwu]
  have Hva := hide hva2
  have Hadd := hide hadd
  clear hva hva2 h hadd hv hwu
  go_enter Tryd.func70, Tryd.ntmps70
  go_wp2_with fail
  refine (unhide Hva).mono ?_
  rintro e w1 ⟨rfl, hU⟩
  have hw1 := (hU.far wb (Array.getElem?_eq_some_iff.1 hw).1 hne).trans hw
  have HU := hide hU
  clear hU
  go_wp2_with fail
  refine (unhide Hadd w1 wb _ _ _ _ _ ⟨n, 0, wu, .empty, none, 0⟩ hw1).mono ?_
  rintro e w2 ⟨rfl, v, hU2, hR⟩
  have HU2 := hide hU2
  have HR := hide hR
  clear hU2 hR
  go_wp2
  go_ret
  exact ⟨rfl, v, w1, unhide HU, unhide HU2, unhide HR⟩
set_option maxRecDepth 100000 in
set_option maxHeartbeats 2000000 in
theorem take_bad {W : World} {b wb : Nat} {s : ByteArray} {k c n : Nat} {st : Bool} {tag depth num0 : Int} {v ag : Value} (h : RdAt W b s k st) (hk : k ≤ s.size) (hs : s.size ≤ 1048576) (hw : WkAt W wb b tag depth num0 v ag) (hv : vAt s st k = .inr c) :
    Calls Tryd.prog 70 #[.pointer (some ⟨wb, 0, none⟩), .int .i64 (n : Int)] W fun e W' => e = .returned (.int .i64 (c : Int)) ∧ c ≠ 0 ∧ Below W.heap.size W W' := by
  obtain ⟨c0, c1, c2, c3, c4, c5, c6, f1⟩ := walk_cells hw
  have hva := rVarint_any h hk hs
  rw [hv] at hva
  have Hva := hide hva
  clear hva h hv
  go_enter Tryd.func70, Tryd.ntmps70
  go_wp2_with fail
  refine (unhide Hva).mono ?_
  rintro e w1 ⟨rfl, hc, n1, rfl⟩
  have hw1 : WkAt (W.drewN n1) wb b tag depth num0 v ag := hw
  have Hw1 := hide hw1
  clear hw hw1
  go_wp2_with fail
  refine (add_err (unhide Hw1) hc).mono ?_
  rintro e w2 ⟨rfl, hb⟩
  have Hb := hide hb
  clear hb
  go_wp2
  go_ret
  exact ⟨rfl, hc, (below_drewN (Below.refl _ _) n1).trans (unhide Hb)⟩
set_option maxRecDepth 100000 in
set_option maxHeartbeats 2000000 in
theorem wtake_any {W : World} {wb n : Nat} {R : World → Ending → World → Prop} (hR : ∀ X, Below W.heap.size W X → Calls Tryd.prog 70 #[.pointer (some ⟨wb, 0, none⟩), .int .i64 (n : Int)] X (R X)) (hret : ∀ X e w, R X e w → ∃ c : Int, e = .returned (.int .i64 c)) :
    Calls Tryd.prog 63 #[.pointer (some ⟨wb, 0, none⟩), .int .i64 (n : Int), .int .i64 0] W fun e W' => ∃ X, Below W.heap.size W X ∧ R X e W' := by
  have HR := hide hR
  have Hret := hide hret
  clear hR hret
  go_enter Tryd.func63, Tryd.ntmps63
  go_wp2_with fail
  refine (acts_any W).mono ?_
  rintro e w1 ⟨rfl, hb1⟩
  obtain ⟨A, hA, hTab⟩ : ∃ A, actCells.toArray = A ∧ Tab A := ⟨_, rfl, tab_any⟩
  rw [hA]
  clear hA
  have hth := there_new w1 hTab
  have hif := hTab.info
  have hone := hTab.one
  have hT := hasT_new w1 hTab
  have hB0 := below_setCells hb1.size A.toList 0 _ (hb1.alloc hb1.size (.cells #[.nilFunc, .nilFunc, .nilFunc, .nilFunc, .nilFunc, .nilFunc, .nilFunc, .nilFunc, .nilFunc, .nilFunc, .nilFunc, .nilFunc, .nilFunc, .nilFunc, .nilFunc, .nilFunc, .nilFunc, .nilFunc, .nilFunc, .nilFunc, .nilFunc, .nilFunc, .nilFunc, .nilFunc] 109))
  have ht1 := (hT.cell 3).trans (show actCells[3]? = some (.func (.func 70) #[] #[]) from rfl)
  go_wp2_with (first | (go_at_call 70; fail) | (refine wpList_store_mid rfl 109 (.tmp 7) (.tmp 8) rfl w1.heap.size 0 A rfl rfl hth hif hone ?_; generalize (w1.alloc (.cells #[.nilFunc, .nilFunc, .nilFunc, .nilFunc, .nilFunc, .nilFunc, .nilFunc, .nilFunc, .nilFunc, .nilFunc, .nilFunc, .nilFunc, .nilFunc, .nilFunc, .nilFunc, .nilFunc, .nilFunc, .nilFunc, .nilFunc, .nilFunc, .nilFunc, .nilFunc, .nilFunc, .nilFunc] 109)).setCells w1.heap.size 0 A.toList = X at *))
  refine (unhide HR X hB0).mono ?_
  intro e w2 hq
  obtain ⟨c, rfl⟩ := unhide Hret X e w2 hq
  have Hq := hide hq
  have HB0 := hide hB0
  clear hq hT ht1 hB0
  go_wp2
  go_ret
  exact ⟨X, unhide HB0, unhide Hq⟩
end Go.Proofs.YtgbadnbhgpnppaaDoor
