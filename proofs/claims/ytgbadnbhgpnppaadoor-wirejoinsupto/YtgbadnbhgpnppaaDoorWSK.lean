import Derived.Test.YtgbadnbhgpnppaaDoorWSJ
import Derived.Test.YtgbadnbhgpnppaaDoorWSb
namespace Go.Proofs.YtgbadnbhgpnppaaDoor
open Go.RowKit
attribute [local go_sem ↓] Go.wp_at_zero Go.wp_at_succ

/-- The cells of a record. -/
def rcells (r : Rt) (u : Value) : List Value := match r with | .mk n kd x t _ => [.int .i64 (n : Int), .int .i64 (kd : Int), .int .i64 x, .string t, u]
/-- What the take of a record that is no group does. -/
def TkK (W : World) (B b wb : Nat) (s : ByteArray) (k : Nat) (st : Bool) (tag depth num0 : Int) (iv ag : Value) (m : Nat) (xs : List Value) (e : Ending) (w : World) : (Rt × Nat) ⊕ Nat → Prop
  | .inl (r, k') => e = .returned (.int .i64 0) ∧ RdAt w b s k' st ∧ ∃ v', WkB w wb b tag depth true num0 v' ag ∧ w.ownsRow B 55 5 v' (m + 1) (xs ++ rcells r (.slice none 0 0)) ∧ Fr W w (fun q => q = b ∨ q = wb ∨ some q = iv.ownBlock) ∧ (v'.ownBlock = iv.ownBlock ∨ ∃ g', v'.ownBlock = some g' ∧ W.heap.size ≤ g')
  | .inr c => e = .returned (.int .i64 (c : Int)) ∧ c ≠ 0 ∧ RdAt w b s k st ∧ Fr W w (fun q => q = b ∨ q = wb ∨ some q = iv.ownBlock)
theorem Upd.fr {W w : World} {b : Nat} {o : Obj} {X : Nat → Prop} (h : Upd W b o w) (hb : X b) : Fr W w X := ⟨h.os, h.tape, h.output, h.size, fun q hq hn => h.far q hq (fun e => hn (by rw [e]; exact hb))⟩
set_option maxRecDepth 100000 in
set_option maxHeartbeats 2000000 in
theorem take0_keep {W : World} {B b wb m vc : Nat} {va : Option Addr} {s : ByteArray} {k n : Nat} {st : Bool} {tag depth num0 : Int} {ag : Value} {xs : List Value} (h : RdAt W b s k st) (hk : k ≤ s.size) (hs : s.size ≤ 1048576) (hw : WkB W wb b tag depth true num0 (.slice va m vc) ag) (hrow : W.ownsRow B 55 5 (.slice va m vc) m xs) (hbB : b < B) (hwB : wb < B) (hBW : B ≤ W.heap.size) (hm : m ≤ 1048576) :
    Calls Tryd.prog 70 #[.pointer (some ⟨wb, 0, none⟩), .int .i64 (n : Int)] W fun e W' => TkK W B b wb s k st tag depth num0 (.slice va m vc) ag m xs e W' (numT n 0 (vAt s st k)) := by
  obtain ⟨c0, c1, c2, c3, c4, c5, c6, f1⟩ := walk_cells hw
  have hne : wb ≠ b := fun e => by subst e; unfold RdAt at h; unfold WkB at hw; rw [h] at hw; cases hw
  have hva := rVarint_any h hk hs
  obtain ⟨R, hR⟩ : ∃ R, vAt s st k = R := ⟨_, rfl⟩
  rw [hR] at hva ⊢
  have Hva := hide hva
  have Hh := hide h
  have Hw := hide hw
  have Hrow := hide hrow
  clear hva h hR hw hrow
  cases R with
  | inr c =>
    go_enter Tryd.func70, Tryd.ntmps70
    go_wp2_with fail
    refine (unhide Hva).mono ?_
    rintro e w1 ⟨rfl, hc, hw1'⟩
    have hU : Upd W b (.cells #[.string s, .int .i64 (k : Int), .bool st] 70 (0, 0)) w1 := by obtain ⟨m, rfl⟩ := hw1'; exact upd_same (unhide Hh) m
    have hw1 : WkAt w1 wb b tag depth num0 (.slice va m vc) ag := (hU.far wb (Array.getElem?_eq_some_iff.1 (unhide Hw)).1 hne).trans (unhide Hw)
    have Hw1 := hide hw1
    have HU := hide hU
    clear hw1 hU hw1' Hva
    go_wp2_with fail
    refine (add_err (unhide Hw1) hc).mono ?_
    rintro e w2 ⟨rfl, hb⟩
    have HU2 := hide ((unhide HU).below' hb)
    clear hb
    go_wp2
    go_ret
    exact ⟨rfl, hc, (unhide HU2).at', (unhide HU2).fr (.inl rfl)⟩
  | inl p =>
    obtain ⟨u, k'⟩ := p
    go_enter Tryd.func70, Tryd.ntmps70
    go_wp2_with fail
    refine (unhide Hva).mono ?_
    rintro e w1 ⟨rfl, hU⟩
    have hw1 : WkB w1 wb b tag depth true num0 (.slice va m vc) ag := (hU.far wb (Array.getElem?_eq_some_iff.1 (unhide Hw)).1 hne).trans (unhide Hw)
    have hr1 := rowUpd (unhide Hrow) hU hbB
    have Hw1 := hide hw1
    have Hr1 := hide hr1
    have HU := hide hU
    have hBW1 : B ≤ w1.heap.size := Nat.le_trans hBW hU.size
    clear hw1 hU Hva hr1
    obtain ⟨wu, hwu⟩ : ∃ wu, wrap64 (u : Int) = wu := ⟨_, rfl⟩
    rw [hwu]
    have Hwu := hide hwu
    clear hwu
    go_wp2_with fail
    refine (add_keep (unhide Hw1) (unhide Hr1) hwB hBW1 hm).mono ?_
    rintro e w2 ⟨rfl, v', hfin⟩
    have Hfin := hide hfin
    clear hfin
    go_wp2
    go_ret
    obtain ⟨q1, q2, q3⟩ := unhide Hfin
    rw [← unhide Hwu] at q2
    have hU := unhide HU
    refine ⟨rfl, ?_, v', q1, q2, (hU.fr (.inl rfl)).trans (q3.fr.wide fun q _ x => .inr x), ?_⟩
    · exact (q3.far b (Array.getElem?_eq_some_iff.1 hU.at').1 (fun e => hne e.symm) (fun e => by have := ((unhide Hr1).lt b e.symm).1; omega)).trans hU.at'
    · rcases q3.blk with q | ⟨g', q4, q5⟩
      · exact .inl q
      · exact .inr ⟨g', q4, Nat.le_trans hU.size q5⟩
set_option maxRecDepth 100000 in
set_option maxHeartbeats 2000000 in
theorem take1_keep {W : World} {B b wb m vc : Nat} {va : Option Addr} {s : ByteArray} {k n : Nat} {st : Bool} {tag depth num0 : Int} {ag : Value} {xs : List Value} (h : RdAt W b s k st) (hk : k ≤ s.size) (hs : s.size ≤ 1048576) (hw : WkB W wb b tag depth true num0 (.slice va m vc) ag) (hrow : W.ownsRow B 55 5 (.slice va m vc) m xs) (hbB : b < B) (hwB : wb < B) (hBW : B ≤ W.heap.size) (hm : m ≤ 1048576) :
    Calls Tryd.prog 75 #[.pointer (some ⟨wb, 0, none⟩), .int .i64 (n : Int)] W fun e W' => TkK W B b wb s k st tag depth num0 (.slice va m vc) ag m xs e W' (numT n 1 (xAt s k 8)) := by
  obtain ⟨c0, c1, c2, c3, c4, c5, c6, f1⟩ := walk_cells hw
  have hne : wb ≠ b := fun e => by subst e; unfold RdAt at h; unfold WkB at hw; rw [h] at hw; cases hw
  have hva := rFixed_any h hs hk (.inr rfl)
  obtain ⟨R, hR⟩ : ∃ R, xAt s k 8 = R := ⟨_, rfl⟩
  rw [hR] at hva ⊢
  have Hva := hide hva
  have Hh := hide h
  have Hw := hide hw
  have Hrow := hide hrow
  clear hva h hR hw hrow
  cases R with
  | inr c =>
    go_enter Tryd.func75, Tryd.ntmps75
    go_wp2_with fail
    refine (unhide Hva).mono ?_
    rintro e w1 ⟨rfl, hc, hw1'⟩
    have hU : Upd W b (.cells #[.string s, .int .i64 (k : Int), .bool st] 70 (0, 0)) w1 := by obtain ⟨m, rfl⟩ := hw1'; exact upd_same (unhide Hh) m
    have hw1 : WkAt w1 wb b tag depth num0 (.slice va m vc) ag := (hU.far wb (Array.getElem?_eq_some_iff.1 (unhide Hw)).1 hne).trans (unhide Hw)
    have Hw1 := hide hw1
    have HU := hide hU
    clear hw1 hU hw1' Hva
    go_wp2_with fail
    refine (add_err (unhide Hw1) hc).mono ?_
    rintro e w2 ⟨rfl, hb⟩
    have HU2 := hide ((unhide HU).below' hb)
    clear hb
    go_wp2
    go_ret
    exact ⟨rfl, hc, (unhide HU2).at', (unhide HU2).fr (.inl rfl)⟩
  | inl p =>
    obtain ⟨u, k'⟩ := p
    go_enter Tryd.func75, Tryd.ntmps75
    go_wp2_with fail
    refine (unhide Hva).mono ?_
    rintro e w1 ⟨rfl, hU⟩
    have hw1 : WkB w1 wb b tag depth true num0 (.slice va m vc) ag := (hU.far wb (Array.getElem?_eq_some_iff.1 (unhide Hw)).1 hne).trans (unhide Hw)
    have hr1 := rowUpd (unhide Hrow) hU hbB
    have Hw1 := hide hw1
    have Hr1 := hide hr1
    have HU := hide hU
    have hBW1 : B ≤ w1.heap.size := Nat.le_trans hBW hU.size
    clear hw1 hU Hva hr1
    obtain ⟨wu, hwu⟩ : ∃ wu, wrap64 (u : Int) = wu := ⟨_, rfl⟩
    rw [hwu]
    have Hwu := hide hwu
    clear hwu
    go_wp2_with fail
    refine (add_keep (unhide Hw1) (unhide Hr1) hwB hBW1 hm).mono ?_
    rintro e w2 ⟨rfl, v', hfin⟩
    have Hfin := hide hfin
    clear hfin
    go_wp2
    go_ret
    obtain ⟨q1, q2, q3⟩ := unhide Hfin
    rw [← unhide Hwu] at q2
    have hU := unhide HU
    refine ⟨rfl, ?_, v', q1, q2, (hU.fr (.inl rfl)).trans (q3.fr.wide fun q _ x => .inr x), ?_⟩
    · exact (q3.far b (Array.getElem?_eq_some_iff.1 hU.at').1 (fun e => hne e.symm) (fun e => by have := ((unhide Hr1).lt b e.symm).1; omega)).trans hU.at'
    · rcases q3.blk with q | ⟨g', q4, q5⟩
      · exact .inl q
      · exact .inr ⟨g', q4, Nat.le_trans hU.size q5⟩
set_option maxRecDepth 100000 in
set_option maxHeartbeats 2000000 in
theorem take5_keep {W : World} {B b wb m vc : Nat} {va : Option Addr} {s : ByteArray} {k n : Nat} {st : Bool} {tag depth num0 : Int} {ag : Value} {xs : List Value} (h : RdAt W b s k st) (hk : k ≤ s.size) (hs : s.size ≤ 1048576) (hw : WkB W wb b tag depth true num0 (.slice va m vc) ag) (hrow : W.ownsRow B 55 5 (.slice va m vc) m xs) (hbB : b < B) (hwB : wb < B) (hBW : B ≤ W.heap.size) (hm : m ≤ 1048576) :
    Calls Tryd.prog 90 #[.pointer (some ⟨wb, 0, none⟩), .int .i64 (n : Int)] W fun e W' => TkK W B b wb s k st tag depth num0 (.slice va m vc) ag m xs e W' (numT n 5 (xAt s k 4)) := by
  obtain ⟨c0, c1, c2, c3, c4, c5, c6, f1⟩ := walk_cells hw
  have hne : wb ≠ b := fun e => by subst e; unfold RdAt at h; unfold WkB at hw; rw [h] at hw; cases hw
  have hva := rFixed_any h hs hk (.inl rfl)
  obtain ⟨R, hR⟩ : ∃ R, xAt s k 4 = R := ⟨_, rfl⟩
  rw [hR] at hva ⊢
  have Hva := hide hva
  have Hh := hide h
  have Hw := hide hw
  have Hrow := hide hrow
  clear hva h hR hw hrow
  cases R with
  | inr c =>
    go_enter Tryd.func90, Tryd.ntmps90
    go_wp2_with fail
    refine (unhide Hva).mono ?_
    rintro e w1 ⟨rfl, hc, hw1'⟩
    have hU : Upd W b (.cells #[.string s, .int .i64 (k : Int), .bool st] 70 (0, 0)) w1 := by obtain ⟨m, rfl⟩ := hw1'; exact upd_same (unhide Hh) m
    have hw1 : WkAt w1 wb b tag depth num0 (.slice va m vc) ag := (hU.far wb (Array.getElem?_eq_some_iff.1 (unhide Hw)).1 hne).trans (unhide Hw)
    have Hw1 := hide hw1
    have HU := hide hU
    clear hw1 hU hw1' Hva
    go_wp2_with fail
    refine (add_err (unhide Hw1) hc).mono ?_
    rintro e w2 ⟨rfl, hb⟩
    have HU2 := hide ((unhide HU).below' hb)
    clear hb
    go_wp2
    go_ret
    exact ⟨rfl, hc, (unhide HU2).at', (unhide HU2).fr (.inl rfl)⟩
  | inl p =>
    obtain ⟨u, k'⟩ := p
    go_enter Tryd.func90, Tryd.ntmps90
    go_wp2_with fail
    refine (unhide Hva).mono ?_
    rintro e w1 ⟨rfl, hU⟩
    have hw1 : WkB w1 wb b tag depth true num0 (.slice va m vc) ag := (hU.far wb (Array.getElem?_eq_some_iff.1 (unhide Hw)).1 hne).trans (unhide Hw)
    have hr1 := rowUpd (unhide Hrow) hU hbB
    have Hw1 := hide hw1
    have Hr1 := hide hr1
    have HU := hide hU
    have hBW1 : B ≤ w1.heap.size := Nat.le_trans hBW hU.size
    clear hw1 hU Hva hr1
    obtain ⟨wu, hwu⟩ : ∃ wu, wrap64 (u : Int) = wu := ⟨_, rfl⟩
    rw [hwu]
    have Hwu := hide hwu
    clear hwu
    go_wp2_with fail
    refine (add_keep (unhide Hw1) (unhide Hr1) hwB hBW1 hm).mono ?_
    rintro e w2 ⟨rfl, v', hfin⟩
    have Hfin := hide hfin
    clear hfin
    go_wp2
    go_ret
    obtain ⟨q1, q2, q3⟩ := unhide Hfin
    rw [← unhide Hwu] at q2
    have hU := unhide HU
    refine ⟨rfl, ?_, v', q1, q2, (hU.fr (.inl rfl)).trans (q3.fr.wide fun q _ x => .inr x), ?_⟩
    · exact (q3.far b (Array.getElem?_eq_some_iff.1 hU.at').1 (fun e => hne e.symm) (fun e => by have := ((unhide Hr1).lt b e.symm).1; omega)).trans hU.at'
    · rcases q3.blk with q | ⟨g', q4, q5⟩
      · exact .inl q
      · exact .inr ⟨g', q4, Nat.le_trans hU.size q5⟩
set_option maxRecDepth 100000 in
set_option maxHeartbeats 2000000 in
theorem take2_keep {W : World} {B b wb m vc : Nat} {va : Option Addr} {s : ByteArray} {k n : Nat} {st : Bool} {tag depth num0 : Int} {ag : Value} {xs : List Value} (h : RdAt W b s k st) (hk : k ≤ s.size) (hs : s.size ≤ 1048576) (hw : WkB W wb b tag depth true num0 (.slice va m vc) ag) (hrow : W.ownsRow B 55 5 (.slice va m vc) m xs) (hbB : b < B) (hwB : wb < B) (hBW : B ≤ W.heap.size) (hm : m ≤ 1048576) :
    Calls Tryd.prog 81 #[.pointer (some ⟨wb, 0, none⟩), .int .i64 (n : Int)] W fun e W' => TkK W B b wb s k st tag depth num0 (.slice va m vc) ag m xs e W' (texT n (tAt s st k)) := by
  obtain ⟨c0, c1, c2, c3, c4, c5, c6, f1⟩ := walk_cells hw
  have hne : wb ≠ b := fun e => by subst e; unfold RdAt at h; unfold WkB at hw; rw [h] at hw; cases hw
  have hva := rText_any h hk hs
  obtain ⟨R, hR⟩ : ∃ R, tAt s st k = R := ⟨_, rfl⟩
  rw [hR] at hva ⊢
  have Hva := hide hva
  have Hh := hide h
  have Hw := hide hw
  have Hrow := hide hrow
  clear hva h hR hw hrow
  cases R with
  | inr c =>
    go_enter Tryd.func81, Tryd.ntmps81
    go_wp2_with fail
    refine (unhide Hva).mono ?_
    rintro e w1 ⟨rfl, hc, hw1'⟩
    have hU : Upd W b (.cells #[.string s, .int .i64 (k : Int), .bool st] 70 (0, 0)) w1 := hw1'
    have hw1 : WkAt w1 wb b tag depth num0 (.slice va m vc) ag := (hU.far wb (Array.getElem?_eq_some_iff.1 (unhide Hw)).1 hne).trans (unhide Hw)
    have Hw1 := hide hw1
    have HU := hide hU
    clear hw1 hU hw1' Hva
    go_wp2_with fail
    refine (add_err (unhide Hw1) hc).mono ?_
    rintro e w2 ⟨rfl, hb⟩
    have HU2 := hide ((unhide HU).below' hb)
    clear hb
    go_wp2
    go_ret
    exact ⟨rfl, hc, (unhide HU2).at', (unhide HU2).fr (.inl rfl)⟩
  | inl p =>
    obtain ⟨u, k'⟩ := p
    go_enter Tryd.func81, Tryd.ntmps81
    go_wp2_with fail
    refine (unhide Hva).mono ?_
    rintro e w1 ⟨rfl, hU⟩
    have hw1 : WkB w1 wb b tag depth true num0 (.slice va m vc) ag := (hU.far wb (Array.getElem?_eq_some_iff.1 (unhide Hw)).1 hne).trans (unhide Hw)
    have hr1 := rowUpd (unhide Hrow) hU hbB
    have Hw1 := hide hw1
    have Hr1 := hide hr1
    have HU := hide hU
    have hBW1 : B ≤ w1.heap.size := Nat.le_trans hBW hU.size
    clear hw1 hU Hva hr1
    go_wp2_with fail
    refine (add_keep (unhide Hw1) (unhide Hr1) hwB hBW1 hm).mono ?_
    rintro e w2 ⟨rfl, v', hfin⟩
    have Hfin := hide hfin
    clear hfin
    go_wp2
    go_ret
    obtain ⟨q1, q2, q3⟩ := unhide Hfin
    have hU := unhide HU
    refine ⟨rfl, ?_, v', q1, q2, (hU.fr (.inl rfl)).trans (q3.fr.wide fun q _ x => .inr x), ?_⟩
    · exact (q3.far b (Array.getElem?_eq_some_iff.1 hU.at').1 (fun e => hne e.symm) (fun e => by have := ((unhide Hr1).lt b e.symm).1; omega)).trans hU.at'
    · rcases q3.blk with q | ⟨g', q4, q5⟩
      · exact .inl q
      · exact .inr ⟨g', q4, Nat.le_trans hU.size q5⟩
end Go.Proofs.YtgbadnbhgpnppaaDoor
namespace Go.Proofs.YtgbadnbhgpnppaaDoor
open Go.RowKit

/-- Records that can be read, in blocks of P. -/
inductive HasRt (W : World) (P : Nat → Prop) : Value → List Rt → Prop
  | nil (a : Option Addr) (c : Nat) : HasRt W P (.slice a 0 c) []
  | row (g n c : Nat) (ts : List Rt) (us : Nat → Value) (hP : P g) (hn : ts.length = n) (hm : n ≤ maxLen) (hg : g < W.heap.size) (hc : ∀ (i : Nat) (t : Rt), ts[i]? = some t → ∀ (j : Nat) (x : Value), (rcells t (us i))[j]? = some x → W.cell? ⟨g, i * 5 + j, none⟩ = some x) (hi : ∀ (i : Nat) (t : Rt), ts[i]? = some t → HasRt W P (us i) t.inner) : HasRt W P (.slice (some ⟨g, 0, none⟩) n c) ts
theorem HasRt.mono {W w : World} {P Q : Nat → Prop} (hP : ∀ g, g < W.heap.size → P g → Q g ∧ w.heap[g]? = W.heap[g]?) (hz : W.heap.size ≤ w.heap.size) {v : Value} {ts : List Rt} (h : HasRt W P v ts) : HasRt w Q v ts := by
  induction h with
  | nil a c => exact .nil a c
  | row g n c ts us hp hn hm hg hc hi ih =>
    refine .row g n c ts us (hP g hg hp).1 hn hm (Nat.lt_of_lt_of_le hg hz) (fun i t ht j x hx => ?_) ih
    rw [← hc i t ht j x hx]
    unfold World.cell?
    rw [(hP g hg hp).2]
/-- The cells of records. -/
def rowC (ts : List Rt) (us : List Value) : List Value := (List.zipWith rcells ts us).flatten
theorem rcells_len (r : Rt) (u : Value) : (rcells r u).length = 5 := by cases r; rfl
theorem rowC_at : ∀ (ts : List Rt) (us : List Value) (i j : Nat) (t : Rt) (u x : Value), ts[i]? = some t → us[i]? = some u → (rcells t u)[j]? = some x → (rowC ts us)[i * 5 + j]? = some x
  | [], us, i, j, t, u, x, h1, h2, h3 => by simp at h1
  | r :: ts, [], i, j, t, u, x, h1, h2, h3 => by simp at h2
  | r :: ts, v :: us, 0, j, t, u, x, h1, h2, h3 => by
    simp at h1 h2
    subst h1 h2
    show (rcells r v ++ rowC ts us)[0 * 5 + j]? = some x
    rw [Nat.zero_mul, Nat.zero_add, List.getElem?_append_left (List.getElem?_eq_some_iff.1 h3).1]
    exact h3
  | r :: ts, v :: us, i + 1, j, t, u, x, h1, h2, h3 => by
    simp at h1 h2
    show (rcells r v ++ rowC ts us)[(i + 1) * 5 + j]? = some x
    rw [List.getElem?_append_right (by rw [rcells_len]; omega), rcells_len, show (i + 1) * 5 + j - 5 = i * 5 + j by omega]
    exact rowC_at ts us i j t u x h1 h2 h3
theorem rowC_push {ts : List Rt} {us : List Value} (h : ts.length = us.length) (t : Rt) (u : Value) : rowC (ts ++ [t]) (us ++ [u]) = rowC ts us ++ rcells t u := by
  unfold rowC
  rw [List.zipWith_append h]
  simp
/-- Records of one's own: the row may grow, what lies in them is done. -/
def OwnL (W : World) (B : Nat) (P : Nat → Prop) (v : Value) (ts : List Rt) : Prop := ∃ us : List Value, ts.length = us.length ∧ W.ownsRow B 55 5 v ts.length (rowC ts us) ∧ ∀ (i : Nat) (t : Rt) (u : Value), ts[i]? = some t → us[i]? = some u → HasRt W P u t.inner
theorem OwnL.nil (W : World) (B : Nat) (P : Nat → Prop) : OwnL W B P (.slice none 0 0) [] := ⟨[], rfl, World.ownsRow_nil _ _ _ _, fun i t u h => by simp at h⟩
theorem OwnL.mono {W w : World} {B : Nat} {P Q : Nat → Prop} {v : Value} {ts : List Rt} (hf : ∀ q, q < W.heap.size → v.ownBlock = some q → w.heap[q]? = W.heap[q]?) (hP : ∀ g, g < W.heap.size → P g → Q g ∧ w.heap[g]? = W.heap[g]?) (hz : W.heap.size ≤ w.heap.size) (h : OwnL W B P v ts) : OwnL w B Q v ts := by
  obtain ⟨us, h1, h2, h3⟩ := h
  exact ⟨us, h1, row_keep h2 hf, fun i t u ht hu => (h3 i t u ht hu).mono hP hz⟩
/-- A record more. -/
theorem OwnL.push {W w : World} {B : Nat} {P Q : Nat → Prop} {v' : Value} {ts : List Rt} {us : List Value} {r : Rt} {u : Value} (hP : ∀ g, g < W.heap.size → P g → Q g ∧ w.heap[g]? = W.heap[g]?) (hz : W.heap.size ≤ w.heap.size) (h1 : ts.length = us.length) (h3 : ∀ (i : Nat) (t : Rt) (u : Value), ts[i]? = some t → us[i]? = some u → HasRt W P u t.inner) (h : w.ownsRow B 55 5 v' (ts.length + 1) (rowC ts us ++ rcells r u)) (hu : HasRt w Q u r.inner) : OwnL w B Q v' (ts ++ [r]) := by
  refine ⟨us ++ [u], by simp [h1], ?_, fun i t x ht hx => ?_⟩
  · rw [rowC_push h1, List.length_append, List.length_singleton]
    exact h
  · by_cases hi : i < ts.length
    · rw [List.getElem?_append_left hi] at ht
      rw [List.getElem?_append_left (by omega)] at hx
      exact (h3 i t x ht hx).mono hP hz
    · have hlt := (List.getElem?_eq_some_iff.1 ht).1
      rw [List.length_append, List.length_singleton] at hlt
      obtain rfl : i = ts.length := by omega
      rw [List.getElem?_append_right (Nat.le_refl _)] at ht
      rw [List.getElem?_append_right (by omega)] at hx
      simp [h1] at ht hx
      subst ht hx
      exact hu
/-- What is done. -/
theorem OwnL.done {W : World} {B : Nat} {P Q : Nat → Prop} {v : Value} {ts : List Rt} (h : OwnL W B P v ts) (hP : ∀ g, g < W.heap.size → P g → Q g) (hv : ∀ g, v.ownBlock = some g → B ≤ g → g < W.heap.size → Q g) : HasRt W Q v ts := by
  obtain ⟨us, h1, h2, h3⟩ := h
  have h2' := h2
  obtain ⟨hl, ⟨rfl, h0⟩ | ⟨g, c, cur, rfl, hb, hg, hn, hm, hs, ht⟩⟩ := h2
  · obtain rfl := List.eq_nil_of_length_eq_zero h0
    exact .nil _ _
  · have hgl := (Array.getElem?_eq_some_iff.1 hg).1
    refine .row g ts.length c ts (fun i => (us[i]?).getD (.slice none 0 0)) (hv g rfl hb hgl) rfl (Nat.le_trans hn hm) hgl (fun i t hti j x hx => ?_) (fun i t hti => ?_)
    · have hi := (List.getElem?_eq_some_iff.1 hti).1
      have hu : us[i]? = some us[i] := List.getElem?_eq_getElem (by omega)
      simp only [hu, Option.getD_some] at hx
      have := h2'.cells (g := g) rfl (i * 5 + j) x (rowC_at ts us i j t _ x hti hu hx)
      rwa [Go.WideShapes.add_plain, Nat.zero_add] at this
    · have hi := (List.getElem?_eq_some_iff.1 hti).1
      have hu : us[i]? = some us[i] := List.getElem?_eq_getElem (by omega)
      simp only [hu, Option.getD_some]
      exact (h3 i t _ hti hu).mono (fun g hg hp => ⟨hP g hg hp, rfl⟩) (Nat.le_refl _)
/-- The blocks of no row that may grow. -/
def Free (B : Nat) (ag : Value) (V : List Value) (g : Nat) : Prop := B ≤ g ∧ some g ≠ ag.ownBlock ∧ ∀ v ∈ V, some g ≠ v.ownBlock
/-- A row of groups and a row of records lie in blocks of their own. -/
theorem rows_apart {W : World} {B n m : Nat} {ag v : Value} {xs ys : List Value} (h : W.ownsRow B 97 2 ag n xs) (k : W.ownsRow B 55 5 v m ys) (g : Nat) (h1 : ag.ownBlock = some g) : v.ownBlock ≠ some g := by
  intro h2
  obtain ⟨_, ⟨rfl, _⟩ | ⟨g1, c, cur, rfl, _, hg, _⟩⟩ := h
  · simp [Value.ownBlock] at h1
  · obtain ⟨_, ⟨rfl, _⟩ | ⟨g2, c2, cur2, rfl, _, hg2, _⟩⟩ := k
    · simp [Value.ownBlock] at h2
    · simp [Value.ownBlock] at h1 h2
      subst h1 h2
      rw [hg] at hg2
      simp at hg2
/-- The cells of the row of groups. -/
def gcT (stk : List (Nat × List Rt)) (V : List Value) : List Value := (List.zipWith (fun (e : Nat × List Rt) v => [Value.int .i64 (e.1 : Int), v]) stk V).flatten
theorem gcT_push {stk : List (Nat × List Rt)} {V : List Value} (h : stk.length = V.length) (e : Nat × List Rt) (v : Value) : gcT (stk ++ [e]) (V ++ [v]) = gcT stk V ++ [.int .i64 (e.1 : Int), v] := by
  unfold gcT
  rw [List.zipWith_append h]
  simp
/-- Own blocks that are no one else's. -/
def Ap (u v : Value) : Prop := u.ownBlock = none ∨ u.ownBlock ≠ v.ownBlock
/-- A walk that keeps, in memory. -/
structure KM (W : World) (B b wb : Nat) (t : Nat) (depth : Int) (num : Nat) (acc : List Rt) (stk : List (Nat × List Rt)) (iv ag : Value) (V : List Value) : Prop where
  wk : WkB W wb b (t : Int) depth true (num : Int) iv ag
  len : stk.length = V.length
  row : W.ownsRow B 97 2 ag stk.length (gcT stk V)
  now : OwnL W B (Free B ag (V ++ [iv])) iv acc
  old : ∀ (i : Nat) (e : Nat × List Rt) (v : Value), stk[i]? = some e → V[i]? = some v → OwnL W B (Free B ag (V ++ [iv])) v e.2
  ap : (V ++ [iv]).Pairwise Ap
structure KS (W : World) (B b wb : Nat) (s : ByteArray) (st : Bool) (t : Nat) (depth : Int) (k num : Nat) (acc : List Rt) (stk : List (Nat × List Rt)) : Prop where
  rd : RdAt W b s k st
  hb : b < B
  hw : wb < B
  hne : b ≠ wb
  hB : B ≤ W.heap.size
  mem : ∃ iv ag V, KM W B b wb t depth num acc stk iv ag V
end Go.Proofs.YtgbadnbhgpnppaaDoor
namespace Go.Proofs.YtgbadnbhgpnppaaDoor
open Go.RowKit

theorem KM.old_at {W : World} {B b wb t : Nat} {depth : Int} {num : Nat} {acc : List Rt} {stk : List (Nat × List Rt)} {iv ag : Value} {V : List Value} (h : KM W B b wb t depth num acc stk iv ag V) {v : Value} (hv : v ∈ V) : ∃ e, OwnL W B (Free B ag (V ++ [iv])) v e := by
  obtain ⟨i, hi, rfl⟩ := List.mem_iff_getElem.1 hv
  have hs : stk[i]? = some (stk[i]'(by rw [h.len]; exact hi)) := List.getElem?_eq_getElem _
  exact ⟨_, h.old i _ _ hs (List.getElem?_eq_getElem hi)⟩
theorem OwnL.lt {W : World} {B : Nat} {P : Nat → Prop} {v : Value} {ts : List Rt} (h : OwnL W B P v ts) : ∀ g, v.ownBlock = some g → B ≤ g ∧ g < W.heap.size := by
  obtain ⟨us, _, h2, _⟩ := h
  exact h2.lt
theorem OwnL.apart {W : World} {B n : Nat} {P : Nat → Prop} {v ag : Value} {ts : List Rt} {xs : List Value} (h : OwnL W B P v ts) (k : W.ownsRow B 97 2 ag n xs) : ∀ g, ag.ownBlock = some g → v.ownBlock ≠ some g := by
  obtain ⟨us, _, h2, _⟩ := h
  exact rows_apart k h2
/-- A record more in the row that is at hand. -/
theorem KM.push {W w : World} {B b wb t : Nat} {depth : Int} {num : Nat} {acc : List Rt} {stk : List (Nat × List Rt)} {iv ag v' u : Value} {V us : List Value} {r : Rt} (h : KM W B b wb t depth num acc stk iv ag V) (hb : b < B) (hw : wb < B) (l1 : acc.length = us.length) (l3 : ∀ (i : Nat) (t : Rt) (u : Value), acc[i]? = some t → us[i]? = some u → HasRt W (Free B ag (V ++ [iv])) u t.inner)
    (hwk : WkB w wb b (t : Int) depth true (num : Int) v' ag) (hrow : w.ownsRow B 55 5 v' (acc.length + 1) (rowC acc us ++ rcells r u)) (hF : Fr W w (fun q => q = b ∨ q = wb ∨ some q = iv.ownBlock)) (hblk : v'.ownBlock = iv.ownBlock ∨ ∃ g', v'.ownBlock = some g' ∧ W.heap.size ≤ g') (hu : HasRt w (Free B ag (V ++ [v'])) u r.inner) :
    KM w B b wb t depth num (acc ++ [r]) stk v' ag V := by
  have hap := List.pairwise_append.1 h.ap
  have hPQ : ∀ g, g < W.heap.size → Free B ag (V ++ [iv]) g → Free B ag (V ++ [v']) g ∧ w.heap[g]? = W.heap[g]? := by
    intro g hg hp
    have hiv : some g ≠ iv.ownBlock := hp.2.2 iv (by simp)
    refine ⟨⟨hp.1, hp.2.1, fun v hv => ?_⟩, hF.far g hg ?_⟩
    · rcases List.mem_append.1 hv with q | q
      · exact hp.2.2 v (by simp [q])
      · obtain rfl : v = v' := by simpa using q
        rcases hblk with q1 | ⟨g', q1, q2⟩
        · rw [q1]; exact hiv
        · rw [q1]; intro e; have := Option.some.inj e; omega
    · have := hp.1
      rintro (q | q | q)
      · omega
      · omega
      · exact hiv q
  refine ⟨hwk, h.len, row_keep h.row (fun q hq hn => hF.far q hq ?_), OwnL.push hPQ hF.size l1 l3 hrow hu, fun i e v hs hv => (h.old i e v hs hv).mono (fun q hq hn => hF.far q hq ?_) hPQ hF.size, ?_⟩
  · have := (h.row.lt q hn).1
    rintro (p | p | p)
    · omega
    · omega
    · exact h.now.apart h.row q hn p.symm
  · have := ((h.old i e v hs hv).lt q hn).1
    rintro (p | p | p)
    · omega
    · omega
    · rcases hap.2.2 v (List.mem_of_getElem? hv) iv (by simp) with z | z
      · rw [z] at hn; cases hn
      · exact z (hn.trans p)
  · refine List.pairwise_append.2 ⟨hap.1, by simp, fun a ha x hx => ?_⟩
    obtain rfl : x = v' := by simpa using hx
    rcases hblk with q1 | ⟨g', q1, q2⟩
    · rcases hap.2.2 a ha iv (by simp) with z | z
      · exact .inl z
      · exact .inr (by rw [q1]; exact z)
    · right
      intro e
      obtain ⟨ts, ho⟩ := h.old_at ha
      have := (ho.lt g' (e.trans q1)).2
      omega
/-- A group begins. -/
theorem KM.begin {W w : World} {B b wb t n : Nat} {depth : Int} {num : Nat} {acc : List Rt} {stk : List (Nat × List Rt)} {iv ag ag' : Value} {V : List Value} (h : KM W B b wb t depth num acc stk iv ag V) (hw : wb < B)
    (hwk : WkB w wb b (t : Int) depth true (n : Int) (.slice none 0 0) ag') (hrow : w.ownsRow B 97 2 ag' (stk.length + 1) (gcT stk V ++ [.int .i64 (num : Int), iv])) (hF : Fr W w (fun q => q = wb ∨ some q = ag.ownBlock)) (hblk : ag'.ownBlock = ag.ownBlock ∨ ∃ g', ag'.ownBlock = some g' ∧ W.heap.size ≤ g') :
    KM w B b wb t depth n [] (stk ++ [(num, acc)]) (.slice none 0 0) ag' (V ++ [iv]) := by
  have hPQ : ∀ g, g < W.heap.size → Free B ag (V ++ [iv]) g → Free B ag' (V ++ [iv] ++ [.slice none 0 0]) g ∧ w.heap[g]? = W.heap[g]? := by
    intro g hg hp
    refine ⟨⟨hp.1, ?_, fun v hv => ?_⟩, hF.far g hg ?_⟩
    · rcases hblk with q1 | ⟨g', q1, q2⟩
      · rw [q1]; exact hp.2.1
      · rw [q1]; intro e; have := Option.some.inj e; omega
    · rcases List.mem_append.1 hv with q | q
      · exact hp.2.2 v q
      · obtain rfl : v = .slice none 0 0 := by simpa using q
        simp [Value.ownBlock]
    · have := hp.1
      rintro (q | q)
      · omega
      · exact hp.2.1 q
  have hst : ∀ (v : Value) (ts : List Rt), OwnL W B (Free B ag (V ++ [iv])) v ts → OwnL w B (Free B ag' (V ++ [iv] ++ [.slice none 0 0])) v ts := fun v ts ho => ho.mono (fun q hq hn => hF.far q hq (by
    have := (ho.lt q hn).1
    rintro (p | p)
    · omega
    · exact ho.apart h.row q p.symm hn)) hPQ hF.size
  refine ⟨hwk, by simp [h.len], ?_, OwnL.nil _ _ _, fun i e v hs hv => ?_, ?_⟩
  · rw [gcT_push h.len, List.length_append, List.length_singleton]
    exact hrow
  · by_cases hi : i < stk.length
    · rw [List.getElem?_append_left hi] at hs
      rw [List.getElem?_append_left (by rw [← h.len]; exact hi)] at hv
      exact hst v e.2 (h.old i e v hs hv)
    · have hlt := (List.getElem?_eq_some_iff.1 hs).1
      rw [List.length_append, List.length_singleton] at hlt
      obtain rfl : i = stk.length := by omega
      rw [List.getElem?_append_right (Nat.le_refl _)] at hs
      rw [List.getElem?_append_right (by rw [h.len]; exact Nat.le_refl _)] at hv
      simp [h.len] at hs hv
      subst hs hv
      exact hst _ _ h.now
  · refine List.pairwise_append.2 ⟨h.ap, by simp, fun a _ x hx => ?_⟩
    obtain rfl : x = .slice none 0 0 := by simpa using hx
    by_cases q : a.ownBlock = none
    · exact .inl q
    · exact .inr q
/-- A group ends. -/
theorem KM.end {W w : World} {B b wb t n num1 : Nat} {depth : Int} {acc acc1 : List Rt} {stk : List (Nat × List Rt)} {iv ag ag' x v' : Value} {V us : List Value} (h : KM W B b wb t depth n acc (stk ++ [(num1, acc1)]) iv ag (V ++ [x])) (hw : wb < B) (hlen : stk.length = V.length) (l1 : acc1.length = us.length)
    (l3 : ∀ (i : Nat) (t : Rt) (u : Value), acc1[i]? = some t → us[i]? = some u → HasRt W (Free B ag (V ++ [x] ++ [iv])) u t.inner)
    (hwk : WkB w wb b (t : Int) depth true (num1 : Int) v' ag') (hag : ag'.ownBlock = ag.ownBlock) (hgr : w.ownsRow B 97 2 ag' stk.length (gcT stk V)) (hrow : w.ownsRow B 55 5 v' (acc1.length + 1) (rowC acc1 us ++ rcells (.mk n 3 0 .empty acc) iv)) (hF : Fr W w (fun q => q = wb ∨ some q = x.ownBlock)) (hblk : v'.ownBlock = x.ownBlock ∨ ∃ g', v'.ownBlock = some g' ∧ W.heap.size ≤ g') :
    KM w B b wb t depth num1 (acc1 ++ [.mk n 3 0 .empty acc]) stk v' ag' V := by
  have hap := List.pairwise_append.1 h.ap
  have hap2 := List.pairwise_append.1 hap.1
  have hPQ : ∀ g, g < W.heap.size → Free B ag (V ++ [x] ++ [iv]) g → Free B ag' (V ++ [v']) g ∧ w.heap[g]? = W.heap[g]? := by
    intro g hg hp
    have hx : some g ≠ x.ownBlock := hp.2.2 x (by simp)
    refine ⟨⟨hp.1, by rw [hag]; exact hp.2.1, fun v hv => ?_⟩, hF.far g hg ?_⟩
    · rcases List.mem_append.1 hv with q | q
      · exact hp.2.2 v (by simp [q])
      · obtain rfl : v = v' := by simpa using q
        rcases hblk with q1 | ⟨g', q1, q2⟩
        · rw [q1]; exact hx
        · rw [q1]; intro e; have := Option.some.inj e; omega
    · have := hp.1
      rintro (q | q)
      · omega
      · exact hx q
  have hxo : OwnL W B (Free B ag (V ++ [x] ++ [iv])) x acc1 := h.old stk.length (num1, acc1) x (by rw [List.getElem?_append_right (Nat.le_refl _)]; simp) (by rw [List.getElem?_append_right (by rw [hlen]; exact Nat.le_refl _), hlen]; simp)
  have hdone : HasRt w (Free B ag' (V ++ [v'])) iv acc := by
    have h1 : HasRt W (fun g => Free B ag (V ++ [x] ++ [iv]) g ∨ (iv.ownBlock = some g ∧ B ≤ g ∧ g < W.heap.size)) iv acc := h.now.done (fun g _ hp => .inl hp) (fun g q1 q2 q3 => .inr ⟨q1, q2, q3⟩)
    refine h1.mono (fun g hg hp => ?_) hF.size
    rcases hp with hp | ⟨p1, p2, p3⟩
    · exact hPQ g hg hp
    · have hxi : x.ownBlock ≠ some g := by
        rcases hap.2.2 x (by simp) iv (by simp) with z | z
        · rw [z]; simp
        · rw [← p1]; exact z
      refine ⟨⟨p2, ?_, fun v hv => ?_⟩, hF.far g hg ?_⟩
      · rw [hag]
        intro e
        exact h.now.apart h.row g e.symm p1
      · rcases List.mem_append.1 hv with q | q
        · rcases hap.2.2 v (by simp [q]) iv (by simp) with z | z
          · rw [z]; simp
          · rw [← p1]; exact fun e => z e.symm
        · obtain rfl : v = v' := by simpa using q
          rcases hblk with q1 | ⟨g', q1, q2⟩
          · rw [q1]; exact fun e => hxi e.symm
          · rw [q1]; intro e; have := Option.some.inj e; omega
      · rintro (q | q)
        · omega
        · exact hxi q.symm
  refine ⟨hwk, hlen, hgr, OwnL.push hPQ hF.size l1 l3 hrow hdone, fun i e v hs hv => ?_, ?_⟩
  · have hi := (List.getElem?_eq_some_iff.1 hs).1
    have ho := h.old i e v (by rw [List.getElem?_append_left hi]; exact hs) (by rw [List.getElem?_append_left (by rw [← hlen]; exact hi)]; exact hv)
    refine ho.mono (fun q hq hn => hF.far q hq ?_) hPQ hF.size
    have := (ho.lt q hn).1
    rintro (p | p)
    · omega
    · rcases hap2.2.2 v (List.mem_of_getElem? hv) x (by simp) with z | z
      · rw [z] at hn; cases hn
      · exact z (hn.trans p)
  · refine List.pairwise_append.2 ⟨hap2.1, by simp, fun a ha y hy => ?_⟩
    obtain rfl : y = v' := by simpa using hy
    rcases hblk with q1 | ⟨g', q1, q2⟩
    · rcases hap2.2.2 a ha x (by simp) with z | z
      · exact .inl z
      · exact .inr (by rw [q1]; exact z)
    · right
      intro e
      obtain ⟨ts, ho⟩ := h.old_at (v := a) (by simp [ha])
      have := (ho.lt g' (e.trans q1)).2
      omega
end Go.Proofs.YtgbadnbhgpnppaaDoor
