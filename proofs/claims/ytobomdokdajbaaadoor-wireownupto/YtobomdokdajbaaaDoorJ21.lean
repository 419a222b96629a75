import Derived.Test.YtobomdokdajbaaaDoorJ20
import Derived.Test.YtobomdokdajbaaaDoorJ20

namespace Go.Proofs.YtobomdokdajbaaaDoor
open Go.RowKit
attribute [local go_sem ↓] Go.wp_at_zero Go.wp_at_succ

/-- The cells of a record. -/
def rcells (r : Rt) (u : Value) : List Value := match r with | .mk n kd x t _ => [.int .i64 (n : Int), .int .i64 (kd : Int), .int .i64 x, .string t, u]
/-- What the take of a record that is no group does. -/
def TkK (W : World) (B b wb : Nat) (s : ByteArray) (k : Nat) (st : Bool) (tag depth num0 : Int) (iv ag : Value) (m : Nat) (xs : List Value) (e : Ending) (w : World) : (Rt × Nat) ⊕ Nat → Prop
  | .inl (r, k') => e = .returned (.int .i64 0) ∧ RdAt w b s k' st ∧ ∃ v', WkB w wb b tag depth true num0 v' ag ∧ w.ownsRow B 35 5 v' (m + 1) (xs ++ rcells r (.slice none 0 0)) ∧ Fr W w (fun q => q = b ∨ q = wb ∨ some q = iv.ownBlock) ∧ (v'.ownBlock = iv.ownBlock ∨ ∃ g', v'.ownBlock = some g' ∧ W.heap.size ≤ g')
  | .inr c => e = .returned (.int .i64 (c : Int)) ∧ c ≠ 0 ∧ RdAt w b s k st ∧ Fr W w (fun q => q = b ∨ q = wb ∨ some q = iv.ownBlock)
theorem Upd.fr {W w : World} {b : Nat} {o : Obj} {X : Nat → Prop} (h : Upd W b o w) (hb : X b) : Fr W w X := ⟨h.os, h.tape, h.output, h.size, fun q hq hn => h.far q hq (fun e => hn (by rw [e]; exact hb))⟩
set_option maxRecDepth 100000 in
set_option maxHeartbeats 2000000 in
theorem take0_keep {W : World} {B b wb m vc : Nat} {va : Option Addr} {s : ByteArray} {k n : Nat} {st : Bool} {tag depth num0 : Int} {ag : Value} {xs : List Value} (h : RdAt W b s k st) (hk : k ≤ s.size) (hs : s.size ≤ 1048576) (hw : WkB W wb b tag depth true num0 (.slice va m vc) ag) (hrow : W.ownsRow B 35 5 (.slice va m vc) m xs) (hbB : b < B) (hwB : wb < B) (hBW : B ≤ W.heap.size) (hm : m ≤ 1048576) :
    Calls Tryd.prog 74 #[.pointer (some ⟨wb, 0, none⟩), .int .i64 (n : Int)] W fun e W' => TkK W B b wb s k st tag depth num0 (.slice va m vc) ag m xs e W' (numT n 0 (vAt s st k)) := by
  obtain ⟨c0, c1, c2, c3, c4, c5, c6, f1⟩ := walk_cells hw
  have hne : wb ≠ b := fun e => by subst e; unfold RdAt at h; unfold WkB at hw; rw [h] at hw; cases hw
  have hva := rVarint_any h hk hs
  obtain ⟨R, hR⟩ : ∃ R, vAt s st k = R := ⟨_, rfl⟩
  rw [hR] at hva ⊢
  have Hva := hide hva
  have Hh := hide h
  have Hw := hide hw
  have Hrow := hide hrow
  clear hva h hR hw hrow
  cases R with
  | inr c =>
    go_enter Tryd.func74, Tryd.ntmps74
    go_wp2_with fail
    refine (unhide Hva).mono ?_
    rintro e w1 ⟨rfl, hc, hw1'⟩
    have hU : Upd W b (.cells #[.string s, .int .i64 (k : Int), .bool st] 78 (0, 0)) w1 := by obtain ⟨m, rfl⟩ := hw1'; exact upd_same (unhide Hh) m
    have hw1 : WkAt w1 wb b tag depth num0 (.slice va m vc) ag := (hU.far wb (Array.getElem?_eq_some_iff.1 (unhide Hw)).1 hne).trans (unhide Hw)
    have Hw1 := hide hw1
    have HU := hide hU
    clear hw1 hU hw1' Hva
    go_wp2_with fail
    refine (add_err (unhide Hw1) hc).mono ?_
    rintro e w2 ⟨rfl, hb⟩
    have HU2 := hide ((unhide HU).below' hb)
    clear hb
    go_wp2
    go_ret
    exact ⟨rfl, hc, (unhide HU2).at', (unhide HU2).fr (.inl rfl)⟩
  | inl p =>
    obtain ⟨u, k'⟩ := p
    go_enter Tryd.func74, Tryd.ntmps74
    go_wp2_with fail
    refine (unhide Hva).mono ?_
    rintro e w1 ⟨rfl, hU⟩
    have hw1 : WkB w1 wb b tag depth true num0 (.slice va m vc) ag := (hU.far wb (Array.getElem?_eq_some_iff.1 (unhide Hw)).1 hne).trans (unhide Hw)
    have hr1 := rowUpd (unhide Hrow) hU hbB
    have Hw1 := hide hw1
    have Hr1 := hide hr1
    have HU := hide hU
    have hBW1 : B ≤ w1.heap.size := Nat.le_trans hBW hU.size
    clear hw1 hU Hva hr1
    obtain ⟨wu, hwu⟩ : ∃ wu, wrap64 (u : Int) = wu := ⟨_, rfl⟩
    rw [hwu]
    have Hwu := hide hwu
    clear hwu
    go_wp2_with fail
    refine (add_keep (unhide Hw1) (unhide Hr1) hwB hBW1 hm).mono ?_
    rintro e w2 ⟨rfl, v', hfin⟩
    have Hfin := hide hfin
    clear hfin
    go_wp2
    go_ret
    obtain ⟨q1, q2, q3⟩ := unhide Hfin
    rw [← unhide Hwu] at q2
    have hU := unhide HU
    refine ⟨rfl, ?_, v', q1, q2, (hU.fr (.inl rfl)).trans (q3.fr.wide fun q _ x => .inr x), ?_⟩
    · exact (q3.far b (Array.getElem?_eq_some_iff.1 hU.at').1 (fun e => hne e.symm) (fun e => by have := ((unhide Hr1).lt b e.symm).1; omega)).trans hU.at'
    · rcases q3.blk with q | ⟨g', q4, q5⟩
      · exact .inl q
      · exact .inr ⟨g', q4, Nat.le_trans hU.size q5⟩
set_option maxRecDepth 100000 in
set_option maxHeartbeats 2000000 in
theorem take1_keep {W : World} {B b wb m vc : Nat} {va : Option Addr} {s : ByteArray} {k n : Nat} {st : Bool} {tag depth num0 : Int} {ag : Value} {xs : List Value} (h : RdAt W b s k st) (hk : k ≤ s.size) (hs : s.size ≤ 1048576) (hw : WkB W wb b tag depth true num0 (.slice va m vc) ag) (hrow : W.ownsRow B 35 5 (.slice va m vc) m xs) (hbB : b < B) (hwB : wb < B) (hBW : B ≤ W.heap.size) (hm : m ≤ 1048576) :
    Calls Tryd.prog 79 #[.pointer (some ⟨wb, 0, none⟩), .int .i64 (n : Int)] W fun e W' => TkK W B b wb s k st tag depth num0 (.slice va m vc) ag m xs e W' (numT n 1 (xAt s k 8)) := by
  obtain ⟨c0, c1, c2, c3, c4, c5, c6, f1⟩ := walk_cells hw
  have hne : wb ≠ b := fun e => by subst e; unfold RdAt at h; unfold WkB at hw; rw [h] at hw; cases hw
  have hva := rFixed_any h hs hk (.inr rfl)
  obtain ⟨R, hR⟩ : ∃ R, xAt s k 8 = R := ⟨_, rfl⟩
  rw [hR] at hva ⊢
  have Hva := hide hva
  have Hh := hide h
  have Hw := hide hw
  have Hrow := hide hrow
  clear hva h hR hw hrow
  cases R with
  | inr c =>
    go_enter Tryd.func79, Tryd.ntmps79
    go_wp2_with fail
    refine (unhide Hva).mono ?_
    rintro e w1 ⟨rfl, hc, hw1'⟩
    have hU : Upd W b (.cells #[.string s, .int .i64 (k : Int), .bool st] 78 (0, 0)) w1 := by obtain ⟨m, rfl⟩ := hw1'; exact upd_same (unhide Hh) m
    have hw1 : WkAt w1 wb b tag depth num0 (.slice va m vc) ag := (hU.far wb (Array.getElem?_eq_some_iff.1 (unhide Hw)).1 hne).trans (unhide Hw)
    have Hw1 := hide hw1
    have HU := hide hU
    clear hw1 hU hw1' Hva
    go_wp2_with fail
    refine (add_err (unhide Hw1) hc).mono ?_
    rintro e w2 ⟨rfl, hb⟩
    have HU2 := hide ((unhide HU).below' hb)
    clear hb
    go_wp2
    go_ret
    exact ⟨rfl, hc, (unhide HU2).at', (unhide HU2).fr (.inl rfl)⟩
  | inl p =>
    obtain ⟨u, k'⟩ := p
    go_enter Tryd.func79, Tryd.ntmps79
    go_wp2_with fail
    refine (unhide Hva).mono ?_
    rintro e w1 ⟨rfl, hU⟩
    have hw1 : WkB w1 wb b tag depth true num0 (.slice va m vc) ag := (hU.far wb (Array.getElem?_eq_some_iff.1 (unhide Hw)).1 hne).trans (unhide Hw)
    have hr1 := rowUpd (unhide Hrow) hU hbB
    have Hw1 := hide hw1
    have Hr1 := hide hr1
    have HU := hide hU
    have hBW1 : B ≤ w1.heap.size := Nat.le_trans hBW hU.size
    clear hw1 hU Hva hr1
    obtain ⟨wu, hwu⟩ : ∃ wu, wrap64 (u : Int) = wu := ⟨_, rfl⟩
    rw [hwu]
    have Hwu := hide hwu
    clear hwu
    go_wp2_with fail
    refine (add_keep (unhide Hw1) (unhide Hr1) hwB hBW1 hm).mono ?_
    rintro e w2 ⟨rfl, v', hfin⟩
    have Hfin := hide hfin
    clear hfin
    go_wp2
    go_ret
    obtain ⟨q1, q2, q3⟩ := unhide Hfin
    rw [← unhide Hwu] at q2
    have hU := unhide HU
    refine ⟨rfl, ?_, v', q1, q2, (hU.fr (.inl rfl)).trans (q3.fr.wide fun q _ x => .inr x), ?_⟩
    · exact (q3.far b (Array.getElem?_eq_some_iff.1 hU.at').1 (fun e => hne e.symm) (fun e => by have := ((unhide Hr1).lt b e.symm).1; omega)).trans hU.at'
    · rcases q3.blk with q | ⟨g', q4, q5⟩
      · exact .inl q
      · exact .inr ⟨g', q4, Nat.le_trans hU.size q5⟩
set_option maxRecDepth 100000 in
set_option maxHeartbeats 2000000 in
theorem take5_keep {W : World} {B b wb m vc : Nat} {va : Option Addr} {s : ByteArray} {k n : Nat} {st : Bool} {tag depth num0 : Int} {ag : Value} {xs : List Value} (h : RdAt W b s k st) (hk : k ≤ s.size) (hs : s.size ≤ 1048576) (hw : WkB W wb b tag depth true num0 (.slice va m vc) ag) (hrow : W.ownsRow B 35 5 (.slice va m vc) m xs) (hbB : b < B) (hwB : wb < B) (hBW : B ≤ W.heap.size) (hm : m ≤ 1048576) :
    Calls Tryd.prog 92 #[.pointer (some ⟨wb, 0, none⟩), .int .i64 (n : Int)] W fun e W' => TkK W B b wb s k st tag depth num0 (.slice va m vc) ag m xs e W' (numT n 5 (xAt s k 4)) := by
  obtain ⟨c0, c1, c2, c3, c4, c5, c6, f1⟩ := walk_cells hw
  have hne : wb ≠ b := fun e => by subst e; unfold RdAt at h; unfold WkB at hw; rw [h] at hw; cases hw
  have hva := rFixed_any h hs hk (.inl rfl)
  obtain ⟨R, hR⟩ : ∃ R, xAt s k 4 = R := ⟨_, rfl⟩
  rw [hR] at hva ⊢
  have Hva := hide hva
  have Hh := hide h
  have Hw := hide hw
  have Hrow := hide hrow
  clear hva h hR hw hrow
  cases R with
  | inr c =>
    go_enter Tryd.func92, Tryd.ntmps92
    go_wp2_with fail
    refine (unhide Hva).mono ?_
    rintro e w1 ⟨rfl, hc, hw1'⟩
    have hU : Upd W b (.cells #[.string s, .int .i64 (k : Int), .bool st] 78 (0, 0)) w1 := by obtain ⟨m, rfl⟩ := hw1'; exact upd_same (unhide Hh) m
    have hw1 : WkAt w1 wb b tag depth num0 (.slice va m vc) ag := (hU.far wb (Array.getElem?_eq_some_iff.1 (unhide Hw)).1 hne).trans (unhide Hw)
    have Hw1 := hide hw1
    have HU := hide hU
    clear hw1 hU hw1' Hva
    go_wp2_with fail
    refine (add_err (unhide Hw1) hc).mono ?_
    rintro e w2 ⟨rfl, hb⟩
    have HU2 := hide ((unhide HU).below' hb)
    clear hb
    go_wp2
    go_ret
    exact ⟨rfl, hc, (unhide HU2).at', (unhide HU2).fr (.inl rfl)⟩
  | inl p =>
    obtain ⟨u, k'⟩ := p
    go_enter Tryd.func92, Tryd.ntmps92
    go_wp2_with fail
    refine (unhide Hva).mono ?_
    rintro e w1 ⟨rfl, hU⟩
    have hw1 : WkB w1 wb b tag depth true num0 (.slice va m vc) ag := (hU.far wb (Array.getElem?_eq_some_iff.1 (unhide Hw)).1 hne).trans (unhide Hw)
    have hr1 := rowUpd (unhide Hrow) hU hbB
    have Hw1 := hide hw1
    have Hr1 := hide hr1
    have HU := hide hU
    have hBW1 : B ≤ w1.heap.size := Nat.le_trans hBW hU.size
    clear hw1 hU Hva hr1
    obtain ⟨wu, hwu⟩ : ∃ wu, wrap64 (u : Int) = wu := ⟨_, rfl⟩
    rw [hwu]
    have Hwu := hide hwu
    clear hwu
    go_wp2_with fail
    refine (add_keep (unhide Hw1) (unhide Hr1) hwB hBW1 hm).mono ?_
    rintro e w2 ⟨rfl, v', hfin⟩
    have Hfin := hide hfin
    clear hfin
    go_wp2
    go_ret
    obtain ⟨q1, q2, q3⟩ := unhide Hfin
    rw [← unhide Hwu] at q2
    have hU := unhide HU
    refine ⟨rfl, ?_, v', q1, q2, (hU.fr (.inl rfl)).trans (q3.fr.wide fun q _ x => .inr x), ?_⟩
    · exact (q3.far b (Array.getElem?_eq_some_iff.1 hU.at').1 (fun e => hne e.symm) (fun e => by have := ((unhide Hr1).lt b e.symm).1; omega)).trans hU.at'
    · rcases q3.blk with q | ⟨g', q4, q5⟩
      · exact .inl q
      · exact .inr ⟨g', q4, Nat.le_trans hU.size q5⟩
set_option maxRecDepth 100000 in
set_option maxHeartbeats 2000000 in
theorem take2_keep {W : World} {B b wb m vc : Nat} {va : Option Addr} {s : ByteArray} {k n : Nat} {st : Bool} {tag depth num0 : Int} {ag : Value} {xs : List Value} (h : RdAt W b s k st) (hk : k ≤ s.size) (hs : s.size ≤ 1048576) (hw : WkB W wb b tag depth true num0 (.slice va m vc) ag) (hrow : W.ownsRow B 35 5 (.slice va m vc) m xs) (hbB : b < B) (hwB : wb < B) (hBW : B ≤ W.heap.size) (hm : m ≤ 1048576) :
    Calls Tryd.prog 83 #[.pointer (some ⟨wb, 0, none⟩), .int .i64 (n : Int)] W fun e W' => TkK W B b wb s k st tag depth num0 (.slice va m vc) ag m xs e W' (texT n (tAt s st k)) := by
  obtain ⟨c0, c1, c2, c3, c4, c5, c6, f1⟩ := walk_cells hw
  have hne : wb ≠ b := fun e => by subst e; unfold RdAt at h; unfold WkB at hw; rw [h] at hw; cases hw
  have hva := rText_any h hk hs
  obtain ⟨R, hR⟩ : ∃ R, tAt s st k = R := ⟨_, rfl⟩
  rw [hR] at hva ⊢
  have Hva := hide hva
  have Hh := hide h
  have Hw := hide hw
  have Hrow := hide hrow
  clear hva h hR hw hrow
  cases R with
  | inr c =>
    go_enter Tryd.func83, Tryd.ntmps83
    go_wp2_with fail
    refine (unhide Hva).mono ?_
    rintro e w1 ⟨rfl, hc, hw1'⟩
    have hU : Upd W b (.cells #[.string s, .int .i64 (k : Int), .bool st] 78 (0, 0)) w1 := hw1'
    have hw1 : WkAt w1 wb b tag depth num0 (.slice va m vc) ag := (hU.far wb (Array.getElem?_eq_some_iff.1 (unhide Hw)).1 hne).trans (unhide Hw)
    have Hw1 := hide hw1
    have HU := hide hU
    clear hw1 hU hw1' Hva
    go_wp2_with fail
    refine (add_err (unhide Hw1) hc).mono ?_
    rintro e w2 ⟨rfl, hb⟩
    have HU2 := hide ((unhide HU).below' hb)
    clear hb
    go_wp2
    go_ret
    exact ⟨rfl, hc, (unhide HU2).at', (unhide HU2).fr (.inl rfl)⟩
  | inl p =>
    obtain ⟨u, k'⟩ := p
    go_enter Tryd.func83, Tryd.ntmps83
    go_wp2_with fail
    refine (unhide Hva).mono ?_
    rintro e w1 ⟨rfl, hU⟩
    have hw1 : WkB w1 wb b tag depth true num0 (.slice va m vc) ag := (hU.far wb (Array.getElem?_eq_some_iff.1 (unhide Hw)).1 hne).trans (unhide Hw)
    have hr1 := rowUpd (unhide Hrow) hU hbB
    have Hw1 := hide hw1
    have Hr1 := hide hr1
    have HU := hide hU
    have hBW1 : B ≤ w1.heap.size := Nat.le_trans hBW hU.size
    clear hw1 hU Hva hr1
    go_wp2_with fail
    refine (add_keep (unhide Hw1) (unhide Hr1) hwB hBW1 hm).mono ?_
    rintro e w2 ⟨rfl, v', hfin⟩
    have Hfin := hide hfin
    clear hfin
    go_wp2
    go_ret
    obtain ⟨q1, q2, q3⟩ := unhide Hfin
    have hU := unhide HU
    refine ⟨rfl, ?_, v', q1, q2, (hU.fr (.inl rfl)).trans (q3.fr.wide fun q _ x => .inr x), ?_⟩
    · exact (q3.far b (Array.getElem?_eq_some_iff.1 hU.at').1 (fun e => hne e.symm) (fun e => by have := ((unhide Hr1).lt b e.symm).1; omega)).trans hU.at'
    · rcases q3.blk with q | ⟨g', q4, q5⟩
      · exact .inl q
      · exact .inr ⟨g', q4, Nat.le_trans hU.size q5⟩
end Go.Proofs.YtobomdokdajbaaaDoor

namespace Go.Proofs.YtobomdokdajbaaaDoor
open Go.RowKit

/-- Records that can be read, in blocks of P. -/
inductive HasRt (W : World) (P : Nat → Prop) : Value → List Rt → Prop
  | nil (a : Option Addr) (c : Nat) : HasRt W P (.slice a 0 c) []
  | row (g n c : Nat) (ts : List Rt) (us : Nat → Value) (hP : P g) (hn : ts.length = n) (hm : n ≤ maxLen) (hg : g < W.heap.size) (hc : ∀ (i : Nat) (t : Rt), ts[i]? = some t → ∀ (j : Nat) (x : Value), (rcells t (us i))[j]? = some x → W.cell? ⟨g, i * 5 + j, none⟩ = some x) (hi : ∀ (i : Nat) (t : Rt), ts[i]? = some t → HasRt W P (us i) t.inner) : HasRt W P (.slice (some ⟨g, 0, none⟩) n c) ts
theorem HasRt.mono {W w : World} {P Q : Nat → Prop} (hP : ∀ g, g < W.heap.size → P g → Q g ∧ w.heap[g]? = W.heap[g]?) (hz : W.heap.size ≤ w.heap.size) {v : Value} {ts : List Rt} (h : HasRt W P v ts) : HasRt w Q v ts := by
  induction h with
  | nil a c => exact .nil a c
  | row g n c ts us hp hn hm hg hc hi ih =>
    refine .row g n c ts us (hP g hg hp).1 hn hm (Nat.lt_of_lt_of_le hg hz) (fun i t ht j x hx => ?_) ih
    rw [← hc i t ht j x hx]
    unfold World.cell?
    rw [(hP g hg hp).2]
/-- The cells of records. -/
def rowC (ts : List Rt) (us : List Value) : List Value := (List.zipWith rcells ts us).flatten
theorem rcells_len (r : Rt) (u : Value) : (rcells r u).length = 5 := by cases r; rfl
theorem rowC_at : ∀ (ts : List Rt) (us : List Value) (i j : Nat) (t : Rt) (u x : Value), ts[i]? = some t → us[i]? = some u → (rcells t u)[j]? = some x → (rowC ts us)[i * 5 + j]? = some x
  | [], us, i, j, t, u, x, h1, h2, h3 => by simp at h1
  | r :: ts, [], i, j, t, u, x, h1, h2, h3 => by simp at h2
  | r :: ts, v :: us, 0, j, t, u, x, h1, h2, h3 => by
    simp at h1 h2
    subst h1 h2
    show (rcells r v ++ rowC ts us)[0 * 5 + j]? = some x
    rw [Nat.zero_mul, Nat.zero_add, List.getElem?_append_left (List.getElem?_eq_some_iff.1 h3).1]
    exact h3
  | r :: ts, v :: us, i + 1, j, t, u, x, h1, h2, h3 => by
    simp at h1 h2
    show (rcells r v ++ rowC ts us)[(i + 1) * 5 + j]? = some x
    rw [List.getElem?_append_right (by rw [rcells_len]; omega), rcells_len, show (i + 1) * 5 + j - 5 = i * 5 + j by omega]
    exact rowC_at ts us i j t u x h1 h2 h3
theorem rowC_push {ts : List Rt} {us : List Value} (h : ts.length = us.length) (t : Rt) (u : Value) : rowC (ts ++ [t]) (us ++ [u]) = rowC ts us ++ rcells t u := by
  unfold rowC
  rw [List.zipWith_append h]
  simp
/-- Records of one's own: the row may grow, what lies in them is done. -/
def OwnL (W : World) (B : Nat) (P : Nat → Prop) (v : Value) (ts : List Rt) : Prop := ∃ us : List Value, ts.length = us.length ∧ W.ownsRow B 35 5 v ts.length (rowC ts us) ∧ ∀ (i : Nat) (t : Rt) (u : Value), ts[i]? = some t → us[i]? = some u → HasRt W P u t.inner
theorem OwnL.nil (W : World) (B : Nat) (P : Nat → Prop) : OwnL W B P (.slice none 0 0) [] := ⟨[], rfl, World.ownsRow_nil _ _ _ _, fun i t u h => by simp at h⟩
theorem OwnL.mono {W w : World} {B : Nat} {P Q : Nat → Prop} {v : Value} {ts : List Rt} (hf : ∀ q, q < W.heap.size → v.ownBlock = some q → w.heap[q]? = W.heap[q]?) (hP : ∀ g, g < W.heap.size → P g → Q g ∧ w.heap[g]? = W.heap[g]?) (hz : W.heap.size ≤ w.heap.size) (h : OwnL W B P v ts) : OwnL w B Q v ts := by
  obtain ⟨us, h1, h2, h3⟩ := h
  exact ⟨us, h1, row_keep h2 hf, fun i t u ht hu => (h3 i t u ht hu).mono hP hz⟩
/-- A record more. -/
theorem OwnL.push {W w : World} {B : Nat} {P Q : Nat → Prop} {v' : Value} {ts : List Rt} {us : List Value} {r : Rt} {u : Value} (hP : ∀ g, g < W.heap.size → P g → Q g ∧ w.heap[g]? = W.heap[g]?) (hz : W.heap.size ≤ w.heap.size) (h1 : ts.length = us.length) (h3 : ∀ (i : Nat) (t : Rt) (u : Value), ts[i]? = some t → us[i]? = some u → HasRt W P u t.inner) (h : w.ownsRow B 35 5 v' (ts.length + 1) (rowC ts us ++ rcells r u)) (hu : HasRt w Q u r.inner) : OwnL w B Q v' (ts ++ [r]) := by
  refine ⟨us ++ [u], by simp [h1], ?_, fun i t x ht hx => ?_⟩
  · rw [rowC_push h1, List.length_append, List.length_singleton]
    exact h
  · by_cases hi : i < ts.length
    · rw [List.getElem?_append_left hi] at ht
      rw [List.getElem?_append_left (by omega)] at hx
      exact (h3 i t x ht hx).mono hP hz
    · have hlt := (List.getElem?_eq_some_iff.1 ht).1
      rw [List.length_append, List.length_singleton] at hlt
      obtain rfl : i = ts.length := by omega
      rw [List.getElem?_append_right (Nat.le_refl _)] at ht
      rw [List.getElem?_append_right (by omega)] at hx
      simp [h1] at ht hx
      subst ht hx
      exact hu
/-- What is done. -/
theorem OwnL.done {W : World} {B : Nat} {P Q : Nat → Prop} {v : Value} {ts : List Rt} (h : OwnL W B P v ts) (hP : ∀ g, g < W.heap.size → P g → Q g) (hv : ∀ g, v.ownBlock = some g → B ≤ g → g < W.heap.size → Q g) : HasRt W Q v ts := by
  obtain ⟨us, h1, h2, h3⟩ := h
  have h2' := h2
  obtain ⟨hl, ⟨rfl, h0⟩ | ⟨g, c, cur, rfl, hb, hg, hn, hm, hs, ht⟩⟩ := h2
  · obtain rfl := List.eq_nil_of_length_eq_zero h0
    exact .nil _ _
  · have hgl := (Array.getElem?_eq_some_iff.1 hg).1
    refine .row g ts.length c ts (fun i => (us[i]?).getD (.slice none 0 0)) (hv g rfl hb hgl) rfl (Nat.le_trans hn hm) hgl (fun i t hti j x hx => ?_) (fun i t hti => ?_)
    · have hi := (List.getElem?_eq_some_iff.1 hti).1
      have hu : us[i]? = some us[i] := List.getElem?_eq_getElem (by omega)
      simp only [hu, Option.getD_some] at hx
      have := h2'.cells (g := g) rfl (i * 5 + j) x (rowC_at ts us i j t _ x hti hu hx)
      rwa [Go.WideShapes.add_plain, Nat.zero_add] at this
    · have hi := (List.getElem?_eq_some_iff.1 hti).1
      have hu : us[i]? = some us[i] := List.getElem?_eq_getElem (by omega)
      simp only [hu, Option.getD_some]
      exact (h3 i t _ hti hu).mono (fun g hg hp => ⟨hP g hg hp, rfl⟩) (Nat.le_refl _)
/-- Records in rows of one's own, all of them; the blocks in which they lie. -/
inductive HasRo (W : World) (B : Nat) : Value → List Rt → List Nat → Prop
  | row {v : Value} {ts : List Rt} {us : List Value} {bls : List (List Nat)} (hl : ts.length = us.length) (hb : us.length = bls.length) (h : W.ownsRow B 35 5 v ts.length (rowC ts us)) (hi : ∀ (i : Nat) (t : Rt) (u : Value) (bl : List Nat), ts[i]? = some t → us[i]? = some u → bls[i]? = some bl → HasRo W B u t.inner bl) : HasRo W B v ts (v.ownBlock.toList ++ bls.flatten)
theorem HasRo.nil (W : World) (B : Nat) : HasRo W B (.slice none 0 0) [] [] := HasRo.row (us := []) (bls := []) rfl rfl (World.ownsRow_nil _ _ _ _) (fun i t u bl h => by simp at h)
theorem flat_mem {α : Type} {L : List (List α)} {x : α} (h : x ∈ L.flatten) : ∃ (i : Nat) (l : List α), L[i]? = some l ∧ x ∈ l := by
  obtain ⟨l, hl, hx⟩ := List.mem_flatten.1 h
  obtain ⟨i, hi, rfl⟩ := List.mem_iff_getElem.1 hl
  exact ⟨i, _, List.getElem?_eq_getElem hi, hx⟩
theorem mem_flat {α : Type} {L : List (List α)} {x : α} {i : Nat} {l : List α} (h : L[i]? = some l) (hx : x ∈ l) : x ∈ L.flatten := List.mem_flatten.2 ⟨l, List.mem_of_getElem? h, hx⟩
theorem HasRo.at {W : World} {B : Nat} {v : Value} {ts : List Rt} {bl : List Nat} (h : HasRo W B v ts bl) : ∀ g ∈ bl, B ≤ g ∧ g < W.heap.size ∧ ∃ cur : Array Value, W.heap[g]? = some (.cells cur 35 (0, 0)) := by
  induction h with
  | @row v ts us bls hl hb h hi ih =>
    intro g hg
    rcases List.mem_append.1 hg with q | q
    · have e : v.ownBlock = some g := by cases hv : v.ownBlock with | none => rw [hv] at q; simp at q | some z => rw [hv] at q; simp at q; rw [q]
      refine ⟨(h.lt g e).1, (h.lt g e).2, ?_⟩
      obtain ⟨-, ⟨rfl, -⟩ | ⟨g', c, cur, rfl, -, h3, -⟩⟩ := h
      · cases e
      · obtain rfl : g' = g := by simpa [Value.ownBlock] using e
        exact ⟨cur, h3⟩
    · obtain ⟨i, l, h1, h2⟩ := flat_mem q
      have hlt := (List.getElem?_eq_some_iff.1 h1).1
      exact ih i _ _ l (List.getElem?_eq_getElem (by omega)) (List.getElem?_eq_getElem (by omega)) h1 g h2
theorem HasRo.mono {W w : World} {B : Nat} {v : Value} {ts : List Rt} {bl : List Nat} (h : HasRo W B v ts bl) (hf : ∀ g ∈ bl, w.heap[g]? = W.heap[g]?) : HasRo w B v ts bl := by
  induction h with
  | @row v ts us bls hl hb h hi ih =>
    refine HasRo.row hl hb (row_keep h (fun q _ e => hf q (List.mem_append_left _ (by rw [e]; simp)))) (fun i t u l ht hu hbl => ih i t u l ht hu hbl (fun g hg => hf g (List.mem_append_right _ (mem_flat hbl hg))))
theorem HasRo.lower {W : World} {B B' : Nat} (hB : B' ≤ B) {v : Value} {ts : List Rt} {bl : List Nat} (h : HasRo W B v ts bl) : HasRo W B' v ts bl := by
  induction h with
  | @row v ts us bls hl hb h hi ih =>
    refine HasRo.row hl hb ⟨h.1, ?_⟩ ih
    rcases h.2 with h1 | ⟨g', cap, cur, e, hb1, rest⟩
    · exact .inl h1
    · exact .inr ⟨g', cap, cur, e, Nat.le_trans hB hb1, rest⟩
theorem own_eq {W : World} {B e size n : Nat} {v : Value} {xs ys : List Value} (h : W.ownsRow B e size v n xs) (k : W.ownsRow B e size v n ys) : xs = ys := by
  obtain ⟨h1, ⟨rfl, rfl⟩ | ⟨g, c, cur, rfl, -, h3, -, -, -, h7⟩⟩ := h
  · have := k.1
    rw [List.eq_nil_of_length_eq_zero (by omega : xs.length = 0), List.eq_nil_of_length_eq_zero (by omega : ys.length = 0)]
  · obtain ⟨k1, ⟨k2, -⟩ | ⟨g', c', cur', e, -, k3, -, -, -, k7⟩⟩ := k
    · cases k2
    · injection e with e1
      obtain rfl := congrArg Addr.block (Option.some.inj e1)
      rw [h3] at k3
      simp at k3
      subst k3
      exact h7.symm.trans k7
theorem rowC_inj : ∀ {ts : List Rt} {us us' : List Value}, ts.length = us.length → ts.length = us'.length → rowC ts us = rowC ts us' → us = us'
  | [], [], [], _, _, _ => rfl
  | [], [], _ :: _, _, h, _ => by simp at h
  | [], _ :: _, _, h, _, _ => by simp at h
  | _ :: _, [], _, h, _, _ => by simp at h
  | _ :: _, _ :: _, [], _, h, _ => by simp at h
  | t :: ts, u :: us, u' :: us', h, k, e => by
    have e' : rcells t u ++ rowC ts us = rcells t u' ++ rowC ts us' := e
    have e1 := List.append_inj e' (by rw [rcells_len, rcells_len])
    have e2 : u = u' := by
      have := e1.1
      cases t
      simpa [rcells] using this
    rw [e2, rowC_inj (by simpa using h) (by simpa using k) e1.2]
/-- Rows beside one another. -/
inductive LinR (W : World) (B : Nat) : List Value → List (List Rt) → List Nat → Prop
  | nil : LinR W B [] [] []
  | cons {v : Value} {ts : List Rt} {bl : List Nat} {vs : List Value} {tss : List (List Rt)} {L : List Nat} (h : HasRo W B v ts bl) (k : LinR W B vs tss L) : LinR W B (v :: vs) (ts :: tss) (bl ++ L)
theorem LinR.app {W : World} {B : Nat} {vs vs' : List Value} {tss tss' : List (List Rt)} {L L' : List Nat} (h : LinR W B vs tss L) (k : LinR W B vs' tss' L') : LinR W B (vs ++ vs') (tss ++ tss') (L ++ L') := by
  induction h with
  | nil => exact k
  | cons h _ ih => rw [List.append_assoc]; exact .cons h ih
theorem LinR.split {W : World} {B : Nat} : ∀ {vs vs' : List Value} {tss tss' : List (List Rt)} {L : List Nat}, tss.length = vs.length → LinR W B (vs ++ vs') (tss ++ tss') L → ∃ L1 L2, L = L1 ++ L2 ∧ LinR W B vs tss L1 ∧ LinR W B vs' tss' L2
  | [], vs', [], tss', L, _, h => ⟨[], L, rfl, .nil, h⟩
  | [], _, _ :: _, _, _, hl, _ => by simp at hl
  | _ :: _, _, [], _, _, hl, _ => by simp at hl
  | v :: vs, vs', ts :: tss, tss', L, hl, h => by
    cases h with
    | cons h k =>
      obtain ⟨L1, L2, rfl, h1, h2⟩ := LinR.split (by simpa using hl) k
      exact ⟨_, L2, (List.append_assoc _ _ _).symm, .cons h h1, h2⟩
theorem LinR.one {W : World} {B : Nat} {v : Value} {ts : List Rt} {L : List Nat} (h : LinR W B [v] [ts] L) : HasRo W B v ts L := by
  cases h with
  | cons h k => cases k with | nil => rw [List.append_nil]; exact h
theorem LinR.mk {W : World} {B : Nat} {v : Value} {ts : List Rt} {L : List Nat} (h : HasRo W B v ts L) : LinR W B [v] [ts] L := by
  have := LinR.cons h (LinR.nil (W := W) (B := B))
  rwa [List.append_nil] at this
theorem LinR.mono {W w : World} {B : Nat} {vs : List Value} {tss : List (List Rt)} {L : List Nat} (h : LinR W B vs tss L) (hf : ∀ g ∈ L, w.heap[g]? = W.heap[g]?) : LinR w B vs tss L := by
  induction h with
  | nil => exact .nil
  | cons h _ ih => exact .cons (h.mono (fun g hg => hf g (List.mem_append_left _ hg))) (ih (fun g hg => hf g (List.mem_append_right _ hg)))
theorem LinR.at {W : World} {B : Nat} {vs : List Value} {tss : List (List Rt)} {L : List Nat} (h : LinR W B vs tss L) : ∀ g ∈ L, B ≤ g ∧ g < W.heap.size ∧ ∃ cur : Array Value, W.heap[g]? = some (.cells cur 35 (0, 0)) := by
  induction h with
  | nil => intro g hg; simp at hg
  | cons h _ ih =>
    intro g hg
    rcases List.mem_append.1 hg with q | q
    · exact h.at g q
    · exact ih g q
def Lin (W : World) (B : Nat) (vs : List Value) (tss : List (List Rt)) : Prop := ∃ L, LinR W B vs tss L ∧ L.Nodup
/-- A record more in a row. -/
theorem HasRo.push {W w : World} {B : Nat} {x v' u : Value} {ts : List Rt} {us : List Value} {r : Rt} {bl bu : List Nat} (h : HasRo W B x ts bl) (l1 : ts.length = us.length) (l2 : W.ownsRow B 35 5 x ts.length (rowC ts us)) (hrow : w.ownsRow B 35 5 v' (ts.length + 1) (rowC ts us ++ rcells r u)) (hnd : bl.Nodup) (hf : ∀ g, g ∈ bl → x.ownBlock ≠ some g → w.heap[g]? = W.heap[g]?) (hu : HasRo w B u r.inner bu) :
    ∃ I, bl = x.ownBlock.toList ++ I ∧ HasRo w B v' (ts ++ [r]) (v'.ownBlock.toList ++ (I ++ bu)) := by
  cases h with
  | @row _ _ us' bls hl hb h hi =>
    obtain rfl := rowC_inj hl l1 (own_eq h l2)
    refine ⟨bls.flatten, rfl, ?_⟩
    have e : bls.flatten ++ bu = (bls ++ [bu]).flatten := by simp
    rw [e]
    have hni : ∀ g ∈ bls.flatten, x.ownBlock ≠ some g := fun g hg e2 => by
      have := (List.nodup_append.1 hnd).2.2 g (by rw [e2]; simp) g hg
      exact this rfl
    refine HasRo.row (us := us' ++ [u]) (bls := bls ++ [bu]) (by simp [hl]) (by simp [hb]) (by rw [rowC_push hl, List.length_append, List.length_singleton]; exact hrow) (fun i t y l ht hy hl2 => ?_)
    by_cases hit : i < ts.length
    · rw [List.getElem?_append_left hit] at ht
      rw [List.getElem?_append_left (by omega)] at hy hl2
      exact (hi i t y l ht hy hl2).mono (fun g hg => hf g (List.mem_append_right _ (mem_flat hl2 hg)) (hni g (mem_flat hl2 hg)))
    · have hlt := (List.getElem?_eq_some_iff.1 ht).1
      rw [List.length_append, List.length_singleton] at hlt
      obtain rfl : i = ts.length := by omega
      rw [List.getElem?_append_right (Nat.le_refl _)] at ht
      rw [hl, List.getElem?_append_right (Nat.le_refl _)] at hy
      rw [hl, hb, List.getElem?_append_right (Nat.le_refl _)] at hl2
      simp at ht hy hl2
      subst ht hy hl2
      exact hu
/-- The blocks of no row that may grow. -/
def Free (B : Nat) (ag : Value) (V : List Value) (g : Nat) : Prop := B ≤ g ∧ some g ≠ ag.ownBlock ∧ ∀ v ∈ V, some g ≠ v.ownBlock
/-- A row of groups and a row of records lie in blocks of their own. -/
theorem rows_apart {W : World} {B n m : Nat} {ag v : Value} {xs ys : List Value} (h : W.ownsRow B 80 2 ag n xs) (k : W.ownsRow B 35 5 v m ys) (g : Nat) (h1 : ag.ownBlock = some g) : v.ownBlock ≠ some g := by
  intro h2
  obtain ⟨_, ⟨rfl, _⟩ | ⟨g1, c, cur, rfl, _, hg, _⟩⟩ := h
  · simp [Value.ownBlock] at h1
  · obtain ⟨_, ⟨rfl, _⟩ | ⟨g2, c2, cur2, rfl, _, hg2, _⟩⟩ := k
    · simp [Value.ownBlock] at h2
    · simp [Value.ownBlock] at h1 h2
      subst h1 h2
      rw [hg] at hg2
      simp at hg2
/-- The cells of the row of groups. -/
def gcT (stk : List (Nat × List Rt)) (V : List Value) : List Value := (List.zipWith (fun (e : Nat × List Rt) v => [Value.int .i64 (e.1 : Int), v]) stk V).flatten
theorem gcT_push {stk : List (Nat × List Rt)} {V : List Value} (h : stk.length = V.length) (e : Nat × List Rt) (v : Value) : gcT (stk ++ [e]) (V ++ [v]) = gcT stk V ++ [.int .i64 (e.1 : Int), v] := by
  unfold gcT
  rw [List.zipWith_append h]
  simp
/-- Own blocks that are no one else's. -/
def Ap (u v : Value) : Prop := u.ownBlock = none ∨ u.ownBlock ≠ v.ownBlock
/-- A walk that keeps, in memory. -/
structure KM (W : World) (B b wb : Nat) (t : Nat) (depth : Int) (num : Nat) (acc : List Rt) (stk : List (Nat × List Rt)) (iv ag : Value) (V : List Value) : Prop where
  wk : WkB W wb b (t : Int) depth true (num : Int) iv ag
  len : stk.length = V.length
  row : W.ownsRow B 80 2 ag stk.length (gcT stk V)
  now : OwnL W B (Free B ag (V ++ [iv])) iv acc
  old : ∀ (i : Nat) (e : Nat × List Rt) (v : Value), stk[i]? = some e → V[i]? = some v → OwnL W B (Free B ag (V ++ [iv])) v e.2
  ap : (V ++ [iv]).Pairwise Ap
  lin : Lin W B (V ++ [iv]) (stk.map Prod.snd ++ [acc])
structure KS (W : World) (B b wb : Nat) (s : ByteArray) (st : Bool) (t : Nat) (depth : Int) (k num : Nat) (acc : List Rt) (stk : List (Nat × List Rt)) : Prop where
  rd : RdAt W b s k st
  hb : b < B
  hw : wb < B
  hne : b ≠ wb
  hB : B ≤ W.heap.size
  mem : ∃ iv ag V, KM W B b wb t depth num acc stk iv ag V
end Go.Proofs.YtobomdokdajbaaaDoor
