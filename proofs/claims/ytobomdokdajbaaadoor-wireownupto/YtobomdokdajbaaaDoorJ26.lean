import Derived.Test.YtobomdokdajbaaaDoorJ25
import Derived.Test.YtobomdokdajbaaaDoorJ18
import Derived.Test.YtobomdokdajbaaaDoorWSn
import Derived.Test.YtobomdokdajbaaaDoorJ07

namespace Go.Proofs.YtobomdokdajbaaaDoor
open Go.RowKit
attribute [local go_sem ↓] Go.wp_at_zero Go.wp_at_succ

theorem tagR_end (s : ByteArray) (st : Bool) : tagR s st s.size = .inr 20 := by
  unfold tagR
  rw [vAt_end]
/-- What Split answers. -/
def SpT (n : Nat) (e : Ending) (w : World) : (List Rt × Nat) ⊕ (Nat × Nat) → Prop
  | .inl (ts, _) => ∃ a l c, e = .returned (.tuple #[.slice a l c, .int .i64 0, .int .i64 0]) ∧ HasRt w (fun g => n ≤ g) (.slice a l c) ts
  | .inr (c, p) => e = .returned (.tuple #[.slice none 0 0, .int .i64 (p : Int), .int .i64 (c : Int)]) ∧ c ≠ 0
/-- What Split answers: all of it in rows of its own. -/
def SpO (n : Nat) (e : Ending) (w : World) : (List Rt × Nat) ⊕ (Nat × Nat) → Prop
  | .inl (ts, _) => ∃ a l c, e = .returned (.tuple #[.slice a l c, .int .i64 0, .int .i64 0]) ∧ HasRt w (fun g => n ≤ g) (.slice a l c) ts ∧ ∃ bl, HasRo w n (.slice a l c) ts bl ∧ bl.Nodup
  | .inr (c, p) => e = .returned (.tuple #[.slice none 0 0, .int .i64 (p : Int), .int .i64 (c : Int)]) ∧ c ≠ 0
theorem SpO.sp {n : Nat} {e : Ending} {w : World} {r : (List Rt × Nat) ⊕ (Nat × Nat)} (h : SpO n e w r) : SpT n e w r := by
  match r, h with
  | .inl (_, _), ⟨a, l, c, h1, h2, _⟩ => exact ⟨a, l, c, h1, h2⟩
  | .inr (_, _), h => exact h
/-- Where Split's loop stands. -/
structure LpT (w2 : World) (B b wb : Nat) (s : ByteArray) (st : Bool) (R : (List Rt × Nat) ⊕ (Nat × Nat)) (gk : Nat) (wr : World) (k num : Nat) (acc : List Rt) (stk : List (Nat × List Rt)) : Prop where
  ks : ∃ t, KS wr B b wb s st t 63 k num acc stk
  ok : OkT s k num acc stk
  fu : s.size < k + gk
  eq : runT s st 63 gk (.inl (k, num, acc, stk)) = R
  bz : BZ B b wb w2 wr
theorem HasRt.drewN {W : World} {P : Nat → Prop} {v : Value} {ts : List Rt} (h : HasRt W P v ts) (n : Nat) : HasRt (W.drewN n) P v ts := HasRt.mono (W := W) (w := W.drewN n) (fun _ _ hp => ⟨hp, rfl⟩) (Nat.le_refl _) h
set_option maxRecDepth 100000 in
set_option maxHeartbeats 8000000 in
theorem split_own {W : World} {l : List Nat} {g off c : Nat} {st : Bool} (hc : ∀ (i : Nat) (b : Int), (byB l)[i]? = some b → W.cell? ⟨g, off + i, none⟩ = some (.int .u8 b)) (hl : ∀ x ∈ l, x < 256) (hn : l.length ≤ 1048576) :
    Calls Tryd.prog 14 #[.slice (some ⟨g, off, none⟩) l.length c, .bool st] W fun e W' => SpO W.heap.size e W' (runT (sOf l) st 63 ((sOf l).size + 1) (.inl (0, 0, [], []))) ∧ Below W.heap.size W W' := by
  have hrd := read_at (c := c) (st := st) hc hl hn
  have hsz : (sOf l).size ≤ 1048576 := by rw [sOf_size]; exact hn
  generalize sOf l = s at *
  obtain ⟨R, hR⟩ : ∃ R, runT s st 63 (s.size + 1) (.inl (0, 0, [], [])) = R := ⟨_, rfl⟩
  rw [hR]
  have HR := hide hR
  have Hrd := hide hrd
  clear hrd hR hc hl
  go_enter Tryd.func14, Tryd.ntmps14
  go_wp2_with fail
  refine (unhide Hrd).mono ?_
  rintro e w1 ⟨rfl, hr, hb1, hy1⟩
  have hz1 : W.heap.size < w1.heap.size := by omega
  clear hy1
  have Hb1 := hide hb1
  have hnw : Calls Tryd.prog 45 #[.pointer (some ⟨W.heap.size, 0, none⟩), .int .i64 63, .bool true] w1 fun e W' => e = .returned (.pointer (some ⟨w1.heap.size, 0, none⟩)) ∧ WkB W' w1.heap.size W.heap.size ((0 : Nat) : Int) 63 true ((0 : Nat) : Int) (.slice none 0 0) (.slice none 0 0) ∧ Below w1.heap.size w1 W' ∧ w1.heap.size < W'.heap.size := by
    obtain ⟨d0, d1, d2, _⟩ := cells3_of hr
    have hnw := heap_alloc_new w1 (.cells #[.pointer (some ⟨W.heap.size, 0, none⟩), .int .i64 0, .int .i64 63, .bool true, .int .i64 0, .slice none 0 0, .slice none 0 0] 83)
    have hB : Below w1.heap.size w1 (w1.alloc (.cells #[.pointer (some ⟨W.heap.size, 0, none⟩), .int .i64 0, .int .i64 63, .bool true, .int .i64 0, .slice none 0 0, .slice none 0 0] 83)) := (Below.refl _ _).alloc (Nat.le_refl _) _
    have hlt : w1.heap.size < (w1.alloc (.cells #[.pointer (some ⟨W.heap.size, 0, none⟩), .int .i64 0, .int .i64 63, .bool true, .int .i64 0, .slice none 0 0, .slice none 0 0] 83)).heap.size := by rw [World.size_alloc]; omega
    have Hlt := hide hlt
    clear hlt
    go_enter Tryd.func45, Tryd.ntmps45
    go_wp2
    go_ret
    exact ⟨rfl, hnw, hB, unhide Hlt⟩
  have Hnw := hide hnw
  have Hr := hide hr
  clear hnw hb1 hr Hrd
  go_wp2_with fail
  refine (unhide Hnw).mono ?_
  rintro e w2 ⟨rfl, hw, hb2, hz2⟩
  obtain ⟨b, eb⟩ : ∃ b, W.heap.size = b := ⟨_, rfl⟩
  obtain ⟨wb, ewb⟩ : ∃ wb, w1.heap.size = wb := ⟨_, rfl⟩
  obtain ⟨B, eB⟩ : ∃ B, w2.heap.size = B := ⟨_, rfl⟩
  have hks : KS w2 B b wb s st 0 63 0 0 [] [] := by
    refine ⟨?_, by omega, by omega, by omega, by omega, .slice none 0 0, .slice none 0 0, [], ?_, rfl, ?_, OwnL.nil _ _ _, fun i e v hs => by simp at hs, by simp, ⟨[], LinR.mk (HasRo.nil _ _), List.nodup_nil⟩⟩
    · rw [← eb]; exact (hb2.block W.heap.size hz1).trans (unhide Hr)
    · rw [← eb, ← ewb]; exact hw
    · exact World.ownsRow_nil _ _ _ _
  have hLp : LpT w2 B b wb s st R (s.size + 1) w2 0 0 [] [] := ⟨⟨0, hks⟩, ⟨Nat.zero_le _, Nat.le_refl _, Nat.le_refl _, fun e he => by simp at he, fun _ => rfl, fun e he => by simp at he⟩, by omega, unhide HR, BZ.refl _ _ _ _⟩
  have HLp := hide hLp
  have hbB : b < wb ∧ wb < B := by omega
  have HbB := hide hbB
  have HW2 : Hid (Below b W w2) := by
    show Below b W w2
    rw [← eb]
    exact (unhide Hb1).trans (hb2.mono (by omega))
  have HBw : Hid (B ≤ w2.heap.size) := by show B ≤ _; omega
  rw [ewb]
  have Heb := hide eb
  rw [eb]
  have hend : ∀ wr, BZ B b wb w2 wr → Below b W wr := fun wr hz => (unhide HW2).trans ⟨hz.os, hz.tape, hz.output, hz.size, fun q hq => hz.block q (by omega) (by omega) (by omega)⟩
  have Hend := hide hend
  clear hks hLp hw hb2 Hnw Hr Hb1 HR hz1 hz2 eb ewb eB hbB hend HW2 HBw
  go_wp2_with fail
  go_loopg [] (s.size + 1) (fun gk wr => ∃ k num acc stk, Hid (LpT w2 B b wb s st R gk wr k num acc stk))
  case atStart => exact ⟨_, _, _, _, HLp⟩
  case round =>
    obtain ⟨k, num, acc, stk, HL⟩ := hrel
    clear HLp
    have hL := unhide HL
    obtain ⟨t, hks⟩ := hL.ks
    have hkl := hL.ok.le
    obtain ⟨f, hgf⟩ : ∃ f, gk = f + 1 := ⟨gk - 1, by have := hL.fu; omega⟩
    have hEq := hL.eq
    rw [hgf, runT] at hEq
    have hmo := more_any hks.rd
    have Hst := hide (fun n => wstep_keep (hks.up (below_drewN (Below.refl _ _) n)) hL.ok hsz)
    have HZ := hide (fun (n : Nat) => hL.bz.drewN n)
    have Hgf := hide hgf
    by_cases hke : k = s.size
    · rw [if_pos hke] at hEq
      have hd : decide (k < s.size) = false := decide_eq_false (by omega)
      rw [hd] at hmo
      obtain ⟨iv, ag, V, hm⟩ := hks.mem
      obtain ⟨ga, gc, hag⟩ := row_form hm.row
      have hwk := hm.wk
      rw [hag] at hwk
      have Hin := hide (fun (n : Nat) => inGroup_keep (W := wr.drewN n) hwk)
      have Hmo := hide hmo
      by_cases hstk : stk = []
      · rw [if_pos hstk] at hEq
        have hd0 : decide (0 < stk.length) = false := by rw [hstk]; rfl
        rw [hd0] at Hin
        obtain ⟨us, l1, l2, l3⟩ := hm.now
        obtain ⟨va, vc, hiv⟩ := row_form l2
        have c5 := (walk_cells hm.wk).2.2.2.2.2.1
        rw [hiv] at c5
        have hdone : HasRt wr (fun g => b ≤ g) (.slice va acc.length vc) acc := by
          rw [← hiv]
          have := unhide HbB
          exact hm.now.done (fun g _ hp => by have := hp.1; omega) (fun g _ q2 _ => by omega)
        have hown : ∃ bl, HasRo wr b (.slice va acc.length vc) acc bl ∧ bl.Nodup := by
          obtain ⟨L, hL, hnd⟩ := hm.lin
          have hV : V = [] := List.eq_nil_of_length_eq_zero (by rw [← hm.len, hstk]; rfl)
          rw [hV, hstk] at hL
          have := unhide HbB
          exact ⟨L, by rw [← hiv]; exact hL.one.lower (by omega), hnd⟩
        have He : Hid (∀ n, SpO W.heap.size (.returned (.tuple #[.slice va acc.length vc, .int .i64 0, .int .i64 0])) (wr.drewN n) R ∧ Below W.heap.size W (wr.drewN n)) := fun n => by rw [unhide Heb]; exact ⟨by rw [← hEq]; exact ⟨_, _, _, rfl, hdone.drewN n, by obtain ⟨bl, q1, q2⟩ := hown; exact ⟨bl, q1.mono (fun _ _ => rfl), q2⟩⟩, below_drewN (unhide Hend wr hL.bz) n⟩
        clear hEq hL hks hm hwk hag hgf hdone hown l1 l2 l3 HL HZ Hst hstk hd0 hd hmo Hend hkl hke hiv
        go_wp2_with fail
        refine (unhide Hmo).mono ?_
        rintro e w3 ⟨rfl, n3, rfl⟩
        clear Hmo
        go_wp2_with fail
        refine (unhide Hin n3).mono ?_
        rintro e w4 ⟨rfl, hw4⟩
        obtain rfl : wr.drewN n3 = w4 := hw4.symm
        clear hw4 Hin
        go_wp2
        go_ret3
        exact unhide He _
      · rw [if_neg hstk] at hEq
        have hd0 : decide (0 < stk.length) = true := decide_eq_true (by cases stk with | nil => exact absurd rfl hstk | cons a l => simp)
        rw [hd0] at Hin
        have hsT : stepT s st 63 k num acc stk = .inr (20, k) := by
          unfold stepT
          rw [hke, tagR_end]
        rw [hsT] at Hst
        clear hL hks hm hwk hag hgf hstk hd0 hd hmo hkl hke hsT
        go_wp2_with fail
        refine (unhide Hmo).mono ?_
        rintro e w3 ⟨rfl, n3, rfl⟩
        clear Hmo
        go_wp2_with fail
        refine (unhide Hin n3).mono ?_
        rintro e w4 ⟨rfl, hw4⟩
        obtain rfl : wr.drewN n3 = w4 := hw4.symm
        clear hw4 Hin
        go_wp2_with fail
        refine (unhide Hst n3).mono ?_
        intro e w4 hq
        obtain ⟨c0, ec⟩ : ∃ c0, c0 = 20 := ⟨_, rfl⟩
        obtain ⟨p0, ep⟩ : ∃ p0, p0 = k := ⟨_, rfl⟩
        rw [← ec, ← ep] at hq hEq
        clear Hst ec ep
        obtain ⟨rfl, hc0, hr4, hz4⟩ := hq
        obtain ⟨d0, d1, d2, _⟩ := cells3_of hr4
        have qc : ((c0 : Int) != 0) = true := by simp; omega
        have He : Hid (∀ n, SpO W.heap.size (.returned (.tuple #[.slice none 0 0, .int .i64 (p0 : Int), .int .i64 (c0 : Int)])) (w4.drewN n) R ∧ Below W.heap.size W (w4.drewN n)) := fun n => by rw [unhide Heb]; exact ⟨by rw [← hEq]; exact ⟨rfl, hc0⟩, below_drewN (unhide Hend w4 ((unhide HZ n3).trans hz4)) n⟩
        clear hr4 hz4 hEq HZ Hend HL
        go_wp2
        go_quiet (fail)
        go_wp2
        go_ret3
        exact unhide He _
    · rw [if_neg hke] at hEq
      have hd : decide (k < s.size) = true := decide_eq_true (by omega)
      rw [hd] at hmo
      have Hmo := hide hmo
      have Hok := hide hL.ok
      clear hL hks hgf hd hmo hkl hke
      go_wp2_with fail
      refine (unhide Hmo).mono ?_
      rintro e w3 ⟨rfl, n3, rfl⟩
      clear Hmo
      go_wp2_with fail
      refine (unhide Hst n3).mono ?_
      intro e w4 hq
      generalize hr : stepT s st 63 k num acc stk = r at hq hEq
      rcases r with ⟨k2, num2, acc2, stk2⟩ | ⟨c0, p0⟩
      · obtain ⟨rfl, hk4, hz4⟩ := hq
        have hok2 := stepT_ok (unhide Hok) hr
        have HLn : Hid (LpT w2 B b wb s st R f w4 k2 num2 acc2 stk2) := ⟨⟨k, hk4⟩, hok2.2, by have := (unhide HL).fu; have := unhide Hgf; omega, hEq, (unhide HZ n3).trans hz4⟩
        clear hk4 hz4 hok2 hEq hr Hst HZ Hok
        go_wp2
        go_roundg f
        case measure => have := unhide Hgf; omega
        case rel => exact ⟨_, _, _, _, HLn⟩
      · rw [runT_err] at hEq
        clear hr Hst Hok
        obtain ⟨rfl, hc0, hr4, hz4⟩ := hq
        obtain ⟨d0, d1, d2, _⟩ := cells3_of hr4
        have qc : ((c0 : Int) != 0) = true := by simp; omega
        have He : Hid (∀ n, SpO W.heap.size (.returned (.tuple #[.slice none 0 0, .int .i64 (p0 : Int), .int .i64 (c0 : Int)])) (w4.drewN n) R ∧ Below W.heap.size W (w4.drewN n)) := fun n => by rw [unhide Heb]; exact ⟨by rw [← hEq]; exact ⟨rfl, hc0⟩, below_drewN (unhide Hend w4 ((unhide HZ n3).trans hz4)) n⟩
        clear hr4 hz4 hEq HZ Hend HL
        go_wp2
        go_quiet (fail)
        go_wp2
        go_ret3
        exact unhide He _
theorem split_any {W : World} {l : List Nat} {g off c : Nat} {st : Bool} (hc : ∀ (i : Nat) (b : Int), (byB l)[i]? = some b → W.cell? ⟨g, off + i, none⟩ = some (.int .u8 b)) (hl : ∀ x ∈ l, x < 256) (hn : l.length ≤ 1048576) :
    Calls Tryd.prog 14 #[.slice (some ⟨g, off, none⟩) l.length c, .bool st] W fun e W' => SpT W.heap.size e W' (runT (sOf l) st 63 ((sOf l).size + 1) (.inl (0, 0, [], []))) ∧ Below W.heap.size W W' := (split_own hc hl hn).mono fun _ _ ⟨h1, h2⟩ => ⟨h1.sp, h2⟩
end Go.Proofs.YtobomdokdajbaaaDoor

namespace Go.Proofs.YtobomdokdajbaaaDoor
open Go.RowKit
attribute [local go_sem ↓] Go.wp_at_zero Go.wp_at_succ

theorem HasRt.form {W : World} {P : Nat → Prop} {v : Value} {ts : List Rt} (h : HasRt W P v ts) : ∃ a c, v = .slice a ts.length c := by
  cases h with
  | nil a c => exact ⟨a, c, rfl⟩
  | row g n c ts us hp hn hm hg hc hi => exact ⟨_, c, by rw [hn]⟩
set_option maxRecDepth 100000 in
set_option maxHeartbeats 4000000 in
/-- Records that are the same. -/
theorem same_rt {W : World} {P Q : Nat → Prop} {v : Value} {ts : List Rt} (h : HasRt W P v ts) : ∀ u, HasRt W Q u ts → ∀ w0, Below W.heap.size W w0 → Calls Tryd.prog 17 #[v, u] w0 fun e W' => e = .returned (.bool true) ∧ Below w0.heap.size w0 W' := by
  induction h with
  | nil a c =>
    intro u hu w0 _
    obtain ⟨a', c', rfl⟩ := hu.form
    exact sameR_nil w0 a a' c c'
  | row g n c ts us hp hn hm hg hc hi ih =>
    intro u hu w0 hw0
    cases hu with
    | nil a' c' =>
      obtain rfl : n = 0 := hn.symm
      exact sameR_nil w0 _ a' c c'
    | row g' n' c' _ us' hp' hn' hm' hg' hc' hi' =>
      obtain rfl : n = n' := hn.symm.trans hn'
      have Hc := hide hc
      have Hc' := hide hc'
      have Hih := hide ih
      have Hi' := hide hi'
      have Hi := hide hi
      unfold maxLen at hm
      have Hn := hide hn
      have Hw0 := hide hw0
      clear hc hc' ih hi hi' hn hn' hm' hp hp' hw0
      have d0 : ((n : Int) != (n : Int)) = false := by simp
      go_enter Tryd.func17, Tryd.ntmps17
      go_wp2
      go_loopg [5] n (fun gk v5 wr => ∃ (i : Nat), v5 = .int .i64 (i : Int) ∧ gk = n - i ∧ i ≤ n ∧ Hid (Below w0.heap.size w0 wr))
      case atStart => exact ⟨0, rfl, rfl, Nat.zero_le _, Below.refl _ _⟩
      case round =>
        obtain ⟨i, rfl, hgk, hin, HB⟩ := hrel
        have Hgk := hide hgk
        clear hgk
        by_cases hlt : i < n
        · obtain ⟨r, hr⟩ : ∃ r, ts[i]? = some r := ⟨_, List.getElem?_eq_getElem (by rw [unhide Hn]; exact hlt)⟩
          have hBW : Below W.heap.size W wr := (unhide Hw0).trans ((unhide HB).mono (unhide Hw0).size)
          have hcs := unhide Hc i r hr
          have hcs' := unhide Hc' i r hr
          obtain ⟨ia, ic, eu⟩ := (unhide Hi i r hr).form
          obtain ⟨ja, jc, eu'⟩ := (unhide Hi' i r hr).form
          have hcall := unhide Hih i r hr (us' i) (unhide Hi' i r hr)
          rw [eu] at hcs hcall
          rw [eu'] at hcs' hcall
          obtain ⟨nb, kd, x, t, li⟩ := r
          replace hcall : ∀ w0, Below W.heap.size W w0 → Calls Tryd.prog 17 #[.slice ia li.length ic, .slice ja li.length jc] w0 fun e W' => e = .returned (.bool true) ∧ Below w0.heap.size w0 W' := hcall
          have Hcall := hide hcall
          have d0 := (hBW.cell (p := ⟨g, i * 5, none⟩) hg).trans (hcs 0 _ rfl)
          have d1 := (hBW.cell (p := ⟨g, i * 5 + 1, none⟩) hg).trans (hcs 1 _ rfl)
          have d2 := (hBW.cell (p := ⟨g, i * 5 + 2, none⟩) hg).trans (hcs 2 _ rfl)
          have d3 := (hBW.cell (p := ⟨g, i * 5 + 3, none⟩) hg).trans (hcs 3 _ rfl)
          have d4 : wr.cell? ⟨g, i * 5 + 4, none⟩ = some (.slice ia li.length ic) := (hBW.cell (p := ⟨g, i * 5 + 4, none⟩) hg).trans (hcs 4 _ rfl)
          have f0 := (hBW.cell (p := ⟨g', i * 5, none⟩) hg').trans (hcs' 0 _ rfl)
          have f1 := (hBW.cell (p := ⟨g', i * 5 + 1, none⟩) hg').trans (hcs' 1 _ rfl)
          have f2 := (hBW.cell (p := ⟨g', i * 5 + 2, none⟩) hg').trans (hcs' 2 _ rfl)
          have f3 := (hBW.cell (p := ⟨g', i * 5 + 3, none⟩) hg').trans (hcs' 3 _ rfl)
          have f4 : wr.cell? ⟨g', i * 5 + 4, none⟩ = some (.slice ja li.length jc) := (hBW.cell (p := ⟨g', i * 5 + 4, none⟩) hg').trans (hcs' 4 _ rfl)
          have hi0 : (0 : Int) ≤ (i : Int) := Int.natCast_nonneg _
          have hi1 : (i : Int) < (n : Int) := by omega
          have e0 : ((nb : Int) != (nb : Int)) = false := by simp
          have e1 : ((kd : Int) != (kd : Int)) = false := by simp
          have e2 : (x != x) = false := by simp
          have hgw : g' < wr.heap.size := Nat.lt_of_lt_of_le hg' hBW.size
          have gf0 : ∀ o, (wr.alloc o).cell? ⟨g', i * 5, none⟩ = _ := fun o => (World.cell?_alloc_lt _ _ _ hgw).trans f0
          have gf1 : ∀ o, (wr.alloc o).cell? ⟨g', i * 5 + 1, none⟩ = _ := fun o => (World.cell?_alloc_lt _ _ _ hgw).trans f1
          have gf2 : ∀ o, (wr.alloc o).cell? ⟨g', i * 5 + 2, none⟩ = _ := fun o => (World.cell?_alloc_lt _ _ _ hgw).trans f2
          have gf3 : ∀ o, (wr.alloc o).cell? ⟨g', i * 5 + 3, none⟩ = _ := fun o => (World.cell?_alloc_lt _ _ _ hgw).trans f3
          have gf4 : ∀ o, (wr.alloc o).cell? ⟨g', i * 5 + 4, none⟩ = _ := fun o => (World.cell?_alloc_lt _ _ _ hgw).trans f4
          have HBW := hide hBW
          clear hcs hcs' eu eu' hcall hBW
          go_wp2_with fail
          have hB2 : Below w0.heap.size w0 ((wr.alloc (.cells #[.int .i64 (nb : Int), .int .i64 (kd : Int), .int .i64 x, .string t, .slice ia li.length ic] 35)).alloc (.cells #[.int .i64 (nb : Int), .int .i64 (kd : Int), .int .i64 x, .string t, .slice ja li.length jc] 35)) := ((unhide HB).alloc (unhide HB).size _).alloc (by have := (unhide HB).size; rw [World.size_alloc]; omega) _
          refine (unhide Hcall _ ((unhide Hw0).trans (hB2.mono (unhide Hw0).size))).mono ?_
          rintro e w2 ⟨rfl, hb2⟩
          have HB3 := hide (hB2.trans (hb2.mono hB2.size))
          clear d0 d1 d2 d3 d4 f0 f1 f2 f3 f4 gf0 gf1 gf2 gf3 gf4 hB2 hb2 Hcall
          go_wp2
          go_roundg (n - (i + 1))
          case measure => have := unhide Hgk; omega
          case rel => exact ⟨i + 1, by go_num, rfl, by omega, HB3⟩
        · obtain rfl : i = n := by omega
          go_wp2
          go_ret
          exact ⟨rfl, unhide HB⟩
#print axioms same_rt
end Go.Proofs.YtobomdokdajbaaaDoor

namespace Go.Proofs.YtobomdokdajbaaaDoor
open Go.RowKit

/-- A reader and a cursor over the same bytes, at the same place. -/
def Pr (w : World) (b c : Nat) (v : Value) (s : ByteArray) (st : Bool) : Prop := ∃ k, k ≤ s.size ∧ RdAt w b s k st ∧ CuAt w c v s k st
/-- Where the law's loop stands. -/
structure LS (W : World) (v0 v1 : Value) (s0 s1 : ByteArray) (sb : Bool) (p q r c0 c1 c2 R0 C0 : Nat) (w : World) : Prop where
  below : Below W.heap.size W w
  rows : w.heap[R0]? = some (.cells #[.pointer (some ⟨p, 0, none⟩), .pointer (some ⟨q, 0, none⟩), .pointer (some ⟨r, 0, none⟩)] 49 (0, 0))
  curs : w.heap[C0]? = some (.cells #[.pointer (some ⟨c0, 0, none⟩), .pointer (some ⟨c1, 0, none⟩), .pointer (some ⟨c2, 0, none⟩)] 54 (0, 0))
  a : Pr w p c0 v0 s0 true
  b : Pr w q c1 v0 s0 false
  c : Pr w r c2 v1 s1 sb
structure Odr (n p q r c0 c1 c2 R0 C0 : Nat) : Prop where
  h0 : n ≤ p
  h1 : p < q
  h2 : q < r
  h3 : r < R0
  h4 : R0 < c0
  h5 : c0 < c1
  h6 : c1 < c2
  h7 : c2 < C0
/-- What step asks at a place of the rows, and what it gives back. -/
def Pick (W : World) (v0 v1 : Value) (s0 s1 : ByteArray) (sb : Bool) (p q r c0 c1 c2 R0 C0 : Nat) (w : World) (kk : Nat) : Prop :=
  ∃ b c v s st k, w.cell? ⟨R0, kk, none⟩ = some (.pointer (some ⟨b, 0, none⟩)) ∧ w.cell? ⟨C0, kk, none⟩ = some (.pointer (some ⟨c, 0, none⟩)) ∧ RdAt w b s k st ∧ CuAt w c v s k st ∧ b ≠ c ∧ Bs w v s ∧ k ≤ s.size ∧ s.size ≤ 1048576 ∧ (∀ a l cp, v = .slice (some a) l cp → 0 < s.size → a.block ≠ c ∧ cp ≤ 9223372036854775807) ∧ (∀ a l cp, v = .slice (some a) l cp → 0 < s.size → a.block ≠ b) ∧
    ∀ bx w', (∃ k', k' ≤ s.size ∧ St2 w b c bx (rdO s st k') (cuO v s st k') w') → LS W v0 v1 s0 s1 sb p q r c0 c1 c2 R0 C0 w'
theorem pr_far {w w' : World} {b c b' c' : Nat} {v : Value} {s : ByteArray} {st : Bool} {bx o1 o2 : Obj} (h : Pr w b c v s st) (hS : St2 w b' c' bx o1 o2 w') (h1 : b ≠ b') (h2 : b ≠ c') (h3 : c ≠ b') (h4 : c ≠ c') : Pr w' b c v s st := by
  obtain ⟨k, hk, hr, hc⟩ := h
  exact ⟨k, hk, (hS.far b (Array.getElem?_eq_some_iff.1 hr).1 h1 h2).trans hr, (hS.far c (Array.getElem?_eq_some_iff.1 hc).1 h3 h4).trans hc⟩
theorem below_st2 {W w w' : World} {b c : Nat} {bx o1 o2 : Obj} (h : Below W.heap.size W w) (hS : St2 w b c bx o1 o2 w') (hb : W.heap.size ≤ b) (hc : W.heap.size ≤ c) : Below W.heap.size W w' :=
  h.trans ⟨hS.os, hS.tape, hS.output, Nat.le_of_lt hS.size, fun q hq => hS.far q (Nat.lt_of_lt_of_le hq h.size) (by omega) (by omega)⟩
def Low (W : World) (v : Value) (s : ByteArray) : Prop := ∀ a l cp, v = .slice (some a) l cp → 0 < s.size → a.block < W.heap.size ∧ cp ≤ 9223372036854775807
theorem LS.pick {W : World} {v0 v1 : Value} {s0 s1 : ByteArray} {sb : Bool} {p q r c0 c1 c2 R0 C0 : Nat} {w : World} (h : LS W v0 v1 s0 s1 sb p q r c0 c1 c2 R0 C0 w) (ho : Odr W.heap.size p q r c0 c1 c2 R0 C0) (hB0 : Bs W v0 s0) (hB1 : Bs W v1 s1) (hL0 : Low W v0 s0) (hL1 : Low W v1 s1) (z0 : s0.size ≤ 1048576) (z1 : s1.size ≤ 1048576) {kk : Nat} (hkk : kk < 3) :
    Pick W v0 v1 s0 s1 sb p q r c0 c1 c2 R0 C0 w kk := by
  obtain ⟨o0, o1, o2, o3, o4, o5, o6, o7⟩ := ho
  have hrl := (Array.getElem?_eq_some_iff.1 h.rows).1
  have hcl := (Array.getElem?_eq_some_iff.1 h.curs).1
  have hb0 : Bs w v0 s0 := hB0.lift h.below
  have hb1 : Bs w v1 s1 := hB1.lift h.below
  have hr := fun j => cell_of_row w R0 j _ _ _ h.rows
  have hc := fun j => cell_of_row w C0 j _ _ _ h.curs
  obtain rfl | rfl | rfl : kk = 0 ∨ kk = 1 ∨ kk = 2 := by omega
  · obtain ⟨k, g1, g2, g3⟩ := h.a
    refine ⟨p, c0, v0, s0, true, k, (hr 0).trans rfl, (hc 0).trans rfl, g2, g3, by omega, hb0, g1, z0, fun a l cp e hp => ⟨?_, (hL0 a l cp e hp).2⟩, fun a l cp e hp => ?_, fun bx w' ⟨k', q1, hS⟩ => ?_⟩
    · have := (hL0 a l cp e hp).1; omega
    · have := (hL0 a l cp e hp).1; omega
    · exact ⟨below_st2 h.below hS (by omega) (by omega), (hS.far R0 hrl (by omega) (by omega)).trans h.rows, (hS.far C0 hcl (by omega) (by omega)).trans h.curs, ⟨k', q1, hS.rb, hS.rc⟩, pr_far h.b hS (by omega) (by omega) (by omega) (by omega), pr_far h.c hS (by omega) (by omega) (by omega) (by omega)⟩
  · obtain ⟨k, g1, g2, g3⟩ := h.b
    refine ⟨q, c1, v0, s0, false, k, (hr 1).trans rfl, (hc 1).trans rfl, g2, g3, by omega, hb0, g1, z0, fun a l cp e hp => ⟨?_, (hL0 a l cp e hp).2⟩, fun a l cp e hp => ?_, fun bx w' ⟨k', q1, hS⟩ => ?_⟩
    · have := (hL0 a l cp e hp).1; omega
    · have := (hL0 a l cp e hp).1; omega
    · exact ⟨below_st2 h.below hS (by omega) (by omega), (hS.far R0 hrl (by omega) (by omega)).trans h.rows, (hS.far C0 hcl (by omega) (by omega)).trans h.curs, pr_far h.a hS (by omega) (by omega) (by omega) (by omega), ⟨k', q1, hS.rb, hS.rc⟩, pr_far h.c hS (by omega) (by omega) (by omega) (by omega)⟩
  · obtain ⟨k, g1, g2, g3⟩ := h.c
    refine ⟨r, c2, v1, s1, sb, k, (hr 2).trans rfl, (hc 2).trans rfl, g2, g3, by omega, hb1, g1, z1, fun a l cp e hp => ⟨?_, (hL1 a l cp e hp).2⟩, fun a l cp e hp => ?_, fun bx w' ⟨k', q1, hS⟩ => ?_⟩
    · have := (hL1 a l cp e hp).1; omega
    · have := (hL1 a l cp e hp).1; omega
    · exact ⟨below_st2 h.below hS (by omega) (by omega), (hS.far R0 hrl (by omega) (by omega)).trans h.rows, (hS.far C0 hcl (by omega) (by omega)).trans h.curs, pr_far h.a hS (by omega) (by omega) (by omega) (by omega), pr_far h.b hS (by omega) (by omega) (by omega) (by omega), ⟨k', q1, hS.rb, hS.rc⟩⟩
theorem LS.cells {W : World} {v0 v1 : Value} {s0 s1 : ByteArray} {sb : Bool} {p q r c0 c1 c2 R0 C0 : Nat} {w w' : World} (h : LS W v0 v1 s0 s1 sb p q r c0 c1 c2 R0 C0 w) (h' : LS W v0 v1 s0 s1 sb p q r c0 c1 c2 R0 C0 w') (kk : Nat) : w'.cell? ⟨R0, kk, none⟩ = w.cell? ⟨R0, kk, none⟩ ∧ w'.cell? ⟨C0, kk, none⟩ = w.cell? ⟨C0, kk, none⟩ :=
  ⟨(cell_of_row w' R0 kk _ _ _ h'.rows).trans (cell_of_row w R0 kk _ _ _ h.rows).symm, (cell_of_row w' C0 kk _ _ _ h'.curs).trans (cell_of_row w C0 kk _ _ _ h.curs).symm⟩
theorem LS.drewN {W : World} {v0 v1 : Value} {s0 s1 : ByteArray} {sb : Bool} {p q r c0 c1 c2 R0 C0 : Nat} {w : World} (h : LS W v0 v1 s0 s1 sb p q r c0 c1 c2 R0 C0 w) (n : Nat) : LS W v0 v1 s0 s1 sb p q r c0 c1 c2 R0 C0 (w.drewN n) :=
  ⟨⟨h.below.os, h.below.tape, h.below.output, h.below.size, h.below.block⟩, h.rows, h.curs, h.a, h.b, h.c⟩
end Go.Proofs.YtobomdokdajbaaaDoor
