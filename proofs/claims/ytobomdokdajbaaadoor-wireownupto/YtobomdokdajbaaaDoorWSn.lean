import Derived.Test.YtobomdokdajbaaaDoorJ23

namespace Go.Proofs.YtobomdokdajbaaaDoor
open Go.RowKit
attribute [local go_sem ↓] Go.wp_at_zero Go.wp_at_succ

/-- New memory, but not the row's own. -/
def PW (n : Nat) (u : Value) (g : Nat) : Prop := n ≤ g ∧ some g ≠ u.ownBlock
theorem HasRt.drewN' {W : World} {P : Nat → Prop} {v : Value} {ts : List Rt} (h : HasRt W P v ts) (n : Nat) : HasRt (W.drewN n) P v ts := HasRt.mono (W := W) (w := W.drewN n) (fun _ _ hp => ⟨hp, rfl⟩) (Nat.le_refl _) h
theorem relE_err {m : Nat} {w : World} {n kd : Nat} {x : Int} {t : ByteArray} {u : Value} {q k2 : Nat} {R : (Rt × Nat) ⊕ (Nat × Nat)} (h : RelE m w n kd x t u q k2 R) (hq : q ≠ 0) : R = .inr (q, k2) := by
  match R, h with
  | .inl (r, k'), h => exact absurd h.1 hq
  | .inr (c, k'), h => obtain ⟨rfl, _, rfl⟩ := h; rfl
theorem relE_ok {m : Nat} {w : World} {n kd : Nat} {x : Int} {t : ByteArray} {u : Value} {q k2 : Nat} {R : (Rt × Nat) ⊕ (Nat × Nat)} (h : RelE m w n kd x t u q k2 R) (hq : q = 0) : ∃ r, R = .inl (r, k2) ∧ ∃ l, r = .mk n kd x t l ∧ HasRt w (fun g => m ≤ g) u l := by
  match R, h with
  | .inl (r, k'), h => obtain ⟨_, rfl, h3⟩ := h; exact ⟨r, rfl, h3⟩
  | .inr (c, k'), h => obtain ⟨h1, h2, _⟩ := h; exact absurd (h1.symm.trans hq) h2
theorem plcT_le {s : ByteArray} {st : Bool} {most : Int} {f n o k kd k2 : Nat} {t : Rt} (hn : n ≠ 0) (hk : k ≤ s.size) (h : (if kd = 3 then grpT n (recT s st most f n (o + 1) k []) else plcT k (bodyT s st n k kd)) = .inl (t, k2)) : k ≤ k2 ∧ k2 ≤ s.size := by
  split at h
  · generalize hr : recT s st most f n (o + 1) k [] = r at h
    match r, h with
    | .inl (ts, k3), h =>
      obtain ⟨_, rfl⟩ := Prod.mk.inj (Sum.inl.inj h)
      have := recT_lt s st most f n (o + 1) k [] ts k3 hn hk hr
      omega
  · generalize hb : bodyT s st n k kd = r at h
    match r, h with
    | .inl (r', k3), h =>
      obtain ⟨_, rfl⟩ := Prod.mk.inj (Sum.inl.inj h)
      exact bodyT_lt hb
/-- The record is behind the others. -/
theorem recs_push {wr w1 w2 w4 : World} {n c m kd nb : Nat} {x : Int} {t : ByteArray} {u u' y : Value} {acc li : List Rt} {us : List Value} {b1 b2 : Obj} (l1 : acc.length = us.length) (l3 : ∀ (i : Nat) (t : Rt) (z : Value), acc[i]? = some t → us[i]? = some z → HasRt wr (PW n u) z t.inner) (hm : acc.length = m)
    (hown : w4.ownsRow n 35 5 u' (m + 1) (rowC acc us ++ [.int .i64 (nb : Int), .int .i64 (kd : Int), .int .i64 x, .string t, y])) (hF : Fr wr w2 (fun q => q = c)) (hg : ((w2.alloc b1).alloc b2).grownBy w4 u.ownBlock) (hat : u'.ownBlock = u.ownBlock ∨ u'.ownBlock = some ((w2.alloc b1).alloc b2).heap.size) (hlt : ∀ q, u.ownBlock = some q → n ≤ q ∧ q < wr.heap.size) (hc : c < n) (z01 : wr.heap.size ≤ w1.heap.size) (hli : HasRt w2 (fun g => w1.heap.size ≤ g) y li) (hn : n ≤ wr.heap.size) :
    OwnL w4 n (PW n u') u' (acc ++ [.mk nb kd x t li]) := by
  have hsz : ((w2.alloc b1).alloc b2).heap.size = w2.heap.size + 2 := by rw [World.size_alloc, World.size_alloc]
  have hgz := hg.size
  rw [hsz] at hgz hat
  have hb24 : ∀ q, q < w2.heap.size → some q ≠ u.ownBlock → w4.heap[q]? = w2.heap[q]? := fun q hq hne => (hg.block q (by omega) hne).trans ((Below.heap_alloc (w2.alloc b1) b2 q (by rw [World.size_alloc]; omega)).trans (Below.heap_alloc w2 b1 q hq))
  have hnew : ∀ q, q < w2.heap.size → some q ≠ u.ownBlock → some q ≠ u'.ownBlock := fun q hq hne => by
    rcases hat with p | p
    · rw [p]; exact hne
    · rw [p]; intro e; have := Option.some.inj e; omega
  refine OwnL.push (W := wr) (P := PW n u) (fun g hg1 hp => ⟨⟨hp.1, hnew g (by have := hF.size; omega) hp.2⟩, ?_⟩) (by have := hF.size; omega) l1 l3 (by rw [hm]; exact hown) ?_
  · rw [hb24 g (by have := hF.size; omega) hp.2]
    exact hF.far g hg1 (by have := hp.1; omega)
  · refine hli.mono (fun g hg1 hp => ?_) (by omega)
    have hne : some g ≠ u.ownBlock := fun e => by have := (hlt g e.symm).2; omega
    exact ⟨⟨by omega, hnew g hg1 hne⟩, hb24 g hg1 hne⟩
/-- Where the loop of records stands. -/
structure RLT (W : World) (c : Nat) (v : Value) (s : ByteArray) (st : Bool) (most : Int) (F g o k0 : Nat) (R : (List Rt × Nat) ⊕ (Nat × Nat)) (gk : Nat) (u : Value) (wr : World) (k1 : Nat) (acc : List Rt) : Prop where
  upd : Upd W c (cuO v s st k1) wr
  le : k1 ≤ s.size
  ge : k0 ≤ k1
  fu : s.size < k1 + gk
  fl : gk ≤ F
  eq : recT s st most gk g o k1 acc = R
  own : OwnL wr W.heap.size (PW W.heap.size u) u acc
  few : acc.length ≤ k1
set_option maxRecDepth 100000 in
set_option maxHeartbeats 4000000 in
theorem records_T {c : Nat} {v : Value} {s : ByteArray} {st : Bool} {most : Int} (hs : s.size ≤ 1048576) (hne : ∀ a l cp, v = .slice (some a) l cp → 0 < s.size → a.block ≠ c ∧ cp ≤ 9223372036854775807) : ∀ (F : Nat) (W : World) (g o k : Nat), CuAt W c v s k st → Bs W v s → k ≤ s.size → s.size < k + F → o ≤ k + 1 →
    Calls Tryd.prog 67 #[.pointer (some ⟨c, 0, none⟩), .int .i64 (g : Int), .int .i64 (o : Int), .int .i64 most] W fun e w => RcT W c v s st e w (recT s st most F g o k []) := by
  intro F
  induction F using Nat.strongRecOn with
  | ind F ih =>
  intro W g o k h hB hk hF ho
  have hcl := (Array.getElem?_eq_some_iff.1 h).1
  obtain ⟨i0, hi, hz0, hz1, hz2⟩ := info_parts Tryd.infoRec
  obtain ⟨R, hR⟩ : ∃ R, recT s st most F g o k [] = R := ⟨_, rfl⟩
  rw [hR]
  have HI : Hid (RLT W c v s st most F g o k R F (.slice none 0 0) W k []) := ⟨⟨rfl, rfl, rfl, Nat.le_refl _, h, fun _ _ _ => rfl⟩, hk, Nat.le_refl _, hF, Nat.le_refl _, hR, OwnL.nil _ _ _, Nat.zero_le _⟩
  have Hne := hide hne
  have Hih := hide ih
  have HB := hide hB
  clear h hR hk hF ih hne hB
  go_enter Tryd.func67, Tryd.ntmps67
  go_wp2_with fail
  go_loopg [10] F (fun gk v10 wr => ∃ k1 acc m ua uc, v10 = .slice ua m uc ∧ Hid (RLT W c v s st most F g o k R gk (.slice ua m uc) wr k1 acc ∧ acc.length = m))
  case atStart => exact ⟨_, _, _, _, _, rfl, unhide HI, rfl⟩
  case round =>
    obtain ⟨k1, acc, m, ua, uc, rfl, HLm⟩ := hrel
    clear HI
    have HL := hide (unhide HLm).1
    have Hm := hide (unhide HLm).2
    have hL := unhide HL
    clear HLm
    obtain ⟨f, hgf⟩ : ∃ f, gk = f + 1 := ⟨gk - 1, by have := hL.le; have := hL.fu; omega⟩
    have hEq := hL.eq
    rw [hgf, recT] at hEq
    obtain ⟨c0, c1, c2, c3, f1⟩ := cells4_of hL.upd.at'
    by_cases hke : k1 = s.size
    · rw [if_pos hke] at hEq
      have e0 : ((k1 : Int) == (s.size : Int)) = true := by rw [hke]; simp
      by_cases hg : g = 0
      · rw [if_pos hg] at hEq
        have e1 : ((g : Int) == 0) = true := by rw [hg]; rfl
        have Hend : Hid (∀ n, RcT W c v s st (.returned (.tuple #[.slice ua m uc, .int .i64 0])) (wr.drewN n) R) := by
          intro n
          rw [← hEq]
          have hu := hL.upd
          exact ⟨ua, m, uc, 0, k1, rfl, ⟨hu.os, hu.tape, hu.output, hu.size, hu.at', hu.far⟩, rfl, rfl, (hL.own.done (fun g _ hp => hp.1) (fun g _ q2 _ => q2)).drewN' n⟩
        clear HL hL hEq hg hke hgf Hne Hih HB ho
        go_wp2
        go_quiet (fail)
        go_wp2
        go_ret2
        exact unhide Hend _
      · rw [if_neg hg] at hEq
        have e1 : ((g : Int) == 0) = false := beq_eq_false_iff_ne.2 (by omega)
        have Hend : Hid (∀ n, RcT W c v s st (.returned (.tuple #[.slice none 0 0, .int .i64 20])) (wr.drewN n) R) := by
          intro n
          rw [← hEq]
          have hu := hL.upd
          exact ⟨none, 0, 0, 20, k1, rfl, ⟨hu.os, hu.tape, hu.output, hu.size, hu.at', hu.far⟩, rfl, by decide, rfl⟩
        clear HL hL hEq hg hke hgf Hne Hih HB ho
        go_wp2
        go_quiet (fail)
        go_wp2
        go_ret2
        exact unhide Hend _
    · rw [if_neg hke] at hEq
      have e0 : ((k1 : Int) == (s.size : Int)) = false := beq_eq_false_iff_ne.2 (by omega)
      have hcu : CuAt wr c v s k1 st := hL.upd.at'
      have hBr : Bs wr v s := (unhide HB).upd hL.upd (unhide Hne)
      have hcg := fun n => cTag_any (W := wr.drewN n) hcu (hBr.up (fun _ _ => rfl) (Nat.le_refl _)) hL.le hs
      have Hcg := hide hcg
      have Hcu := hide hcu
      have HBr := hide hBr
      have HEq := hide hEq
      have Hgf := hide hgf
      clear HB hL hcg hcu hBr hEq hke hgf
      go_wp2
      go_quiet (fail)
      go_wp2_with fail
      refine (unhide Hcg _).mono ?_
      intro e w1 hq
      have hEq := unhide HEq
      have hx := fun h => cg_uni h hq
      rcases hx (unhide Hcu) with ⟨q, hq0, htr, rfl, hU0⟩ | ⟨n, kd, k', htr, rfl, hU0⟩
      · have hU : Upd wr c _ w1 := ⟨hU0.os, hU0.tape, hU0.output, hU0.size, hU0.at', hU0.far⟩
        rw [htr] at hEq
        have Hend : Hid (RcT W c v s st (.returned (.tuple #[.slice none 0 0, .int .i64 (q : Int)])) w1 R) := by
          rw [← hEq]
          exact ⟨none, 0, 0, q, k1, rfl, (unhide HL).upd.trans hU, rfl, hq0, rfl⟩
        have q0 : ((q : Int) != 0) = true := by simp; omega
        clear hEq HEq hU hU0 htr hq0 hq Hcg Hcu HBr HL Hne Hih Hgf ho c0 c1 c2 c3 f1 e0
        go_wp2
        go_ret2
        exact unhide Hend
      · have hU : Upd wr c _ w1 := ⟨hU0.os, hU0.tape, hU0.output, hU0.size, hU0.at', hU0.far⟩
        rw [htr] at hEq
        replace hEq : (if kd = 4 then (if n = g then .inl (acc, k') else .inr (25, k1)) else if kd = 3 ∧ (o : Int) = most then .inr (4, k1)
          else match (if kd = 3 then grpT n (recT s st most f n (o + 1) k' []) else plcT k' (bodyT s st n k' kd)) with
            | .inr x => .inr x
            | .inl (t, k2) => recT s st most f g o k2 (acc ++ [t]) : (List Rt × Nat) ⊕ (Nat × Nat)) = R := hEq
        obtain ⟨b1, b2, b3, b4, b5⟩ := tagR_lt htr
        obtain ⟨d0, d1, d2, d3, g1⟩ := cells4_of hU.at'
        by_cases h4 : kd = 4
        · rw [if_pos h4] at hEq
          have e4 : ((kd : Int) == 4) = true := by rw [h4]; rfl
          by_cases hg : n = g
          · rw [if_pos hg] at hEq
            have e5 : ((n : Int) == (g : Int)) = true := by rw [hg]; simp
            have Hend : Hid (RcT W c v s st (.returned (.tuple #[.slice ua m uc, .int .i64 0])) w1 R) := by
              rw [← hEq]
              exact ⟨ua, m, uc, 0, k', rfl, (unhide HL).upd.trans hU, rfl, rfl, ((unhide HL).own.done (fun g _ hp => hp.1) (fun g _ q2 _ => q2)).mono (fun g hg hp => ⟨hp, hU.far g hg (by omega)⟩) hU.size⟩
            clear hEq HEq hU hU0 htr hq Hcg Hcu HBr HL Hne Hih Hgf ho c0 c1 c2 c3 f1 e0 h4 hg b1 b2 b3 b4 b5
            go_wp2
            go_ret2
            exact unhide Hend
          · rw [if_neg hg] at hEq
            have e5 : ((n : Int) == (g : Int)) = false := beq_eq_false_iff_ne.2 (by omega)
            have Hend : Hid (RcT W c v s st (.returned (.tuple #[.slice none 0 0, .int .i64 25])) (w1.setCell ⟨c, 1, none⟩ (.int .i64 (k1 : Int))) R) := by
              rw [← hEq]
              exact ⟨none, 0, 0, 25, k1, rfl, (unhide HL).upd.trans (upd_at0 hU _), rfl, by decide, rfl⟩
            clear hEq HEq hU hU0 htr hq Hcg Hcu HBr HL Hne Hih Hgf ho c0 c1 c2 c3 f1 e0 h4 hg b1 b2 b3 b4 b5
            go_wp2
            go_ret2
            exact unhide Hend
        · rw [if_neg h4] at hEq
          have e4 : ((kd : Int) == 4) = false := beq_eq_false_iff_ne.2 (by omega)
          by_cases h3 : kd = 3 ∧ (o : Int) = most
          · rw [if_pos h3] at hEq
            have e5 : ((kd : Int) == 3) = true := by rw [h3.1]; rfl
            have e6 : ((o : Int) == most) = true := by rw [h3.2]; simp
            have Hend : Hid (RcT W c v s st (.returned (.tuple #[.slice none 0 0, .int .i64 4])) (w1.setCell ⟨c, 1, none⟩ (.int .i64 (k1 : Int))) R) := by
              rw [← hEq]
              exact ⟨none, 0, 0, 4, k1, rfl, (unhide HL).upd.trans (upd_at0 hU _), rfl, by decide, rfl⟩
            clear hEq HEq hU hU0 htr hq Hcg Hcu HBr HL Hne Hih Hgf ho c0 c1 c2 c3 f1 e0 h4 h3 b1 b2 b3 b4 b5
            go_wp2
            go_ret2
            exact unhide Hend
          · rw [if_neg h3] at hEq
            have h3' : ((kd : Int) == 3) = false ∨ (((kd : Int) == 3) = true ∧ ((o : Int) == most) = false) := by
              by_cases q3 : kd = 3
              · exact .inr ⟨by rw [q3]; rfl, beq_eq_false_iff_ne.2 (fun q => h3 ⟨q3, q⟩)⟩
              · exact .inl (beq_eq_false_iff_ne.2 (by omega))
            have hB1 : Bs w1 v s := (unhide HBr).upd hU (unhide Hne)
            have hL := unhide HL
            have hgf := unhide Hgf
            have := hL.fu
            have := hL.fl
            have := hL.le
            have := hL.ge
            have := hL.few
            have hbeh := behind_T (W := w1) (n := n) (o := o) (kd := kd) (most := most) (R := recT s st most f n (o + 1) k' []) hU.at' hB1 b5 hs (unhide Hne) (by omega) b3 h4 (fun _ X hX hXc => unhide Hih f (by omega) X n (o + 1) k' hXc (hB1.lift hX) b5 (by omega) (by omega))
            obtain ⟨Rb, hRb⟩ : ∃ Rb, (if kd = 3 then grpT n (recT s st most f n (o + 1) k' []) else plcT k' (bodyT s st n k' kd)) = Rb := ⟨_, rfl⟩
            have hle := fun t k2 (q : Rb = .inl (t, k2)) => plcT_le (s := s) (st := st) (most := most) (f := f) (n := n) (o := o) (k := k') (kd := kd) (t := t) (k2 := k2) (by omega) b5 (hRb.trans q)
            rw [hRb] at hEq hbeh
            have Hbeh := hide hbeh
            have HEq1 := hide hEq
            have Hle := hide hle
            have HU1 := hide (hL.upd.trans hU)
            obtain ⟨us, l1, l2, l3⟩ := hL.own
            have hacm := unhide Hm
            rw [hacm] at l2
            have Hown1 : Hid (w1.ownsRow W.heap.size 35 5 (.slice ua m uc) m (rowC acc us)) := rowUpd l2 hU hcl
            have HF01 : Hid (Fr wr w1 (fun q => q = c)) := hU.fr rfl
            have L1 := hide l1
            have L3 := hide l3
            have hlt2 : ∀ q, (Value.slice ua m uc).ownBlock = some q → W.heap.size ≤ q ∧ q < wr.heap.size := l2.lt
            have Hlt2 := hide hlt2
            have hcw1 : W.heap.size ≤ w1.heap.size := (hL.upd.trans hU).size
            have hm1 : m ≤ k' ∧ k1 < k' ∧ k' ≤ s.size := by omega
            clear hacm
            clear hbeh hEq HEq hle hU hU0 htr hq Hcg Hcu HBr Hih c0 c1 c2 c3 f1 e0 hB1 hL hx l1 l2 l3 hlt2
            clear hRb h3 h4
            rcases h3' with q3 | ⟨q3, q4⟩
            all_goals (
              go_wp2_with fail
              refine (unhide Hbeh).mono ?_
              intro e w2 hq
              obtain ⟨x, t, va, vn, vc, q, k2, rfl, hU2, hrel⟩ := hq
              by_cases hq0 : q = 0
              · obtain ⟨r, hRr, li, hr, hli⟩ := relE_ok hrel hq0
                have hk2 := unhide Hle r k2 hRr
                have hEq1 := unhide HEq1
                rw [hRr] at hEq1
                replace hEq1 : recT s st most f g o k2 (acc ++ [r]) = R := hEq1
                have HEq2 := hide hEq1
                subst hq0
                have HU2 := hide ((unhide HU1).trans hU2)
                have Hown2 : Hid (w2.ownsRow W.heap.size 35 5 (.slice ua m uc) m (rowC acc us)) := rowUpd (unhide Hown1) hU2 hcl
                have HF02 : Hid (Fr wr w2 (fun q => q = c)) := (unhide HF01).trans (hU2.fr rfl)
                have Hli := hide hli
                have Hr := hide hr
                have Hz01 := hide (unhide HF01).size
                have hsz2 : W.heap.size ≤ w2.heap.size := (unhide HU2).size
                have Hlt : Hid (k2 ≤ s.size ∧ k' ≤ k2) := ⟨hk2.2, hk2.1⟩
                have O1 : Hid (m + 1 ≤ maxLen) := by show _ ≤ _; unfold maxLen; omega
                have O2 : Hid ((m + 1) * 64 ≤ 140737488355328) := by show _ ≤ _; omega
                clear hEq1 hrel Hbeh HEq1 Hle HU1 Hown1 hU2 hk2 hRr hr hli HF01
                go_wp2_with (at_builtin; refine wpList_append_own_at _ rfl _ _ 33 rfl W.heap.size 35 i0 (.agg #[.int .i64 0, .int .i64 0, .int .i64 0, .string .empty, .slice none 0 0]) 5 64 Tryd.underlying33 hi hz0 hz1 hz2 rfl (by decide) _ _ _ rfl (((unhide Hown2).alloc _).alloc _) ⟨w2.heap.size + 1, 0, none⟩ 1 1 [.int .i64 (n : Int), .int .i64 (kd : Int), .int .i64 x, .string t, .slice va vn vc] rfl rfl (World.news_of_block (cs := #[.int .i64 (n : Int), .int .i64 (kd : Int), .int .i64 x, .string t, .slice va vn vc]) (t := 35) (fr := (0, 0)) (heap_alloc2 _ _ _)) (by simp [Value.oneCell']) (unhide O1) (unhide O2) (by rw [World.size_alloc, World.size_alloc]; omega) ?_; intro v4 w4 hown4 hgrow4 hdrop4 hat4; clear hdrop4; obtain ⟨ya, yc, rfl⟩ := row_form hown4; have Hown4 := hide hown4; have Hat4 := hide hat4; have Hgr4 := hide hgrow4; clear hat4; have HU4 := hide (upd_grow2 (unhide HU2) hcl hgrow4 (fun b hb => ((unhide Hown2).lt b hb).1)); clear hown4 hgrow4)
                go_roundg f
                case measure => have := unhide Hgf; omega
                case rel =>
                  have hL := unhide HL
                  have hgf := unhide Hgf
                  obtain ⟨l1', l2'⟩ := unhide Hlt
                  have := hL.fu
                  have := hL.fl
                  have := hL.ge
                  have hacm := unhide Hm
                  have hown := recs_push (unhide L1) (unhide L3) hacm (unhide Hown4) (unhide HF02) (unhide Hgr4) (unhide Hat4) (unhide Hlt2) hcl (unhide Hz01) (unhide Hli) (unhide HL).upd.size
                  rw [← unhide Hr] at hown
                  exact ⟨k2, acc ++ [r], m + 1, ya, yc, rfl, ⟨unhide HU4, l1', by omega, by omega, by omega, unhide HEq2, hown, by rw [List.length_append, List.length_singleton]; omega⟩, by rw [List.length_append, List.length_singleton]; omega⟩
              · have q0 : ((q : Int) != 0) = true := by simp; omega
                have hEq1 := unhide HEq1
                rw [relE_err hrel hq0] at hEq1
                have Hend : Hid (∀ o, RcT W c v s st (.returned (.tuple #[.slice none 0 0, .int .i64 (q : Int)])) (w2.alloc o) R) := by
                  intro o
                  rw [← hEq1]
                  exact ⟨none, 0, 0, q, k2, rfl, ((unhide HU1).trans hU2).below' ((Below.refl _ _).alloc (Nat.le_refl _) _), rfl, hq0, rfl⟩
                clear hEq1 hU2 hrel Hbeh HEq1 Hle HU1 Hown1 HL hq0 Hgf Hne HF01 L1 L3 Hm Hlt2
                go_wp2
                go_ret2
                exact unhide Hend _)
#print axioms records_T
end Go.Proofs.YtobomdokdajbaaaDoor
