import Derived.Test.YtobomdokdajbaaaDoorJ14
import Derived.Test.YtobomdokdajbaaaDoorJ14

namespace Go.Proofs.YtobomdokdajbaaaDoor
open Go.RowKit
attribute [local go_sem ↓] Go.wp_at_zero Go.wp_at_succ

/-- A tag: number, kind and the place behind it, or the error. -/
def tagR (s : ByteArray) (st : Bool) (k : Nat) : (Nat × Nat × Nat) ⊕ Nat :=
  match vAt s st k with
  | .inr c => .inr c
  | .inl (u, k') => if u / 8 < 1 ∨ 536870911 < u / 8 then .inr 24 else if 5 < u % 8 then .inr 23 else .inl (u / 8, u % 8, k')
theorem tagR_lt {s : ByteArray} {st : Bool} {k n kd k' : Nat} (h : tagR s st k = .inl (n, kd, k')) : 1 ≤ n ∧ n ≤ 536870911 ∧ kd ≤ 5 ∧ k < k' ∧ k' ≤ s.size := by
  unfold tagR at h
  split at h
  · cases h
  · rename_i u k2 hv
    have := vAt_lt hv
    split at h
    · cases h
    · split at h
      · cases h
      · obtain ⟨rfl, hp⟩ := Prod.mk.inj (Sum.inl.inj h)
        obtain ⟨rfl, rfl⟩ := Prod.mk.inj hp
        omega
theorem recM_succ (s : ByteArray) (st : Bool) (most : Int) (f g o k : Nat) : recM s st most (f + 1) g o k = if k = s.size then (if g = 0 then .inl k else .inr (20, k)) else
    match tagR s st k with
    | .inr c => .inr (c, k)
    | .inl (n, kd, k') => if kd = 4 then (if n = g then .inl k' else .inr (25, k)) else if kd = 3 ∧ (o : Int) = most then .inr (4, k)
      else match (if kd = 3 then recM s st most f n (o + 1) k' else plcE k' (bodyR s st k' kd)) with
        | .inr x => .inr x
        | .inl k2 => recM s st most f g o k2 := by
  rw [recM]
  by_cases hk : k = s.size
  · rw [if_pos hk, if_pos hk]
  · rw [if_neg hk, if_neg hk]
    unfold tagR
    generalize vAt s st k = r
    match r with
    | .inr c => rfl
    | .inl (u, k') =>
      show (if u / 8 < 1 ∨ 536870911 < u / 8 then _ else if 5 < u % 8 then _ else _) = _
      by_cases h24 : u / 8 < 1 ∨ 536870911 < u / 8
      · simp only [if_pos h24]
      · simp only [if_neg h24]
        by_cases h23 : 5 < u % 8
        · simp only [if_pos h23]
        · simp only [if_neg h23]
          rfl
theorem cg_uni {W : World} {c : Nat} {v : Value} {s : ByteArray} {k : Nat} {st : Bool} {e : Ending} {w : World} (h : CuAt W c v s k st) (hq : CgA W c v s k st e w (vAt s st k)) :
    (∃ q, q ≠ 0 ∧ tagR s st k = .inr q ∧ e = .returned (.tuple #[.int .i64 0, .int .i64 0, .int .i64 (q : Int)]) ∧ Upd W c (.cells #[v, .int .i64 (k : Int), .int .i64 (s.size : Int), .bool st] 88 (0, 0)) w) ∨
    (∃ n kd k', tagR s st k = .inl (n, kd, k') ∧ e = .returned (.tuple #[.int .i64 (n : Int), .int .i64 (kd : Int), .int .i64 0]) ∧ Upd W c (.cells #[v, .int .i64 (k' : Int), .int .i64 (s.size : Int), .bool st] 88 (0, 0)) w) := by
  unfold tagR
  generalize vAt s st k = r at hq
  match r, hq with
  | .inr n, ⟨h1, h2, m, h3⟩ => exact .inl ⟨n, h2, rfl, h1, by rw [h3]; exact upd_same h m⟩
  | .inl (u, k'), hq =>
    show (∃ q, q ≠ 0 ∧ (if u / 8 < 1 ∨ 536870911 < u / 8 then .inr 24 else if 5 < u % 8 then .inr 23 else .inl (u / 8, u % 8, k') : (Nat × Nat × Nat) ⊕ Nat) = .inr q ∧ _ ∧ _) ∨ (∃ n kd k2, (if u / 8 < 1 ∨ 536870911 < u / 8 then .inr 24 else if 5 < u % 8 then .inr 23 else .inl (u / 8, u % 8, k') : (Nat × Nat × Nat) ⊕ Nat) = .inl (n, kd, k2) ∧ _ ∧ _)
    unfold CgA at hq
    dsimp only at hq
    by_cases h24 : u / 8 < 1 ∨ 536870911 < u / 8
    · rw [if_pos h24] at hq
      exact .inl ⟨24, by decide, if_pos h24, hq.1, hq.2⟩
    · rw [if_neg h24] at hq
      by_cases h23 : 5 < u % 8
      · rw [if_pos h23] at hq
        exact .inl ⟨23, by decide, by rw [if_neg h24, if_pos h23], hq.1, hq.2⟩
      · rw [if_neg h23] at hq
        exact .inr ⟨_, _, _, by rw [if_neg h24, if_neg h23], hq.1, hq.2⟩
theorem relC_err {q k2 : Nat} {R : Nat ⊕ (Nat × Nat)} (h : RelC q k2 R) (hq : q ≠ 0) : R = .inr (q, k2) := by
  match R, h with
  | .inl k', h => exact absurd h.1 hq
  | .inr (c, k'), h => obtain ⟨rfl, _, rfl⟩ := h; rfl
theorem relC_ok {q k2 : Nat} {R : Nat ⊕ (Nat × Nat)} (h : RelC q k2 R) (hq : q = 0) : R = .inl k2 := by
  match R, h with
  | .inl k', h => obtain ⟨_, rfl⟩ := h; rfl
  | .inr (c, k'), h => obtain ⟨h1, h2, _⟩ := h; exact absurd (h1.symm.trans hq) h2
theorem plcE_le {s : ByteArray} {st : Bool} {most : Int} {f n o k kd k2 : Nat} (hn : n ≠ 0) (hk : k ≤ s.size) (h : (if kd = 3 then recM s st most f n (o + 1) k else plcE k (bodyR s st k kd)) = .inl k2) : k ≤ k2 ∧ k2 ≤ s.size := by
  split at h
  · have := recM_lt s st most f n (o + 1) k k2 hn hk h
    omega
  · generalize hb : bodyR s st k kd = r at h
    match r, h with
    | .inl q, h =>
      obtain rfl := Sum.inl.inj h
      exact bodyR_lt hb
theorem heap_alloc2 (w : World) (a b : Obj) : ((w.alloc a).alloc b).heap[w.heap.size + 1]? = some b := by
  have := heap_alloc_new (w.alloc a) b
  rwa [World.size_alloc] at this
theorem row_form {W : World} {base z n : Nat} {e : TypeId} {v : Value} {xs : List Value} (h : W.ownsRow base e z v n xs) : ∃ a c, v = .slice a n c := by
  obtain ⟨_, ⟨e, h0⟩ | ⟨g, cc, _, e, _⟩⟩ := h
  · exact ⟨none, 0, by rw [e, h0]⟩
  · exact ⟨_, _, e⟩
theorem upd_grow2 {W w2 w4 : World} {c : Nat} {o b1 b2 : Obj} {u : Value} (hU : Upd W c o w2) (hc : c < W.heap.size) (hg : ((w2.alloc b1).alloc b2).grownBy w4 u.ownBlock) (hu : ∀ b, u.ownBlock = some b → W.heap.size ≤ b) : Upd W c o w4 := by
  have hz := hU.size
  have h1 : Below W.heap.size w2 ((w2.alloc b1).alloc b2) := ((Below.refl _ _).alloc hz _).alloc (by rw [World.size_alloc]; omega) _
  exact upd_low (Below.refl _ _) hU (h1.trans ⟨hg.os, hg.tape, hg.output, hg.size, fun b hb => hg.block b (by rw [World.size_alloc, World.size_alloc]; omega) (fun e => by have := hu b e.symm; omega)⟩) hc
/-- Where the loop of records stands. -/
structure RLp (W : World) (c : Nat) (v : Value) (s : ByteArray) (st : Bool) (most : Int) (F g o k0 : Nat) (R : Nat ⊕ (Nat × Nat)) (gk : Nat) (u : Value) (wr : World) (k1 m : Nat) (xs : List Value) : Prop where
  upd : Upd W c (.cells #[v, .int .i64 (k1 : Int), .int .i64 (s.size : Int), .bool st] 88 (0, 0)) wr
  le : k1 ≤ s.size
  ge : k0 ≤ k1
  fu : s.size < k1 + gk
  fl : gk ≤ F
  eq : recM s st most gk g o k1 = R
  own : wr.ownsRow W.heap.size 35 5 u m xs
  few : m ≤ k1
set_option maxRecDepth 100000 in
set_option maxHeartbeats 4000000 in
theorem records_any {c : Nat} {v : Value} {s : ByteArray} {st : Bool} {most : Int} (hs : s.size ≤ 1048576) (hne : ∀ a l cp, v = .slice (some a) l cp → 0 < s.size → a.block ≠ c ∧ cp ≤ 9223372036854775807) : ∀ (F : Nat) (W : World) (g o k : Nat), CuAt W c v s k st → Bs W v s → k ≤ s.size → s.size < k + F → o ≤ k + 1 →
    Calls Tryd.prog 67 #[.pointer (some ⟨c, 0, none⟩), .int .i64 (g : Int), .int .i64 (o : Int), .int .i64 most] W fun e w => RcA W c v s st e w (recM s st most F g o k) := by
  intro F
  induction F using Nat.strongRecOn with
  | ind F ih =>
  intro W g o k h hB hk hF ho
  have hcl := (Array.getElem?_eq_some_iff.1 h).1
  obtain ⟨i0, hi, hz0, hz1, hz2⟩ := info_parts Tryd.infoRec
  obtain ⟨R, hR⟩ : ∃ R, recM s st most F g o k = R := ⟨_, rfl⟩
  rw [hR]
  have HI : Hid (RLp W c v s st most F g o k R F (.slice none 0 0) W k 0 []) := ⟨⟨rfl, rfl, rfl, Nat.le_refl _, h, fun _ _ _ => rfl⟩, hk, Nat.le_refl _, hF, Nat.le_refl _, hR, World.ownsRow_nil _ _ _ _, Nat.zero_le _⟩
  have Hne := hide hne
  have Hih := hide ih
  have HB := hide hB
  clear h hR hk hF ih hne hB
  go_enter Tryd.func67, Tryd.ntmps67
  go_wp2_with fail
  go_loopg [10] F (fun gk v10 wr => ∃ k1 m xs ua uc, v10 = .slice ua m uc ∧ Hid (RLp W c v s st most F g o k R gk (.slice ua m uc) wr k1 m xs))
  case atStart => exact ⟨_, _, _, _, _, rfl, HI⟩
  case round =>
    obtain ⟨k1, m, xs, ua, uc, rfl, HL⟩ := hrel
    clear HI
    have hL := unhide HL
    obtain ⟨f, hgf⟩ : ∃ f, gk = f + 1 := ⟨gk - 1, by have := hL.le; have := hL.fu; omega⟩
    have hEq := hL.eq
    rw [hgf, recM_succ] at hEq
    obtain ⟨c0, c1, c2, c3, f1⟩ := cells4_of hL.upd.at'
    by_cases hke : k1 = s.size
    · rw [if_pos hke] at hEq
      have e0 : ((k1 : Int) == (s.size : Int)) = true := by rw [hke]; simp
      by_cases hg : g = 0
      · rw [if_pos hg] at hEq
        have e1 : ((g : Int) == 0) = true := by rw [hg]; rfl
        have Hend : Hid (∀ n, RcA W c v s st (.returned (.tuple #[.slice ua m uc, .int .i64 0])) (wr.drewN n) R) := by
          intro n
          rw [← hEq]
          have hu := hL.upd
          exact ⟨ua, m, uc, 0, k1, rfl, ⟨hu.os, hu.tape, hu.output, hu.size, hu.at', hu.far⟩, rfl, rfl⟩
        clear HL hL hEq hg hke hgf Hne Hih HB ho
        go_wp2
        go_quiet (fail)
        go_wp2
        go_ret2
        exact unhide Hend _
      · rw [if_neg hg] at hEq
        have e1 : ((g : Int) == 0) = false := beq_eq_false_iff_ne.2 (by omega)
        have Hend : Hid (∀ n, RcA W c v s st (.returned (.tuple #[.slice none 0 0, .int .i64 20])) (wr.drewN n) R) := by
          intro n
          rw [← hEq]
          have hu := hL.upd
          exact ⟨none, 0, 0, 20, k1, rfl, ⟨hu.os, hu.tape, hu.output, hu.size, hu.at', hu.far⟩, rfl, by decide, rfl⟩
        clear HL hL hEq hg hke hgf Hne Hih HB ho
        go_wp2
        go_quiet (fail)
        go_wp2
        go_ret2
        exact unhide Hend _
    · rw [if_neg hke] at hEq
      have e0 : ((k1 : Int) == (s.size : Int)) = false := beq_eq_false_iff_ne.2 (by omega)
      have hcu : CuAt wr c v s k1 st := hL.upd.at'
      have hBr : Bs wr v s := (unhide HB).upd hL.upd (unhide Hne)
      have hcg := fun n => cTag_any (W := wr.drewN n) hcu (hBr.up (fun _ _ => rfl) (Nat.le_refl _)) hL.le hs
      have Hcg := hide hcg
      have Hcu := hide hcu
      have HBr := hide hBr
      have HEq := hide hEq
      have Hgf := hide hgf
      clear HB hL hcg hcu hBr hEq hke hgf
      go_wp2
      go_quiet (fail)
      go_wp2_with fail
      refine (unhide Hcg _).mono ?_
      intro e w1 hq
      have hEq := unhide HEq
      have hx := fun h => cg_uni h hq
      rcases hx (unhide Hcu) with ⟨q, hq0, htr, rfl, hU0⟩ | ⟨n, kd, k', htr, rfl, hU0⟩
      · have hU : Upd wr c _ w1 := ⟨hU0.os, hU0.tape, hU0.output, hU0.size, hU0.at', hU0.far⟩
        rw [htr] at hEq
        have Hend : Hid (RcA W c v s st (.returned (.tuple #[.slice none 0 0, .int .i64 (q : Int)])) w1 R) := by
          rw [← hEq]
          exact ⟨none, 0, 0, q, k1, rfl, (unhide HL).upd.trans hU, rfl, hq0, rfl⟩
        have q0 : ((q : Int) != 0) = true := by simp; omega
        clear hEq HEq hU hU0 htr hq0 hq Hcg Hcu HBr HL Hne Hih Hgf ho c0 c1 c2 c3 f1 e0
        go_wp2
        go_ret2
        exact unhide Hend
      · have hU : Upd wr c _ w1 := ⟨hU0.os, hU0.tape, hU0.output, hU0.size, hU0.at', hU0.far⟩
        rw [htr] at hEq
        replace hEq : (if kd = 4 then (if n = g then .inl k' else .inr (25, k1)) else if kd = 3 ∧ (o : Int) = most then .inr (4, k1)
          else match (if kd = 3 then recM s st most f n (o + 1) k' else plcE k' (bodyR s st k' kd)) with
            | .inr x => .inr x
            | .inl k2 => recM s st most f g o k2 : Nat ⊕ (Nat × Nat)) = R := hEq
        obtain ⟨b1, b2, b3, b4, b5⟩ := tagR_lt htr
        obtain ⟨d0, d1, d2, d3, g1⟩ := cells4_of hU.at'
        by_cases h4 : kd = 4
        · rw [if_pos h4] at hEq
          have e4 : ((kd : Int) == 4) = true := by rw [h4]; rfl
          by_cases hg : n = g
          · rw [if_pos hg] at hEq
            have e5 : ((n : Int) == (g : Int)) = true := by rw [hg]; simp
            have Hend : Hid (RcA W c v s st (.returned (.tuple #[.slice ua m uc, .int .i64 0])) w1 R) := by
              rw [← hEq]
              exact ⟨ua, m, uc, 0, k', rfl, (unhide HL).upd.trans hU, rfl, rfl⟩
            clear hEq HEq hU hU0 htr hq Hcg Hcu HBr HL Hne Hih Hgf ho c0 c1 c2 c3 f1 e0 h4 hg b1 b2 b3 b4 b5
            go_wp2
            go_ret2
            exact unhide Hend
          · rw [if_neg hg] at hEq
            have e5 : ((n : Int) == (g : Int)) = false := beq_eq_false_iff_ne.2 (by omega)
            have Hend : Hid (RcA W c v s st (.returned (.tuple #[.slice none 0 0, .int .i64 25])) (w1.setCell ⟨c, 1, none⟩ (.int .i64 (k1 : Int))) R) := by
              rw [← hEq]
              exact ⟨none, 0, 0, 25, k1, rfl, (unhide HL).upd.trans (upd_at0 hU _), rfl, by decide, rfl⟩
            clear hEq HEq hU hU0 htr hq Hcg Hcu HBr HL Hne Hih Hgf ho c0 c1 c2 c3 f1 e0 h4 hg b1 b2 b3 b4 b5
            go_wp2
            go_ret2
            exact unhide Hend
        · rw [if_neg h4] at hEq
          have e4 : ((kd : Int) == 4) = false := beq_eq_false_iff_ne.2 (by omega)
          by_cases h3 : kd = 3 ∧ (o : Int) = most
          · rw [if_pos h3] at hEq
            have e5 : ((kd : Int) == 3) = true := by rw [h3.1]; rfl
            have e6 : ((o : Int) == most) = true := by rw [h3.2]; simp
            have Hend : Hid (RcA W c v s st (.returned (.tuple #[.slice none 0 0, .int .i64 4])) (w1.setCell ⟨c, 1, none⟩ (.int .i64 (k1 : Int))) R) := by
              rw [← hEq]
              exact ⟨none, 0, 0, 4, k1, rfl, (unhide HL).upd.trans (upd_at0 hU _), rfl, by decide, rfl⟩
            clear hEq HEq hU hU0 htr hq Hcg Hcu HBr HL Hne Hih Hgf ho c0 c1 c2 c3 f1 e0 h4 h3 b1 b2 b3 b4 b5
            go_wp2
            go_ret2
            exact unhide Hend
          · rw [if_neg h3] at hEq
            have h3' : ((kd : Int) == 3) = false ∨ (((kd : Int) == 3) = true ∧ ((o : Int) == most) = false) := by
              by_cases q3 : kd = 3
              · exact .inr ⟨by rw [q3]; rfl, beq_eq_false_iff_ne.2 (fun q => h3 ⟨q3, q⟩)⟩
              · exact .inl (beq_eq_false_iff_ne.2 (by omega))
            have hB1 : Bs w1 v s := (unhide HBr).upd hU (unhide Hne)
            have hL := unhide HL
            have hgf := unhide Hgf
            have := hL.fu
            have := hL.fl
            have := hL.le
            have := hL.ge
            have := hL.few
            have hbeh := behind_any (W := w1) (n := n) (o := o) (kd := kd) (most := most) (R := recM s st most f n (o + 1) k') hU.at' hB1 b5 hs (unhide Hne) (by omega) b3 h4 (fun _ X hX hXc => unhide Hih f (by omega) X n (o + 1) k' hXc (hB1.lift hX) b5 (by omega) (by omega))
            obtain ⟨Rb, hRb⟩ : ∃ Rb, (if kd = 3 then recM s st most f n (o + 1) k' else plcE k' (bodyR s st k' kd)) = Rb := ⟨_, rfl⟩
            have hle := fun k2 (q : Rb = .inl k2) => plcE_le (s := s) (st := st) (most := most) (f := f) (n := n) (o := o) (k := k') (kd := kd) (k2 := k2) (by omega) b5 (hRb.trans q)
            rw [hRb] at hEq hbeh
            have Hbeh := hide hbeh
            have HEq1 := hide hEq
            have Hle := hide hle
            have HU1 := hide (hL.upd.trans hU)
            have Hown1 : Hid (w1.ownsRow W.heap.size 35 5 (.slice ua m uc) m xs) := rowUpd hL.own hU hcl
            have hcw1 : W.heap.size ≤ w1.heap.size := (hL.upd.trans hU).size
            have hm1 : m ≤ k' ∧ k1 < k' ∧ k' ≤ s.size := by omega
            clear hbeh hEq HEq hle hU hU0 htr hq Hcg Hcu HBr Hih c0 c1 c2 c3 f1 e0 hB1 hL hx
            clear hRb h3 h4
            rcases h3' with q3 | ⟨q3, q4⟩
            all_goals (
              go_wp2_with fail
              refine (unhide Hbeh).mono ?_
              intro e w2 hq
              obtain ⟨x, t, va, vn, vc, q, k2, rfl, hU2, hrel⟩ := hq
              by_cases hq0 : q = 0
              · have hk2 := unhide Hle k2 (relC_ok hrel hq0)
                have hEq1 := unhide HEq1
                rw [relC_ok hrel hq0] at hEq1
                replace hEq1 : recM s st most f g o k2 = R := hEq1
                have HEq2 := hide hEq1
                subst hq0
                have HU2 := hide ((unhide HU1).trans hU2)
                have Hown2 : Hid (w2.ownsRow W.heap.size 35 5 (.slice ua m uc) m xs) := rowUpd (unhide Hown1) hU2 hcl
                have hsz2 : W.heap.size ≤ w2.heap.size := (unhide HU2).size
                have Hlt : Hid (k2 ≤ s.size ∧ k' ≤ k2) := ⟨hk2.2, hk2.1⟩
                have O1 : Hid (m + 1 ≤ maxLen) := by show _ ≤ _; unfold maxLen; omega
                have O2 : Hid ((m + 1) * 64 ≤ 140737488355328) := by show _ ≤ _; omega
                clear hEq1 hrel Hbeh HEq1 Hle HU1 Hown1 hU2 hk2
                go_wp2_with (at_builtin; refine wpList_append_own_at _ rfl _ _ 33 rfl W.heap.size 35 i0 (.agg #[.int .i64 0, .int .i64 0, .int .i64 0, .string .empty, .slice none 0 0]) 5 64 Tryd.underlying33 hi hz0 hz1 hz2 rfl (by decide) _ _ _ rfl (((unhide Hown2).alloc _).alloc _) ⟨w2.heap.size + 1, 0, none⟩ 1 1 [.int .i64 (n : Int), .int .i64 (kd : Int), .int .i64 x, .string t, .slice va vn vc] rfl rfl (World.news_of_block (cs := #[.int .i64 (n : Int), .int .i64 (kd : Int), .int .i64 x, .string t, .slice va vn vc]) (t := 35) (fr := (0, 0)) (heap_alloc2 _ _ _)) (by simp [Value.oneCell']) (unhide O1) (unhide O2) (by rw [World.size_alloc, World.size_alloc]; omega) ?_; intro v4 w4 hown4 hgrow4 hdrop4 hat4; clear hdrop4 hat4; obtain ⟨ya, yc, rfl⟩ := row_form hown4; have Hown4 := hide hown4; have HU4 := hide (upd_grow2 (unhide HU2) hcl hgrow4 (fun b hb => ((unhide Hown2).lt b hb).1)); clear hown4 hgrow4)
                go_roundg f
                case measure => have := unhide Hgf; omega
                case rel =>
                  have hL := unhide HL
                  have hgf := unhide Hgf
                  obtain ⟨l1, l2⟩ := unhide Hlt
                  have := hL.fu
                  have := hL.fl
                  have := hL.ge
                  exact ⟨k2, m + 1, _, ya, yc, rfl, unhide HU4, l1, by omega, by omega, by omega, unhide HEq2, unhide Hown4, by omega⟩
              · have q0 : ((q : Int) != 0) = true := by simp; omega
                have hEq1 := unhide HEq1
                rw [relC_err hrel hq0] at hEq1
                have Hend : Hid (∀ o, RcA W c v s st (.returned (.tuple #[.slice none 0 0, .int .i64 (q : Int)])) (w2.alloc o) R) := by
                  intro o
                  rw [← hEq1]
                  exact ⟨none, 0, 0, q, k2, rfl, ((unhide HU1).trans hU2).below' ((Below.refl _ _).alloc (Nat.le_refl _) _), rfl, hq0, rfl⟩
                clear hEq1 hU2 hrel Hbeh HEq1 Hle HU1 Hown1 HL hq0 Hgf Hne
                go_wp2
                go_ret2
                exact unhide Hend _)
end Go.Proofs.YtobomdokdajbaaaDoor
