import Derived.Test.YtdhncpeemcanlaaGreatDoorJ17
import Derived.Test.YtdhncpeemcanlaaGreatDoorJ17
import Derived.Shelf.Strings.Builder1
import Derived.Test.YtdhncpeemcanlaaGreatDoorChecked

namespace Go.Proofs.YtdhncpeemcanlaaGreatDoor
open Go.RowKit
attribute [local go_sem ↓] Go.wp_at_zero Go.wp_at_succ

/-- What stands in some slots. -/
def chk (tm : Array Value) : List (Nat × Value) → Prop
  | [] => True
  | p :: r => tm[p.1]? = some p.2 ∧ chk tm r
set_option maxRecDepth 100000 in
theorem frame41 {tm : Array Value} (h : tm.size = 41) : ∃ u : Nat → Value, tm = #[u 0, u 1, u 2, u 3, u 4, u 5, u 6, u 7, u 8, u 9, u 10, u 11, u 12, u 13, u 14, u 15, u 16, u 17, u 18, u 19, u 20, u 21, u 22, u 23, u 24, u 25, u 26, u 27, u 28, u 29, u 30, u 31, u 32, u 33, u 34, u 35, u 36, u 37, u 38, u 39, u 40] := by
  refine ⟨fun i => tm.getD i undef, ?_⟩
  have e : tm = ((List.range 41).map fun i => tm.getD i undef).toArray := by
    apply Array.ext
    · simp [h]
    · intro i h1 h2
      simp [Array.getD, h1]
  exact e.trans rfl
noncomputable def numR (x : ByteArray) : Int × Int := if 65536 < x.size then (0, 2) else match wv (strN x) with
  | some u => ((u : Int), 0)
  | none => (0, 41)
theorem numR_any {W : World} (h : HasE W) (x : ByteArray) : Calls Tryz.prog 135 #[.string x] W fun e w => e = .returned (.tuple #[.int .i64 (numR x).1, .int .i64 (numR x).2]) ∧ Below W.heap.size W w := by
  refine (number_any h x).mono ?_
  rintro e w ⟨hb, n, c, rfl, hu⟩
  refine ⟨?_, hb⟩
  unfold numR
  rcases hu with ⟨h1, rfl, rfl⟩ | ⟨h1, ⟨u, h2, rfl, rfl⟩ | ⟨h2, rfl, rfl⟩⟩
  · rw [if_pos h1]
  · rw [if_neg (by omega), h2]
  · rw [if_neg (by omega), h2]
noncomputable def nbTail : Code := match Tryz.f131.body with
  | some (.seq _ (.seq _ x)) => x
  | _ => .skip
noncomputable def nbWith (t : Code) : Code := match Tryz.f131.body with
  | some (.seq a (.seq b _)) => .seq a (.seq b t)
  | _ => .skip
theorem nb_split : Tryz.f131.body = some (nbWith nbTail) := rfl
noncomputable def tailF (lo hi : Int) (m : Bool) (s : PSt) : Except (Int × Int) (Int × PSt) :=
  if s.here.kind = 2 then (if (numR s.here.text).2 = 0 then (if (if m = true then -(numR s.here.text).1 else (numR s.here.text).1) < lo ∨ hi < (if m = true then -(numR s.here.text).1 else (numR s.here.text).1) then .error (55, s.here.spot) else (match pnextF s with | .ok (_, s') => .ok ((if m = true then -(numR s.here.text).1 else (numR s.here.text).1), s') | .error e => .error e)) else .error ((numR s.here.text).2, s.here.spot)) else .error (wrongE s)
def intV (n : Int) : Value := .int .i64 n
theorem numR_fit (x : ByteArray) : 0 ≤ (numR x).1 ∧ (numR x).1 ≤ 9223372036854775807 := by
  unfold numR
  split
  · simp
  · split
    · next u h =>
      have := wv_le h
      simp only
      omega
    · simp
set_option maxRecDepth 100000 in
set_option maxHeartbeats 4000000 in
theorem nbTail_any {V W : World} {lb b bx : Nat} {s : PSt} {lo hi : Int} {m : Bool} {R : Ending → World → Prop} (hv : Env V W b) (h : Rd lb W b s) (hbx : bx ≠ b) (x0 : W.cell? ⟨bx, 0, none⟩ = some (.int .i64 lo)) (x1 : W.cell? ⟨bx, 1, none⟩ = some (.int .i64 hi))
    {tm : Array Value} (hsz : tm.size = 41) (hchk : chk tm [(0, .pointer (some ⟨b, 0, none⟩)), (3, .pointer (some ⟨bx, 0, none⟩)), (5, .bool m)]) (hR : ∀ e w, PR lb b W intV (tailF lo hi m s) e w → R e w) : nbTail.wp Tryz.prog (bodyPost Tryz.prog Tryz.f131 R) ⟨tm, []⟩ W := by
  have HR := hide hR
  have hc := hide (need_any h 2)
  obtain ⟨u, rfl⟩ := frame41 hsz
  obtain ⟨e0, e3, e5, _⟩ := hchk
  replace e0 : u 0 = .pointer (some ⟨b, 0, none⟩) := Option.some.inj e0
  replace e3 : u 3 = .pointer (some ⟨bx, 0, none⟩) := Option.some.inj e3
  replace e5 : u 5 = .bool m := Option.some.inj e5
  rw [e0, e3, e5]
  have hlx : bx < W.heap.size := World.block_lt_of_cell? W _ x0
  have HX : Hid (∀ w, W.grownBy w (some b) → w.cell? ⟨bx, 0, none⟩ = some (.int .i64 lo) ∧ w.cell? ⟨bx, 1, none⟩ = some (.int .i64 hi)) := fun w hg =>
    ⟨(World.cell?_of_block (a := ⟨bx, 0, none⟩) (hg.block bx hlx (by simpa using hbx))).trans x0, (World.cell?_of_block (a := ⟨bx, 1, none⟩) (hg.block bx hlx (by simpa using hbx))).trans x1⟩
  have Hv := hide hv
  have Hd := hide h
  clear e0 e3 e5 hsz hR x0 x1 hv
  obtain ⟨Q, hQ⟩ : ∃ Q, bodyPost Tryz.prog Tryz.f131 R = Q := ⟨_, rfl⟩
  rw [hQ]
  unfold nbTail
  dsimp only [Tryz.f131]
  go_wp2_with fail
  refine (unhide hc).mono ?_
  intro e w1 hw
  rcases hw.split with ⟨x, hr, rfl, hg⟩ | ⟨x, s1, hr, rfl, h1, hg⟩
  · have hk : ¬ s.here.kind = 2 := fun e => by unfold pneedF at hr; rw [if_pos e] at hr; cases hr
    unfold pneedF at hr
    rw [if_neg hk] at hr
    obtain rfl : wrongE s = x := Except.error.inj hr
    rw [← hQ]
    refine ⟨rfl, unhide HR _ _ ?_⟩
    unfold tailF
    rw [if_neg hk]
    exact ⟨rfl, hg⟩
  · have hk : s.here.kind = 2 := by
      apply Classical.byContradiction
      intro e
      unfold pneedF at hr
      rw [if_neg e] at hr
      cases hr
    unfold pneedF at hr
    rw [if_pos hk] at hr
    simp only [Except.ok.injEq, Prod.mk.injEq] at hr
    obtain ⟨rfl, rfl⟩ := hr
    have hp := here_pos h.grown (by rw [hk]; decide)
    have hun := numR_any ((unhide Hv).step hg).hasE s.here.text
    have hEq : tailF lo hi m s = (if (numR s.here.text).2 = 0 then (if (if m = true then -(numR s.here.text).1 else (numR s.here.text).1) < lo ∨ hi < (if m = true then -(numR s.here.text).1 else (numR s.here.text).1) then .error (55, s.here.spot) else (match pnextF s with | .ok (_, s') => .ok ((if m = true then -(numR s.here.text).1 else (numR s.here.text).1), s') | .error e => .error e)) else .error ((numR s.here.text).2, s.here.spot)) := by unfold tailF; rw [if_pos hk]
    have hfit := numR_fit s.here.text
    have HEq := hide hEq
    have H1 := hide h1
    have Hg := hide hg
    have Hun := hide hun
    obtain ⟨x, hx⟩ : ∃ x, s.here.text = x := ⟨_, rfl⟩
    rw [hx] at HEq Hun hfit ⊢
    obtain ⟨⟨n, c⟩, hnc⟩ : ∃ p, numR x = p := ⟨_, rfl⟩
    rw [hnc] at HEq Hun hfit
    simp only at HEq Hun hfit
    clear hw h1 hg hk hc h hx hEq hun hnc
    go_wp2_with fail
    refine (unhide Hun).mono ?_
    rintro e w2 ⟨rfl, hb2⟩
    have H2 := hide ((unhide H1).up hb2)
    have Hg2 := hide ((unhide Hg).trans (below_grown b hb2))
    clear hb2 Hun H1 Hg
    go_wp2_with fail
    refine (check_any (unhide H2) c).mono ?_
    intro e w3 hw3
    by_cases h0 : c = 0
    · rw [if_pos h0] at hw3 HEq
      obtain ⟨rfl, h3, hg3⟩ := hw3
      have H3 := hide h3
      have Hg3 := hide ((unhide Hg2).trans hg3)
      obtain ⟨x0, x1⟩ := unhide HX w3 (unhide Hg3)
      clear h3 hg3 H2 Hg2 h0
      have HF : Hid (Calls Tryz.prog 60 #[.pointer (some ⟨b, 0, none⟩), .int .i64 55] w3 fun e w => e = flt 55 s.here.spot ∧ Below w3.heap.size w3 w) := fail_any (unhide H3) 55
      have HN : Hid (Calls Tryz.prog 65 #[.pointer (some ⟨b, 0, none⟩)] w3 (PR lb b w3 noV (pnextF s))) := next_any (unhide H3) hp
      have GOAL : ∀ k : Int, (if m = true then -n else n) = k → -9223372036854775808 < k → k ≤ 9223372036854775807 → (PR lb b W intV (tailF lo hi m s) = PR lb b W intV (if k < lo ∨ hi < k then .error (55, s.here.spot) else (match pnextF s with | .ok (_, s') => .ok (k, s') | .error e => .error e))) := fun k hk _ _ => by rw [unhide HEq, hk]
      have HGO := hide GOAL
      clear GOAL HEq
      cases m with
      | true =>
        have hPR := unhide HGO (-n) (by simp) (by omega) (by omega)
        have hneg : IntKind.i64.wrap (-n) = -n := by rw [IntKind.wrap_i64]; omega
        have HPR := hide hPR
        clear hPR HGO
        by_cases a1 : (-n) < lo
        · have d1 : decide ((-n) < lo) = true := by simp [a1]
          have HE : Hid (∀ w, Below w3.heap.size w3 w → R (flt 55 s.here.spot) w) := fun w hb => unhide HR _ _ (by rw [unhide HPR, if_pos (.inl a1)]; exact ⟨rfl, (unhide Hg3).trans (below_grown b hb)⟩)
          clear a1
          go_wp2_with fail
          refine (unhide HF).mono ?_
          rintro e w4 ⟨rfl, hb4⟩
          rw [← hQ]
          exact ⟨rfl, unhide HE w4 hb4⟩
        · have d1 : decide ((-n) < lo) = false := by simp; omega
          by_cases a2 : hi < (-n)
          · have d2 : decide (hi < (-n)) = true := by simp [a2]
            have HE : Hid (∀ w, Below w3.heap.size w3 w → R (flt 55 s.here.spot) w) := fun w hb => unhide HR _ _ (by rw [unhide HPR, if_pos (.inr a2)]; exact ⟨rfl, (unhide Hg3).trans (below_grown b hb)⟩)
            clear a1 a2
            go_wp2_with fail
            refine (unhide HF).mono ?_
            rintro e w4 ⟨rfl, hb4⟩
            rw [← hQ]
            exact ⟨rfl, unhide HE w4 hb4⟩
          · have d2 : decide (hi < (-n)) = false := by simp; omega
            have HE : Hid (∀ e w, PR lb b w3 noV (pnextF s) e w → (∃ y : Int × Int, e = flt y.1 y.2 ∧ R e w) ∨ (e = .returned (.tuple #[]) ∧ R (.returned (.int .i64 (-n))) w)) := fun e w hw => by
              have hn : ¬ ((-n) < lo ∨ hi < (-n)) := fun q => q.elim a1 a2
              rcases hw.split with ⟨y, hr, rfl, hg4⟩ | ⟨y, s2, hr, rfl, h4, hg4⟩
              · exact .inl ⟨y, rfl, unhide HR _ _ (by rw [unhide HPR, if_neg hn, hr]; exact ⟨rfl, (unhide Hg3).trans hg4⟩)⟩
              · exact .inr ⟨rfl, unhide HR _ _ (by rw [unhide HPR, if_neg hn, hr]; exact ⟨rfl, h4, (unhide Hg3).trans hg4⟩)⟩
            clear a1 a2
            go_wp2_with fail
            refine (unhide HN).mono ?_
            intro e w4 hw4
            rcases unhide HE e w4 hw4 with ⟨y, rfl, h5⟩ | ⟨rfl, h5⟩
            · rw [← hQ]
              exact ⟨rfl, h5⟩
            · have H5 := hide h5
              clear h5 hw4 HE
              go_wp2
              rw [← hQ]
              go_ret
              exact unhide H5
      | false =>
        have hPR := unhide HGO (n) (by simp) (by omega) (by omega)
        have HPR := hide hPR
        clear hPR HGO
        by_cases a1 : (n) < lo
        · have d1 : decide ((n) < lo) = true := by simp [a1]
          have HE : Hid (∀ w, Below w3.heap.size w3 w → R (flt 55 s.here.spot) w) := fun w hb => unhide HR _ _ (by rw [unhide HPR, if_pos (.inl a1)]; exact ⟨rfl, (unhide Hg3).trans (below_grown b hb)⟩)
          clear a1
          go_wp2_with fail
          refine (unhide HF).mono ?_
          rintro e w4 ⟨rfl, hb4⟩
          rw [← hQ]
          exact ⟨rfl, unhide HE w4 hb4⟩
        · have d1 : decide ((n) < lo) = false := by simp; omega
          by_cases a2 : hi < (n)
          · have d2 : decide (hi < (n)) = true := by simp [a2]
            have HE : Hid (∀ w, Below w3.heap.size w3 w → R (flt 55 s.here.spot) w) := fun w hb => unhide HR _ _ (by rw [unhide HPR, if_pos (.inr a2)]; exact ⟨rfl, (unhide Hg3).trans (below_grown b hb)⟩)
            clear a1 a2
            go_wp2_with fail
            refine (unhide HF).mono ?_
            rintro e w4 ⟨rfl, hb4⟩
            rw [← hQ]
            exact ⟨rfl, unhide HE w4 hb4⟩
          · have d2 : decide (hi < (n)) = false := by simp; omega
            have HE : Hid (∀ e w, PR lb b w3 noV (pnextF s) e w → (∃ y : Int × Int, e = flt y.1 y.2 ∧ R e w) ∨ (e = .returned (.tuple #[]) ∧ R (.returned (.int .i64 (n))) w)) := fun e w hw => by
              have hn : ¬ ((n) < lo ∨ hi < (n)) := fun q => q.elim a1 a2
              rcases hw.split with ⟨y, hr, rfl, hg4⟩ | ⟨y, s2, hr, rfl, h4, hg4⟩
              · exact .inl ⟨y, rfl, unhide HR _ _ (by rw [unhide HPR, if_neg hn, hr]; exact ⟨rfl, (unhide Hg3).trans hg4⟩)⟩
              · exact .inr ⟨rfl, unhide HR _ _ (by rw [unhide HPR, if_neg hn, hr]; exact ⟨rfl, h4, (unhide Hg3).trans hg4⟩)⟩
            clear a1 a2
            go_wp2_with fail
            refine (unhide HN).mono ?_
            intro e w4 hw4
            rcases unhide HE e w4 hw4 with ⟨y, rfl, h5⟩ | ⟨rfl, h5⟩
            · rw [← hQ]
              exact ⟨rfl, h5⟩
            · have H5 := hide h5
              clear h5 hw4 HE
              go_wp2
              rw [← hQ]
              go_ret
              exact unhide H5
    · rw [if_neg h0] at hw3 HEq
      obtain ⟨rfl, hg3⟩ := hw3
      rw [← hQ]
      refine ⟨rfl, unhide HR _ _ ?_⟩
      rw [unhide HEq]
      exact ⟨rfl, (unhide Hg2).trans hg3⟩
noncomputable def numberF (lo hi : Int) (mi : Bool) (s : PSt) : Except (Int × Int) (Int × PSt) := match (if mi = true then ptakeF 4 ⟨#[45]⟩ s else .ok (false, s)) with
  | .error e => .error e
  | .ok (m, s1) => tailF lo hi m s1
set_option maxRecDepth 100000 in
set_option maxHeartbeats 2000000 in
theorem rnumber_any {V W : World} {lb b : Nat} {s : PSt} (lo hi : Int) (mi : Bool) (hv : Env V W b) (h : Rd lb W b s) : Calls Tryz.prog 131 #[.pointer (some ⟨b, 0, none⟩), .agg #[.int .i64 lo, .int .i64 hi, .bool mi]] W (PR lb b W intV (numberF lo hi mi s)) := by
  have hb0 := (Below.refl W.heap.size W).alloc (Nat.le_refl _) (.cells #[.int .i64 lo, .int .i64 hi, .bool mi] 150)
  have hd0 := h.up hb0
  have hlt := h.lt
  have hv0 := hv.step (below_grown b hb0)
  have hbk : (W.alloc (.cells #[.int .i64 lo, .int .i64 hi, .bool mi] 150)).heap[W.heap.size]? = some (.cells #[.int .i64 lo, .int .i64 hi, .bool mi] 150 (0, 0)) := heap_new _ _
  have HX : Hid (∀ w, (W.alloc (.cells #[.int .i64 lo, .int .i64 hi, .bool mi] 150)).grownBy w (some b) → w.cell? ⟨W.heap.size, 0, none⟩ = some (.int .i64 lo) ∧ w.cell? ⟨W.heap.size, 1, none⟩ = some (.int .i64 hi)) := fun w hg => by
    have hl : W.heap.size < (W.alloc (.cells #[.int .i64 lo, .int .i64 hi, .bool mi] 150)).heap.size := by rw [World.size_alloc]; omega
    have e := hg.block W.heap.size hl (by simp; omega)
    exact ⟨by rw [World.cell?_of_block (a := ⟨W.heap.size, 0, none⟩) e, cell_of_row _ _ _ _ _ _ hbk]; rfl, by rw [World.cell?_of_block (a := ⟨W.heap.size, 1, none⟩) e, cell_of_row _ _ _ _ _ _ hbk]; rfl⟩
  have Hd := hide hd0
  have Hv := hide hv0
  have Hg0 := hide (below_grown b hb0)
  have hne : W.heap.size ≠ b := by omega
  clear hd0 hv0 hb0 hbk h hv
  refine calls_of_wp Tryz.func131 nb_split ?_
  obtain ⟨t, ht⟩ : ∃ t, nbTail = t := ⟨_, rfl⟩
  rw [ht]
  obtain ⟨Q, hQ⟩ : ∃ Q, bodyPost Tryz.prog Tryz.f131 (PR lb b W intV (numberF lo hi mi s)) = Q := ⟨_, rfl⟩
  rw [hQ]
  unfold nbWith
  dsimp only [Tryz.f131]
  simp only [List.size_toArray, List.length_cons, List.length_nil, Nat.reduceAdd, Nat.reduceSub, Array.replicate_succ, Array.replicate_zero, List.push_toArray, List.append_toArray, List.nil_append, List.cons_append]
  cases mi with
  | false =>
    go_wp2
    rw [← ht, ← hQ]
    obtain ⟨x0, x1⟩ := unhide HX _ (World.grownBy.refl _ _)
    refine nbTail_any (unhide Hv) (unhide Hd) hne x0 x1 rfl ⟨rfl, rfl, rfl, trivial⟩ ?_
    intro e w hw
    have := hw.pre (unhide Hg0)
    unfold numberF
    exact this
  | true =>
    go_wp2_with fail
    refine (takeSign_any (unhide Hd) _).mono ?_
    intro e w1 hw
    rcases hw.split with ⟨x, hr, rfl, hg⟩ | ⟨m, s1, hr, rfl, h1, hg⟩
    · rw [← hQ]
      refine ⟨rfl, ?_⟩
      unfold numberF
      rw [if_pos rfl, hr]
      exact ⟨rfl, (unhide Hg0).trans hg⟩
    · have H1 := hide h1
      have Hg := hide hg
      have Hr := hide hr
      clear hw h1 hg hr
      go_wp2
      rw [← ht, ← hQ]
      obtain ⟨x0, x1⟩ := unhide HX _ (unhide Hg)
      refine nbTail_any ((unhide Hv).step (unhide Hg)) (unhide H1) hne x0 x1 rfl ⟨rfl, rfl, rfl, trivial⟩ ?_
      intro e w hw
      have := hw.pre ((unhide Hg0).trans (unhide Hg))
      unfold numberF
      rw [if_pos rfl, unhide Hr]
      exact this
end Go.Proofs.YtdhncpeemcanlaaGreatDoor

namespace Go.Proofs.YtdhncpeemcanlaaGreatDoor
open Go.RowKit
attribute [local go_sem ↓] Go.wp_at_zero Go.wp_at_succ

noncomputable def assignedF (lo hi : Int) (mi : Bool) (s : PSt) : Except (Int × Int) (Int × PSt) := match pneedSignF ⟨#[61]⟩ s with
  | .error e => .error e
  | .ok (_, s1) => match numberF lo hi mi s1 with
    | .error e => .error e
    | .ok (n, s2) => if pisB s2.here 4 ⟨#[91]⟩ = true then .error (52, s2.here.spot) else match pneedSignF ⟨#[59]⟩ s2 with
      | .error e => .error e
      | .ok (_, s3) => .ok (n, s3)
set_option maxRecDepth 100000 in
set_option maxHeartbeats 2000000 in
theorem assigned_any {V W : World} {lb b : Nat} {s : PSt} (lo hi : Int) (mi : Bool) (hv : Env V W b) (h : Rd lb W b s) : Calls Tryz.prog 120 #[.pointer (some ⟨b, 0, none⟩), .agg #[.int .i64 lo, .int .i64 hi, .bool mi]] W (PR lb b W intV (assignedF lo hi mi s)) := by
  have hb0 := (Below.refl W.heap.size W).alloc (Nat.le_refl _) (.cells #[.int .i64 lo, .int .i64 hi, .bool mi] 150)
  have hd0 := h.up hb0
  have hlt := h.lt
  have hv0 := hv.step (below_grown b hb0)
  have hbk : (W.alloc (.cells #[.int .i64 lo, .int .i64 hi, .bool mi] 150)).heap[W.heap.size]? = some (.cells #[.int .i64 lo, .int .i64 hi, .bool mi] 150 (0, 0)) := heap_new _ _
  have HX : Hid (∀ w, (W.alloc (.cells #[.int .i64 lo, .int .i64 hi, .bool mi] 150)).grownBy w (some b) → w.cell? ⟨W.heap.size, 0, none⟩ = some (.int .i64 lo) ∧ w.cell? ⟨W.heap.size, 1, none⟩ = some (.int .i64 hi) ∧ w.cell? ⟨W.heap.size, 2, none⟩ = some (.bool mi)) := fun w hg => by
    have hl : W.heap.size < (W.alloc (.cells #[.int .i64 lo, .int .i64 hi, .bool mi] 150)).heap.size := by rw [World.size_alloc]; omega
    have e := hg.block W.heap.size hl (by simp; omega)
    exact ⟨by rw [World.cell?_of_block (a := ⟨W.heap.size, 0, none⟩) e, cell_of_row _ _ _ _ _ _ hbk]; rfl, by rw [World.cell?_of_block (a := ⟨W.heap.size, 1, none⟩) e, cell_of_row _ _ _ _ _ _ hbk]; rfl, by rw [World.cell?_of_block (a := ⟨W.heap.size, 2, none⟩) e, cell_of_row _ _ _ _ _ _ hbk]; rfl⟩
  have Hd := hide hd0
  have Hv := hide hv0
  have Hg0 := hide (below_grown b hb0)
  clear hd0 hv0 hb0 hbk h hv hlt
  go_enter Tryz.func120, Tryz.ntmps120
  go_wp2_with fail
  refine (needSign_any (unhide Hd) _).mono ?_
  intro e w1 hw
  rcases hw.split with ⟨x, hr, rfl, hg⟩ | ⟨_, s1, hr, rfl, h1, hg⟩
  · refine ⟨rfl, ?_⟩
    unfold assignedF
    rw [hr]
    exact ⟨rfl, (unhide Hg0).trans hg⟩
  · have H1 := hide h1
    have Hg := hide hg
    have Hr := hide hr
    obtain ⟨x0, x1, x2⟩ := unhide HX _ hg
    clear hw h1 hg hr
    go_wp2_with fail
    refine (rnumber_any lo hi mi ((unhide Hv).step (unhide Hg)) (unhide H1)).mono ?_
    intro e w2 hw
    rcases hw.split with ⟨x, hr, rfl, hg⟩ | ⟨n, s2, hr, rfl, h2, hg⟩
    · refine ⟨rfl, ?_⟩
      unfold assignedF
      rw [unhide Hr]
      simp only
      rw [hr]
      exact ⟨rfl, ((unhide Hg0).trans (unhide Hg)).trans hg⟩
    · have H2 := hide h2
      have Hg2 := hide (((unhide Hg0).trans (unhide Hg)).trans hg)
      have Hr2 := hide hr
      clear hw h2 hg hr x0 x1 x2
      unfold intV
      go_wp2_with fail
      refine (here_any (unhide H2)).mono ?_
      rintro e w3 ⟨rfl, hb3⟩
      have H3 := hide ((unhide H2).up hb3)
      have Hg3 := hide ((unhide Hg2).trans (below_grown b hb3))
      have hI : Hid (∀ w, Calls Tryz.prog 86 #[s2.here.val, .int .i64 4, .string ⟨#[91]⟩] w fun e w' => e = .returned (.bool (pisB s2.here 4 ⟨#[91]⟩)) ∧ Below w.heap.size w w') := fun w => is_any w s2.here 4 _
      have Hvl : Hid (∃ p q r, s2.here.val = .agg #[p, q, r]) := ⟨_, _, _, rfl⟩
      obtain ⟨p, q, r, hvl⟩ := unhide Hvl
      rw [hvl] at hI ⊢
      clear hb3 Hvl hvl H2
      go_wp2_with fail
      refine (unhide hI w3).mono ?_
      rintro e w4 ⟨rfl, hb4⟩
      have H4 := hide ((unhide H3).up hb4)
      have Hg4 := hide ((unhide Hg3).trans (below_grown b hb4))
      clear hb4 hI H3
      cases hp : pisB s2.here 4 ⟨#[91]⟩ with
      | true =>
        have Hp := hide hp
        clear hp
        go_wp2_with fail
        refine (refuse_any (unhide H4)).mono ?_
        rintro e w5 ⟨rfl, hb5⟩
        refine ⟨rfl, ?_⟩
        unfold assignedF
        rw [unhide Hr]
        simp only
        rw [unhide Hr2]
        simp only
        rw [if_pos (unhide Hp)]
        exact ⟨rfl, (unhide Hg4).trans (below_grown b hb5)⟩
      | false =>
        have Hp := hide hp
        clear hp
        go_wp2_with fail
        refine (needSign_any (unhide H4) _).mono ?_
        intro e w5 hw
        have HEq : ∀ z, pneedSignF ⟨#[59]⟩ s2 = z → assignedF lo hi mi s = (match z with | .error e => .error e | .ok (_, s3) => .ok (n, s3)) := fun z hz => by
          unfold assignedF
          rw [unhide Hr]
          simp only
          rw [unhide Hr2]
          simp only
          rw [if_neg (by rw [unhide Hp]; simp), hz]
        rcases hw.split with ⟨x, hr, rfl, hg⟩ | ⟨_, s3, hr, rfl, h5, hg⟩
        · refine ⟨rfl, ?_⟩
          rw [HEq _ hr]
          exact ⟨rfl, (unhide Hg4).trans hg⟩
        · have HE : Hid (PR lb b W intV (assignedF lo hi mi s) (.returned (.int .i64 n)) w5) := by
            show PR lb b W intV (assignedF lo hi mi s) (.returned (.int .i64 n)) w5
            rw [HEq _ hr]
            exact ⟨rfl, h5, (unhide Hg4).trans hg⟩
          clear hw hr h5 hg HEq
          go_wp2
          go_ret
          exact unhide HE
end Go.Proofs.YtdhncpeemcanlaaGreatDoor

namespace Go.Proofs.YtdhncpeemcanlaaGreatDoor
open Go.RowKit
attribute [local go_sem ↓] Go.wp_at_zero Go.wp_at_succ

theorem sizeBuilder : (Tryz.prog.info? 142).map (·.size) = some 2 := by kernel_rfl
theorem liesBuilder : liesAt Tryz.prog Tryz.prog.depth 142 (2 / Tryz.prog.cellsOf 142) 0 142 1 = true := by kernel_rfl
theorem infoByteB : (Tryz.prog.info? 5).map (fun i => (i.zero, i.size, i.bytes)) = some (some (.int .u8 0), 1, 1) := by kernel_rfl
set_option maxRecDepth 100000 in
set_option maxHeartbeats 1000000 in
theorem copyCheck_used (b : Nat) (w : World) (h0 : w.cell? ⟨b, 0, none⟩ = some (.pointer (some ⟨b, 0, none⟩))) : Calls Tryz.prog 122 #[.pointer (some ⟨b, 0, none⟩)] w fun e w' => e = .returned (.tuple #[]) ∧ w' = w := by
  obtain ⟨j, hj, _⟩ := Option.map_eq_some_iff.1 sizeBuilder
  go_enter Tryz.func122, Tryz.ntmps122
  go_wp2
  rw [Lib.run_neq_ptr_same w _ Tryz.underlying140 hj]
  go_wp2
  go_end0
  exact ⟨rfl, rfl⟩
set_option maxRecDepth 100000 in
set_option maxHeartbeats 1000000 in
theorem copyCheck_fresh (b : Nat) (w : World) (h0 : w.cell? ⟨b, 0, none⟩ = some (.pointer none)) (hsh : w.shape? b = some (142, 2)) (hfz : w.frozen? ⟨b, 0, none⟩ = false) :
    Calls Tryz.prog 122 #[.pointer (some ⟨b, 0, none⟩)] w fun e w' => e = .returned (.tuple #[]) ∧ w' = w.setCell ⟨b, 0, none⟩ (.pointer (some ⟨b, 0, none⟩)) := by
  obtain ⟨j, hj, hjs⟩ := Option.map_eq_some_iff.1 sizeBuilder
  go_enter Tryz.func122, Tryz.ntmps122
  go_wp2
  rw [Lib.run_to_unsafe w ⟨b, 0, none⟩ Tryz.underlying140 Tryz.underlying162 hj (by rw [hjs]; decide) hsh (Nat.zero_lt_succ 1)]
  simp only [Result.andThen]
  rw [Oper.upon_value]
  go_wp2
  rw [run_callFunc_extern Tryz.func133 (by kernel_rfl) (by kernel_rfl) (by kernel_rfl) (e := Extern.AbiNoEscape.same) (by kernel_rfl)]
  rw [Lib.run_noEscape]
  simp only [Result.andThen]
  rw [Oper.upon_value]
  go_wp2
  rw [Lib.run_from_unsafe w ⟨b, 0, none⟩ Tryz.underlying162 Tryz.underlying140 hj hsh liesBuilder]
  simp only [Result.andThen]
  rw [Oper.upon_value]
  go_wp2
  go_end0
  exact ⟨rfl, rfl⟩
theorem copyCheck_any (B b : Nat) (bs : List Value) (w : World) (h : Lib.IsBuilder 142 5 B b bs w) :
    Calls Tryz.prog 122 #[.pointer (some ⟨b, 0, none⟩)] w fun e w' => e = .returned (.tuple #[]) ∧ (Lib.BuilderAt 142 5 B b (.pointer (some ⟨b, 0, none⟩)) bs w' ∧ Below B w w') := by
  rcases h with h | h
  · refine (copyCheck_fresh b w h.cell0 h.shape h.frozen0).mono ?_
    rintro e w' ⟨rfl, rfl⟩
    exact ⟨rfl, h.used _, (Below.refl B w).setCell (p := ⟨b, 0, none⟩) h.1 _⟩
  · refine (copyCheck_used b w h.cell0).mono ?_
    rintro e w' ⟨rfl, rfl⟩
    exact ⟨rfl, h, Below.refl B _⟩
/-- Behind an append onto the builder's own bytes: they are stored, and the builder holds them. -/
theorem put_any {B b : Nat} {bs bs' : List Value} {w1 w2 : World} {v v' : Value} (hB : B ≤ b) (hbk : w1.heap[b]? = some (.cells #[.pointer (some ⟨b, 0, none⟩), v] 142 (0, 0))) (hown : w1.ownsRow B 5 1 v bs.length bs) (hne : v.ownBlock ≠ some b) (hg : w1.grownBy w2 v.ownBlock) (ho : w2.ownsRow B 5 1 v' bs'.length bs') :
    (w2.cell? ⟨b, 0, none⟩ = some (.pointer (some ⟨b, 0, none⟩)) ∧ w2.cell? ⟨b, 1, none⟩ = some v ∧ w2.frozen? ⟨b, 1, none⟩ = false) ∧ Lib.BuilderAt 142 5 B b (.pointer (some ⟨b, 0, none⟩)) bs' (w2.setCell ⟨b, 1, none⟩ v') ∧ Below B w1 (w2.setCell ⟨b, 1, none⟩ v') := by
  have hl : b < w1.heap.size := (Array.getElem?_eq_some_iff.1 hbk).1
  have hb2 := (hg.block b hl (fun e => hne e.symm)).trans hbk
  obtain ⟨k1, k2⟩ := set_block (j := 1) hb2 v'
  have hn : v'.ownBlock ≠ some b := fun e => by
    rcases ho.2 with ⟨rfl, _⟩ | ⟨g, cap, cur, rfl, _, h2, _⟩
    · cases e
    · obtain rfl : g = b := by simpa [Value.ownBlock] using e
      rw [h2] at hb2
      simp at hb2
  have hlo : Below B w1 w2 := ⟨hg.os, hg.tape, hg.output, hg.size, fun k hk => hg.block k (by omega) (fun e => by have := (hown.lt k e.symm).1; omega)⟩
  refine ⟨⟨?_, ?_, by simp [World.frozen?, hb2]⟩, ⟨hB, v', k1, ho.kept k2 ?_, hn⟩, hlo.trans ⟨k2.os, k2.tape, k2.output, k2.size, fun k hk => k2.block k (by have := hg.size; omega) (by simp; omega)⟩⟩
  · rw [cell_of_row _ _ _ _ _ _ hb2]; rfl
  · rw [cell_of_row _ _ _ _ _ _ hb2]; rfl
  · cases e : v'.ownBlock with
    | none => exact .inl rfl
    | some k => exact .inr (fun q => hn (e.trans q))
theorem sl_form {B n : Nat} {w : World} {v : Value} {xs : List Value} (h : w.ownsRow B 5 1 v n xs) : ∃ a l c, v = .slice a l c := by
  rcases h.2 with ⟨rfl, _⟩ | ⟨g, cap, _, rfl, _⟩
  · exact ⟨_, _, _, rfl⟩
  · exact ⟨_, _, _, rfl⟩
set_option maxRecDepth 100000 in
set_option maxHeartbeats 1000000 in
theorem writeByte_any (B b : Nat) (bs : List Value) (c : Int) (w : World) (h : Lib.IsBuilder 142 5 B b bs w) (hlen : bs.length + 1 ≤ 140737488355328) (hBw : B ≤ w.heap.size) :
    Calls Tryz.prog 102 #[.pointer (some ⟨b, 0, none⟩), .int .u8 c] w fun e w' => e = .returned .nilIface ∧ (Lib.BuilderAt 142 5 B b (.pointer (some ⟨b, 0, none⟩)) (bs ++ [.int .u8 c]) w' ∧ Below B w w') := by
  obtain ⟨i0, hi, hz0, hz1, hz2⟩ := info_parts infoByteB
  have hc := hide (copyCheck_any B b bs w h)
  clear h
  go_enter Tryz.func102, Tryz.ntmps102
  go_wp2_with fail
  refine (unhide hc).mono ?_
  rintro e w1 ⟨rfl, ⟨hB, v, hbk, hown, hne⟩, hb1⟩
  have s1 := hb1.size
  have c1 : w1.cell? ⟨b, 1, none⟩ = some v := by rw [cell_of_row _ _ _ _ _ _ hbk]; rfl
  have Hb1 := hide hb1
  have Hown := hide hown
  have Hbk := hide hbk
  have Hne := hide hne
  clear hb1 hown hbk hne hc
  go_wp2_with (at_builtin; refine wpList_append_own_at _ rfl _ _ 27 rfl B 5 i0 (.int .u8 0) 1 1 Tryz.underlying27 hi hz0 hz1 hz2 rfl (by decide) _ _ _ rfl ((unhide Hown).alloc _) ⟨w1.heap.size, 0, none⟩ 1 1 [.int .u8 c] rfl rfl (cell_one_new _ _ _) (by simp [Value.oneCell']) (by unfold maxLen; omega) (by omega) (by rw [World.size_alloc]; omega) ?_; intro v' w2 ho hg _ _; obtain ⟨⟨d0, d1, f1⟩, hput⟩ := put_any (bs' := bs ++ [.int .u8 c]) hB (unhide Hbk) (unhide Hown) (unhide Hne) ((World.grownBy_alloc w1 _ _).trans hg) (by rw [List.length_append]; exact ho); have Hput := hide hput; obtain ⟨a', l', c', rfl⟩ := sl_form ho; clear ho hg hput)
  go_ret
  exact ⟨rfl, (unhide Hput).1, (unhide Hb1).trans (unhide Hput).2⟩
set_option maxRecDepth 100000 in
set_option maxHeartbeats 1000000 in
theorem writeString_any (B b : Nat) (bs : List Value) (s : ByteArray) (w : World) (h : Lib.IsBuilder 142 5 B b bs w) (hlen : bs.length + s.size ≤ 140737488355328) (hBw : B ≤ w.heap.size) :
    Calls Tryz.prog 103 #[.pointer (some ⟨b, 0, none⟩), .string s] w fun e w' => e = .returned (.tuple #[.int .i64 s.size, .nilIface]) ∧ (Lib.BuilderAt 142 5 B b (.pointer (some ⟨b, 0, none⟩)) (bs ++ Lib.strCells s) w' ∧ Below B w w') := by
  obtain ⟨i0, hi, hz0, hz1, hz2⟩ := info_parts infoByteB
  have hc := hide (copyCheck_any B b bs w h)
  clear h
  go_enter Tryz.func103, Tryz.ntmps103
  go_wp2_with fail
  refine (unhide hc).mono ?_
  rintro e w1 ⟨rfl, ⟨hB, v, hbk, hown, hne⟩, hb1⟩
  have s1 := hb1.size
  have c1 : w1.cell? ⟨b, 1, none⟩ = some v := by rw [cell_of_row _ _ _ _ _ _ hbk]; rfl
  have Hb1 := hide hb1
  have Hown := hide hown
  have Hbk := hide hbk
  have Hne := hide hne
  clear hb1 hown hbk hne hc
  go_wp2_with (at_builtin; refine Lib.wpList_append_own_string _ rfl _ _ 27 9 rfl B 5 i0 Tryz.underlying27 Tryz.underlying9 hi hz0 hz1 hz2 _ _ _ rfl (unhide Hown) s rfl (by unfold maxLen; omega) (by omega) (by omega) ?_; intro v' w2 ho hg _; obtain ⟨⟨d0, d1, f1⟩, hput⟩ := put_any (bs' := bs ++ Lib.strCells s) hB (unhide Hbk) (unhide Hown) (unhide Hne) hg (by rw [List.length_append, Lib.strCells_length]; exact ho); have Hput := hide hput; obtain ⟨a', l', c', rfl⟩ := sl_form ho; clear ho hg hput)
  go_ret2
  exact ⟨rfl, (unhide Hput).1, (unhide Hb1).trans (unhide Hput).2⟩
end Go.Proofs.YtdhncpeemcanlaaGreatDoor
namespace Go.Proofs
open Go.Shelf
def Tryz.laysNB169169_ren : Go.Shelf.Ren := ⟨fun | 169 => 105 | n => n, fun | 70 => 140 | 9 => 9 | 0 => 0 | 72 => 142 | 37 => 27 | 127 => 72 | 3 => 3 | 5 => 5 | n => n, fun | n => n⟩
theorem Tryz.laysNB169169 : Go.Proofs.Lays.n169 Tryz.prog Tryz.laysNB169169_ren := {
  mixed := by kernel_rfl
  f169 := Tryz.func105.trans (congrArg some (by kernel_rfl))
  t0 := Tryz.underlying0
  a0 := Tryz.isAgg0
  z0 := Tryz.sizeOf0
  v0 := Tryz.zeroValue0
  t3 := Tryz.underlying3
  a3 := Tryz.isAgg3
  z3 := Tryz.sizeOf3
  v3 := Tryz.zeroValue3
  t9 := Tryz.underlying9
  a9 := Tryz.isAgg9
  z9 := Tryz.sizeOf9
  v9 := Tryz.zeroValue9
  t37 := Tryz.underlying27
  a37 := Tryz.isAgg27
  z37 := Tryz.sizeOf27
  v37 := Tryz.zeroValue27
  t70 := Tryz.underlying140
  a70 := Tryz.isAgg140
  z70 := Tryz.sizeOf140
  v70 := Tryz.zeroValue140
  t72 := Tryz.underlying142
  a72 := Tryz.isAgg142
  z72 := Tryz.sizeOf142
  v72 := Tryz.zeroValue142
  t127 := Tryz.underlying72
  a127 := Tryz.isAgg72
  z127 := Tryz.sizeOf72
  v127 := Tryz.zeroValue72 }
end Go.Proofs
namespace Go.Proofs
open Go.Shelf
def Tryz.laysNB170170_ren : Go.Shelf.Ren := ⟨fun | 170 => 104 | n => n, fun | 70 => 140 | 3 => 3 | 0 => 0 | 72 => 142 | 37 => 27 | 5 => 5 | n => n, fun | n => n⟩
theorem Tryz.laysNB170170 : Go.Proofs.Lays.n170 Tryz.prog Tryz.laysNB170170_ren := {
  mixed := by kernel_rfl
  f170 := Tryz.func104.trans (congrArg some (by kernel_rfl))
  t0 := Tryz.underlying0
  a0 := Tryz.isAgg0
  z0 := Tryz.sizeOf0
  v0 := Tryz.zeroValue0
  t3 := Tryz.underlying3
  a3 := Tryz.isAgg3
  z3 := Tryz.sizeOf3
  v3 := Tryz.zeroValue3
  t37 := Tryz.underlying27
  a37 := Tryz.isAgg27
  z37 := Tryz.sizeOf27
  v37 := Tryz.zeroValue27
  t70 := Tryz.underlying140
  a70 := Tryz.isAgg140
  z70 := Tryz.sizeOf140
  v70 := Tryz.zeroValue140
  t72 := Tryz.underlying142
  a72 := Tryz.isAgg142
  z72 := Tryz.sizeOf142
  v72 := Tryz.zeroValue142 }
end Go.Proofs
