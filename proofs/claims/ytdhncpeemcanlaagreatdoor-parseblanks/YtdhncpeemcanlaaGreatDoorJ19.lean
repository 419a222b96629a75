import Derived.Test.YtdhncpeemcanlaaGreatDoorJ18
import Derived.Test.YtdhncpeemcanlaaGreatDoorJ18
import Derived.Test.YtdhncpeemcanlaaGreatDoorJ18

namespace Go.Proofs.YtdhncpeemcanlaaGreatDoor
open Go.RowKit
attribute [local go_sem ↓] Go.wp_at_zero Go.wp_at_succ

set_option maxRecDepth 100000 in
theorem frame31 {tm : Array Value} (h : tm.size = 31) : ∃ u : Nat → Value, tm = #[u 0, u 1, u 2, u 3, u 4, u 5, u 6, u 7, u 8, u 9, u 10, u 11, u 12, u 13, u 14, u 15, u 16, u 17, u 18, u 19, u 20, u 21, u 22, u 23, u 24, u 25, u 26, u 27, u 28, u 29, u 30] := by
  refine ⟨fun i => tm.getD i undef, ?_⟩
  have e : tm = ((List.range 31).map fun i => tm.getD i undef).toArray := by
    apply Array.ext
    · simp [h]
    · intro i h1 h2
      simp [Array.getD, h1]
  exact e.trans rfl
/-- A builder beside a reader. -/
theorem builder_far {bb b : Nat} {bs : List Value} {w w' : World} (h : Lib.IsBuilder 142 5 bb bb bs w) (hg : w.grownBy w' (some b)) (hb : b < bb) : Lib.IsBuilder 142 5 bb bb bs w' := by
  have go : ∀ p, Lib.BuilderAt 142 5 bb bb p bs w → Lib.BuilderAt 142 5 bb bb p bs w' := fun p h => by
    have hl := h.lt
    obtain ⟨h1, v, h2, h3, h4⟩ := h
    refine ⟨h1, v, (hg.block bb hl (by simp; omega)).trans h2, h3.kept hg ?_, h4⟩
    cases e : v.ownBlock with
    | none => exact .inl rfl
    | some k =>
      refine .inr fun q => ?_
      have := (h3.lt k e).1
      simp at q
      omega
  exact h.imp (go _) (go _)
theorem builder_up {bb : Nat} {bs : List Value} {w w' : World} (h : Lib.IsBuilder 142 5 bb bb bs w) (hb : Below w.heap.size w w') : Lib.IsBuilder 142 5 bb bb bs w' := by
  have go : ∀ p, Lib.BuilderAt 142 5 bb bb p bs w → Lib.BuilderAt 142 5 bb bb p bs w' := fun p h => by
    have hl := h.lt
    obtain ⟨h1, v, h2, h3, h4⟩ := h
    exact ⟨h1, v, (hb.block bb hl).trans h2, h3.kept ⟨hb.os, hb.tape, hb.output, hb.size, fun k hk _ => hb.block k hk⟩ (row := none) (by cases e : v.ownBlock with | none => exact .inl rfl | some k => exact .inr (by simp)), h4⟩
  exact h.imp (go _) (go _)
theorem grown_low {W w w' : World} {b lo : Nat} (h : W.grownBy w (some b)) (hb : Below lo w w') (hl : W.heap.size ≤ lo) : W.grownBy w' (some b) :=
  ⟨hb.os.trans h.os, hb.tape.trans h.tape, hb.output.trans h.output, Nat.le_trans h.size hb.size, fun k hk hne => (hb.block k (by omega)).trans (h.block k hk hne)⟩
/-- A loop of so many rounds, over whatever the frame is. -/
theorem wp_loop_count {P : Program} {c : Code} {Q : Exit → Act → World → Prop} (J : Nat → Act → World → Prop) (round : ∀ n a w, J n a w → c.wp P (Exit.then (fun a' w' => ∃ m, n = m + 1 ∧ J m a' w') Q) a w) (n : Nat) (a : Act) (w : World) (h : J n a w) : (Code.loop c).wp P Q a w := by
  refine wp_loop_rounds (n + 1) ?_
  induction n generalizing a w with
  | zero =>
    refine Code.wp_mono (fun e a' w' q => ?_) (round 0 a w h)
    cases e <;> first | exact q | (obtain ⟨m, hm, _⟩ := q; omega)
  | succ n ih =>
    refine Code.wp_mono (fun e a' w' q => ?_) (round (n + 1) a w h)
    cases e <;> first | exact q | (obtain ⟨m, hm, hj⟩ := q; obtain rfl : n = m := by omega
                                   exact ih a' w' hj)
noncomputable def dotLoop : Nat → List UInt8 → PSt → Except (Int × Int) (List UInt8 × PSt)
  | 0, _, _ => .error (0, 0)
  | f + 1, acc, s => match ptakeF 4 ⟨#[46]⟩ s with
    | .error e => .error e
    | .ok (false, s1) => .ok (acc, s1)
    | .ok (true, s1) => match pnameF s1 with
      | .error e => .error e
      | .ok (x, s2) => dotLoop f ((acc ++ [46]) ++ x.data.toList) s2
noncomputable def dotEnd (first : Int) : Except (Int × Int) (List UInt8 × PSt) → Except (Int × Int) (ByteArray × PSt)
  | .error e => .error e
  | .ok (acc, s) => if 255 < acc.length then .error (2, first) else .ok (⟨acc.toArray⟩, s)
theorem next_ok {s s1 : PSt} {u : Unit} (h : pnextF s = .ok (u, s1)) : s1.ts = s.ts.tail := by
  unfold pnextF at h
  split at h
  · cases h
  · simp only [Except.ok.injEq, Prod.mk.injEq] at h
    rw [← h.2]
theorem take_ok {k : Int} {x : ByteArray} {s s1 : PSt} {f : Bool} (h : ptakeF k x s = .ok (f, s1)) : (f = false ∧ s1 = s) ∨ (f = true ∧ s1.ts = s.ts.tail ∧ s.here.kind = k) := by
  unfold ptakeF at h
  split at h
  · next hp =>
    cases hn : pnextF s with
    | error e => rw [hn] at h; cases h
    | ok y =>
      rw [hn] at h
      simp only [Except.ok.injEq, Prod.mk.injEq] at h
      obtain ⟨rfl, rfl⟩ := h
      refine .inr ⟨rfl, next_ok (u := y.1) hn, ?_⟩
      unfold pisB at hp
      rw [Bool.and_eq_true] at hp
      exact eq_of_beq hp.1
  · simp only [Except.ok.injEq, Prod.mk.injEq] at h
    exact .inl ⟨h.1.symm, h.2.symm⟩
theorem name_ok {s s1 : PSt} {x : ByteArray} (h : pnameF s = .ok (x, s1)) : s1.ts = s.ts.tail ∧ x.size ≤ 255 ∧ s.here.kind = 1 := by
  unfold pnameF at h
  split at h
  · next hk =>
    split at h
    · next hf =>
      cases hn : pnextF s with
      | error e => rw [hn] at h; cases h
      | ok y =>
        rw [hn] at h
        simp only [Except.ok.injEq, Prod.mk.injEq] at h
        obtain ⟨rfl, rfl⟩ := h
        refine ⟨next_ok (u := y.1) hn, ?_, hk⟩
        unfold nameFaultF at hf
        split at hf
        · simp at hf
        · omega
    · cases h
  · cases h
theorem next_op {s s1 : PSt} {u : Unit} (h : pnextF s = .ok (u, s1)) : s1.op = s.op ∧ s1.en = s.en := by
  unfold pnextF at h
  split at h
  · cases h
  · simp only [Except.ok.injEq, Prod.mk.injEq] at h
    obtain ⟨_, rfl⟩ := h
    exact ⟨rfl, rfl⟩
theorem take_op {k : Int} {x : ByteArray} {s s1 : PSt} {f : Bool} (h : ptakeF k x s = .ok (f, s1)) : s1.op = s.op ∧ s1.en = s.en := by
  unfold ptakeF at h
  split at h
  · split at h
    · rename_i hn
      simp only [Except.ok.injEq, Prod.mk.injEq] at h
      obtain ⟨_, rfl⟩ := h
      exact next_op hn
    · cases h
  · simp only [Except.ok.injEq, Prod.mk.injEq] at h
    obtain ⟨_, rfl⟩ := h
    exact ⟨rfl, rfl⟩
theorem name_op {s s1 : PSt} {x : ByteArray} (h : pnameF s = .ok (x, s1)) : s1.op = s.op ∧ s1.en = s.en := by
  unfold pnameF at h
  split at h
  · split at h
    · split at h
      · rename_i hn
        simp only [Except.ok.injEq, Prod.mk.injEq] at h
        obtain ⟨_, rfl⟩ := h
        exact next_op hn
      · cases h
    · cases h
  · cases h
theorem Sm.tail {s s1 : PSt} (h : Sm s) (e : s1.ts = s.ts.tail) : Sm s1 := fun t ht => h t (by rw [e] at ht; exact List.mem_of_mem_tail ht)
/-- What the names so far are kept in. -/
structure Dt (lb b bb bt : Nat) (W0 : World) (first : Int) (acc : List UInt8) (s : PSt) (w : World) : Prop where
  rd : Rd lb w b s
  sm : Sm s
  bu : Lib.IsBuilder 142 5 bb bb (Lib.byteCells acc) w
  fst : w.cell? ⟨bt, 1, none⟩ = some (.int .i64 first)
  gr : W0.grownBy w (some b)
  len : acc.length + 300 * s.ts.length ≤ 5000000
/-- What lies where. -/
structure Low (lb b bb bt : Nat) (W0 : World) : Prop where
  a : lb ≤ W0.heap.size
  b1 : W0.heap.size ≤ bt
  c : bt < bb
  d : b < lb
theorem Dt.read {lb b bb bt : Nat} {W0 w w' : World} {first : Int} {acc : List UInt8} {s s' : PSt} (h : Dt lb b bb bt W0 first acc s w) (hl : Low lb b bb bt W0) (hr : Rd lb w' b s') (hg : w.grownBy w' (some b)) (hs : Sm s') (hlen : s'.ts.length ≤ s.ts.length) : Dt lb b bb bt W0 first acc s' w' :=
  ⟨hr, hs, builder_far h.bu hg (by have := hl.a; have := hl.b1; have := hl.c; have := hl.d; omega), (World.cell?_of_block (a := ⟨bt, 1, none⟩) (hg.block bt (World.block_lt_of_cell? w _ h.fst) (by have := hl.a; have := hl.b1; have := hl.d; simp; omega))).trans h.fst, h.gr.trans hg, by have := h.len; omega⟩
theorem Dt.write {lb b bb bt : Nat} {W0 w w' : World} {first : Int} {acc acc' : List UInt8} {s : PSt} (h : Dt lb b bb bt W0 first acc s w) (hl : Low lb b bb bt W0) (hb : Lib.BuilderAt 142 5 bb bb (.pointer (some ⟨bb, 0, none⟩)) (Lib.byteCells acc') w') (hw : Below bb w w') (hlen : acc'.length + 300 * s.ts.length ≤ 5000000) : Dt lb b bb bt W0 first acc' s w' :=
  ⟨h.rd.up' (hw.mono (by have := hl.a; have := hl.b1; have := hl.c; omega)), h.sm, .inr hb, (hw.cell (p := ⟨bt, 1, none⟩) hl.c).trans h.fst, grown_low h.gr hw (by have := hl.b1; have := hl.c; omega), hlen⟩
theorem Dt.bbw {lb b bb bt : Nat} {W0 w : World} {first : Int} {acc : List UInt8} {s : PSt} (h : Dt lb b bb bt W0 first acc s w) : bb ≤ w.heap.size := by
  rcases h.bu with q | q <;> exact Nat.le_of_lt q.lt
end Go.Proofs.YtdhncpeemcanlaaGreatDoor

namespace Go.Proofs.YtdhncpeemcanlaaGreatDoor
open Go.RowKit Go.Shelf
attribute [local go_sem ↓] Go.wp_at_zero Go.wp_at_succ

theorem extraB : Builder.Extra Tryz.prog Tryz.laysNB169169_ren := {
  sizeBuilder := by kernel_rfl
  liesBuilder := by kernel_rfl
  t5 := Tryz.underlying5
  a5 := Tryz.isAgg5
  z5 := Tryz.sizeOf5
  v5 := Tryz.zeroValue5
  infoByte := by kernel_rfl
  cellsByte := by kernel_rfl
  sizeByte := by kernel_rfl
  neB5 := by decide }
theorem blen_any (B b : Nat) (bs : List Value) (w : World) (h : Lib.IsBuilder 142 5 B b bs w) : Calls Tryz.prog 104 #[.pointer (some ⟨b, 0, none⟩)] w fun e w' => e = .returned (.int .i64 bs.length) ∧ w' = w := Any.Builder_Len Tryz.laysNB170170 B b bs w h
theorem bstring_any (B b : Nat) (l : List UInt8) (w : World) (h : Lib.IsBuilder 142 5 B b (Lib.byteCells l) w) (hBw : B ≤ w.heap.size) : Calls Tryz.prog 105 #[.pointer (some ⟨b, 0, none⟩)] w fun e w' => e = .returned (.string ⟨l.toArray⟩) ∧ Below B w w' := Any.Builder_String_any Tryz.laysNB169169 extraB B b l w h hBw
noncomputable def dtTail : Code := match Tryz.f87.body with
  | some (.seq _ (.seq _ (.seq _ (.seq _ x)))) => x
  | _ => .skip
noncomputable def dtWith (t : Code) : Code := match Tryz.f87.body with
  | some (.seq a (.seq b (.seq c (.seq d _)))) => .seq a (.seq b (.seq c (.seq d t)))
  | _ => .skip
theorem dt_split : Tryz.f87.body = some (dtWith dtTail) := rfl
def DtJ (lb b bb bt : Nat) (W0 : World) (first : Int) (R0 : Except (Int × Int) (ByteArray × PSt)) (f : Nat) (a : Act) (w : World) : Prop := ∃ (tm : Array Value) (acc : List UInt8) (s : PSt), a = ⟨tm, []⟩ ∧ tm.size = 31 ∧ chk tm [(0, .pointer (some ⟨b, 0, none⟩)), (5, .pointer (some ⟨bt, 0, none⟩)), (6, .pointer (some ⟨bb, 0, none⟩))] ∧ Dt lb b bb bt W0 first acc s w ∧ s.ts.length < f ∧ R0 = dotEnd first (dotLoop f acc s)
noncomputable def dtailF (first : Int) (acc : List UInt8) (s : PSt) : Except (Int × Int) (ByteArray × PSt) := match pnameF s with
  | .error e => .error e
  | .ok (x, s1) => dotEnd first (dotLoop (s1.ts.length + 1) (acc ++ x.data.toList) s1)
theorem bc_app (a b : List UInt8) : Lib.byteCells (a ++ b) = Lib.byteCells a ++ Lib.byteCells b := List.map_append
theorem bc_len (a : List UInt8) : (Lib.byteCells a).length = a.length := List.length_map _
theorem data_len (x : ByteArray) : x.data.toList.length = x.size := by rw [Array.length_toList]; rfl
theorem tail_len {s s1 : PSt} (e : s1.ts = s.ts.tail) (hk : s.en.kind = 5) {k : Int} (hh : s.here.kind = k) (h5 : k ≠ 5) : s1.ts.length + 1 = s.ts.length := by
  have := here_pos hk (by rw [hh]; exact h5)
  rw [e, List.length_tail]
  omega
set_option maxRecDepth 100000 in
set_option maxHeartbeats 4000000 in
theorem dtTail_any {lb b bb bt : Nat} {W0 W : World} {first : Int} {acc : List UInt8} {s : PSt} {R : Ending → World → Prop} (hl : Low lb b bb bt W0) (h : Dt lb b bb bt W0 first acc s W)
    {tm : Array Value} (hsz : tm.size = 31) (hchk : chk tm [(0, .pointer (some ⟨b, 0, none⟩)), (5, .pointer (some ⟨bt, 0, none⟩)), (6, .pointer (some ⟨bb, 0, none⟩))]) (hR : ∀ e w, PR lb b W0 Value.string (dtailF first acc s) e w → R e w) : dtTail.wp Tryz.prog (bodyPost Tryz.prog Tryz.f87 R) ⟨tm, []⟩ W := by
  have HR := hide hR
  have hc := hide (name_any h.rd h.sm)
  obtain ⟨u, rfl⟩ := frame31 hsz
  obtain ⟨e0, e5, e6, _⟩ := hchk
  replace e0 : u 0 = .pointer (some ⟨b, 0, none⟩) := Option.some.inj e0
  replace e5 : u 5 = .pointer (some ⟨bt, 0, none⟩) := Option.some.inj e5
  replace e6 : u 6 = .pointer (some ⟨bb, 0, none⟩) := Option.some.inj e6
  rw [e0, e5, e6]
  have Hd := hide h
  have HL := hide hl
  clear e0 e5 e6 hsz hR h hl
  obtain ⟨Q, hQ⟩ : ∃ Q, bodyPost Tryz.prog Tryz.f87 R = Q := ⟨_, rfl⟩
  rw [hQ]
  unfold dtTail
  dsimp only [Tryz.f87]
  go_wp2_with fail
  refine (unhide hc).mono ?_
  intro e w1 hw
  rcases hw.split with ⟨x, hr, rfl, hg⟩ | ⟨x, s1, hr, rfl, h1, hg⟩
  · rw [← hQ]
    refine ⟨rfl, unhide HR _ _ ?_⟩
    unfold dtailF
    rw [hr]
    exact ⟨rfl, (unhide Hd).gr.trans hg⟩
  · obtain ⟨n1, n2, n3⟩ := name_ok hr
    have n4 := tail_len n1 (unhide Hd).rd.grown n3 (by decide)
    have hD1 := (unhide Hd).read (unhide HL) h1 hg ((unhide Hd).sm.tail n1) (by omega)
    have hlen := (unhide Hd).len
    have HD1 := hide hD1
    have HEq : Hid (dtailF first acc s = dotEnd first (dotLoop (s1.ts.length + 1) (acc ++ x.data.toList) s1)) := by show _ = _; unfold dtailF; rw [hr]
    have hw2 := writeString_any bb bb (Lib.byteCells acc) x w1 hD1.bu (by rw [bc_len]; omega) hD1.bbw
    have HW2 := hide hw2
    have hxd := data_len x
    clear hw hg h1 hr hD1 hw2 n1 n3 hc
    go_wp2_with fail
    refine (unhide HW2).mono ?_
    rintro e w2 ⟨rfl, hb2, hlow2⟩
    rw [Lib.strCells_eq, ← bc_app] at hb2
    have HD2 := hide ((unhide HD1).write (unhide HL) hb2 hlow2 (by rw [List.length_append, hxd]; omega))
    clear hb2 hlow2 HD1 HW2 Hd
    go_wp2
    refine wp_loop_count (DtJ lb b bb bt W0 first (dtailF first acc s)) ?_ (s1.ts.length + 1) _ _ ⟨_, _, s1, rfl, rfl, ⟨rfl, rfl, rfl, trivial⟩, unhide HD2, by omega, unhide HEq⟩
    clear HD2 HEq hxd n2 n4 hlen
    rintro f _ wr ⟨tm, ac, sc, rfl, hsz, hchk, hD, hf, hR0⟩
    obtain ⟨u, rfl⟩ := frame31 hsz
    obtain ⟨e0, e5, e6, _⟩ := hchk
    replace e0 : u 0 = .pointer (some ⟨b, 0, none⟩) := Option.some.inj e0
    replace e5 : u 5 = .pointer (some ⟨bt, 0, none⟩) := Option.some.inj e5
    replace e6 : u 6 = .pointer (some ⟨bb, 0, none⟩) := Option.some.inj e6
    rw [e0, e5, e6]
    have HD := hide hD
    have HR0 := hide hR0
    obtain ⟨f, rfl⟩ : ∃ k, f = k + 1 := ⟨f - 1, by omega⟩
    clear e0 e5 e6 hsz hD hR0
    go_wp2_with fail
    refine (takeSign_any (unhide HD).rd _).mono ?_
    intro e w3 hw
    rcases hw.split with ⟨y, hr, rfl, hg⟩ | ⟨fl, s3, hr, rfl, h3, hg⟩
    · show Q (Exit.panic _) _ _
      rw [← hQ]
      refine ⟨rfl, unhide HR _ _ ?_⟩
      rw [unhide HR0]
      unfold dotLoop
      rw [hr]
      exact ⟨rfl, (unhide HD).gr.trans hg⟩
    · rcases take_ok hr with ⟨rfl, rfl⟩ | ⟨rfl, ht1, ht2⟩
      · -- the end
        have hD3 := (unhide HD).read (unhide HL) h3 hg (unhide HD).sm (Nat.le_refl _)
        have hEq : dtailF first acc s = (if 255 < ac.length then .error (2, first) else .ok (⟨ac.toArray⟩, s3)) := by
          rw [unhide HR0]
          unfold dotLoop
          rw [hr]
          rfl
        have HEq := hide hEq
        have HD3 := hide hD3
        have hac := hD3.len
        clear hw hr hg h3 hD3 hEq HD HR0
        go_wp2_with fail
        refine (blen_any bb bb _ w3 (unhide HD3).bu).mono ?_
        rintro e w4 ⟨rfl, hw4⟩
        obtain rfl : w3 = w4 := hw4.symm
        rw [bc_len]
        clear hw4
        by_cases hlong : 255 < ac.length
        · have hd : decide ((255 : Int) < (ac.length : Int)) = true := by simp; omega
          have hfst := (unhide HD3).fst
          have HE : Hid (R (flt 2 first) w3) := unhide HR _ _ (by rw [unhide HEq, if_pos hlong]; exact ⟨rfl, (unhide HD3).gr⟩)
          clear hlong
          go_wp2
          rw [← hQ]
          exact ⟨rfl, unhide HE⟩
        · have hd : decide ((255 : Int) < (ac.length : Int)) = false := by simp; omega
          have HE : Hid (∀ w, Below bb w3 w → R (.returned (.string ⟨ac.toArray⟩)) w) := fun w hb => unhide HR _ _ (by
            rw [unhide HEq, if_neg hlong]
            exact ⟨rfl, (unhide HD3).rd.up' (hb.mono (by have := (unhide HL).a; have := (unhide HL).b1; have := (unhide HL).c; omega)), grown_low (unhide HD3).gr hb (by have := (unhide HL).b1; have := (unhide HL).c; omega)⟩)
          clear hlong
          go_wp2_with fail
          refine (bstring_any bb bb ac w3 (unhide HD3).bu (unhide HD3).bbw).mono ?_
          rintro e w5 ⟨rfl, hb5⟩
          have H5 := hide (unhide HE w5 hb5)
          clear hb5
          go_wp2
          rw [← hQ]
          go_ret
          exact unhide H5
      · -- one name more
        have n4 := tail_len ht1 (unhide HD).rd.grown ht2 (by decide)
        have hD3 := (unhide HD).read (unhide HL) h3 hg ((unhide HD).sm.tail ht1) (by omega)
        have hlen := (unhide HD).len
        have Hr := hide hr
        have HD3 := hide hD3
        have hw4 := writeByte_any bb bb (Lib.byteCells ac) 46 w3 hD3.bu (by rw [bc_len]; omega) hD3.bbw
        have HW4 := hide hw4
        clear hw hr hg h3 hD3 hw4 HD ht1 ht2
        go_wp2_with fail
        refine (unhide HW4).mono ?_
        rintro e w4 ⟨rfl, hb4, hlow4⟩
        have hb4' : Lib.BuilderAt 142 5 bb bb (.pointer (some ⟨bb, 0, none⟩)) (Lib.byteCells (ac ++ [46])) w4 := by rw [bc_app]; exact hb4
        have hD4 := (unhide HD3).write (unhide HL) hb4' hlow4 (by rw [List.length_append]; simp only [List.length_cons, List.length_nil]; omega)
        have HD4 := hide hD4
        have hc4 := hide (name_any hD4.rd hD4.sm)
        clear hb4 hb4' hlow4 hD4 HD3 HW4
        go_wp2_with fail
        refine (unhide hc4).mono ?_
        intro e w5 hw
        rcases hw.split with ⟨y, hr, rfl, hg⟩ | ⟨x, s5, hr, rfl, h5, hg⟩
        · show Q (Exit.panic _) _ _
          rw [← hQ]
          refine ⟨rfl, unhide HR _ _ ?_⟩
          rw [unhide HR0]
          unfold dotLoop
          rw [unhide Hr]
          simp only
          rw [hr]
          exact ⟨rfl, (unhide HD4).gr.trans hg⟩
        · obtain ⟨m1, m2, m3⟩ := name_ok hr
          have m4 := tail_len m1 (unhide HD4).rd.grown m3 (by decide)
          have hD5 := (unhide HD4).read (unhide HL) h5 hg ((unhide HD4).sm.tail m1) (by omega)
          have hlen4 := (unhide HD4).len
          rw [List.length_append] at hlen4
          simp only [List.length_cons, List.length_nil] at hlen4
          have HD5 := hide hD5
          have hEq : dtailF first acc s = dotEnd first (dotLoop f ((ac ++ [46]) ++ x.data.toList) s5) := by
            rw [unhide HR0]
            conv => lhs; unfold dotLoop
            rw [unhide Hr]
            simp only
            rw [hr]
          have HEq := hide hEq
          have hw6 := writeString_any bb bb (Lib.byteCells (ac ++ [46])) x w5 hD5.bu (by rw [bc_len, List.length_append]; simp only [List.length_cons, List.length_nil]; omega) hD5.bbw
          have HW6 := hide hw6
          have hxd := data_len x
          clear hw hr hg h5 hD5 hw6 hEq HD4 hc4 m1 m3
          go_wp2_with fail
          refine (unhide HW6).mono ?_
          rintro e w6 ⟨rfl, hb6, hlow6⟩
          rw [Lib.strCells_eq, ← bc_app] at hb6
          have HD6 := hide ((unhide HD5).write (unhide HL) hb6 hlow6 (by rw [List.length_append, List.length_append, hxd]; simp only [List.length_cons, List.length_nil]; omega))
          clear hb6 hlow6 HD5 HW6
          go_wp2
          exact ⟨f, rfl, _, _, s5, rfl, rfl, ⟨rfl, rfl, rfl, trivial⟩, unhide HD6, by omega, unhide HEq⟩
end Go.Proofs.YtdhncpeemcanlaaGreatDoor
