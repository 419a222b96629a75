import Derived.Test.YtdhncpeemcanlaaGreatDoorJ19

namespace Go.Proofs.YtdhncpeemcanlaaGreatDoor
open Go.RowKit Go.Shelf
attribute [local go_sem ↓] Go.wp_at_zero Go.wp_at_succ

noncomputable def dottedF (da : Bool) (s : PSt) : Except (Int × Int) (ByteArray × PSt) := match (if da = true then ptakeF 4 ⟨#[46]⟩ s else .ok (false, s)) with
  | .error e => .error e
  | .ok (d, s1) => dtailF s.here.spot (if d = true then [46] else []) s1
theorem builder_new (w : World) : Lib.IsBuilder 142 5 w.heap.size w.heap.size (Lib.byteCells []) (w.alloc (.cells #[.pointer none, .slice none 0 0] 142)) :=
  .inl ⟨Nat.le_refl _, .slice none 0 0, heap_new _ _, World.ownsRow_nil _ _ _ _, by simp [Value.ownBlock]⟩
set_option maxRecDepth 100000 in
set_option maxHeartbeats 4000000 in
theorem dotted_any {lb b : Nat} {W : World} {s : PSt} (da : Bool) (h : Rd lb W b s) (hs : Sm s) (hn : s.ts.length ≤ 16384) : Calls Tryz.prog 87 #[.pointer (some ⟨b, 0, none⟩), .bool da] W (PR lb b W Value.string (dottedF da s)) := by
  have hc := hide (here_any h)
  have hlow := h.low
  have Hd := hide h
  have Hs := hide hs
  obtain ⟨t, ht⟩ : ∃ t, s.here = t := ⟨_, rfl⟩
  rw [ht] at hc
  have HF : Hid (dottedF da s = (match (if da = true then ptakeF 4 ⟨#[46]⟩ s else .ok (false, s)) with | .error e => .error e | .ok (d, s1) => dtailF t.spot (if d = true then [46] else []) s1)) := by show _ = _; unfold dottedF; rw [ht]
  obtain ⟨kd, sp, tx⟩ := t
  unfold Tk.val at hc
  simp only at hc HF
  clear ht h hs
  refine calls_of_wp Tryz.func87 dt_split ?_
  obtain ⟨tl, htl⟩ : ∃ t, dtTail = t := ⟨_, rfl⟩
  rw [htl]
  obtain ⟨Q, hQ⟩ : ∃ Q, bodyPost Tryz.prog Tryz.f87 (PR lb b W Value.string (dottedF da s)) = Q := ⟨_, rfl⟩
  rw [hQ]
  unfold dtWith
  dsimp only [Tryz.f87]
  simp only [List.size_toArray, List.length_cons, List.length_nil, Nat.reduceAdd, Nat.reduceSub, Array.replicate_succ, Array.replicate_zero, List.push_toArray, List.append_toArray, List.nil_append, List.cons_append]
  go_wp2_with fail
  refine (unhide hc).mono ?_
  rintro e w1 ⟨rfl, hb1⟩
  have hs1 := hb1.size
  have hb2 := (hb1.alloc hs1 (.cells #[.int .i64 kd, .int .i64 sp, .string tx] 29)).alloc (by rw [World.size_alloc]; omega) (.cells #[.pointer none, .slice none 0 0] 142)
  have hL : Low lb b (w1.heap.size + 1) w1.heap.size W := ⟨hlow.2, hs1, by omega, hlow.1⟩
  have hbu := builder_new (w1.alloc (.cells #[.int .i64 kd, .int .i64 sp, .string tx] 29))
  rw [World.size_alloc] at hbu
  have hfst : ((w1.alloc (.cells #[.int .i64 kd, .int .i64 sp, .string tx] 29)).alloc (.cells #[.pointer none, .slice none 0 0] 142)).cell? ⟨w1.heap.size, 1, none⟩ = some (.int .i64 sp) := by
    rw [cell_of_row _ _ _ _ _ _ ((Below.heap_alloc _ _ _ (by rw [World.size_alloc]; omega)).trans (heap_new w1 _))]
    rfl
  have hD : Dt lb b (w1.heap.size + 1) w1.heap.size W sp [] s ((w1.alloc (.cells #[.int .i64 kd, .int .i64 sp, .string tx] 29)).alloc (.cells #[.pointer none, .slice none 0 0] 142)) := ⟨(unhide Hd).up hb2, unhide Hs, hbu, hfst, below_grown b hb2, by simp only [List.length_nil]; omega⟩
  have HD := hide hD
  have HL := hide hL
  clear hb1 hb2 hL hbu hfst hD hc hs1 hlow
  cases da with
  | false =>
    simp only [Bool.false_eq_true, if_false] at HF
    go_wp2
    rw [← htl, ← hQ]
    refine dtTail_any (unhide HL) (unhide HD) rfl ⟨rfl, rfl, rfl, trivial⟩ ?_
    intro e w hw
    rw [unhide HF]
    exact hw
  | true =>
    simp only [if_true] at HF
    go_wp2_with fail
    refine (takeSign_any (unhide HD).rd _).mono ?_
    intro e w3 hw
    rcases hw.split with ⟨y, hr, rfl, hg⟩ | ⟨fl, s3, hr, rfl, h3, hg⟩
    · show Q (Exit.panic _) _ _
      rw [← hQ]
      refine ⟨rfl, ?_⟩
      rw [unhide HF, hr]
      exact ⟨rfl, (unhide HD).gr.trans hg⟩
    · have HF2 : Hid (dottedF true s = dtailF sp (if fl = true then [46] else []) s3) := by show _ = _; rw [unhide HF, hr]
      rcases take_ok hr with ⟨rfl, rfl⟩ | ⟨rfl, ht1, ht2⟩
      · have HD3 := hide ((unhide HD).read (unhide HL) h3 hg (unhide HD).sm (Nat.le_refl _))
        clear hw hr hg h3 HD HF
        go_wp2
        rw [← htl, ← hQ]
        refine dtTail_any (unhide HL) (unhide HD3) rfl ⟨rfl, rfl, rfl, trivial⟩ ?_
        intro e w hw
        rw [unhide HF2]
        exact hw
      · have n4 := tail_len ht1 (unhide HD).rd.grown ht2 (by decide)
        have hD3 := (unhide HD).read (unhide HL) h3 hg ((unhide HD).sm.tail ht1) (by omega)
        have HD3 := hide hD3
        have HW4 := hide (writeByte_any (w1.heap.size + 1) (w1.heap.size + 1) (Lib.byteCells []) 46 w3 hD3.bu (by rw [bc_len]; simp) hD3.bbw)
        clear hw hr hg h3 hD3 HD HF ht1 ht2
        go_wp2_with fail
        refine (unhide HW4).mono ?_
        rintro e w4 ⟨rfl, hb4, hlow4⟩
        have HD4 : Hid (Dt lb b (w1.heap.size + 1) w1.heap.size W sp [46] s3 w4) := (unhide HD3).write (unhide HL) hb4 hlow4 (by simp only [List.length_cons, List.length_nil]; omega)
        clear hb4 hlow4 HD3 HW4
        go_wp2
        rw [← htl, ← hQ]
        refine dtTail_any (unhide HL) (unhide HD4) rfl ⟨rfl, rfl, rfl, trivial⟩ ?_
        intro e w hw
        rw [unhide HF2]
        exact hw
end Go.Proofs.YtdhncpeemcanlaaGreatDoor

namespace Go.Proofs.YtdhncpeemcanlaaGreatDoor
open Go.RowKit Go.Shelf
attribute [local go_sem ↓] Go.wp_at_zero Go.wp_at_succ

/-- A field's declaration. -/
structure Fd where
  card : Int
  key : ByteArray
  ty : ByteArray
  name : ByteArray
  num : Int
  oneof : Int
def Fd.arr (d : Fd) : Array Value := #[.int .i64 d.card, .string d.key, .string d.ty, .string d.name, .int .i64 d.num, .int .i64 d.oneof]
def Fd.val (d : Fd) : Value := .agg d.arr
theorem sizeFld : (Tryz.prog.info? 47).map (·.size) = some 6 := by kernel_rfl
noncomputable def nnF (d : Fd) (s : PSt) : Except (Int × Int) (Fd × PSt) := match pnameF s with
  | .error e => .error e
  | .ok (x, s1) => match assignedF 0 2147483647 false s1 with
    | .error e => .error e
    | .ok (n, s2) => .ok ({ d with name := x, num := n }, s2)
theorem cells6 {w : World} {g : Nat} {a0 a1 a2 a3 a4 a5 : Value} {t : TypeId} (h : w.heap[g]? = some (.cells #[a0, a1, a2, a3, a4, a5] t (0, 0))) : (w.cell? ⟨g, 0, none⟩ = some a0 ∧ w.cell? ⟨g, 1, none⟩ = some a1 ∧ w.cell? ⟨g, 2, none⟩ = some a2 ∧ w.cell? ⟨g, 3, none⟩ = some a3 ∧ w.cell? ⟨g, 4, none⟩ = some a4 ∧ w.cell? ⟨g, 5, none⟩ = some a5) ∧ ∀ j, w.frozen? ⟨g, j, none⟩ = false := by
  refine ⟨⟨?_, ?_, ?_, ?_, ?_, ?_⟩, fun j => by simp [World.frozen?, h]⟩ <;> rw [cell_of_row _ _ _ _ _ _ h] <;> rfl
def set6 (w : World) (g : Nat) (a0 a1 a2 a3 a4 a5 : Value) : World := (((((w.setCell ⟨g, 0, none⟩ a0).setCell ⟨g, 1, none⟩ a1).setCell ⟨g, 2, none⟩ a2).setCell ⟨g, 3, none⟩ a3).setCell ⟨g, 4, none⟩ a4).setCell ⟨g, 5, none⟩ a5
theorem set6_block {w : World} {g : Nat} {b0 b1 b2 b3 b4 b5 : Value} {t : TypeId} (h : w.heap[g]? = some (.cells #[b0, b1, b2, b3, b4, b5] t (0, 0))) (a0 a1 a2 a3 a4 a5 : Value) : (set6 w g a0 a1 a2 a3 a4 a5).heap[g]? = some (.cells #[a0, a1, a2, a3, a4, a5] t (0, 0)) ∧ w.grownBy (set6 w g a0 a1 a2 a3 a4 a5) (some g) := by
  obtain ⟨h0, g0⟩ := set_block (j := 0) h a0
  obtain ⟨h1, g1⟩ := set_block (j := 1) h0 a1
  obtain ⟨h2, g2⟩ := set_block (j := 2) h1 a2
  obtain ⟨h3, g3⟩ := set_block (j := 3) h2 a3
  obtain ⟨h4, g4⟩ := set_block (j := 4) h3 a4
  obtain ⟨h5, g5⟩ := set_block (j := 5) h4 a5
  exact ⟨h5, ((((g0.trans g1).trans g2).trans g3).trans g4).trans g5⟩
theorem grown_new {W w w' : World} {b g : Nat} (h : W.grownBy w (some b)) (k : w.grownBy w' (some g)) (hl : W.heap.size ≤ g) : W.grownBy w' (some b) :=
  ⟨k.os.trans h.os, k.tape.trans h.tape, k.output.trans h.output, Nat.le_trans h.size k.size, fun i hi hne => (k.block i (Nat.lt_of_lt_of_le hi h.size) (by simp; omega)).trans (h.block i hi hne)⟩
theorem rd_new {lb b g : Nat} {s : PSt} {w w' : World} (h : Rd lb w b s) (k : w.grownBy w' (some g)) (hl : lb ≤ g) : Rd lb w' b s :=
  h.up' ((Below.refl lb w).grown k h.low.2 (fun i e => by simp at e; omega))
theorem env_new {V W w : World} {b g : Nat} (h : Env V W b) (k : W.grownBy w (some g)) (hl : V.heap.size ≤ g) : Env V w b :=
  ⟨h.f, h.e, h.m, h.below.grown k h.below.size (fun i e => by simp at e; omega), h.lo⟩
set_option maxRecDepth 100000 in
set_option maxHeartbeats 4000000 in
theorem nn_any {lb b : Nat} {V W : World} {s : PSt} (d : Fd) (hv : Env V W b) (h : Rd lb W b s) (hs : Sm s) : Calls Tryz.prog 130 #[.pointer (some ⟨b, 0, none⟩), d.val] W (PR lb b W Fd.val (nnF d s)) := by
  obtain ⟨c0, k0, t0, n0, m0, o0⟩ := d
  have hlow := h.low
  have hVb := hv.lo
  have hb2 : Below W.heap.size W ((W.alloc (.cells #[.int .i64 c0, .string k0, .string t0, .string n0, .int .i64 m0, .int .i64 o0] 47)).alloc (.cells #[.int .i64 0, .string ⟨#[]⟩, .string ⟨#[]⟩, .string ⟨#[]⟩, .int .i64 0, .int .i64 0] 47)) := ((Below.refl _ _).alloc (Nat.le_refl _) _).alloc (by rw [World.size_alloc]; omega) _
  have hx1 : ((W.alloc (.cells #[.int .i64 c0, .string k0, .string t0, .string n0, .int .i64 m0, .int .i64 o0] 47)).alloc (.cells #[.int .i64 0, .string ⟨#[]⟩, .string ⟨#[]⟩, .string ⟨#[]⟩, .int .i64 0, .int .i64 0] 47)).heap[W.heap.size]? = some (.cells #[.int .i64 c0, .string k0, .string t0, .string n0, .int .i64 m0, .int .i64 o0] 47 (0, 0)) := (Below.heap_alloc _ _ _ (by rw [World.size_alloc]; omega)).trans (heap_new _ _)
  have hx2 : ((W.alloc (.cells #[.int .i64 c0, .string k0, .string t0, .string n0, .int .i64 m0, .int .i64 o0] 47)).alloc (.cells #[.int .i64 0, .string ⟨#[]⟩, .string ⟨#[]⟩, .string ⟨#[]⟩, .int .i64 0, .int .i64 0] 47)).heap[W.heap.size + 1]? = some (.cells #[.int .i64 0, .string ⟨#[]⟩, .string ⟨#[]⟩, .string ⟨#[]⟩, .int .i64 0, .int .i64 0] 47 (0, 0)) := by
    have := heap_new (W.alloc (.cells #[.int .i64 c0, .string k0, .string t0, .string n0, .int .i64 m0, .int .i64 o0] 47)) (.cells #[.int .i64 0, .string ⟨#[]⟩, .string ⟨#[]⟩, .string ⟨#[]⟩, .int .i64 0, .int .i64 0] 47)
    rw [World.size_alloc] at this
    exact this
  have hc := hide (name_any (h.up hb2) hs)
  have Hg0 := hide (below_grown b hb2)
  have Hv := hide (hv.step (below_grown b hb2))
  have HX1 := hide hx1
  have HX2 := hide hx2
  clear hx1 hx2 hb2 h hv hs
  unfold Fd.val Fd.arr
  simp only
  go_enter Tryz.func130, Tryz.ntmps130
  go_wp2_with fail
  refine (unhide hc).mono ?_
  intro e w1 hw
  rcases hw.split with ⟨y, hr, rfl, hg⟩ | ⟨x, s1, hr, rfl, h1, hg⟩
  · refine ⟨rfl, ?_⟩
    unfold nnF
    rw [hr]
    exact ⟨rfl, (unhide Hg0).trans hg⟩
  · have l1 : W.heap.size < w1.heap.size := Nat.lt_of_lt_of_le (Array.getElem?_eq_some_iff.1 (unhide HX1)).1 hg.size
    have p1 := (hg.block W.heap.size (Array.getElem?_eq_some_iff.1 (unhide HX1)).1 (by simp; omega)).trans (unhide HX1)
    have p2 := (hg.block (W.heap.size + 1) (Array.getElem?_eq_some_iff.1 (unhide HX2)).1 (by simp; omega)).trans (unhide HX2)
    obtain ⟨⟨y0, y1, y2, y3, y4, y5⟩, yf⟩ := cells6 p1
    have f3 := yf 3
    obtain ⟨q1, g1⟩ := set_block (j := 3) p1 (.string x)
    have q2 := (g1.block (W.heap.size + 1) (Array.getElem?_eq_some_iff.1 p2).1 (by simp)).trans p2
    have hr1 := rd_new h1 g1 (by omega)
    have hv1 := env_new ((unhide Hv).step hg) g1 (by omega)
    have hG1 := grown_new ((unhide Hg0).trans hg) g1 (Nat.le_refl _)
    have Hr := hide hr
    have HC := hide (assigned_any 0 2147483647 false hv1 hr1)
    have Q1 := hide q1
    have Q2 := hide q2
    have HG1 := hide hG1
    clear hw hr hg h1 p1 p2 yf q1 q2 g1 hr1 hv1 hG1 HX1 HX2 Hg0 hc l1
    go_wp2_with fail
    refine (unhide HC).mono ?_
    intro e w2 hw
    rcases hw.split with ⟨y, hr, rfl, hg⟩ | ⟨n, s2, hr, rfl, h2, hg⟩
    · refine ⟨rfl, ?_⟩
      unfold nnF
      rw [unhide Hr]
      simp only
      rw [hr]
      exact ⟨rfl, (unhide HG1).trans hg⟩
    · have p1 := (hg.block W.heap.size (Array.getElem?_eq_some_iff.1 (unhide Q1)).1 (by simp; omega)).trans (unhide Q1)
      have p2 := (hg.block (W.heap.size + 1) (Array.getElem?_eq_some_iff.1 (unhide Q2)).1 (by simp; omega)).trans (unhide Q2)
      simp only [List.set_cons_succ, List.set_cons_zero] at p1
      obtain ⟨⟨z0, z1, z2, z3, z4, z5⟩, zf⟩ := cells6 p1
      have f4 := zf 4
      obtain ⟨q1, g1⟩ := set_block (j := 4) p1 (.int .i64 n)
      have q2 := (g1.block (W.heap.size + 1) (Array.getElem?_eq_some_iff.1 p2).1 (by simp)).trans p2
      simp only [List.set_cons_succ, List.set_cons_zero] at q1
      obtain ⟨⟨u0, u1, u2, u3, u4, u5⟩, _⟩ := cells6 q1
      obtain ⟨⟨v0, v1, v2, v3, v4, v5⟩, vf⟩ := cells6 q2
      have e0 := vf 0
      have e1 := vf 1
      have e2 := vf 2
      have e3 := vf 3
      have e4 := vf 4
      have e5 := vf 5
      obtain ⟨r1, r2⟩ := set6_block q2 (.int .i64 c0) (.string k0) (.string t0) (.string x) (.int .i64 n) (.int .i64 o0)
      have HE : Hid (PR lb b W Fd.val (nnF ⟨c0, k0, t0, n0, m0, o0⟩ s) (.returned (.agg #[.int .i64 c0, .string k0, .string t0, .string x, .int .i64 n, .int .i64 o0])) (set6 (w2.setCell ⟨W.heap.size, 4, none⟩ (.int .i64 n)) (W.heap.size + 1) (.int .i64 c0) (.string k0) (.string t0) (.string x) (.int .i64 n) (.int .i64 o0))) := by
        show PR lb b W Fd.val (nnF ⟨c0, k0, t0, n0, m0, o0⟩ s) _ _
        unfold nnF
        rw [unhide Hr]
        simp only
        rw [hr]
        exact ⟨rfl, rd_new (rd_new h2 g1 (by omega)) r2 (by omega), grown_new (grown_new ((unhide HG1).trans hg) g1 (Nat.le_refl _)) r2 (by omega)⟩
      have R1 := hide r1
      unfold set6 at HE R1
      clear hw hr hg h2 p1 p2 zf q1 q2 g1 vf r1 r2 HC Q1 Q2 HG1 Hr Hv
      unfold intV
      go_wp2
      exact bodyPost_ret (results_cell_row rfl _ _ (W.heap.size + 1) 47 #[.int .i64 c0, .string k0, .string t0, .string x, .int .i64 n, .int .i64 o0] (0, 0) _ rfl (unhide R1) Tryz.underlying47 rfl sizeFld) rfl (unhide HE)
end Go.Proofs.YtdhncpeemcanlaaGreatDoor

namespace Go.Proofs.YtdhncpeemcanlaaGreatDoor
open Go.RowKit Go.Shelf
attribute [local go_sem ↓] Go.wp_at_zero Go.wp_at_succ

/-- Further on in the same tokens. -/
def Suf (s s1 : PSt) : Prop := ∃ k, s1.ts = s.ts.drop k ∧ s1.op = s.op ∧ s1.en = s.en
theorem Suf.refl (s : PSt) : Suf s s := ⟨0, rfl, rfl, rfl⟩
theorem Suf.trans {a b c : PSt} (h : Suf a b) (k : Suf b c) : Suf a c := by
  obtain ⟨m, h, h1, h2⟩ := h
  obtain ⟨n, k, k1, k2⟩ := k
  exact ⟨m + n, by rw [k, h, List.drop_drop], k1.trans h1, k2.trans h2⟩
theorem Suf.tail {s s1 : PSt} (h : s1.ts = s.ts.tail) (ho : s1.op = s.op ∧ s1.en = s.en) : Suf s s1 := ⟨1, by rw [h, List.drop_one], ho⟩
theorem Suf.op {s s1 : PSt} (h : Suf s s1) : s1.op = s.op := by
  obtain ⟨_, _, h, _⟩ := h
  exact h
theorem Suf.len {s s1 : PSt} (h : Suf s s1) : s1.ts.length ≤ s.ts.length := by
  obtain ⟨k, h, _⟩ := h
  rw [h, List.length_drop]
  omega
theorem Suf.sm {s s1 : PSt} (h : Suf s s1) (k : Sm s) : Sm s1 := by
  obtain ⟨n, h, _⟩ := h
  intro t ht
  rw [h] at ht
  exact k t (List.mem_of_mem_drop ht)
theorem suf_take {k : Int} {x : ByteArray} {s s1 : PSt} {f : Bool} (h : ptakeF k x s = .ok (f, s1)) : Suf s s1 := by
  rcases take_ok h with ⟨_, rfl⟩ | ⟨_, h1, _⟩
  · exact .refl _
  · exact .tail h1 (take_op h)
theorem suf_loop : ∀ (f : Nat) (acc : List UInt8) (s : PSt) {r : List UInt8} {s1 : PSt}, dotLoop f acc s = .ok (r, s1) → Suf s s1
  | 0, acc, s, r, s1, h => by unfold dotLoop at h; cases h
  | f + 1, acc, s, r, s1, h => by
    unfold dotLoop at h
    cases ht : ptakeF 4 ⟨#[46]⟩ s with
    | error e => rw [ht] at h; cases h
    | ok y =>
      obtain ⟨fl, s2⟩ := y
      rw [ht] at h
      cases fl with
      | false =>
        simp only [Except.ok.injEq, Prod.mk.injEq] at h
        rw [← h.2]
        exact suf_take ht
      | true =>
        simp only at h
        cases hn : pnameF s2 with
        | error e => rw [hn] at h; cases h
        | ok z =>
          rw [hn] at h
          exact ((suf_take ht).trans (.tail (name_ok hn).1 (name_op hn))).trans (suf_loop f _ _ h)
theorem suf_dtail {first : Int} {acc : List UInt8} {s s1 : PSt} {x : ByteArray} (h : dtailF first acc s = .ok (x, s1)) : Suf s s1 := by
  unfold dtailF at h
  cases hn : pnameF s with
  | error e => rw [hn] at h; cases h
  | ok z =>
    rw [hn] at h
    simp only at h
    cases hl : dotLoop (z.2.ts.length + 1) (acc ++ z.1.data.toList) z.2 with
    | error e => rw [hl] at h; cases h
    | ok y =>
      rw [hl] at h
      unfold dotEnd at h
      simp only at h
      split at h
      · cases h
      · simp only [Except.ok.injEq, Prod.mk.injEq] at h
        rw [← h.2]
        exact (Suf.tail (name_ok hn).1 (name_op hn)).trans (suf_loop _ _ _ hl)
theorem suf_dotted {da : Bool} {s s1 : PSt} {x : ByteArray} (h : dottedF da s = .ok (x, s1)) : Suf s s1 := by
  unfold dottedF at h
  cases da with
  | false =>
    simp only [Bool.false_eq_true, if_false] at h
    exact suf_dtail h
  | true =>
    simp only [if_true] at h
    cases ht : ptakeF 4 ⟨#[46]⟩ s with
    | error e => rw [ht] at h; cases h
    | ok y =>
      rw [ht] at h
      exact (suf_take ht).trans (suf_dtail h)
noncomputable def fieldF (d : Fd) (s : PSt) : Except (Int × Int) (Fd × PSt) := match dottedF true s with
  | .error e => .error e
  | .ok (x, s1) => nnF { d with ty := x } s1
set_option maxRecDepth 100000 in
set_option maxHeartbeats 4000000 in
theorem field_p_any {lb b : Nat} {V W : World} {s : PSt} (d : Fd) (hv : Env V W b) (h : Rd lb W b s) (hs : Sm s) (hn : s.ts.length ≤ 16384) : Calls Tryz.prog 118 #[.pointer (some ⟨b, 0, none⟩), d.val] W (PR lb b W Fd.val (fieldF d s)) := by
  obtain ⟨c0, k0, t0, n0, m0, o0⟩ := d
  have hlow := h.low
  have hVb := hv.lo
  have hb2 : Below W.heap.size W ((W.alloc (.cells #[.int .i64 c0, .string k0, .string t0, .string n0, .int .i64 m0, .int .i64 o0] 47)).alloc (.cells #[.int .i64 0, .string ⟨#[]⟩, .string ⟨#[]⟩, .string ⟨#[]⟩, .int .i64 0, .int .i64 0] 47)) := ((Below.refl _ _).alloc (Nat.le_refl _) _).alloc (by rw [World.size_alloc]; omega) _
  have hx1 : ((W.alloc (.cells #[.int .i64 c0, .string k0, .string t0, .string n0, .int .i64 m0, .int .i64 o0] 47)).alloc (.cells #[.int .i64 0, .string ⟨#[]⟩, .string ⟨#[]⟩, .string ⟨#[]⟩, .int .i64 0, .int .i64 0] 47)).heap[W.heap.size]? = some (.cells #[.int .i64 c0, .string k0, .string t0, .string n0, .int .i64 m0, .int .i64 o0] 47 (0, 0)) := (Below.heap_alloc _ _ _ (by rw [World.size_alloc]; omega)).trans (heap_new _ _)
  have hx2 : ((W.alloc (.cells #[.int .i64 c0, .string k0, .string t0, .string n0, .int .i64 m0, .int .i64 o0] 47)).alloc (.cells #[.int .i64 0, .string ⟨#[]⟩, .string ⟨#[]⟩, .string ⟨#[]⟩, .int .i64 0, .int .i64 0] 47)).heap[W.heap.size + 1]? = some (.cells #[.int .i64 0, .string ⟨#[]⟩, .string ⟨#[]⟩, .string ⟨#[]⟩, .int .i64 0, .int .i64 0] 47 (0, 0)) := by
    have := heap_new (W.alloc (.cells #[.int .i64 c0, .string k0, .string t0, .string n0, .int .i64 m0, .int .i64 o0] 47)) (.cells #[.int .i64 0, .string ⟨#[]⟩, .string ⟨#[]⟩, .string ⟨#[]⟩, .int .i64 0, .int .i64 0] 47)
    rw [World.size_alloc] at this
    exact this
  have hc := hide (dotted_any true (h.up hb2) hs hn)
  have Hg0 := hide (below_grown b hb2)
  have Hv := hide (hv.step (below_grown b hb2))
  have HX1 := hide hx1
  have HX2 := hide hx2
  have HS := hide hs
  clear hx1 hx2 hb2 h hv hs
  unfold Fd.val Fd.arr
  simp only
  go_enter Tryz.func118, Tryz.ntmps118
  go_wp2_with fail
  refine (unhide hc).mono ?_
  intro e w1 hw
  rcases hw.split with ⟨y, hr, rfl, hg⟩ | ⟨x, s1, hr, rfl, h1, hg⟩
  · refine ⟨rfl, ?_⟩
    unfold fieldF
    rw [hr]
    exact ⟨rfl, (unhide Hg0).trans hg⟩
  · have p1 := (hg.block W.heap.size (Array.getElem?_eq_some_iff.1 (unhide HX1)).1 (by simp; omega)).trans (unhide HX1)
    have p2 := (hg.block (W.heap.size + 1) (Array.getElem?_eq_some_iff.1 (unhide HX2)).1 (by simp; omega)).trans (unhide HX2)
    obtain ⟨⟨y0, y1, y2, y3, y4, y5⟩, yf⟩ := cells6 p1
    have f2 := yf 2
    obtain ⟨q1, g1⟩ := set_block (j := 2) p1 (.string x)
    have q2 := (g1.block (W.heap.size + 1) (Array.getElem?_eq_some_iff.1 p2).1 (by simp)).trans p2
    simp only [List.set_cons_succ, List.set_cons_zero] at q1
    obtain ⟨⟨u0, u1, u2, u3, u4, u5⟩, _⟩ := cells6 q1
    have hr1 := rd_new h1 g1 (by omega)
    have hv1 := env_new ((unhide Hv).step hg) g1 (by omega)
    have hG1 := grown_new ((unhide Hg0).trans hg) g1 (Nat.le_refl _)
    have Hr := hide hr
    have HC := hide (nn_any ⟨c0, k0, x, n0, m0, o0⟩ hv1 hr1 ((suf_dotted hr).sm (unhide HS)))
    have Q2 := hide q2
    have HG1 := hide hG1
    unfold Fd.val Fd.arr at HC
    simp only at HC
    clear hw hr hg h1 p1 p2 yf q1 q2 g1 hr1 hv1 hG1 HX1 HX2 Hg0 hc
    go_wp2_with fail
    refine (unhide HC).mono ?_
    intro e w2 hw
    rcases hw.split with ⟨y, hr, rfl, hg⟩ | ⟨d2, s2, hr, rfl, h2, hg⟩
    · refine ⟨rfl, ?_⟩
      unfold fieldF
      rw [unhide Hr]
      simp only
      rw [hr]
      exact ⟨rfl, (unhide HG1).trans hg⟩
    · obtain ⟨c9, k9, t9, n9, m9, o9⟩ := d2
      simp only
      have p2 := (hg.block (W.heap.size + 1) (Array.getElem?_eq_some_iff.1 (unhide Q2)).1 (by simp; omega)).trans (unhide Q2)
      obtain ⟨⟨v0, v1, v2, v3, v4, v5⟩, vf⟩ := cells6 p2
      have e0 := vf 0
      have e1 := vf 1
      have e2 := vf 2
      have e3 := vf 3
      have e4 := vf 4
      have e5 := vf 5
      obtain ⟨r1, r2⟩ := set6_block p2 (.int .i64 c9) (.string k9) (.string t9) (.string n9) (.int .i64 m9) (.int .i64 o9)
      have HE : Hid (PR lb b W Fd.val (fieldF ⟨c0, k0, t0, n0, m0, o0⟩ s) (.returned (.agg #[.int .i64 c9, .string k9, .string t9, .string n9, .int .i64 m9, .int .i64 o9])) (set6 w2 (W.heap.size + 1) (.int .i64 c9) (.string k9) (.string t9) (.string n9) (.int .i64 m9) (.int .i64 o9))) := by
        show PR lb b W Fd.val (fieldF ⟨c0, k0, t0, n0, m0, o0⟩ s) _ _
        unfold fieldF
        rw [unhide Hr]
        simp only
        rw [hr]
        exact ⟨rfl, rd_new h2 r2 (by omega), grown_new ((unhide HG1).trans hg) r2 (by omega)⟩
      have R1 := hide r1
      unfold set6 at HE R1
      clear hw hr hg h2 p2 vf r1 r2 HC Q2 HG1 Hr Hv u0 u1 u2 u3 u4 u5 y0 y1 y2 y3 y4 y5 f2
      go_wp2
      exact bodyPost_ret (results_cell_row rfl _ _ (W.heap.size + 1) 47 #[.int .i64 c9, .string k9, .string t9, .string n9, .int .i64 m9, .int .i64 o9] (0, 0) _ rfl (unhide R1) Tryz.underlying47 rfl sizeFld) rfl (unhide HE)
end Go.Proofs.YtdhncpeemcanlaaGreatDoor
