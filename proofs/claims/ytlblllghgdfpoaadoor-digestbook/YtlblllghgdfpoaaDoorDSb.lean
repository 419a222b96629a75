import Derived.Test.YtlblllghgdfpoaaDoorJ10
import Derived.Deep.MidRow

namespace Go.Proofs.YtlblllghgdfpoaaDoor
open Go.RowKit
attribute [local go_sem ↓] Go.wp_at_zero Go.wp_at_succ

/-- Words as cells. -/
def nw (l : List Nat) : List Value := l.map fun (b : Nat) => .int .u32 (b : Int)
theorem nw_at (l : List Nat) (i : Nat) : (nw l)[i]? = l[i]?.map fun (b : Nat) => .int .u32 (b : Int) := by simp [nw]
def W32 (l : List Nat) : Prop := ∀ x ∈ l, x < 4294967296
structure St.Ok (v : St) : Prop where
  a : v.a < 4294967296
  b : v.b < 4294967296
  c : v.c < 4294967296
  d : v.d < 4294967296
  e : v.e < 4294967296
  f : v.f < 4294967296
  g : v.g < 4294967296
  h : v.h < 4294967296
@[simp] theorem nw_len (l : List Nat) : (nw l).length = l.length := by simp [nw]
theorem nw_one (l : List Nat) : (nw l).toArray.all (·.oneCell') = true := all_oneCell_toArray fun v hv => by
  obtain ⟨b, _, rfl⟩ := List.mem_map.1 hv
  rfl
/-- An array of words in a block. -/
structure Arr (W : World) (b : Nat) (l : List Nat) : Prop where
  cells : W.rangeAt b 0 (nw l)
  there : W.there b 0 l.length
  lt : b < W.heap.size
theorem Arr.cell {W : World} {b : Nat} {l : List Nat} (h : Arr W b l) {i x : Nat} (hx : l[i]? = some x) : W.cell? ⟨b, i, none⟩ = some (.int .u32 (x : Int)) := by
  have := h.cells i (.int .u32 (x : Int)) (by rw [nw_at, hx]; rfl)
  rwa [Nat.zero_add] at this
theorem Arr.frozen {W : World} {b : Nat} {l : List Nat} (h : Arr W b l) {i : Nat} (hi : i < l.length) : W.frozen? ⟨b, i, none⟩ = false := by
  have := (h.there i hi).2
  rwa [Nat.zero_add] at this
/-- Nothing but one block has turned. -/
structure Only (W : World) (b : Nat) (W' : World) : Prop where
  os : W'.os = W.os
  tape : W'.tape = W.tape
  output : W'.output = W.output
  size : W.heap.size ≤ W'.heap.size
  far : ∀ k, k < W.heap.size → k ≠ b → W'.heap[k]? = W.heap[k]?
theorem Only.refl (W : World) (b : Nat) : Only W b W := ⟨rfl, rfl, rfl, Nat.le_refl _, fun _ _ _ => rfl⟩
theorem Only.trans {A B C : World} {b : Nat} (h : Only A b B) (k : Only B b C) : Only A b C :=
  ⟨k.os.trans h.os, k.tape.trans h.tape, k.output.trans h.output, Nat.le_trans h.size k.size, fun i hi hn => (k.far i (Nat.lt_of_lt_of_le hi h.size) hn).trans (h.far i hi hn)⟩
theorem Only.drewN {A B : World} {b : Nat} (h : Only A b B) (n : Nat) : Only A b (B.drewN n) := ⟨h.os, h.tape, h.output, h.size, h.far⟩
theorem Only.below {A B : World} {b n : Nat} (h : Only A b B) (hn : n ≤ A.heap.size) (hb : n ≤ b) : Below n A B := ⟨h.os, h.tape, h.output, h.size, fun k hk => h.far k (by omega) (by omega)⟩
theorem cell_heap {A B : World} {p : Addr} (h : B.heap[p.block]? = A.heap[p.block]?) : B.cell? p = A.cell? p := by unfold World.cell?; rw [h]
theorem frozen_heap {A B : World} {p : Addr} (h : B.heap[p.block]? = A.heap[p.block]?) : B.frozen? p = A.frozen? p := by unfold World.frozen?; rw [h]
theorem Arr.same {A B : World} {b : Nat} {l : List Nat} (h : Arr A b l) (hb : B.heap[b]? = A.heap[b]?) : Arr B b l := by
  refine ⟨fun j v hv => (cell_heap (p := ⟨b, 0 + j, none⟩) hb).trans (h.cells j v hv), fun j hj => ?_, ?_⟩
  · have := h.there j hj
    rw [cell_heap (p := ⟨b, 0 + j, none⟩) hb, frozen_heap (p := ⟨b, 0 + j, none⟩) hb]
    exact this
  · have h1 : A.heap[b]? = some (A.heap[b]'h.lt) := Array.getElem?_eq_getElem h.lt
    rw [h1] at hb
    exact (Array.getElem?_eq_some_iff.1 hb).1
theorem Arr.only {A B : World} {b k : Nat} {l : List Nat} (h : Arr A k l) (ho : Only A b B) (hk : k ≠ b) : Arr B k l := h.same (ho.far k h.lt hk)
theorem Arr.up {A B : World} {k : Nat} {l : List Nat} (h : Arr A k l) (hb : Below A.heap.size A B) : Arr B k l := h.same (hb.block k h.lt)
theorem Arr.upN {A B : World} {n k : Nat} {l : List Nat} (h : Arr A k l) (hb : Below n A B) (hk : k < n) : Arr B k l := h.same (hb.block k hk)
theorem only_setCells (b : Nat) : ∀ (vs : List Value) (o : Nat) (A w : World), Only A b w → Only A b (w.setCells b o vs)
  | [], _, _, _, h => h
  | v :: vs, o, A, w, h => only_setCells b vs (o + 1) A _ ⟨h.os, h.tape, h.output, by rw [World.size_setCell]; exact h.size, fun k hk hn => (heap_setCell_other w ⟨b, o, none⟩ k v (fun e => hn e)).trans (h.far k hk hn)⟩
theorem Arr.store {W : World} {b : Nat} {l r : List Nat} (h : Arr W b l) (hl : r.length = l.length) : Arr (W.setCells b 0 (nw r)) b r ∧ Only W b (W.setCells b 0 (nw r)) := by
  have ho := only_setCells b (nw r) 0 W W (Only.refl _ _)
  refine ⟨⟨W.rangeAt_setCells_same b 0 (nw r) (by rw [nw_len, hl]; exact h.there), by rw [hl]; exact World.there_setCells h.there b 0 _, Nat.lt_of_lt_of_le h.lt ho.size⟩, ho⟩
theorem Arr.set {W : World} {b : Nat} {l : List Nat} (h : Arr W b l) (i x : Nat) : Arr (W.setCell ⟨b, i, none⟩ (.int .u32 (x : Int))) b (l.set i x) ∧ Only W b (W.setCell ⟨b, i, none⟩ (.int .u32 (x : Int))) := by
  have ho : Only W b (W.setCell ⟨b, i, none⟩ (.int .u32 (x : Int))) := only_setCells b [.int .u32 (x : Int)] i W W (Only.refl _ _)
  refine ⟨⟨fun j v hv => ?_, by rw [List.length_set]; exact World.there_setCells h.there b i [.int .u32 (x : Int)], Nat.lt_of_lt_of_le h.lt ho.size⟩, ho⟩
  rw [nw_at, List.getElem?_set] at hv
  by_cases e : i = j
  · subst e
    by_cases hi : i < l.length
    · simp [hi] at hv
      subst hv
      rw [Nat.zero_add]
      have := W.rangeAt_setCells_same b i [.int .u32 (x : Int)] (fun k hk => by
        obtain rfl : k = 0 := by simpa using hk
        have := h.there i hi
        simpa using this)
      have h2 := this 0 _ rfl
      rw [Nat.add_zero] at h2
      exact h2
    · simp [hi] at hv
  · rw [if_neg e] at hv
    have h1 := h.cells j v (by rw [nw_at]; exact hv)
    have h2 := World.rangeAt_setCells_apart (w := W) (b' := b) (o' := j) (cs := [v]) (fun k u hu => by
      obtain rfl : k = 0 := by have := (List.getElem?_eq_some_iff.1 hu).1; simpa using this
      simp at hu
      subst hu
      simpa using h1) b i [.int .u32 (x : Int)] (by simp; omega)
    have h3 := h2 0 v rfl
    rw [Nat.add_zero] at h3
    rw [Nat.zero_add]
    exact h3
set_option maxRecDepth 100000 in
set_option maxHeartbeats 1000000 in
theorem round_any {W : World} {bn ba t k w : Nat} {v : St} (hn : Arr W bn v.list) (hv : v.Ok) (ht : t < 64)
    (hk : W.cell? ⟨2, t, none⟩ = some (.int .u32 (k : Int))) (ha : W.cell? ⟨ba, t, none⟩ = some (.int .u32 (w : Int))) :
    Calls Tryd.prog 70 #[.int .i64 (t : Int), .pointer (some ⟨bn, 0, none⟩), .pointer (some ⟨ba, 0, none⟩)] W fun e W' => e = .returned (.tuple #[]) ∧ Arr W' bn (rnd v k w).list ∧ Only W bn W' := by
  obtain ⟨a, b, c, d, e, f, g, h⟩ := v
  have c0 := hn.cell (i := 0) rfl
  have c1 := hn.cell (i := 1) rfl
  have c2 := hn.cell (i := 2) rfl
  have c3 := hn.cell (i := 3) rfl
  have c4 := hn.cell (i := 4) rfl
  have c5 := hn.cell (i := 5) rfl
  have c6 := hn.cell (i := 6) rfl
  have c7 := hn.cell (i := 7) rfl
  have Hn := hide hn
  have ht' : (t : Int) < 64 := by omega
  clear hn
  obtain ⟨la, lb, lc, ld, le, lf, lg, lh⟩ := hv
  simp only at la lb lc ld le lf lg lh c0 c1 c2 c3 c4 c5 c6 c7
  have x1 : bits .xor .u32 ((rotr e 6 : Nat) : Int) ((rotr e 11 : Nat) : Int) = ((rotr e 6 ^^^ rotr e 11 : Nat) : Int) := u32_xor_nat _ _ (rotr_lt _ _) (rotr_lt _ _)
  have x2 : bits .xor .u32 ((rotr e 6 ^^^ rotr e 11 : Nat) : Int) ((rotr e 25 : Nat) : Int) = ((big1 e : Nat) : Int) := u32_xor_nat _ _ (xor_lt32 (rotr_lt _ _) (rotr_lt _ _)) (rotr_lt _ _)
  have x3 : bits .xor .u32 ((rotr a 2 : Nat) : Int) ((rotr a 13 : Nat) : Int) = ((rotr a 2 ^^^ rotr a 13 : Nat) : Int) := u32_xor_nat _ _ (rotr_lt _ _) (rotr_lt _ _)
  have x4 : bits .xor .u32 ((rotr a 2 ^^^ rotr a 13 : Nat) : Int) ((rotr a 22 : Nat) : Int) = ((big0 a : Nat) : Int) := u32_xor_nat _ _ (xor_lt32 (rotr_lt _ _) (rotr_lt _ _)) (rotr_lt _ _)
  generalize rotr e 6 ^^^ rotr e 11 = y1 at *
  generalize rotr a 2 ^^^ rotr a 13 = y2 at *
  have hif : (Tryd.prog.info? 83).map (·.size) = some 8 := by kernel_rfl
  go_enter Tryd.func70, Tryd.ntmps70
  go_wp2_with fail
  go_quiet (fail)
  go_wp2_with fail
  obtain ⟨W1, hW1⟩ : ∃ w1, w1 = W.drewN nq := ⟨_, rfl⟩
  rw [← hW1]
  have hk1 : W1.cell? ⟨2, t, none⟩ = some (.int .u32 (k : Int)) := by rw [hW1]; exact hk
  have ha1 : W1.cell? ⟨ba, t, none⟩ = some (.int .u32 (w : Int)) := by rw [hW1]; exact ha
  have HW1 := hide hW1
  clear hk ha hW1 c0 c1 c2 c3 c4 c5 c6 c7
  go_quiet (first
    | (go_at_call 71; first | with_reducible exact Calls.quiet_of_same (turned_6 _ e le) | with_reducible exact Calls.quiet_of_same (turned_11 _ e le) | with_reducible exact Calls.quiet_of_same (turned_25 _ e le))
    | (go_at_call 72; exact Calls.quiet_of_same (choose_any _ e f g le lf lg)))
  obtain ⟨W2, hW2⟩ : ∃ w2, w2 = W1.drewN nq := ⟨_, rfl⟩
  rw [← hW2]
  have hW2' : Only W bn W2 := by rw [hW2, unhide HW1]; exact ((Only.refl _ _).drewN _).drewN _
  have Hn2 : Hid (Arr W2 bn (St.list ⟨a, b, c, d, e, f, g, h⟩)) := (unhide Hn).same (by rw [hW2, unhide HW1]; rfl)
  have HW2 := hide hW2'
  clear hk1 ha1 hW2 HW1 hW2' Hn
  go_wp2_with fail
  refine (turned_2 _ a la).mono ?_
  rintro o w' ⟨rfl, he⟩
  obtain rfl : _ = w' := he.symm
  go_wp2_with fail
  refine (turned_13 _ a la).mono ?_
  rintro o w' ⟨rfl, he⟩
  obtain rfl : _ = w' := he.symm
  go_wp2_with fail
  refine (turned_22 _ a la).mono ?_
  rintro o w' ⟨rfl, he⟩
  obtain rfl : _ = w' := he.symm
  go_wp2_with fail
  refine (most_any _ a b c la lb lc).mono ?_
  rintro o w' ⟨rfl, he⟩
  obtain rfl : _ = w' := he.symm
  have d0 := (unhide Hn2).cell (i := 0) rfl
  have f0 := (unhide Hn2).frozen (i := 0) (by show _ < 8; decide)
  have d1 := (unhide Hn2).cell (i := 1) rfl
  have f1 := (unhide Hn2).frozen (i := 1) (by show _ < 8; decide)
  have d2 := (unhide Hn2).cell (i := 2) rfl
  have f2 := (unhide Hn2).frozen (i := 2) (by show _ < 8; decide)
  have d3 := (unhide Hn2).cell (i := 3) rfl
  have f3 := (unhide Hn2).frozen (i := 3) (by show _ < 8; decide)
  have d4 := (unhide Hn2).cell (i := 4) rfl
  have f4 := (unhide Hn2).frozen (i := 4) (by show _ < 8; decide)
  have d5 := (unhide Hn2).cell (i := 5) rfl
  have f5 := (unhide Hn2).frozen (i := 5) (by show _ < 8; decide)
  have d6 := (unhide Hn2).cell (i := 6) rfl
  have f6 := (unhide Hn2).frozen (i := 6) (by show _ < 8; decide)
  have d7 := (unhide Hn2).cell (i := 7) rfl
  have f7 := (unhide Hn2).frozen (i := 7) (by show _ < 8; decide)
  simp only at d0 d1 d2 d3 d4 d5 d6 d7
  go_wp2
  go_end0
  have hs := (unhide Hn2).store (r := (rnd ⟨a, b, c, d, e, f, g, h⟩ k w).list) rfl
  refine ⟨rfl, ?_, ?_⟩
  · exact hs.1
  · exact (unhide HW2).trans hs.2
end Go.Proofs.YtlblllghgdfpoaaDoor
