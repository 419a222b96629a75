import Derived.Test.YtobomdokdajbaaaDoorJ13
import Derived.Test.YtobomdokdajbaaaDoorJ09
import Derived.Laws.ResultCell
import Derived.Test.YtobomdokdajbaaaDoorJ11
import Derived.Test.YtobomdokdajbaaaDoorJ05
import Derived.Deep.RegionLaw

namespace Go.Proofs.YtobomdokdajbaaaDoor
open Go.RowKit
attribute [local go_sem ↓] Go.wp_at_zero Go.wp_at_succ

def BhA (W : World) (c : Nat) (v : Value) (s : ByteArray) (k : Nat) (st : Bool) (n kd : Nat) (e : Ending) (w : World) : Nat ⊕ Nat → Prop
  | .inl k' => (∃ (x : Int) (t : ByteArray), e = .returned (.tuple #[.agg #[.int .i64 (n : Int), .int .i64 (kd : Int), .int .i64 x, .string t, .slice none 0 0], .int .i64 0])) ∧ Upd W c (.cells #[v, .int .i64 (k' : Int), .int .i64 (s.size : Int), .bool st] 88 (0, 0)) w
  | .inr q => (∃ (x : Int) (t : ByteArray), e = .returned (.tuple #[.agg #[.int .i64 (n : Int), .int .i64 (kd : Int), .int .i64 x, .string t, .slice none 0 0], .int .i64 (q : Int)])) ∧ q ≠ 0 ∧ Upd W c (.cells #[v, .int .i64 (k : Int), .int .i64 (s.size : Int), .bool st] 88 (0, 0)) w
theorem cells5_of {W : World} {b : Nat} {x y z u r : Value} {t : TypeId} (h : W.heap[b]? = some (.cells #[x, y, z, u, r] t (0, 0))) : W.cell? ⟨b, 0, none⟩ = some x ∧ W.cell? ⟨b, 1, none⟩ = some y ∧ W.cell? ⟨b, 2, none⟩ = some z ∧ W.cell? ⟨b, 3, none⟩ = some u ∧ W.cell? ⟨b, 4, none⟩ = some r ∧ W.frozen? ⟨b, 0, none⟩ = false ∧ W.frozen? ⟨b, 1, none⟩ = false ∧ W.frozen? ⟨b, 2, none⟩ = false ∧ W.frozen? ⟨b, 3, none⟩ = false ∧ W.frozen? ⟨b, 4, none⟩ = false := by
  unfold World.cell? World.frozen?
  rw [h]
  exact ⟨rfl, rfl, rfl, rfl, rfl, rfl, rfl, rfl, rfl, rfl⟩
def RelB (k q k2 : Nat) : Nat ⊕ Nat → Prop
  | .inl k' => q = 0 ∧ k2 = k'
  | .inr c => q = c ∧ c ≠ 0 ∧ k2 = k
theorem cv_uni {W : World} {c : Nat} {v : Value} {s : ByteArray} {k : Nat} {st : Bool} {e : Ending} {w : World} {r : (Nat × Nat) ⊕ Nat} (h : CuAt W c v s k st) (hq : CvA W c v s st e w r) : ∃ (x : Int) (q k2 : Nat), e = .returned (.tuple #[.int .i64 x, .int .i64 (q : Int)]) ∧ Upd W c (.cells #[v, .int .i64 (k2 : Int), .int .i64 (s.size : Int), .bool st] 88 (0, 0)) w ∧ RelB k q k2 (plc r) := by
  match r, hq with
  | .inl (u, k'), hq => exact ⟨_, 0, k', hq.1, hq.2, rfl, rfl⟩
  | .inr n, ⟨h1, h2, m, h3⟩ => exact ⟨0, n, k, h1, by rw [h3]; exact upd_same h m, rfl, h2, rfl⟩
theorem ct_uni {W : World} {c : Nat} {v : Value} {s : ByteArray} {k : Nat} {st : Bool} {e : Ending} {w : World} {r : (ByteArray × Nat) ⊕ Nat} (_h : CuAt W c v s k st) (hq : CtA W c v s k st e w r) : ∃ (x : ByteArray) (q k2 : Nat), e = .returned (.tuple #[.string x, .int .i64 (q : Int)]) ∧ Upd W c (.cells #[v, .int .i64 (k2 : Int), .int .i64 (s.size : Int), .bool st] 88 (0, 0)) w ∧ RelB k q k2 (plc r) := by
  match r, hq with
  | .inl (u, k'), hq => exact ⟨_, 0, k', hq.1, hq.2, rfl, rfl⟩
  | .inr n, ⟨h1, h2, h3⟩ => exact ⟨_, n, k, h1, h3, rfl, h2, rfl⟩
theorem bh_of {W : World} {c : Nat} {v : Value} {s : ByteArray} {k n kd q k2 : Nat} {st : Bool} {w : World} {R : Nat ⊕ Nat} {x : Int} {t : ByteArray} (hr : RelB k q k2 R) (hU : Upd W c (.cells #[v, .int .i64 (k2 : Int), .int .i64 (s.size : Int), .bool st] 88 (0, 0)) w) : BhA W c v s k st n kd (.returned (.tuple #[.agg #[.int .i64 (n : Int), .int .i64 (kd : Int), .int .i64 x, .string t, .slice none 0 0], .int .i64 (q : Int)])) w R := by
  match R, hr with
  | .inl k', hr =>
    obtain ⟨rfl, rfl⟩ := hr
    exact ⟨⟨x, t, rfl⟩, hU⟩
  | .inr c, hr =>
    obtain ⟨rfl, h2, rfl⟩ := hr
    exact ⟨⟨x, t, rfl⟩, h2, hU⟩
theorem upd_low {W X w1 w : World} {c : Nat} {o : Obj} (hX : Below W.heap.size W X) (hU : Upd X c o w1) (hE : Below W.heap.size w1 w) (hc : c < W.heap.size) : Upd W c o w :=
  ⟨hE.os.trans (hU.os.trans hX.os), hE.tape.trans (hU.tape.trans hX.tape), hE.output.trans (hU.output.trans hX.output), Nat.le_trans hX.size (Nat.le_trans hU.size hE.size), (hE.block c hc).trans hU.at', fun q hq hn => (hE.block q hq).trans ((hU.far q (Nat.lt_of_lt_of_le hq hX.size) hn).trans (hX.block q hq))⟩
theorem Bs.lift {W w : World} {v : Value} {s : ByteArray} (h : Bs W v s) (hb : Below W.heap.size W w) : Bs w v s := h.up (fun g hg => hb.block g hg) hb.size
set_option maxRecDepth 100000 in
set_option maxHeartbeats 1000000 in
theorem behind0 {W : World} {c : Nat} {v : Value} {s : ByteArray} {k n : Nat} {st : Bool} {o most : Int} (h : CuAt W c v s k st) (hB : Bs W v s) (hk : k ≤ s.size) (hs : s.size ≤ 1048576) :
    Calls Tryd.prog 69 #[.pointer (some ⟨c, 0, none⟩), .int .i64 (n : Int), .int .i64 0, .int .i64 o, .int .i64 most] W fun e w => BhA W c v s k st n 0 e w (plc (vAt s st k)) := by
  have hcl := (Array.getElem?_eq_some_iff.1 h).1
  obtain ⟨X1, hX1⟩ : ∃ X1, X1 = W.alloc (.cells #[.int .i64 0, .int .i64 0, .int .i64 0, .string ⟨#[]⟩, .slice none 0 0] 35) := ⟨_, rfl⟩
  obtain ⟨X, hX⟩ : ∃ X, X = X1.alloc (.cells #[.int .i64 (n : Int), .int .i64 0, .int .i64 0, .string ⟨#[]⟩, .slice none 0 0] 35) := ⟨_, rfl⟩
  have hz1 : X1.heap.size = W.heap.size + 1 := by rw [hX1]; exact World.size_alloc _ _
  have hB1 : Below W.heap.size W X1 := by rw [hX1]; exact (Below.refl _ _).alloc (Nat.le_refl _) _
  have hB12 : Below X1.heap.size X1 X := by rw [hX]; exact (Below.refl _ _).alloc (Nat.le_refl _) _
  have hXB : Below W.heap.size W X := hB1.trans (hB12.mono (by omega))
  have ha : X.heap[W.heap.size]? = some (.cells #[.int .i64 0, .int .i64 0, .int .i64 0, .string ⟨#[]⟩, .slice none 0 0] 35 (0, 0)) := (hB12.block _ (by omega)).trans (by rw [hX1]; exact heap_alloc_new _ _)
  have hb : X.heap[W.heap.size + 1]? = some (.cells #[.int .i64 (n : Int), .int .i64 0, .int .i64 0, .string ⟨#[]⟩, .slice none 0 0] 35 (0, 0)) := by rw [← hz1, hX]; exact heap_alloc_new _ _
  have hXs : X.heap.size = W.heap.size + 2 := by rw [hX, World.size_alloc, hz1]
  have hXc : CuAt X c v s k st := (hXB.block c hcl).trans h
  have hcall := cVarint_any hXc (hB.lift hXB) hk hs
  have HX : Hid ((W.alloc (.cells #[.int .i64 0, .int .i64 0, .int .i64 0, .string ⟨#[]⟩, .slice none 0 0] 35)).alloc (.cells #[.int .i64 (n : Int), .int .i64 0, .int .i64 0, .string ⟨#[]⟩, .slice none 0 0] 35) = X) := by show _ = _; rw [← hX1, hX]
  have Hcall := hide hcall
  have Hk := hide hk
  clear hX hX1 hz1 hB1 hB12 hcall hB
  go_enter Tryd.func69, Tryd.ntmps69
  go_wp2_with fail
  rw [unhide HX]
  refine (unhide Hcall).mono ?_
  intro e w1 hq
  obtain ⟨x, q, k2, rfl, hU, hrel⟩ := cv_uni hXc hq
  have ha1 := (hU.far W.heap.size (by omega) (by omega)).trans ha
  have hb1 := (hU.far (W.heap.size + 1) (by omega) (by omega)).trans hb
  obtain ⟨a0, a1, a2, a3, a4, af0, af1, af2, af3, af4⟩ := cells5_of ha1
  obtain ⟨b0, b1, b2, b3, b4, bf0, bf1, bf2, bf3, bf4⟩ := cells5_of hb1
  have HU := hide hU
  have Hrel := hide hrel
  have HXB := hide hXB
  clear hq hU hrel Hcall HX ha hb ha1 hb1 hXc hXB
  go_wp2_with fail
  (try simp only [Exit.inBlock, Exit.then])
  refine bodyPost_ret (v := .tuple #[.agg #[.int .i64 (n : Int), .int .i64 0, .int .i64 x, .string ⟨#[]⟩, .slice none 0 0], .int .i64 (q : Int)]) (by rw [results_cell_tmp (p := 10) (u := 11) (ty := 35) rfl]; go_simp) rfl ?_
  exact bh_of (unhide Hrel) (upd_low (unhide HXB) (unhide HU) (((((((Below.refl W.heap.size w1).setCell (p := ⟨W.heap.size + 1, 2, none⟩) (Nat.le_succ _) _).setCell (p := ⟨W.heap.size, 0, none⟩) (Nat.le_refl _) _).setCell (p := ⟨W.heap.size, 1, none⟩) (Nat.le_refl _) _).setCell (p := ⟨W.heap.size, 2, none⟩) (Nat.le_refl _) _).setCell (p := ⟨W.heap.size, 3, none⟩) (Nat.le_refl _) _).setCell (p := ⟨W.heap.size, 4, none⟩) (Nat.le_refl _) _) hcl)
set_option maxRecDepth 100000 in
set_option maxHeartbeats 1000000 in
theorem behind1 {W : World} {c : Nat} {v : Value} {s : ByteArray} {k n : Nat} {st : Bool} {o most : Int} (h : CuAt W c v s k st) (hB : Bs W v s) (hk : k ≤ s.size) (hs : s.size ≤ 1048576) :
    Calls Tryd.prog 69 #[.pointer (some ⟨c, 0, none⟩), .int .i64 (n : Int), .int .i64 1, .int .i64 o, .int .i64 most] W fun e w => BhA W c v s k st n 1 e w (plc (xAt s k 8)) := by
  have hcl := (Array.getElem?_eq_some_iff.1 h).1
  obtain ⟨X1, hX1⟩ : ∃ X1, X1 = W.alloc (.cells #[.int .i64 0, .int .i64 0, .int .i64 0, .string ⟨#[]⟩, .slice none 0 0] 35) := ⟨_, rfl⟩
  obtain ⟨X, hX⟩ : ∃ X, X = X1.alloc (.cells #[.int .i64 (n : Int), .int .i64 1, .int .i64 0, .string ⟨#[]⟩, .slice none 0 0] 35) := ⟨_, rfl⟩
  have hz1 : X1.heap.size = W.heap.size + 1 := by rw [hX1]; exact World.size_alloc _ _
  have hB1 : Below W.heap.size W X1 := by rw [hX1]; exact (Below.refl _ _).alloc (Nat.le_refl _) _
  have hB12 : Below X1.heap.size X1 X := by rw [hX]; exact (Below.refl _ _).alloc (Nat.le_refl _) _
  have hXB : Below W.heap.size W X := hB1.trans (hB12.mono (by omega))
  have ha : X.heap[W.heap.size]? = some (.cells #[.int .i64 0, .int .i64 0, .int .i64 0, .string ⟨#[]⟩, .slice none 0 0] 35 (0, 0)) := (hB12.block _ (by omega)).trans (by rw [hX1]; exact heap_alloc_new _ _)
  have hb : X.heap[W.heap.size + 1]? = some (.cells #[.int .i64 (n : Int), .int .i64 1, .int .i64 0, .string ⟨#[]⟩, .slice none 0 0] 35 (0, 0)) := by rw [← hz1, hX]; exact heap_alloc_new _ _
  have hXs : X.heap.size = W.heap.size + 2 := by rw [hX, World.size_alloc, hz1]
  have hXc : CuAt X c v s k st := (hXB.block c hcl).trans h
  have hcall := cFixed_any hXc (hB.lift hXB) hk hs (.inr rfl)
  have HX : Hid ((W.alloc (.cells #[.int .i64 0, .int .i64 0, .int .i64 0, .string ⟨#[]⟩, .slice none 0 0] 35)).alloc (.cells #[.int .i64 (n : Int), .int .i64 1, .int .i64 0, .string ⟨#[]⟩, .slice none 0 0] 35) = X) := by show _ = _; rw [← hX1, hX]
  have Hcall := hide hcall
  have Hk := hide hk
  clear hX hX1 hz1 hB1 hB12 hcall hB
  go_enter Tryd.func69, Tryd.ntmps69
  go_wp2_with fail
  rw [unhide HX]
  refine (unhide Hcall).mono ?_
  intro e w1 hq
  obtain ⟨x, q, k2, rfl, hU, hrel⟩ := cv_uni hXc hq
  have ha1 := (hU.far W.heap.size (by omega) (by omega)).trans ha
  have hb1 := (hU.far (W.heap.size + 1) (by omega) (by omega)).trans hb
  obtain ⟨a0, a1, a2, a3, a4, af0, af1, af2, af3, af4⟩ := cells5_of ha1
  obtain ⟨b0, b1, b2, b3, b4, bf0, bf1, bf2, bf3, bf4⟩ := cells5_of hb1
  have HU := hide hU
  have Hrel := hide hrel
  have HXB := hide hXB
  clear hq hU hrel Hcall HX ha hb ha1 hb1 hXc hXB
  go_wp2_with fail
  (try simp only [Exit.inBlock, Exit.then])
  refine bodyPost_ret (v := .tuple #[.agg #[.int .i64 (n : Int), .int .i64 1, .int .i64 x, .string ⟨#[]⟩, .slice none 0 0], .int .i64 (q : Int)]) (by rw [results_cell_tmp (p := 10) (u := 11) (ty := 35) rfl]; go_simp) rfl ?_
  exact bh_of (unhide Hrel) (upd_low (unhide HXB) (unhide HU) (((((((Below.refl W.heap.size w1).setCell (p := ⟨W.heap.size + 1, 2, none⟩) (Nat.le_succ _) _).setCell (p := ⟨W.heap.size, 0, none⟩) (Nat.le_refl _) _).setCell (p := ⟨W.heap.size, 1, none⟩) (Nat.le_refl _) _).setCell (p := ⟨W.heap.size, 2, none⟩) (Nat.le_refl _) _).setCell (p := ⟨W.heap.size, 3, none⟩) (Nat.le_refl _) _).setCell (p := ⟨W.heap.size, 4, none⟩) (Nat.le_refl _) _) hcl)
set_option maxRecDepth 100000 in
set_option maxHeartbeats 1000000 in
theorem behind5 {W : World} {c : Nat} {v : Value} {s : ByteArray} {k n : Nat} {st : Bool} {o most : Int} (h : CuAt W c v s k st) (hB : Bs W v s) (hk : k ≤ s.size) (hs : s.size ≤ 1048576) :
    Calls Tryd.prog 69 #[.pointer (some ⟨c, 0, none⟩), .int .i64 (n : Int), .int .i64 5, .int .i64 o, .int .i64 most] W fun e w => BhA W c v s k st n 5 e w (plc (xAt s k 4)) := by
  have hcl := (Array.getElem?_eq_some_iff.1 h).1
  obtain ⟨X1, hX1⟩ : ∃ X1, X1 = W.alloc (.cells #[.int .i64 0, .int .i64 0, .int .i64 0, .string ⟨#[]⟩, .slice none 0 0] 35) := ⟨_, rfl⟩
  obtain ⟨X, hX⟩ : ∃ X, X = X1.alloc (.cells #[.int .i64 (n : Int), .int .i64 5, .int .i64 0, .string ⟨#[]⟩, .slice none 0 0] 35) := ⟨_, rfl⟩
  have hz1 : X1.heap.size = W.heap.size + 1 := by rw [hX1]; exact World.size_alloc _ _
  have hB1 : Below W.heap.size W X1 := by rw [hX1]; exact (Below.refl _ _).alloc (Nat.le_refl _) _
  have hB12 : Below X1.heap.size X1 X := by rw [hX]; exact (Below.refl _ _).alloc (Nat.le_refl _) _
  have hXB : Below W.heap.size W X := hB1.trans (hB12.mono (by omega))
  have ha : X.heap[W.heap.size]? = some (.cells #[.int .i64 0, .int .i64 0, .int .i64 0, .string ⟨#[]⟩, .slice none 0 0] 35 (0, 0)) := (hB12.block _ (by omega)).trans (by rw [hX1]; exact heap_alloc_new _ _)
  have hb : X.heap[W.heap.size + 1]? = some (.cells #[.int .i64 (n : Int), .int .i64 5, .int .i64 0, .string ⟨#[]⟩, .slice none 0 0] 35 (0, 0)) := by rw [← hz1, hX]; exact heap_alloc_new _ _
  have hXs : X.heap.size = W.heap.size + 2 := by rw [hX, World.size_alloc, hz1]
  have hXc : CuAt X c v s k st := (hXB.block c hcl).trans h
  have hcall := cFixed_any hXc (hB.lift hXB) hk hs (.inl rfl)
  have HX : Hid ((W.alloc (.cells #[.int .i64 0, .int .i64 0, .int .i64 0, .string ⟨#[]⟩, .slice none 0 0] 35)).alloc (.cells #[.int .i64 (n : Int), .int .i64 5, .int .i64 0, .string ⟨#[]⟩, .slice none 0 0] 35) = X) := by show _ = _; rw [← hX1, hX]
  have Hcall := hide hcall
  have Hk := hide hk
  clear hX hX1 hz1 hB1 hB12 hcall hB
  go_enter Tryd.func69, Tryd.ntmps69
  go_wp2_with fail
  rw [unhide HX]
  refine (unhide Hcall).mono ?_
  intro e w1 hq
  obtain ⟨x, q, k2, rfl, hU, hrel⟩ := cv_uni hXc hq
  have ha1 := (hU.far W.heap.size (by omega) (by omega)).trans ha
  have hb1 := (hU.far (W.heap.size + 1) (by omega) (by omega)).trans hb
  obtain ⟨a0, a1, a2, a3, a4, af0, af1, af2, af3, af4⟩ := cells5_of ha1
  obtain ⟨b0, b1, b2, b3, b4, bf0, bf1, bf2, bf3, bf4⟩ := cells5_of hb1
  have HU := hide hU
  have Hrel := hide hrel
  have HXB := hide hXB
  clear hq hU hrel Hcall HX ha hb ha1 hb1 hXc hXB
  go_wp2_with fail
  (try simp only [Exit.inBlock, Exit.then])
  refine bodyPost_ret (v := .tuple #[.agg #[.int .i64 (n : Int), .int .i64 5, .int .i64 x, .string ⟨#[]⟩, .slice none 0 0], .int .i64 (q : Int)]) (by rw [results_cell_tmp (p := 10) (u := 11) (ty := 35) rfl]; go_simp) rfl ?_
  exact bh_of (unhide Hrel) (upd_low (unhide HXB) (unhide HU) (((((((Below.refl W.heap.size w1).setCell (p := ⟨W.heap.size + 1, 2, none⟩) (Nat.le_succ _) _).setCell (p := ⟨W.heap.size, 0, none⟩) (Nat.le_refl _) _).setCell (p := ⟨W.heap.size, 1, none⟩) (Nat.le_refl _) _).setCell (p := ⟨W.heap.size, 2, none⟩) (Nat.le_refl _) _).setCell (p := ⟨W.heap.size, 3, none⟩) (Nat.le_refl _) _).setCell (p := ⟨W.heap.size, 4, none⟩) (Nat.le_refl _) _) hcl)
set_option maxRecDepth 100000 in
set_option maxHeartbeats 1000000 in
theorem behind2 {W : World} {c : Nat} {v : Value} {s : ByteArray} {k n : Nat} {st : Bool} {o most : Int} (h : CuAt W c v s k st) (hB : Bs W v s) (hk : k ≤ s.size) (hs : s.size ≤ 1048576) (hne : ∀ a l cp, v = .slice (some a) l cp → 0 < s.size → a.block ≠ c ∧ cp ≤ 9223372036854775807) :
    Calls Tryd.prog 69 #[.pointer (some ⟨c, 0, none⟩), .int .i64 (n : Int), .int .i64 2, .int .i64 o, .int .i64 most] W fun e w => BhA W c v s k st n 2 e w (plc (tAt s st k)) := by
  have hcl := (Array.getElem?_eq_some_iff.1 h).1
  obtain ⟨X1, hX1⟩ : ∃ X1, X1 = W.alloc (.cells #[.int .i64 0, .int .i64 0, .int .i64 0, .string ⟨#[]⟩, .slice none 0 0] 35) := ⟨_, rfl⟩
  obtain ⟨X, hX⟩ : ∃ X, X = X1.alloc (.cells #[.int .i64 (n : Int), .int .i64 2, .int .i64 0, .string ⟨#[]⟩, .slice none 0 0] 35) := ⟨_, rfl⟩
  have hz1 : X1.heap.size = W.heap.size + 1 := by rw [hX1]; exact World.size_alloc _ _
  have hB1 : Below W.heap.size W X1 := by rw [hX1]; exact (Below.refl _ _).alloc (Nat.le_refl _) _
  have hB12 : Below X1.heap.size X1 X := by rw [hX]; exact (Below.refl _ _).alloc (Nat.le_refl _) _
  have hXB : Below W.heap.size W X := hB1.trans (hB12.mono (by omega))
  have ha : X.heap[W.heap.size]? = some (.cells #[.int .i64 0, .int .i64 0, .int .i64 0, .string ⟨#[]⟩, .slice none 0 0] 35 (0, 0)) := (hB12.block _ (by omega)).trans (by rw [hX1]; exact heap_alloc_new _ _)
  have hb : X.heap[W.heap.size + 1]? = some (.cells #[.int .i64 (n : Int), .int .i64 2, .int .i64 0, .string ⟨#[]⟩, .slice none 0 0] 35 (0, 0)) := by rw [← hz1, hX]; exact heap_alloc_new _ _
  have hXs : X.heap.size = W.heap.size + 2 := by rw [hX, World.size_alloc, hz1]
  have hXc : CuAt X c v s k st := (hXB.block c hcl).trans h
  have hcall := cText_any hXc (hB.lift hXB) hk hs hne
  have HX : Hid ((W.alloc (.cells #[.int .i64 0, .int .i64 0, .int .i64 0, .string ⟨#[]⟩, .slice none 0 0] 35)).alloc (.cells #[.int .i64 (n : Int), .int .i64 2, .int .i64 0, .string ⟨#[]⟩, .slice none 0 0] 35) = X) := by show _ = _; rw [← hX1, hX]
  have Hcall := hide hcall
  have Hk := hide hk
  clear hX hX1 hz1 hB1 hB12 hcall hB
  go_enter Tryd.func69, Tryd.ntmps69
  go_wp2_with fail
  rw [unhide HX]
  refine (unhide Hcall).mono ?_
  intro e w1 hq
  obtain ⟨x, q, k2, rfl, hU, hrel⟩ := ct_uni hXc hq
  have ha1 := (hU.far W.heap.size (by omega) (by omega)).trans ha
  have hb1 := (hU.far (W.heap.size + 1) (by omega) (by omega)).trans hb
  obtain ⟨a0, a1, a2, a3, a4, af0, af1, af2, af3, af4⟩ := cells5_of ha1
  obtain ⟨b0, b1, b2, b3, b4, bf0, bf1, bf2, bf3, bf4⟩ := cells5_of hb1
  have HU := hide hU
  have Hrel := hide hrel
  have HXB := hide hXB
  clear hq hU hrel Hcall HX ha hb ha1 hb1 hXc hXB
  go_wp2_with fail
  (try simp only [Exit.inBlock, Exit.then])
  refine bodyPost_ret (v := .tuple #[.agg #[.int .i64 (n : Int), .int .i64 2, .int .i64 0, .string x, .slice none 0 0], .int .i64 (q : Int)]) (by rw [results_cell_tmp (p := 10) (u := 11) (ty := 35) rfl]; go_simp) rfl ?_
  exact bh_of (unhide Hrel) (upd_low (unhide HXB) (unhide HU) (((((((Below.refl W.heap.size w1).setCell (p := ⟨W.heap.size + 1, 3, none⟩) (Nat.le_succ _) _).setCell (p := ⟨W.heap.size, 0, none⟩) (Nat.le_refl _) _).setCell (p := ⟨W.heap.size, 1, none⟩) (Nat.le_refl _) _).setCell (p := ⟨W.heap.size, 2, none⟩) (Nat.le_refl _) _).setCell (p := ⟨W.heap.size, 3, none⟩) (Nat.le_refl _) _).setCell (p := ⟨W.heap.size, 4, none⟩) (Nat.le_refl _) _) hcl)
end Go.Proofs.YtobomdokdajbaaaDoor

namespace Go.Proofs.YtobomdokdajbaaaDoor
open Go.RowKit
attribute [local go_sem ↓] Go.wp_at_zero Go.wp_at_succ

theorem Bs.upd {W w : World} {v : Value} {s : ByteArray} {c : Nat} {o : Obj} (h : Bs W v s) (hU : Upd W c o w) (hne : ∀ a l cp, v = .slice (some a) l cp → 0 < s.size → a.block ≠ c ∧ cp ≤ 9223372036854775807) : Bs w v s := by
  obtain ⟨a, cp, rfl, hle, h3⟩ := h
  refine ⟨a, cp, rfl, hle, fun hp => ?_⟩
  obtain ⟨g, off, rfl, hg, hc⟩ := h3 hp
  refine ⟨g, off, rfl, Nat.lt_of_lt_of_le hg hU.size, fun i hi => ?_⟩
  rw [← hc i hi]
  unfold World.cell?
  rw [hU.far g hg (hne _ _ _ rfl hp).1]
theorem Upd.trans {W w1 w2 : World} {c : Nat} {o1 o2 : Obj} (h1 : Upd W c o1 w1) (h2 : Upd w1 c o2 w2) : Upd W c o2 w2 :=
  ⟨h2.os.trans h1.os, h2.tape.trans h1.tape, h2.output.trans h1.output, Nat.le_trans h1.size h2.size, h2.at', fun q hq hn => (h2.far q (Nat.lt_of_lt_of_le hq h1.size) hn).trans (h1.far q hq hn)⟩
def RelC (q k2 : Nat) : Nat ⊕ (Nat × Nat) → Prop
  | .inl k' => q = 0 ∧ k2 = k'
  | .inr (c, k') => q = c ∧ c ≠ 0 ∧ k2 = k'
/-- What behind answers. -/
def BeA (W : World) (c : Nat) (v : Value) (s : ByteArray) (st : Bool) (n kd : Nat) (e : Ending) (w : World) (R : Nat ⊕ (Nat × Nat)) : Prop :=
  ∃ (x : Int) (t : ByteArray) (ua : Option Addr) (un uc q k2 : Nat), e = .returned (.tuple #[.agg #[.int .i64 (n : Int), .int .i64 (kd : Int), .int .i64 x, .string t, .slice ua un uc], .int .i64 (q : Int)]) ∧ Upd W c (.cells #[v, .int .i64 (k2 : Int), .int .i64 (s.size : Int), .bool st] 88 (0, 0)) w ∧ RelC q k2 R
/-- What records answers. -/
def RcA (W : World) (c : Nat) (v : Value) (s : ByteArray) (st : Bool) (e : Ending) (w : World) (R : Nat ⊕ (Nat × Nat)) : Prop :=
  ∃ (ua : Option Addr) (un uc q k2 : Nat), e = .returned (.tuple #[.slice ua un uc, .int .i64 (q : Int)]) ∧ Upd W c (.cells #[v, .int .i64 (k2 : Int), .int .i64 (s.size : Int), .bool st] 88 (0, 0)) w ∧ RelC q k2 R
theorem be_of {W : World} {c : Nat} {v : Value} {s : ByteArray} {k : Nat} {st : Bool} {n kd : Nat} {e : Ending} {w : World} {R : Nat ⊕ Nat} (h : BhA W c v s k st n kd e w R) : BeA W c v s st n kd e w (plcE k R) := by
  match R, h with
  | .inl k', ⟨⟨x, t, he⟩, hU⟩ => exact ⟨x, t, none, 0, 0, 0, k', he, hU, rfl, rfl⟩
  | .inr q, ⟨⟨x, t, he⟩, hq, hU⟩ => exact ⟨x, t, none, 0, 0, q, k, he, hU, rfl, hq, rfl⟩
set_option maxRecDepth 100000 in
set_option maxHeartbeats 1000000 in
theorem behind3 {W : World} {c : Nat} {v : Value} {s : ByteArray} {k n o : Nat} {st : Bool} {most : Int} {R : Nat ⊕ (Nat × Nat)} (h : CuAt W c v s k st) (ho : o ≤ 1048577)
    (hrec : ∀ X, Below W.heap.size W X → CuAt X c v s k st → Calls Tryd.prog 67 #[.pointer (some ⟨c, 0, none⟩), .int .i64 (n : Int), .int .i64 ((o + 1 : Nat) : Int), .int .i64 most] X fun e w => RcA X c v s st e w R) :
    Calls Tryd.prog 69 #[.pointer (some ⟨c, 0, none⟩), .int .i64 (n : Int), .int .i64 3, .int .i64 (o : Int), .int .i64 most] W fun e w => BeA W c v s st n 3 e w R := by
  have hcl := (Array.getElem?_eq_some_iff.1 h).1
  obtain ⟨X1, hX1⟩ : ∃ X1, X1 = W.alloc (.cells #[.int .i64 0, .int .i64 0, .int .i64 0, .string ⟨#[]⟩, .slice none 0 0] 35) := ⟨_, rfl⟩
  obtain ⟨X, hX⟩ : ∃ X, X = X1.alloc (.cells #[.int .i64 (n : Int), .int .i64 3, .int .i64 0, .string ⟨#[]⟩, .slice none 0 0] 35) := ⟨_, rfl⟩
  have hz1 : X1.heap.size = W.heap.size + 1 := by rw [hX1]; exact World.size_alloc _ _
  have hB1 : Below W.heap.size W X1 := by rw [hX1]; exact (Below.refl _ _).alloc (Nat.le_refl _) _
  have hB12 : Below X1.heap.size X1 X := by rw [hX]; exact (Below.refl _ _).alloc (Nat.le_refl _) _
  have hXB : Below W.heap.size W X := hB1.trans (hB12.mono (by omega))
  have ha : X.heap[W.heap.size]? = some (.cells #[.int .i64 0, .int .i64 0, .int .i64 0, .string ⟨#[]⟩, .slice none 0 0] 35 (0, 0)) := (hB12.block _ (by omega)).trans (by rw [hX1]; exact heap_alloc_new _ _)
  have hb : X.heap[W.heap.size + 1]? = some (.cells #[.int .i64 (n : Int), .int .i64 3, .int .i64 0, .string ⟨#[]⟩, .slice none 0 0] 35 (0, 0)) := by rw [← hz1, hX]; exact heap_alloc_new _ _
  have hXs : X.heap.size = W.heap.size + 2 := by rw [hX, World.size_alloc, hz1]
  have hXc : CuAt X c v s k st := (hXB.block c hcl).trans h
  have hcall := hrec X hXB hXc
  have HX : Hid ((W.alloc (.cells #[.int .i64 0, .int .i64 0, .int .i64 0, .string ⟨#[]⟩, .slice none 0 0] 35)).alloc (.cells #[.int .i64 (n : Int), .int .i64 3, .int .i64 0, .string ⟨#[]⟩, .slice none 0 0] 35) = X) := by show _ = _; rw [← hX1, hX]
  obtain ⟨o1, ho1⟩ : ∃ o1, o + 1 = o1 := ⟨_, rfl⟩
  rw [ho1] at hcall
  have eo : (o : Int) + 1 = (o1 : Int) := by omega
  have eo2 : wrap64 (o1 : Int) = (o1 : Int) := wrap64_id (by omega) (by omega)
  have Hcall := hide hcall
  clear hX hX1 hz1 hB1 hB12 hcall hrec ho1 ho
  go_enter Tryd.func69, Tryd.ntmps69
  go_wp2_with fail
  rw [unhide HX]
  refine (unhide Hcall).mono ?_
  intro e w1 hq
  obtain ⟨ua, un, uc, q, k2, rfl, hU, hrel⟩ := hq
  have ha1 := (hU.far W.heap.size (by omega) (by omega)).trans ha
  have hb1 := (hU.far (W.heap.size + 1) (by omega) (by omega)).trans hb
  obtain ⟨a0, a1, a2, a3, a4, af0, af1, af2, af3, af4⟩ := cells5_of ha1
  obtain ⟨b0, b1, b2, b3, b4, bf0, bf1, bf2, bf3, bf4⟩ := cells5_of hb1
  have HU := hide hU
  have Hrel := hide hrel
  have HXB := hide hXB
  clear hU hrel Hcall HX ha hb ha1 hb1 hXc hXB
  go_wp2_with fail
  (try simp only [Exit.inBlock, Exit.then])
  refine bodyPost_ret (v := .tuple #[.agg #[.int .i64 (n : Int), .int .i64 3, .int .i64 0, .string ⟨#[]⟩, .slice ua un uc], .int .i64 (q : Int)]) (by rw [results_cell_tmp (p := 10) (u := 11) (ty := 35) rfl]; go_simp) rfl ?_
  exact ⟨0, ⟨#[]⟩, ua, un, uc, q, k2, rfl, upd_low (unhide HXB) (unhide HU) (((((((Below.refl W.heap.size w1).setCell (p := ⟨W.heap.size + 1, 4, none⟩) (Nat.le_succ _) _).setCell (p := ⟨W.heap.size, 0, none⟩) (Nat.le_refl _) _).setCell (p := ⟨W.heap.size, 1, none⟩) (Nat.le_refl _) _).setCell (p := ⟨W.heap.size, 2, none⟩) (Nat.le_refl _) _).setCell (p := ⟨W.heap.size, 3, none⟩) (Nat.le_refl _) _).setCell (p := ⟨W.heap.size, 4, none⟩) (Nat.le_refl _) _) hcl, unhide Hrel⟩
/-- Every kind that behind is called with. -/
theorem behind_any {W : World} {c : Nat} {v : Value} {s : ByteArray} {k n o kd : Nat} {st : Bool} {most : Int} {R : Nat ⊕ (Nat × Nat)} (h : CuAt W c v s k st) (hB : Bs W v s) (hk : k ≤ s.size) (hs : s.size ≤ 1048576) (hne : ∀ a l cp, v = .slice (some a) l cp → 0 < s.size → a.block ≠ c ∧ cp ≤ 9223372036854775807) (ho : o ≤ 1048577) (hkd : kd ≤ 5) (h4 : kd ≠ 4)
    (hrec : kd = 3 → ∀ X, Below W.heap.size W X → CuAt X c v s k st → Calls Tryd.prog 67 #[.pointer (some ⟨c, 0, none⟩), .int .i64 (n : Int), .int .i64 ((o + 1 : Nat) : Int), .int .i64 most] X fun e w => RcA X c v s st e w R) :
    Calls Tryd.prog 69 #[.pointer (some ⟨c, 0, none⟩), .int .i64 (n : Int), .int .i64 (kd : Int), .int .i64 (o : Int), .int .i64 most] W fun e w => BeA W c v s st n kd e w (if kd = 3 then R else plcE k (bodyR s st k kd)) := by
  obtain rfl | rfl | rfl | rfl | rfl : kd = 0 ∨ kd = 1 ∨ kd = 2 ∨ kd = 3 ∨ kd = 5 := by omega
  · exact (behind0 h hB hk hs).mono fun e w hq => be_of hq
  · exact (behind1 h hB hk hs).mono fun e w hq => be_of hq
  · exact (behind2 h hB hk hs hne).mono fun e w hq => be_of hq
  · exact behind3 h ho (hrec rfl)
  · exact (behind5 h hB hk hs).mono fun e w hq => be_of hq
end Go.Proofs.YtobomdokdajbaaaDoor

namespace Go.Proofs.YtobomdokdajbaaaDoor
open Go.RowKit
attribute [local go_sem ↓] Go.wp_at_zero Go.wp_at_succ

theorem Tryd.infoRec : (Tryd.prog.info? 35).map (fun i => (i.zero, i.size, i.bytes)) = some (some (.agg #[.int .i64 0, .int .i64 0, .int .i64 0, .string .empty, .slice none 0 0]), 5, 64) := by kernel_rfl
/-- What a row of one record holds. -/
theorem row_one {W : World} {base g c : Nat} {x0 x1 x2 x3 x4 : Value} (h : W.ownsRow base 35 5 (.slice (some ⟨g, 0, none⟩) 1 c) 1 [x0, x1, x2, x3, x4]) :
    ∃ cur, W.heap[g]? = some (.cells cur 35 (0, 0)) ∧ 5 ≤ cur.size ∧ W.cell? ⟨g, 0, none⟩ = some x0 ∧ W.cell? ⟨g, 1, none⟩ = some x1 ∧ W.cell? ⟨g, 2, none⟩ = some x2 ∧ W.cell? ⟨g, 3, none⟩ = some x3 ∧ W.cell? ⟨g, 4, none⟩ = some x4 ∧ ∀ j, W.frozen? ⟨g, j, none⟩ = false := by
  have h' := h
  obtain ⟨_, ⟨e, _⟩ | ⟨g', c', cur, e, _, hg, h1, _, h3, _⟩⟩ := h
  · cases e
  · obtain ⟨rfl, rfl⟩ : g = g' ∧ c = c' := by simpa using e
    have hc : ∀ j x, [x0, x1, x2, x3, x4][j]? = some x → W.cell? ⟨g, j, none⟩ = some x := fun j x hx => by
      have := h'.cells (g := g) rfl j x hx
      rwa [Go.WideShapes.add_plain, Nat.zero_add] at this
    exact ⟨cur, hg, by omega, hc 0 x0 rfl, hc 1 x1 rfl, hc 2 x2 rfl, hc 3 x3 rfl, hc 4 x4 rfl, fun j => frozen_of_row _ _ _ _ _ hg⟩

set_option maxRecDepth 100000 in
set_option maxHeartbeats 8000000 in
theorem add_nil {W : World} {wb : Nat} {rp : Option Addr} {tag depth num0 : Int} {ag : Value} (r : Rec) (h : W.heap[wb]? = some (.cells #[.pointer rp, .int .i64 tag, .int .i64 depth, .bool true, .int .i64 num0, .slice none 0 0, ag] 83 (0, 0))) :
    Calls Tryd.prog 75 #[.pointer (some ⟨wb, 0, none⟩), .agg #[.int .i64 (r.number : Int), .int .i64 (r.kind : Int), .int .i64 r.num, .string r.text, .slice r.ia 0 r.ic], .int .i64 0] W fun e W' => e = .returned (.int .i64 0) ∧ ∃ v, Upd W wb (.cells #[.pointer rp, .int .i64 tag, .int .i64 depth, .bool true, .int .i64 num0, v, ag] 83 (0, 0)) W' ∧ HasR W' v [r] := by
  obtain ⟨i0, hi, hz0, hz1, hz2⟩ := info_parts Tryd.infoRec
  have hwb : wb < W.heap.size := (Array.getElem?_eq_some_iff.1 h).1
  have c3 := cell_of_row W wb 3 _ _ _ h
  have c5 := cell_of_row W wb 5 _ _ _ h
  have f5 := frozen_of_row W wb 5 _ _ h
  simp at c3 c5
  have hV : Below W.heap.size W (W.alloc (.cells #[.int .i64 (r.number : Int), .int .i64 (r.kind : Int), .int .i64 r.num, .string r.text, .slice r.ia 0 r.ic] 35)) := (Below.refl _ _).alloc (Nat.le_refl _) _
  have hbx := heap_alloc_new W (.cells #[.int .i64 (r.number : Int), .int .i64 (r.kind : Int), .int .i64 r.num, .string r.text, .slice r.ia 0 r.ic] 35)
  have hVs : (W.alloc (.cells #[.int .i64 (r.number : Int), .int .i64 (r.kind : Int), .int .i64 r.num, .string r.text, .slice r.ia 0 r.ic] 35)).heap.size = W.heap.size + 1 := World.size_alloc _ _
  go_enter Tryd.func75, Tryd.ntmps75
  go_wp2_with fail
  generalize W.alloc (.cells #[.int .i64 (r.number : Int), .int .i64 (r.kind : Int), .int .i64 r.num, .string r.text, .slice r.ia 0 r.ic] 35) = V at *
  have x0 := cell_of_row V W.heap.size 0 _ _ _ hbx
  have x1 := cell_of_row V W.heap.size 1 _ _ _ hbx
  have x2 := cell_of_row V W.heap.size 2 _ _ _ hbx
  have x3 := cell_of_row V W.heap.size 3 _ _ _ hbx
  have x4 := cell_of_row V W.heap.size 4 _ _ _ hbx
  simp at x0 x1 x2 x3 x4
  have hVw := (hV.block wb hwb).trans h
  have v5 := (hV.cell (p := ⟨wb, 5, none⟩) hwb).trans c5
  have g5 := frozen_of_row V wb 5 _ _ hVw
  have hA : ∀ (b j : Nat) (o : Obj), b < V.heap.size → (V.alloc o).cell? ⟨b, j, none⟩ = V.cell? ⟨b, j, none⟩ := fun b j o hb => World.cell?_alloc_lt _ _ _ hb
  have a5 : ∀ o, (V.alloc o).cell? ⟨wb, 5, none⟩ = some (.slice none 0 0) := fun o => (hA wb 5 o (by omega)).trans v5
  have a0 : ∀ o, (V.alloc o).cell? ⟨W.heap.size, 0, none⟩ = _ := fun o => (hA W.heap.size 0 o (by omega)).trans x0
  have a1 : ∀ o, (V.alloc o).cell? ⟨W.heap.size, 1, none⟩ = _ := fun o => (hA W.heap.size 1 o (by omega)).trans x1
  have a2 : ∀ o, (V.alloc o).cell? ⟨W.heap.size, 2, none⟩ = _ := fun o => (hA W.heap.size 2 o (by omega)).trans x2
  have a3 : ∀ o, (V.alloc o).cell? ⟨W.heap.size, 3, none⟩ = _ := fun o => (hA W.heap.size 3 o (by omega)).trans x3
  have a4 : ∀ o, (V.alloc o).cell? ⟨W.heap.size, 4, none⟩ = _ := fun o => (hA W.heap.size 4 o (by omega)).trans x4
  clear hA
  go_region_law (refine step_append_lies _ rfl (.tmp 19) (.tmp 22) 33 rfl W.heap.size 35 i0 (.agg #[.int .i64 0, .int .i64 0, .int .i64 0, .string .empty, .slice none 0 0]) 5 64 Tryd.underlying33 hi hz0 hz1 hz2 rfl (by decide) (.slice none 0 0) 0 [] (by first | rfl | simp [Act.eval, Act.put]) (World.ownsRow_nil _ _ _ _) ⟨V.heap.size, 0, none⟩ 1 1 [.int .i64 0, .int .i64 0, .int .i64 0, .string .empty, .slice none 0 0] (by first | rfl | simp [Act.eval, Act.put]) (by rfl) (World.news_of_block (cs := #[.int .i64 0, .int .i64 0, .int .i64 0, .string .empty, .slice none 0 0]) (t := 35) (fr := (0, 0)) (heap_alloc_new _ _)) (by simp [Value.oneCell']) (by decide) (by decide) (by decide) (by first | omega | (simp; omega)) (V.heap.size + 1) (by simp) ?_; intro g3 cap w3 hown3 hgrow hat3 hlt3; obtain ⟨cur, hcur, hcs, z0, z1, z2, z3, z4, zf⟩ := row_one hown3; have k5 : w3.cell? ⟨wb, 5, none⟩ = some (.slice none 0 0) := (hgrow.cell_far ⟨wb, 5, none⟩ (by first | omega | (simp; omega)) (by simp [Value.ownBlock])).trans (a5 _); have k5f : w3.frozen? ⟨wb, 5, none⟩ = false := (hgrow.frozen_far ⟨wb, 5, none⟩ (by first | omega | (simp; omega)) (by simp [Value.ownBlock])).trans ((World.frozen?_alloc_past _ _ _ (by first | omega | (simp; omega))).trans g5); have hne : wb ≠ g3 := by rcases hat3 with q | q; exact absurd q (by simp [Value.ownBlock]); omega)
  all_goals
    obtain ⟨vv, hvv, hf1, hf2⟩ := add_nest (cap := cap) r hV hwb h hgrow.os hgrow.tape hgrow.output (by have := hgrow.size; simp at this; omega) (fun b hb => (hgrow.block b (by simp; omega) (by simp [Value.ownBlock])).trans (Below.heap_alloc V _ b hb)) hcur hcs (by rcases hat3 with q | q; exact absurd q (by simp [Value.ownBlock]); omega)
    obtain ⟨vw, hvw, hf3, hf4⟩ := add_nest2 (cap := cap) r hV hwb h hgrow.os hgrow.tape hgrow.output (by have := hgrow.size; simp at this; omega) (fun b hb => (hgrow.block b (by simp; omega) (by simp [Value.ownBlock])).trans (Below.heap_alloc V _ b hb)) hcur hcs (by rcases hat3 with q | q; exact absurd q (by simp [Value.ownBlock]); omega)
    have HF1 := hide hf1
    have HF2 := hide hf2
    have HF3 := hide hf3
    have HF4 := hide hf4
    clear hf1 hf2 hf3 hf4 hvv hvw hat3 hcs hlt3 hne h hV hbx hVs c3 c5 f5 hVw g5 hgrow hown3 z0 z1 z2 z3 z4 zf hcur x0 x1 x2 x3 x4 a0 a1 a2 a3 a4 a5 v5 k5 k5f
    go_wp2
    go_ret
    refine ⟨?_, ?_⟩
    · rfl
    · first
        | with_reducible exact ⟨vv, HF1, HF2⟩
        | with_reducible exact ⟨vv, unhide HF1, unhide HF2⟩
        | with_reducible exact ⟨vw, unhide HF3, unhide HF4⟩
end Go.Proofs.YtobomdokdajbaaaDoor
