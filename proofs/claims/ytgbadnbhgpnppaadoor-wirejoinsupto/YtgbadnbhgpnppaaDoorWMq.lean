import Derived.Test.YtgbadnbhgpnppaaDoorWME
import Derived.Test.YtgbadnbhgpnppaaDoorWMJ
import Derived.Laws.ResultCell
namespace Go.Proofs.YtgbadnbhgpnppaaDoor
open Go.RowKit
attribute [local go_sem ↓] Go.wp_at_zero Go.wp_at_succ

def BhA (W : World) (c : Nat) (v : Value) (s : ByteArray) (k : Nat) (st : Bool) (n kd : Nat) (e : Ending) (w : World) : Nat ⊕ Nat → Prop
  | .inl k' => (∃ (x : Int) (t : ByteArray), e = .returned (.tuple #[.agg #[.int .i64 (n : Int), .int .i64 (kd : Int), .int .i64 x, .string t, .slice none 0 0], .int .i64 0])) ∧ Upd W c (.cells #[v, .int .i64 (k' : Int), .int .i64 (s.size : Int), .bool st] 72 (0, 0)) w
  | .inr q => (∃ (x : Int) (t : ByteArray), e = .returned (.tuple #[.agg #[.int .i64 (n : Int), .int .i64 (kd : Int), .int .i64 x, .string t, .slice none 0 0], .int .i64 (q : Int)])) ∧ q ≠ 0 ∧ Upd W c (.cells #[v, .int .i64 (k : Int), .int .i64 (s.size : Int), .bool st] 72 (0, 0)) w
theorem cells5_of {W : World} {b : Nat} {x y z u r : Value} {t : TypeId} (h : W.heap[b]? = some (.cells #[x, y, z, u, r] t (0, 0))) : W.cell? ⟨b, 0, none⟩ = some x ∧ W.cell? ⟨b, 1, none⟩ = some y ∧ W.cell? ⟨b, 2, none⟩ = some z ∧ W.cell? ⟨b, 3, none⟩ = some u ∧ W.cell? ⟨b, 4, none⟩ = some r ∧ W.frozen? ⟨b, 0, none⟩ = false ∧ W.frozen? ⟨b, 1, none⟩ = false ∧ W.frozen? ⟨b, 2, none⟩ = false ∧ W.frozen? ⟨b, 3, none⟩ = false ∧ W.frozen? ⟨b, 4, none⟩ = false := by
  unfold World.cell? World.frozen?
  rw [h]
  exact ⟨rfl, rfl, rfl, rfl, rfl, rfl, rfl, rfl, rfl, rfl⟩
def RelB (k q k2 : Nat) : Nat ⊕ Nat → Prop
  | .inl k' => q = 0 ∧ k2 = k'
  | .inr c => q = c ∧ c ≠ 0 ∧ k2 = k
theorem cv_uni {W : World} {c : Nat} {v : Value} {s : ByteArray} {k : Nat} {st : Bool} {e : Ending} {w : World} {r : (Nat × Nat) ⊕ Nat} (h : CuAt W c v s k st) (hq : CvA W c v s st e w r) : ∃ (x : Int) (q k2 : Nat), e = .returned (.tuple #[.int .i64 x, .int .i64 (q : Int)]) ∧ Upd W c (.cells #[v, .int .i64 (k2 : Int), .int .i64 (s.size : Int), .bool st] 72 (0, 0)) w ∧ RelB k q k2 (plc r) := by
  match r, hq with
  | .inl (u, k'), hq => exact ⟨_, 0, k', hq.1, hq.2, rfl, rfl⟩
  | .inr n, ⟨h1, h2, m, h3⟩ => exact ⟨0, n, k, h1, by rw [h3]; exact upd_same h m, rfl, h2, rfl⟩
theorem ct_uni {W : World} {c : Nat} {v : Value} {s : ByteArray} {k : Nat} {st : Bool} {e : Ending} {w : World} {r : (ByteArray × Nat) ⊕ Nat} (_h : CuAt W c v s k st) (hq : CtA W c v s k st e w r) : ∃ (x : ByteArray) (q k2 : Nat), e = .returned (.tuple #[.string x, .int .i64 (q : Int)]) ∧ Upd W c (.cells #[v, .int .i64 (k2 : Int), .int .i64 (s.size : Int), .bool st] 72 (0, 0)) w ∧ RelB k q k2 (plc r) := by
  match r, hq with
  | .inl (u, k'), hq => exact ⟨_, 0, k', hq.1, hq.2, rfl, rfl⟩
  | .inr n, ⟨h1, h2, h3⟩ => exact ⟨_, n, k, h1, h3, rfl, h2, rfl⟩
theorem bh_of {W : World} {c : Nat} {v : Value} {s : ByteArray} {k n kd q k2 : Nat} {st : Bool} {w : World} {R : Nat ⊕ Nat} {x : Int} {t : ByteArray} (hr : RelB k q k2 R) (hU : Upd W c (.cells #[v, .int .i64 (k2 : Int), .int .i64 (s.size : Int), .bool st] 72 (0, 0)) w) : BhA W c v s k st n kd (.returned (.tuple #[.agg #[.int .i64 (n : Int), .int .i64 (kd : Int), .int .i64 x, .string t, .slice none 0 0], .int .i64 (q : Int)])) w R := by
  match R, hr with
  | .inl k', hr =>
    obtain ⟨rfl, rfl⟩ := hr
    exact ⟨⟨x, t, rfl⟩, hU⟩
  | .inr c, hr =>
    obtain ⟨rfl, h2, rfl⟩ := hr
    exact ⟨⟨x, t, rfl⟩, h2, hU⟩
theorem upd_low {W X w1 w : World} {c : Nat} {o : Obj} (hX : Below W.heap.size W X) (hU : Upd X c o w1) (hE : Below W.heap.size w1 w) (hc : c < W.heap.size) : Upd W c o w :=
  ⟨hE.os.trans (hU.os.trans hX.os), hE.tape.trans (hU.tape.trans hX.tape), hE.output.trans (hU.output.trans hX.output), Nat.le_trans hX.size (Nat.le_trans hU.size hE.size), (hE.block c hc).trans hU.at', fun q hq hn => (hE.block q hq).trans ((hU.far q (Nat.lt_of_lt_of_le hq hX.size) hn).trans (hX.block q hq))⟩
theorem Bs.lift {W w : World} {v : Value} {s : ByteArray} (h : Bs W v s) (hb : Below W.heap.size W w) : Bs w v s := h.up (fun g hg => hb.block g hg) hb.size
set_option maxRecDepth 100000 in
set_option maxHeartbeats 1000000 in
theorem behind0 {W : World} {c : Nat} {v : Value} {s : ByteArray} {k n : Nat} {st : Bool} {o most : Int} (h : CuAt W c v s k st) (hB : Bs W v s) (hk : k ≤ s.size) (hs : s.size ≤ 1048576) :
    Calls Tryd.prog 64 #[.pointer (some ⟨c, 0, none⟩), .int .i64 (n : Int), .int .i64 0, .int .i64 o, .int .i64 most] W fun e w => BhA W c v s k st n 0 e w (plc (vAt s st k)) := by
  have hcl := (Array.getElem?_eq_some_iff.1 h).1
  obtain ⟨X1, hX1⟩ : ∃ X1, X1 = W.alloc (.cells #[.int .i64 0, .int .i64 0, .int .i64 0, .string ⟨#[]⟩, .slice none 0 0] 55) := ⟨_, rfl⟩
  obtain ⟨X, hX⟩ : ∃ X, X = X1.alloc (.cells #[.int .i64 (n : Int), .int .i64 0, .int .i64 0, .string ⟨#[]⟩, .slice none 0 0] 55) := ⟨_, rfl⟩
  have hz1 : X1.heap.size = W.heap.size + 1 := by rw [hX1]; exact World.size_alloc _ _
  have hB1 : Below W.heap.size W X1 := by rw [hX1]; exact (Below.refl _ _).alloc (Nat.le_refl _) _
  have hB12 : Below X1.heap.size X1 X := by rw [hX]; exact (Below.refl _ _).alloc (Nat.le_refl _) _
  have hXB : Below W.heap.size W X := hB1.trans (hB12.mono (by omega))
  have ha : X.heap[W.heap.size]? = some (.cells #[.int .i64 0, .int .i64 0, .int .i64 0, .string ⟨#[]⟩, .slice none 0 0] 55 (0, 0)) := (hB12.block _ (by omega)).trans (by rw [hX1]; exact heap_alloc_new _ _)
  have hb : X.heap[W.heap.size + 1]? = some (.cells #[.int .i64 (n : Int), .int .i64 0, .int .i64 0, .string ⟨#[]⟩, .slice none 0 0] 55 (0, 0)) := by rw [← hz1, hX]; exact heap_alloc_new _ _
  have hXs : X.heap.size = W.heap.size + 2 := by rw [hX, World.size_alloc, hz1]
  have hXc : CuAt X c v s k st := (hXB.block c hcl).trans h
  have hcall := cVarint_any hXc (hB.lift hXB) hk hs
  have HX : Hid ((W.alloc (.cells #[.int .i64 0, .int .i64 0, .int .i64 0, .string ⟨#[]⟩, .slice none 0 0] 55)).alloc (.cells #[.int .i64 (n : Int), .int .i64 0, .int .i64 0, .string ⟨#[]⟩, .slice none 0 0] 55) = X) := by show _ = _; rw [← hX1, hX]
  have Hcall := hide hcall
  have Hk := hide hk
  clear hX hX1 hz1 hB1 hB12 hcall hB
  go_enter Tryd.func64, Tryd.ntmps64
  go_wp2_with fail
  rw [unhide HX]
  refine (unhide Hcall).mono ?_
  intro e w1 hq
  obtain ⟨x, q, k2, rfl, hU, hrel⟩ := cv_uni hXc hq
  have ha1 := (hU.far W.heap.size (by omega) (by omega)).trans ha
  have hb1 := (hU.far (W.heap.size + 1) (by omega) (by omega)).trans hb
  obtain ⟨a0, a1, a2, a3, a4, af0, af1, af2, af3, af4⟩ := cells5_of ha1
  obtain ⟨b0, b1, b2, b3, b4, bf0, bf1, bf2, bf3, bf4⟩ := cells5_of hb1
  have HU := hide hU
  have Hrel := hide hrel
  have HXB := hide hXB
  clear hq hU hrel Hcall HX ha hb ha1 hb1 hXc hXB
  go_wp2_with fail
  (try simp only [Exit.inBlock, Exit.then])
  refine bodyPost_ret (v := .tuple #[.agg #[.int .i64 (n : Int), .int .i64 0, .int .i64 x, .string ⟨#[]⟩, .slice none 0 0], .int .i64 (q : Int)]) (by rw [results_cell_tmp (p := 10) (u := 11) (ty := 55) rfl]; go_simp) rfl ?_
  exact bh_of (unhide Hrel) (upd_low (unhide HXB) (unhide HU) (((((((Below.refl W.heap.size w1).setCell (p := ⟨W.heap.size + 1, 2, none⟩) (Nat.le_succ _) _).setCell (p := ⟨W.heap.size, 0, none⟩) (Nat.le_refl _) _).setCell (p := ⟨W.heap.size, 1, none⟩) (Nat.le_refl _) _).setCell (p := ⟨W.heap.size, 2, none⟩) (Nat.le_refl _) _).setCell (p := ⟨W.heap.size, 3, none⟩) (Nat.le_refl _) _).setCell (p := ⟨W.heap.size, 4, none⟩) (Nat.le_refl _) _) hcl)
set_option maxRecDepth 100000 in
set_option maxHeartbeats 1000000 in
theorem behind1 {W : World} {c : Nat} {v : Value} {s : ByteArray} {k n : Nat} {st : Bool} {o most : Int} (h : CuAt W c v s k st) (hB : Bs W v s) (hk : k ≤ s.size) (hs : s.size ≤ 1048576) :
    Calls Tryd.prog 64 #[.pointer (some ⟨c, 0, none⟩), .int .i64 (n : Int), .int .i64 1, .int .i64 o, .int .i64 most] W fun e w => BhA W c v s k st n 1 e w (plc (xAt s k 8)) := by
  have hcl := (Array.getElem?_eq_some_iff.1 h).1
  obtain ⟨X1, hX1⟩ : ∃ X1, X1 = W.alloc (.cells #[.int .i64 0, .int .i64 0, .int .i64 0, .string ⟨#[]⟩, .slice none 0 0] 55) := ⟨_, rfl⟩
  obtain ⟨X, hX⟩ : ∃ X, X = X1.alloc (.cells #[.int .i64 (n : Int), .int .i64 1, .int .i64 0, .string ⟨#[]⟩, .slice none 0 0] 55) := ⟨_, rfl⟩
  have hz1 : X1.heap.size = W.heap.size + 1 := by rw [hX1]; exact World.size_alloc _ _
  have hB1 : Below W.heap.size W X1 := by rw [hX1]; exact (Below.refl _ _).alloc (Nat.le_refl _) _
  have hB12 : Below X1.heap.size X1 X := by rw [hX]; exact (Below.refl _ _).alloc (Nat.le_refl _) _
  have hXB : Below W.heap.size W X := hB1.trans (hB12.mono (by omega))
  have ha : X.heap[W.heap.size]? = some (.cells #[.int .i64 0, .int .i64 0, .int .i64 0, .string ⟨#[]⟩, .slice none 0 0] 55 (0, 0)) := (hB12.block _ (by omega)).trans (by rw [hX1]; exact heap_alloc_new _ _)
  have hb : X.heap[W.heap.size + 1]? = some (.cells #[.int .i64 (n : Int), .int .i64 1, .int .i64 0, .string ⟨#[]⟩, .slice none 0 0] 55 (0, 0)) := by rw [← hz1, hX]; exact heap_alloc_new _ _
  have hXs : X.heap.size = W.heap.size + 2 := by rw [hX, World.size_alloc, hz1]
  have hXc : CuAt X c v s k st := (hXB.block c hcl).trans h
  have hcall := cFixed_any hXc (hB.lift hXB) hk hs (.inr rfl)
  have HX : Hid ((W.alloc (.cells #[.int .i64 0, .int .i64 0, .int .i64 0, .string ⟨#[]⟩, .slice none 0 0] 55)).alloc (.cells #[.int .i64 (n : Int), .int .i64 1, .int .i64 0, .string ⟨#[]⟩, .slice none 0 0] 55) = X) := by show _ = _; rw [← hX1, hX]
  have Hcall := hide hcall
  have Hk := hide hk
  clear hX hX1 hz1 hB1 hB12 hcall hB
  go_enter Tryd.func64, Tryd.ntmps64
  go_wp2_with fail
  rw [unhide HX]
  refine (unhide Hcall).mono ?_
  intro e w1 hq
  obtain ⟨x, q, k2, rfl, hU, hrel⟩ := cv_uni hXc hq
  have ha1 := (hU.far W.heap.size (by omega) (by omega)).trans ha
  have hb1 := (hU.far (W.heap.size + 1) (by omega) (by omega)).trans hb
  obtain ⟨a0, a1, a2, a3, a4, af0, af1, af2, af3, af4⟩ := cells5_of ha1
  obtain ⟨b0, b1, b2, b3, b4, bf0, bf1, bf2, bf3, bf4⟩ := cells5_of hb1
  have HU := hide hU
  have Hrel := hide hrel
  have HXB := hide hXB
  clear hq hU hrel Hcall HX ha hb ha1 hb1 hXc hXB
  go_wp2_with fail
  (try simp only [Exit.inBlock, Exit.then])
  refine bodyPost_ret (v := .tuple #[.agg #[.int .i64 (n : Int), .int .i64 1, .int .i64 x, .string ⟨#[]⟩, .slice none 0 0], .int .i64 (q : Int)]) (by rw [results_cell_tmp (p := 10) (u := 11) (ty := 55) rfl]; go_simp) rfl ?_
  exact bh_of (unhide Hrel) (upd_low (unhide HXB) (unhide HU) (((((((Below.refl W.heap.size w1).setCell (p := ⟨W.heap.size + 1, 2, none⟩) (Nat.le_succ _) _).setCell (p := ⟨W.heap.size, 0, none⟩) (Nat.le_refl _) _).setCell (p := ⟨W.heap.size, 1, none⟩) (Nat.le_refl _) _).setCell (p := ⟨W.heap.size, 2, none⟩) (Nat.le_refl _) _).setCell (p := ⟨W.heap.size, 3, none⟩) (Nat.le_refl _) _).setCell (p := ⟨W.heap.size, 4, none⟩) (Nat.le_refl _) _) hcl)
set_option maxRecDepth 100000 in
set_option maxHeartbeats 1000000 in
theorem behind5 {W : World} {c : Nat} {v : Value} {s : ByteArray} {k n : Nat} {st : Bool} {o most : Int} (h : CuAt W c v s k st) (hB : Bs W v s) (hk : k ≤ s.size) (hs : s.size ≤ 1048576) :
    Calls Tryd.prog 64 #[.pointer (some ⟨c, 0, none⟩), .int .i64 (n : Int), .int .i64 5, .int .i64 o, .int .i64 most] W fun e w => BhA W c v s k st n 5 e w (plc (xAt s k 4)) := by
  have hcl := (Array.getElem?_eq_some_iff.1 h).1
  obtain ⟨X1, hX1⟩ : ∃ X1, X1 = W.alloc (.cells #[.int .i64 0, .int .i64 0, .int .i64 0, .string ⟨#[]⟩, .slice none 0 0] 55) := ⟨_, rfl⟩
  obtain ⟨X, hX⟩ : ∃ X, X = X1.alloc (.cells #[.int .i64 (n : Int), .int .i64 5, .int .i64 0, .string ⟨#[]⟩, .slice none 0 0] 55) := ⟨_, rfl⟩
  have hz1 : X1.heap.size = W.heap.size + 1 := by rw [hX1]; exact World.size_alloc _ _
  have hB1 : Below W.heap.size W X1 := by rw [hX1]; exact (Below.refl _ _).alloc (Nat.le_refl _) _
  have hB12 : Below X1.heap.size X1 X := by rw [hX]; exact (Below.refl _ _).alloc (Nat.le_refl _) _
  have hXB : Below W.heap.size W X := hB1.trans (hB12.mono (by omega))
  have ha : X.heap[W.heap.size]? = some (.cells #[.int .i64 0, .int .i64 0, .int .i64 0, .string ⟨#[]⟩, .slice none 0 0] 55 (0, 0)) := (hB12.block _ (by omega)).trans (by rw [hX1]; exact heap_alloc_new _ _)
  have hb : X.heap[W.heap.size + 1]? = some (.cells #[.int .i64 (n : Int), .int .i64 5, .int .i64 0, .string ⟨#[]⟩, .slice none 0 0] 55 (0, 0)) := by rw [← hz1, hX]; exact heap_alloc_new _ _
  have hXs : X.heap.size = W.heap.size + 2 := by rw [hX, World.size_alloc, hz1]
  have hXc : CuAt X c v s k st := (hXB.block c hcl).trans h
  have hcall := cFixed_any hXc (hB.lift hXB) hk hs (.inl rfl)
  have HX : Hid ((W.alloc (.cells #[.int .i64 0, .int .i64 0, .int .i64 0, .string ⟨#[]⟩, .slice none 0 0] 55)).alloc (.cells #[.int .i64 (n : Int), .int .i64 5, .int .i64 0, .string ⟨#[]⟩, .slice none 0 0] 55) = X) := by show _ = _; rw [← hX1, hX]
  have Hcall := hide hcall
  have Hk := hide hk
  clear hX hX1 hz1 hB1 hB12 hcall hB
  go_enter Tryd.func64, Tryd.ntmps64
  go_wp2_with fail
  rw [unhide HX]
  refine (unhide Hcall).mono ?_
  intro e w1 hq
  obtain ⟨x, q, k2, rfl, hU, hrel⟩ := cv_uni hXc hq
  have ha1 := (hU.far W.heap.size (by omega) (by omega)).trans ha
  have hb1 := (hU.far (W.heap.size + 1) (by omega) (by omega)).trans hb
  obtain ⟨a0, a1, a2, a3, a4, af0, af1, af2, af3, af4⟩ := cells5_of ha1
  obtain ⟨b0, b1, b2, b3, b4, bf0, bf1, bf2, bf3, bf4⟩ := cells5_of hb1
  have HU := hide hU
  have Hrel := hide hrel
  have HXB := hide hXB
  clear hq hU hrel Hcall HX ha hb ha1 hb1 hXc hXB
  go_wp2_with fail
  (try simp only [Exit.inBlock, Exit.then])
  refine bodyPost_ret (v := .tuple #[.agg #[.int .i64 (n : Int), .int .i64 5, .int .i64 x, .string ⟨#[]⟩, .slice none 0 0], .int .i64 (q : Int)]) (by rw [results_cell_tmp (p := 10) (u := 11) (ty := 55) rfl]; go_simp) rfl ?_
  exact bh_of (unhide Hrel) (upd_low (unhide HXB) (unhide HU) (((((((Below.refl W.heap.size w1).setCell (p := ⟨W.heap.size + 1, 2, none⟩) (Nat.le_succ _) _).setCell (p := ⟨W.heap.size, 0, none⟩) (Nat.le_refl _) _).setCell (p := ⟨W.heap.size, 1, none⟩) (Nat.le_refl _) _).setCell (p := ⟨W.heap.size, 2, none⟩) (Nat.le_refl _) _).setCell (p := ⟨W.heap.size, 3, none⟩) (Nat.le_refl _) _).setCell (p := ⟨W.heap.size, 4, none⟩) (Nat.le_refl _) _) hcl)
set_option maxRecDepth 100000 in
set_option maxHeartbeats 1000000 in
theorem behind2 {W : World} {c : Nat} {v : Value} {s : ByteArray} {k n : Nat} {st : Bool} {o most : Int} (h : CuAt W c v s k st) (hB : Bs W v s) (hk : k ≤ s.size) (hs : s.size ≤ 1048576) (hne : ∀ a l cp, v = .slice (some a) l cp → 0 < s.size → a.block ≠ c ∧ cp ≤ 9223372036854775807) :
    Calls Tryd.prog 64 #[.pointer (some ⟨c, 0, none⟩), .int .i64 (n : Int), .int .i64 2, .int .i64 o, .int .i64 most] W fun e w => BhA W c v s k st n 2 e w (plc (tAt s st k)) := by
  have hcl := (Array.getElem?_eq_some_iff.1 h).1
  obtain ⟨X1, hX1⟩ : ∃ X1, X1 = W.alloc (.cells #[.int .i64 0, .int .i64 0, .int .i64 0, .string ⟨#[]⟩, .slice none 0 0] 55) := ⟨_, rfl⟩
  obtain ⟨X, hX⟩ : ∃ X, X = X1.alloc (.cells #[.int .i64 (n : Int), .int .i64 2, .int .i64 0, .string ⟨#[]⟩, .slice none 0 0] 55) := ⟨_, rfl⟩
  have hz1 : X1.heap.size = W.heap.size + 1 := by rw [hX1]; exact World.size_alloc _ _
  have hB1 : Below W.heap.size W X1 := by rw [hX1]; exact (Below.refl _ _).alloc (Nat.le_refl _) _
  have hB12 : Below X1.heap.size X1 X := by rw [hX]; exact (Below.refl _ _).alloc (Nat.le_refl _) _
  have hXB : Below W.heap.size W X := hB1.trans (hB12.mono (by omega))
  have ha : X.heap[W.heap.size]? = some (.cells #[.int .i64 0, .int .i64 0, .int .i64 0, .string ⟨#[]⟩, .slice none 0 0] 55 (0, 0)) := (hB12.block _ (by omega)).trans (by rw [hX1]; exact heap_alloc_new _ _)
  have hb : X.heap[W.heap.size + 1]? = some (.cells #[.int .i64 (n : Int), .int .i64 2, .int .i64 0, .string ⟨#[]⟩, .slice none 0 0] 55 (0, 0)) := by rw [← hz1, hX]; exact heap_alloc_new _ _
  have hXs : X.heap.size = W.heap.size + 2 := by rw [hX, World.size_alloc, hz1]
  have hXc : CuAt X c v s k st := (hXB.block c hcl).trans h
  have hcall := cText_any hXc (hB.lift hXB) hk hs hne
  have HX : Hid ((W.alloc (.cells #[.int .i64 0, .int .i64 0, .int .i64 0, .string ⟨#[]⟩, .slice none 0 0] 55)).alloc (.cells #[.int .i64 (n : Int), .int .i64 2, .int .i64 0, .string ⟨#[]⟩, .slice none 0 0] 55) = X) := by show _ = _; rw [← hX1, hX]
  have Hcall := hide hcall
  have Hk := hide hk
  clear hX hX1 hz1 hB1 hB12 hcall hB
  go_enter Tryd.func64, Tryd.ntmps64
  go_wp2_with fail
  rw [unhide HX]
  refine (unhide Hcall).mono ?_
  intro e w1 hq
  obtain ⟨x, q, k2, rfl, hU, hrel⟩ := ct_uni hXc hq
  have ha1 := (hU.far W.heap.size (by omega) (by omega)).trans ha
  have hb1 := (hU.far (W.heap.size + 1) (by omega) (by omega)).trans hb
  obtain ⟨a0, a1, a2, a3, a4, af0, af1, af2, af3, af4⟩ := cells5_of ha1
  obtain ⟨b0, b1, b2, b3, b4, bf0, bf1, bf2, bf3, bf4⟩ := cells5_of hb1
  have HU := hide hU
  have Hrel := hide hrel
  have HXB := hide hXB
  clear hq hU hrel Hcall HX ha hb ha1 hb1 hXc hXB
  go_wp2_with fail
  (try simp only [Exit.inBlock, Exit.then])
  refine bodyPost_ret (v := .tuple #[.agg #[.int .i64 (n : Int), .int .i64 2, .int .i64 0, .string x, .slice none 0 0], .int .i64 (q : Int)]) (by rw [results_cell_tmp (p := 10) (u := 11) (ty := 55) rfl]; go_simp) rfl ?_
  exact bh_of (unhide Hrel) (upd_low (unhide HXB) (unhide HU) (((((((Below.refl W.heap.size w1).setCell (p := ⟨W.heap.size + 1, 3, none⟩) (Nat.le_succ _) _).setCell (p := ⟨W.heap.size, 0, none⟩) (Nat.le_refl _) _).setCell (p := ⟨W.heap.size, 1, none⟩) (Nat.le_refl _) _).setCell (p := ⟨W.heap.size, 2, none⟩) (Nat.le_refl _) _).setCell (p := ⟨W.heap.size, 3, none⟩) (Nat.le_refl _) _).setCell (p := ⟨W.heap.size, 4, none⟩) (Nat.le_refl _) _) hcl)
end Go.Proofs.YtgbadnbhgpnppaaDoor
