import Derived.Test.YtobomdokdajbaaaDoorJ16
import Derived.Test.YtobomdokdajbaaaDoorJ21

namespace Go.Proofs.YtobomdokdajbaaaDoor
open Go.RowKit
attribute [local go_sem ↓] Go.wp_at_zero Go.wp_at_succ

set_option maxRecDepth 100000 in
set_option maxHeartbeats 1000000 in
theorem behind0T {W : World} {c : Nat} {v : Value} {s : ByteArray} {k n q k2 : Nat} {st : Bool} {o most : Int} {x : Int} (h : CuAt W c v s k st) (hB : Bs W v s) (hk : k ≤ s.size) (hs : s.size ≤ 1048576) (hf : fV k (vAt s st k) = (x, q, k2)) :
    Calls Tryd.prog 69 #[.pointer (some ⟨c, 0, none⟩), .int .i64 (n : Int), .int .i64 0, .int .i64 o, .int .i64 most] W fun e w => e = .returned (.tuple #[.agg #[.int .i64 (n : Int), .int .i64 0, .int .i64 x, .string ⟨#[]⟩, .slice none 0 0], .int .i64 (q : Int)]) ∧ Upd W c (cuO v s st k2) w := by
  have hcl := (Array.getElem?_eq_some_iff.1 h).1
  obtain ⟨X1, hX1⟩ : ∃ X1, X1 = W.alloc (.cells #[.int .i64 0, .int .i64 0, .int .i64 0, .string ⟨#[]⟩, .slice none 0 0] 35) := ⟨_, rfl⟩
  obtain ⟨X, hX⟩ : ∃ X, X = X1.alloc (.cells #[.int .i64 (n : Int), .int .i64 0, .int .i64 0, .string ⟨#[]⟩, .slice none 0 0] 35) := ⟨_, rfl⟩
  have hz1 : X1.heap.size = W.heap.size + 1 := by rw [hX1]; exact World.size_alloc _ _
  have hB1 : Below W.heap.size W X1 := by rw [hX1]; exact (Below.refl _ _).alloc (Nat.le_refl _) _
  have hB12 : Below X1.heap.size X1 X := by rw [hX]; exact (Below.refl _ _).alloc (Nat.le_refl _) _
  have hXB : Below W.heap.size W X := hB1.trans (hB12.mono (by omega))
  have ha : X.heap[W.heap.size]? = some (.cells #[.int .i64 0, .int .i64 0, .int .i64 0, .string ⟨#[]⟩, .slice none 0 0] 35 (0, 0)) := (hB12.block _ (by omega)).trans (by rw [hX1]; exact heap_alloc_new _ _)
  have hb : X.heap[W.heap.size + 1]? = some (.cells #[.int .i64 (n : Int), .int .i64 0, .int .i64 0, .string ⟨#[]⟩, .slice none 0 0] 35 (0, 0)) := by rw [← hz1, hX]; exact heap_alloc_new _ _
  have hXs : X.heap.size = W.heap.size + 2 := by rw [hX, World.size_alloc, hz1]
  have hXc : CuAt X c v s k st := (hXB.block c hcl).trans h
  have hcall := cVarint_any hXc (hB.lift hXB) hk hs
  have HX : Hid ((W.alloc (.cells #[.int .i64 0, .int .i64 0, .int .i64 0, .string ⟨#[]⟩, .slice none 0 0] 35)).alloc (.cells #[.int .i64 (n : Int), .int .i64 0, .int .i64 0, .string ⟨#[]⟩, .slice none 0 0] 35) = X) := by show _ = _; rw [← hX1, hX]
  have Hcall := hide hcall
  have Hk := hide hk
  clear hX hX1 hz1 hB1 hB12 hcall hB
  go_enter Tryd.func69, Tryd.ntmps69
  go_wp2_with fail
  rw [unhide HX]
  refine (unhide Hcall).mono ?_
  intro e w1 hq
  obtain ⟨rfl, hU⟩ := cv_fun hXc hf hq
  have ha1 := (hU.far W.heap.size (by omega) (by omega)).trans ha
  have hb1 := (hU.far (W.heap.size + 1) (by omega) (by omega)).trans hb
  obtain ⟨a0, a1, a2, a3, a4, af0, af1, af2, af3, af4⟩ := cells5_of ha1
  obtain ⟨b0, b1, b2, b3, b4, bf0, bf1, bf2, bf3, bf4⟩ := cells5_of hb1
  have HU := hide hU
  have HXB := hide hXB
  clear hq hU hf Hcall HX ha hb ha1 hb1 hXc hXB
  go_wp2_with fail
  (try simp only [Exit.inBlock, Exit.then])
  refine bodyPost_ret (v := .tuple #[.agg #[.int .i64 (n : Int), .int .i64 0, .int .i64 x, .string ⟨#[]⟩, .slice none 0 0], .int .i64 (q : Int)]) (by rw [results_cell_tmp (p := 10) (u := 11) (ty := 35) rfl]; go_simp) rfl ?_
  exact ⟨rfl, upd_low (unhide HXB) (unhide HU) (((((((Below.refl W.heap.size w1).setCell (p := ⟨W.heap.size + 1, 2, none⟩) (Nat.le_succ _) _).setCell (p := ⟨W.heap.size, 0, none⟩) (Nat.le_refl _) _).setCell (p := ⟨W.heap.size, 1, none⟩) (Nat.le_refl _) _).setCell (p := ⟨W.heap.size, 2, none⟩) (Nat.le_refl _) _).setCell (p := ⟨W.heap.size, 3, none⟩) (Nat.le_refl _) _).setCell (p := ⟨W.heap.size, 4, none⟩) (Nat.le_refl _) _) hcl⟩
set_option maxRecDepth 100000 in
set_option maxHeartbeats 1000000 in
theorem behind1T {W : World} {c : Nat} {v : Value} {s : ByteArray} {k n q k2 : Nat} {st : Bool} {o most : Int} {x : Int} (h : CuAt W c v s k st) (hB : Bs W v s) (hk : k ≤ s.size) (hs : s.size ≤ 1048576) (hf : fV k (xAt s k 8) = (x, q, k2)) :
    Calls Tryd.prog 69 #[.pointer (some ⟨c, 0, none⟩), .int .i64 (n : Int), .int .i64 1, .int .i64 o, .int .i64 most] W fun e w => e = .returned (.tuple #[.agg #[.int .i64 (n : Int), .int .i64 1, .int .i64 x, .string ⟨#[]⟩, .slice none 0 0], .int .i64 (q : Int)]) ∧ Upd W c (cuO v s st k2) w := by
  have hcl := (Array.getElem?_eq_some_iff.1 h).1
  obtain ⟨X1, hX1⟩ : ∃ X1, X1 = W.alloc (.cells #[.int .i64 0, .int .i64 0, .int .i64 0, .string ⟨#[]⟩, .slice none 0 0] 35) := ⟨_, rfl⟩
  obtain ⟨X, hX⟩ : ∃ X, X = X1.alloc (.cells #[.int .i64 (n : Int), .int .i64 1, .int .i64 0, .string ⟨#[]⟩, .slice none 0 0] 35) := ⟨_, rfl⟩
  have hz1 : X1.heap.size = W.heap.size + 1 := by rw [hX1]; exact World.size_alloc _ _
  have hB1 : Below W.heap.size W X1 := by rw [hX1]; exact (Below.refl _ _).alloc (Nat.le_refl _) _
  have hB12 : Below X1.heap.size X1 X := by rw [hX]; exact (Below.refl _ _).alloc (Nat.le_refl _) _
  have hXB : Below W.heap.size W X := hB1.trans (hB12.mono (by omega))
  have ha : X.heap[W.heap.size]? = some (.cells #[.int .i64 0, .int .i64 0, .int .i64 0, .string ⟨#[]⟩, .slice none 0 0] 35 (0, 0)) := (hB12.block _ (by omega)).trans (by rw [hX1]; exact heap_alloc_new _ _)
  have hb : X.heap[W.heap.size + 1]? = some (.cells #[.int .i64 (n : Int), .int .i64 1, .int .i64 0, .string ⟨#[]⟩, .slice none 0 0] 35 (0, 0)) := by rw [← hz1, hX]; exact heap_alloc_new _ _
  have hXs : X.heap.size = W.heap.size + 2 := by rw [hX, World.size_alloc, hz1]
  have hXc : CuAt X c v s k st := (hXB.block c hcl).trans h
  have hcall := cFixed_any hXc (hB.lift hXB) hk hs (.inr rfl)
  have HX : Hid ((W.alloc (.cells #[.int .i64 0, .int .i64 0, .int .i64 0, .string ⟨#[]⟩, .slice none 0 0] 35)).alloc (.cells #[.int .i64 (n : Int), .int .i64 1, .int .i64 0, .string ⟨#[]⟩, .slice none 0 0] 35) = X) := by show _ = _; rw [← hX1, hX]
  have Hcall := hide hcall
  have Hk := hide hk
  clear hX hX1 hz1 hB1 hB12 hcall hB
  go_enter Tryd.func69, Tryd.ntmps69
  go_wp2_with fail
  rw [unhide HX]
  refine (unhide Hcall).mono ?_
  intro e w1 hq
  obtain ⟨rfl, hU⟩ := cv_fun hXc hf hq
  have ha1 := (hU.far W.heap.size (by omega) (by omega)).trans ha
  have hb1 := (hU.far (W.heap.size + 1) (by omega) (by omega)).trans hb
  obtain ⟨a0, a1, a2, a3, a4, af0, af1, af2, af3, af4⟩ := cells5_of ha1
  obtain ⟨b0, b1, b2, b3, b4, bf0, bf1, bf2, bf3, bf4⟩ := cells5_of hb1
  have HU := hide hU
  have HXB := hide hXB
  clear hq hU hf Hcall HX ha hb ha1 hb1 hXc hXB
  go_wp2_with fail
  (try simp only [Exit.inBlock, Exit.then])
  refine bodyPost_ret (v := .tuple #[.agg #[.int .i64 (n : Int), .int .i64 1, .int .i64 x, .string ⟨#[]⟩, .slice none 0 0], .int .i64 (q : Int)]) (by rw [results_cell_tmp (p := 10) (u := 11) (ty := 35) rfl]; go_simp) rfl ?_
  exact ⟨rfl, upd_low (unhide HXB) (unhide HU) (((((((Below.refl W.heap.size w1).setCell (p := ⟨W.heap.size + 1, 2, none⟩) (Nat.le_succ _) _).setCell (p := ⟨W.heap.size, 0, none⟩) (Nat.le_refl _) _).setCell (p := ⟨W.heap.size, 1, none⟩) (Nat.le_refl _) _).setCell (p := ⟨W.heap.size, 2, none⟩) (Nat.le_refl _) _).setCell (p := ⟨W.heap.size, 3, none⟩) (Nat.le_refl _) _).setCell (p := ⟨W.heap.size, 4, none⟩) (Nat.le_refl _) _) hcl⟩
set_option maxRecDepth 100000 in
set_option maxHeartbeats 1000000 in
theorem behind5T {W : World} {c : Nat} {v : Value} {s : ByteArray} {k n q k2 : Nat} {st : Bool} {o most : Int} {x : Int} (h : CuAt W c v s k st) (hB : Bs W v s) (hk : k ≤ s.size) (hs : s.size ≤ 1048576) (hf : fV k (xAt s k 4) = (x, q, k2)) :
    Calls Tryd.prog 69 #[.pointer (some ⟨c, 0, none⟩), .int .i64 (n : Int), .int .i64 5, .int .i64 o, .int .i64 most] W fun e w => e = .returned (.tuple #[.agg #[.int .i64 (n : Int), .int .i64 5, .int .i64 x, .string ⟨#[]⟩, .slice none 0 0], .int .i64 (q : Int)]) ∧ Upd W c (cuO v s st k2) w := by
  have hcl := (Array.getElem?_eq_some_iff.1 h).1
  obtain ⟨X1, hX1⟩ : ∃ X1, X1 = W.alloc (.cells #[.int .i64 0, .int .i64 0, .int .i64 0, .string ⟨#[]⟩, .slice none 0 0] 35) := ⟨_, rfl⟩
  obtain ⟨X, hX⟩ : ∃ X, X = X1.alloc (.cells #[.int .i64 (n : Int), .int .i64 5, .int .i64 0, .string ⟨#[]⟩, .slice none 0 0] 35) := ⟨_, rfl⟩
  have hz1 : X1.heap.size = W.heap.size + 1 := by rw [hX1]; exact World.size_alloc _ _
  have hB1 : Below W.heap.size W X1 := by rw [hX1]; exact (Below.refl _ _).alloc (Nat.le_refl _) _
  have hB12 : Below X1.heap.size X1 X := by rw [hX]; exact (Below.refl _ _).alloc (Nat.le_refl _) _
  have hXB : Below W.heap.size W X := hB1.trans (hB12.mono (by omega))
  have ha : X.heap[W.heap.size]? = some (.cells #[.int .i64 0, .int .i64 0, .int .i64 0, .string ⟨#[]⟩, .slice none 0 0] 35 (0, 0)) := (hB12.block _ (by omega)).trans (by rw [hX1]; exact heap_alloc_new _ _)
  have hb : X.heap[W.heap.size + 1]? = some (.cells #[.int .i64 (n : Int), .int .i64 5, .int .i64 0, .string ⟨#[]⟩, .slice none 0 0] 35 (0, 0)) := by rw [← hz1, hX]; exact heap_alloc_new _ _
  have hXs : X.heap.size = W.heap.size + 2 := by rw [hX, World.size_alloc, hz1]
  have hXc : CuAt X c v s k st := (hXB.block c hcl).trans h
  have hcall := cFixed_any hXc (hB.lift hXB) hk hs (.inl rfl)
  have HX : Hid ((W.alloc (.cells #[.int .i64 0, .int .i64 0, .int .i64 0, .string ⟨#[]⟩, .slice none 0 0] 35)).alloc (.cells #[.int .i64 (n : Int), .int .i64 5, .int .i64 0, .string ⟨#[]⟩, .slice none 0 0] 35) = X) := by show _ = _; rw [← hX1, hX]
  have Hcall := hide hcall
  have Hk := hide hk
  clear hX hX1 hz1 hB1 hB12 hcall hB
  go_enter Tryd.func69, Tryd.ntmps69
  go_wp2_with fail
  rw [unhide HX]
  refine (unhide Hcall).mono ?_
  intro e w1 hq
  obtain ⟨rfl, hU⟩ := cv_fun hXc hf hq
  have ha1 := (hU.far W.heap.size (by omega) (by omega)).trans ha
  have hb1 := (hU.far (W.heap.size + 1) (by omega) (by omega)).trans hb
  obtain ⟨a0, a1, a2, a3, a4, af0, af1, af2, af3, af4⟩ := cells5_of ha1
  obtain ⟨b0, b1, b2, b3, b4, bf0, bf1, bf2, bf3, bf4⟩ := cells5_of hb1
  have HU := hide hU
  have HXB := hide hXB
  clear hq hU hf Hcall HX ha hb ha1 hb1 hXc hXB
  go_wp2_with fail
  (try simp only [Exit.inBlock, Exit.then])
  refine bodyPost_ret (v := .tuple #[.agg #[.int .i64 (n : Int), .int .i64 5, .int .i64 x, .string ⟨#[]⟩, .slice none 0 0], .int .i64 (q : Int)]) (by rw [results_cell_tmp (p := 10) (u := 11) (ty := 35) rfl]; go_simp) rfl ?_
  exact ⟨rfl, upd_low (unhide HXB) (unhide HU) (((((((Below.refl W.heap.size w1).setCell (p := ⟨W.heap.size + 1, 2, none⟩) (Nat.le_succ _) _).setCell (p := ⟨W.heap.size, 0, none⟩) (Nat.le_refl _) _).setCell (p := ⟨W.heap.size, 1, none⟩) (Nat.le_refl _) _).setCell (p := ⟨W.heap.size, 2, none⟩) (Nat.le_refl _) _).setCell (p := ⟨W.heap.size, 3, none⟩) (Nat.le_refl _) _).setCell (p := ⟨W.heap.size, 4, none⟩) (Nat.le_refl _) _) hcl⟩
set_option maxRecDepth 100000 in
set_option maxHeartbeats 1000000 in
theorem behind2T {W : World} {c : Nat} {v : Value} {s : ByteArray} {k n q k2 : Nat} {st : Bool} {o most : Int} {x : ByteArray} (h : CuAt W c v s k st) (hB : Bs W v s) (hk : k ≤ s.size) (hs : s.size ≤ 1048576) (hne : ∀ a l cp, v = .slice (some a) l cp → 0 < s.size → a.block ≠ c ∧ cp ≤ 9223372036854775807) (hf : fT k (tAt s st k) = (x, q, k2)) :
    Calls Tryd.prog 69 #[.pointer (some ⟨c, 0, none⟩), .int .i64 (n : Int), .int .i64 2, .int .i64 o, .int .i64 most] W fun e w => e = .returned (.tuple #[.agg #[.int .i64 (n : Int), .int .i64 2, .int .i64 0, .string x, .slice none 0 0], .int .i64 (q : Int)]) ∧ Upd W c (cuO v s st k2) w := by
  have hcl := (Array.getElem?_eq_some_iff.1 h).1
  obtain ⟨X1, hX1⟩ : ∃ X1, X1 = W.alloc (.cells #[.int .i64 0, .int .i64 0, .int .i64 0, .string ⟨#[]⟩, .slice none 0 0] 35) := ⟨_, rfl⟩
  obtain ⟨X, hX⟩ : ∃ X, X = X1.alloc (.cells #[.int .i64 (n : Int), .int .i64 2, .int .i64 0, .string ⟨#[]⟩, .slice none 0 0] 35) := ⟨_, rfl⟩
  have hz1 : X1.heap.size = W.heap.size + 1 := by rw [hX1]; exact World.size_alloc _ _
  have hB1 : Below W.heap.size W X1 := by rw [hX1]; exact (Below.refl _ _).alloc (Nat.le_refl _) _
  have hB12 : Below X1.heap.size X1 X := by rw [hX]; exact (Below.refl _ _).alloc (Nat.le_refl _) _
  have hXB : Below W.heap.size W X := hB1.trans (hB12.mono (by omega))
  have ha : X.heap[W.heap.size]? = some (.cells #[.int .i64 0, .int .i64 0, .int .i64 0, .string ⟨#[]⟩, .slice none 0 0] 35 (0, 0)) := (hB12.block _ (by omega)).trans (by rw [hX1]; exact heap_alloc_new _ _)
  have hb : X.heap[W.heap.size + 1]? = some (.cells #[.int .i64 (n : Int), .int .i64 2, .int .i64 0, .string ⟨#[]⟩, .slice none 0 0] 35 (0, 0)) := by rw [← hz1, hX]; exact heap_alloc_new _ _
  have hXs : X.heap.size = W.heap.size + 2 := by rw [hX, World.size_alloc, hz1]
  have hXc : CuAt X c v s k st := (hXB.block c hcl).trans h
  have hcall := cText_any hXc (hB.lift hXB) hk hs hne
  have HX : Hid ((W.alloc (.cells #[.int .i64 0, .int .i64 0, .int .i64 0, .string ⟨#[]⟩, .slice none 0 0] 35)).alloc (.cells #[.int .i64 (n : Int), .int .i64 2, .int .i64 0, .string ⟨#[]⟩, .slice none 0 0] 35) = X) := by show _ = _; rw [← hX1, hX]
  have Hcall := hide hcall
  have Hk := hide hk
  clear hX hX1 hz1 hB1 hB12 hcall hB
  go_enter Tryd.func69, Tryd.ntmps69
  go_wp2_with fail
  rw [unhide HX]
  refine (unhide Hcall).mono ?_
  intro e w1 hq
  obtain ⟨rfl, hU⟩ := ct_fun hf hq
  have ha1 := (hU.far W.heap.size (by omega) (by omega)).trans ha
  have hb1 := (hU.far (W.heap.size + 1) (by omega) (by omega)).trans hb
  obtain ⟨a0, a1, a2, a3, a4, af0, af1, af2, af3, af4⟩ := cells5_of ha1
  obtain ⟨b0, b1, b2, b3, b4, bf0, bf1, bf2, bf3, bf4⟩ := cells5_of hb1
  have HU := hide hU
  have HXB := hide hXB
  clear hq hU hf Hcall HX ha hb ha1 hb1 hXc hXB
  go_wp2_with fail
  (try simp only [Exit.inBlock, Exit.then])
  refine bodyPost_ret (v := .tuple #[.agg #[.int .i64 (n : Int), .int .i64 2, .int .i64 0, .string x, .slice none 0 0], .int .i64 (q : Int)]) (by rw [results_cell_tmp (p := 10) (u := 11) (ty := 35) rfl]; go_simp) rfl ?_
  exact ⟨rfl, upd_low (unhide HXB) (unhide HU) (((((((Below.refl W.heap.size w1).setCell (p := ⟨W.heap.size + 1, 3, none⟩) (Nat.le_succ _) _).setCell (p := ⟨W.heap.size, 0, none⟩) (Nat.le_refl _) _).setCell (p := ⟨W.heap.size, 1, none⟩) (Nat.le_refl _) _).setCell (p := ⟨W.heap.size, 2, none⟩) (Nat.le_refl _) _).setCell (p := ⟨W.heap.size, 3, none⟩) (Nat.le_refl _) _).setCell (p := ⟨W.heap.size, 4, none⟩) (Nat.le_refl _) _) hcl⟩
end Go.Proofs.YtobomdokdajbaaaDoor
