import Derived.Test.YtpmdfgoajffmeaaIBkL

namespace Go.Proofs.Ytpmdfgoajffmeaa
open Go.RowKit Go.Shelf

theorem RowI.mono {bs bs' : Nat} {W : World} {g n c : Nat} {xs : List Int} (h : RowI bs W g n c xs) (hb : bs' ≤ bs) : RowI bs' W g n c xs := by
  refine ⟨h.1, ?_⟩
  rcases h.2 with h1 | ⟨g', cap, cur, e, hb1, rest⟩
  · exact .inl h1
  · exact .inr ⟨g', cap, cur, e, Nat.le_trans hb hb1, rest⟩
/-- Own full lists of numbers, and the own list that holds them. -/
structure Ow (B : Nat) (w : World) (v : Value) (L : Nat) (gs : List Nat) (f : Nat → List Int) : Prop where
  row : w.ownsRow B 22 1 v gs.length (gs.map fun g => .slice (some ⟨g, 0, none⟩) L L)
  each : ∀ i g, gs[i]? = some g → RowI B w g L L (f i)
  nd : gs.Nodup
theorem Ow.up {B : Nat} {w w' : World} {v : Value} {L : Nat} {gs : List Nat} {f : Nat → List Int} (h : Ow B w v L gs f) (hb : Below w.heap.size w w') : Ow B w' v L gs f :=
  ⟨ownsRow_up h.row hb, fun i g hg => (h.each i g hg).up' hb, h.nd⟩
theorem Ow.ne {B : Nat} {w : World} {v : Value} {L : Nat} {gs : List Nat} {f : Nat → List Int} (h : Ow B w v L gs f) {g : Nat} (hg : g ∈ gs) : some g ≠ v.ownBlock := fun e => by
  obtain ⟨i, hi⟩ := List.mem_iff_getElem?.1 hg
  obtain ⟨c, hc⟩ := ownsRow_type h.row e.symm
  obtain ⟨d, hd⟩ := ownsRow_type (v := .slice (some ⟨g, 0, none⟩) L L) (h.each i g hi) rfl
  have := hc.symm.trans hd
  simp at this
theorem Ow.mem_lt {B : Nat} {w : World} {v : Value} {L : Nat} {gs : List Nat} {f : Nat → List Int} (h : Ow B w v L gs f) {g : Nat} (hg : g ∈ gs) : B ≤ g ∧ g < w.heap.size := by
  obtain ⟨i, hi⟩ := List.mem_iff_getElem?.1 hg
  exact (h.each i g hi).lt
theorem Ow.push {B : Nat} {w w' : World} {v v' : Value} {L g : Nat} {gs : List Nat} {f : Nat → List Int} {ob : Obj} (h : Ow B w v L gs f) (hg : RowI B w g L L (f gs.length)) (hn : g ∉ gs) (he : some g ≠ v.ownBlock)
    (hgr : (w.alloc ob).grownBy w' v.ownBlock) (ho : w'.ownsRow B 22 1 v' (gs.length + 1) (gs.map (fun g => .slice (some ⟨g, 0, none⟩) L L) ++ [.slice (some ⟨g, 0, none⟩) L L])) : Ow B w' v' L (gs ++ [g]) f := by
  have hgg : w.grownBy w' v.ownBlock := (World.grownBy_alloc w ob _).trans hgr
  refine ⟨by simpa using ho, fun i x hx => ?_, ?_⟩
  · by_cases hi : i < gs.length
    · rw [List.getElem?_append_left hi] at hx
      exact (h.each i x hx).kept hgg (h.ne (List.mem_of_getElem? hx))
    · rw [List.getElem?_append_right (by omega)] at hx
      have hl : i - gs.length < 1 := (List.getElem?_eq_some_iff.1 hx).1
      obtain rfl : i = gs.length := by omega
      simp at hx
      subst hx
      exact hg.kept hgg he
  · rw [List.nodup_append]
    exact ⟨h.nd, by simp, fun a ha b hb e => by simp at hb; subst hb; subst e; exact hn ha⟩
/-- All blocks but these lie as they lay. -/
structure Far (gs : List Nat) (w w' : World) : Prop where
  os : w'.os = w.os
  tape : w'.tape = w.tape
  output : w'.output = w.output
  size : w.heap.size ≤ w'.heap.size
  block : ∀ b, b < w.heap.size → b ∉ gs → w'.heap[b]? = w.heap[b]?
theorem Far.refl (gs : List Nat) (w : World) : Far gs w w := ⟨rfl, rfl, rfl, Nat.le_refl _, fun _ _ _ => rfl⟩
theorem Far.step {gs : List Nat} {a b c : World} (h : Far gs a b) {g : Nat} (hg : g ∈ gs) (k : b.grownBy c (some g)) : Far gs a c :=
  ⟨k.os.trans h.os, k.tape.trans h.tape, k.output.trans h.output, Nat.le_trans h.size k.size, fun i hi hn => (k.block i (Nat.lt_of_lt_of_le hi h.size) (fun e => hn (by simp at e; rw [e]; exact hg))).trans (h.block i hi hn)⟩
theorem Far.below {gs : List Nat} {a b : World} (h : Far gs a b) {lo : Nat} (hl : lo ≤ a.heap.size) (hg : ∀ g ∈ gs, lo ≤ g) : Below lo a b :=
  ⟨h.os, h.tape, h.output, h.size, fun i hi => h.block i (by omega) (fun hm => by have := hg i hm; omega)⟩
theorem Far.row {gs : List Nat} {a b : World} (h : Far gs a b) {bs g n c : Nat} {xs : List Int} (hr : RowI bs a g n c xs) (hg : g ∉ gs) : RowI bs b g n c xs := by
  refine ownsRow_same hr fun k hk => ?_
  obtain rfl : g = k := by simpa [Value.ownBlock] using hk
  exact h.block g hr.lt.2 hg
theorem Ow.set {B : Nat} {w w' : World} {v : Value} {L i g : Nat} {gs : List Nat} {f f' : Nat → List Int} (h : Ow B w v L gs f) (hi : gs[i]? = some g) (hgr : w.grownBy w' (some g)) (hr : RowI B w' g L L (f' i)) (hf : ∀ j, j ≠ i → f' j = f j) : Ow B w' v L gs f' := by
  refine ⟨h.row.kept hgr ?_, fun j x hx => ?_, h.nd⟩
  · cases e : v.ownBlock with
    | none => exact .inl rfl
    | some b => exact .inr fun e' => h.ne (List.mem_of_getElem? hi) (by rw [e]; exact e'.symm)
  · by_cases hj : j = i
    · subst hj
      obtain rfl : g = x := Option.some.inj (hi.symm.trans hx)
      exact hr
    · rw [hf j hj]
      refine (h.each j x hx).kept hgr fun e => hj ?_
      obtain rfl : x = g := by simpa using e
      exact (List.getElem?_inj (List.getElem?_eq_some_iff.1 hx).1 h.nd).1 (hx.trans hi.symm)
theorem Ow.cell {B : Nat} {w : World} {L g5 n c5 : Nat} {gs : List Nat} {f : Nat → List Int} (h : Ow B w (.slice (some ⟨g5, 0, none⟩) n c5) L gs f) {i g : Nat} (hi : gs[i]? = some g) : w.cell? ⟨g5, i, none⟩ = some (.slice (some ⟨g, 0, none⟩) L L) := by
  obtain ⟨a, c, e⟩ := row_form h.row
  simp at e
  have hr := h.row
  rw [e.2.1] at hr
  have hl : i < gs.length := (List.getElem?_eq_some_iff.1 hi).1
  rw [World.ownsRow.cellAt hr i (by omega)]
  simp [hi]
theorem frame_step {k : Nat} {h : Nat → Int} {xs : List Int} (hk : k < xs.length) : (((List.range k).map h) ++ xs.drop k).set k (h k) = ((List.range (k + 1)).map h) ++ xs.drop (k + 1) := by
  rw [List.set_append_right _ _ (by simp)]
  simp only [List.length_map, List.length_range, Nat.sub_self]
  rw [List.drop_eq_getElem_cons hk, List.set_cons_zero, List.range_succ, List.map_append]
  simp
set_option maxRecDepth 100000 in
theorem frame159 {tm : Array Value} (h : tm.size = 159) : ∃ u : Nat → Value, tm = #[u 0, u 1, u 2, u 3, u 4, u 5, u 6, u 7, u 8, u 9, u 10, u 11, u 12, u 13, u 14, u 15, u 16, u 17, u 18, u 19, u 20, u 21, u 22, u 23, u 24, u 25, u 26, u 27, u 28, u 29, u 30, u 31, u 32, u 33, u 34, u 35, u 36, u 37, u 38, u 39, u 40, u 41, u 42, u 43, u 44, u 45, u 46, u 47, u 48, u 49, u 50, u 51, u 52, u 53, u 54, u 55, u 56, u 57, u 58, u 59, u 60, u 61, u 62, u 63, u 64, u 65, u 66, u 67, u 68, u 69, u 70, u 71, u 72, u 73, u 74, u 75, u 76, u 77, u 78, u 79, u 80, u 81, u 82, u 83, u 84, u 85, u 86, u 87, u 88, u 89, u 90, u 91, u 92, u 93, u 94, u 95, u 96, u 97, u 98, u 99, u 100, u 101, u 102, u 103, u 104, u 105, u 106, u 107, u 108, u 109, u 110, u 111, u 112, u 113, u 114, u 115, u 116, u 117, u 118, u 119, u 120, u 121, u 122, u 123, u 124, u 125, u 126, u 127, u 128, u 129, u 130, u 131, u 132, u 133, u 134, u 135, u 136, u 137, u 138, u 139, u 140, u 141, u 142, u 143, u 144, u 145, u 146, u 147, u 148, u 149, u 150, u 151, u 152, u 153, u 154, u 155, u 156, u 157, u 158] := by
  refine ⟨fun i => tm.getD i undef, ?_⟩
  have e : tm = ((List.range 159).map fun i => tm.getD i undef).toArray := by
    apply Array.ext
    · simp [h]
    · intro i h1 h2
      simp [Array.getD, h1]
  exact e.trans rfl
end Go.Proofs.Ytpmdfgoajffmeaa
