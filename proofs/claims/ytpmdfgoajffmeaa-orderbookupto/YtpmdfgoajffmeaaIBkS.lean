import Derived.Test.YtpmdfgoajffmeaaIBkA

namespace Go.Proofs.Ytpmdfgoajffmeaa
open Go.RowKit Go.Shelf

/-- What the rounds keep: the lists, their marks. -/
structure St (B : Nat) (w : World) (v8 v9 : Value) (L : Nat) (us : List Kp) (m9 mK : List Int) : Prop where
  o8 : w.ownsRow B 22 1 v8 us.length (us.map Kp.val)
  o9 : w.ownsRow B 3 1 v9 m9.length (m9.map fun x => .int .i64 x)
  k : KeptOk w L us mK
  n8 : ∀ x ∈ us, some x.b ≠ v8.ownBlock
  n9 : ∀ x ∈ us, some x.b ≠ v9.ownBlock
theorem St.up {B : Nat} {w w' : World} {v8 v9 : Value} {L : Nat} {us : List Kp} {m9 mK : List Int} (h : St B w v8 v9 L us m9 mK) (hb : Below w.heap.size w w') : St B w' v8 v9 L us m9 mK :=
  ⟨ownsRow_up h.o8 hb, ownsRow_up h.o9 hb, h.k.up hb, h.n8, h.n9⟩
theorem St.apart {B : Nat} {w : World} {v8 v9 : Value} {L : Nat} {us : List Kp} {m9 mK : List Int} (h : St B w v8 v9 L us m9 mK) {b : Nat} (h8 : v8.ownBlock = some b) (h9 : v9.ownBlock = some b) : False := by
  obtain ⟨c, hc⟩ := ownsRow_type h.o8 h8
  obtain ⟨d, hd⟩ := ownsRow_type h.o9 h9
  have := hc.symm.trans hd
  simp at this
theorem kept_far {w w' : World} {row : Option Nat} (hg : w.grownBy w' row) {b i : Nat} {v : Value} (h : w.cell? ⟨b, i, none⟩ = some v) (hne : some b ≠ row) : w'.cell? ⟨b, i, none⟩ = some v := hg.cell (a := ⟨b, i, none⟩) h hne
theorem St.push8 {B : Nat} {w w' : World} {v8 v9 v8' : Value} {L : Nat} {us new : List Kp} {m9 mK : List Int} {mk : Int} {ob : Obj} (h : St B w v8 v9 L us m9 mK) (hlen : us.length = 5 * mK.length) (hn5 : new.length = 5)
    (hnew : ∀ j x, new[j]? = some x → x.len = L + ex j ∧ x.mark = mk ∧ x.b < w.heap.size ∧ ∀ i, i < x.len → w.cell? ⟨x.b, i, none⟩ = some (.int .i64 x.mark)) (e8 : ∀ x ∈ new, some x.b ≠ v8.ownBlock) (e9 : ∀ x ∈ new, some x.b ≠ v9.ownBlock)
    (hg : (w.alloc ob).grownBy w' v8.ownBlock) (ho : w'.ownsRow B 22 1 v8' (us.length + 5) (us.map Kp.val ++ new.map Kp.val)) (hat : v8'.ownBlock = v8.ownBlock ∨ v8'.ownBlock = some (w.alloc ob).heap.size) : St B w' v8' v9 L (us ++ new) m9 (mK ++ [mk]) := by
  have hal : w.grownBy (w.alloc ob) v8.ownBlock := World.grownBy_alloc w ob _
  have hgg := hal.trans hg
  have hb : ∀ x ∈ us ++ new, x.b < w.heap.size := by
    intro x hx
    rcases List.mem_append.1 hx with hx | hx
    · obtain ⟨j, hj⟩ := List.mem_iff_getElem?.1 hx
      exact (h.k j x hj).2.2.1
    · obtain ⟨j, hj⟩ := List.mem_iff_getElem?.1 hx
      exact (hnew j x hj).2.2.1
  refine ⟨by simpa [hn5] using ho, ?_, ?_, ?_, ?_⟩
  · refine h.o9.kept hgg ?_
    cases e : v9.ownBlock with
    | none => exact .inl rfl
    | some b => exact .inr fun e' => h.apart e'.symm e
  · intro k x hx
    by_cases hk : k < us.length
    · rw [List.getElem?_append_left hk] at hx
      obtain ⟨h1, h2, h3, h4⟩ := h.k k x hx
      have hm : x ∈ us := List.mem_of_getElem? hx
      exact ⟨h1, by rw [List.getElem?_append_left (by omega)]; exact h2, Nat.lt_of_lt_of_le h3 hgg.size, fun i hi => kept_far hgg (h4 i hi) (h.n8 x hm)⟩
    · rw [List.getElem?_append_right (by omega)] at hx
      have hj : k - us.length < 5 := by rw [← hn5]; exact (List.getElem?_eq_some_iff.1 hx).1
      obtain ⟨h1, h2, h3, h4⟩ := hnew _ x hx
      have hm : x ∈ new := List.mem_of_getElem? hx
      refine ⟨?_, ?_, Nat.lt_of_lt_of_le h3 hgg.size, fun i hi => kept_far hgg (h4 i hi) (e8 x hm)⟩
      · rw [h1]
        congr 2
        omega
      · rw [List.getElem?_append_right (by omega), show k / 5 - mK.length = 0 by omega, h2]
        rfl
  · intro x hx e
    rcases hat with he | he
    · rw [he] at e
      rcases List.mem_append.1 hx with hx | hx
      · exact h.n8 x hx e
      · exact e8 x hx e
    · rw [he] at e
      have := hb x hx
      rw [World.size_alloc] at e
      simp at e
      omega
  · intro x hx e
    rcases List.mem_append.1 hx with hx | hx
    · exact h.n9 x hx e
    · exact e9 x hx e
theorem St.push9 {B : Nat} {w w' : World} {v8 v9 v9' : Value} {L : Nat} {us : List Kp} {m9 mK : List Int} {mk : Int} {ob : Obj} (h : St B w v8 v9 L us m9 mK)
    (hg : (w.alloc ob).grownBy w' v9.ownBlock) (ho : w'.ownsRow B 3 1 v9' (m9.length + 1) (m9.map (fun x => .int .i64 x) ++ [.int .i64 mk])) (hat : v9'.ownBlock = v9.ownBlock ∨ v9'.ownBlock = some (w.alloc ob).heap.size) : St B w' v8 v9' L us (m9 ++ [mk]) mK := by
  have hal : w.grownBy (w.alloc ob) v9.ownBlock := World.grownBy_alloc w ob _
  have hgg := hal.trans hg
  refine ⟨?_, by simpa using ho, ?_, h.n8, ?_⟩
  · refine h.o8.kept hgg ?_
    cases e : v8.ownBlock with
    | none => exact .inl rfl
    | some b => exact .inr fun e' => h.apart e e'.symm
  · intro k x hx
    obtain ⟨h1, h2, h3, h4⟩ := h.k k x hx
    exact ⟨h1, h2, Nat.lt_of_lt_of_le h3 hgg.size, fun i hi => kept_far hgg (h4 i hi) (h.n9 x (List.mem_of_getElem? hx))⟩
  · intro x hx e
    rcases hat with he | he
    · rw [he] at e
      exact h.n9 x hx e
    · rw [he] at e
      obtain ⟨j, hj⟩ := List.mem_iff_getElem?.1 hx
      have := (h.k j x hj).2.2.1
      rw [World.size_alloc] at e
      simp at e
      omega
theorem row_cells {bs : Nat} {w : World} {g n c : Nat} {mk : Int} (h : RowI bs w g n c (List.replicate n mk)) : g < w.heap.size ∧ ∀ i, i < n → w.cell? ⟨g, i, none⟩ = some (.int .i64 mk) :=
  ⟨h.lt.2, fun i hi => h.cellAt (by rw [List.getElem?_replicate, if_pos hi])⟩
theorem ne_new {W : World} {B e size n : Nat} {v : Value} {xs : List Value} (h : W.ownsRow B e size v n xs) {g : Nat} (hg : W.heap.size ≤ g) : some g ≠ v.ownBlock := fun e => by
  have := (h.lt g e.symm).2
  omega
theorem grown_ge {W w w' : World} {ob : Obj} {g n c : Nat} {xs : List Int} (hb : Below W.heap.size W w) (hr : RowI (w.alloc ob).heap.size w' g n c xs) : W.heap.size ≤ g := by
  have h1 := hr.lt.1
  have h2 := hb.size
  rw [World.size_alloc] at h1
  omega
theorem grown_ge' {W w w' : World} {g n c : Nat} {xs : List Int} (hb : Below W.heap.size W w) (hr : RowI w.heap.size w' g n c xs) : W.heap.size ≤ g := Nat.le_trans hb.size hr.lt.1
theorem St.push5 {B : Nat} {w w' : World} {v8 v9 v8' : Value} {L : Nat} {us : List Kp} {m9 mK : List Int} {mk : Int} {ob : Obj} (h : St B w v8 v9 L us m9 mK) (hlen : us.length = 5 * mK.length)
    {b0 b1 b2 b3 b4 g0 g1 g2 g3 g4 k0 k1 k2 k3 k4 : Nat} (r0 : RowI b0 w g0 L k0 (List.replicate L mk)) (r1 : RowI b1 w g1 (L + 1) k1 (List.replicate (L + 1) mk)) (r2 : RowI b2 w g2 (L + 2) k2 (List.replicate (L + 2) mk)) (r3 : RowI b3 w g3 (L + 3) k3 (List.replicate (L + 3) mk)) (r4 : RowI b4 w g4 (L + 96) k4 (List.replicate (L + 96) mk))
    (n8 : ∀ y ∈ [g0, g1, g2, g3, g4], some y ≠ v8.ownBlock) (n9 : ∀ y ∈ [g0, g1, g2, g3, g4], some y ≠ v9.ownBlock)
    (hg : (w.alloc ob).grownBy w' v8.ownBlock) (ho : w'.ownsRow B 22 1 v8' (us.length + 5) (us.map Kp.val ++ [.slice (some ⟨g0, 0, none⟩) L k0, .slice (some ⟨g1, 0, none⟩) (L + 1) k1, .slice (some ⟨g2, 0, none⟩) (L + 2) k2, .slice (some ⟨g3, 0, none⟩) (L + 3) k3, .slice (some ⟨g4, 0, none⟩) (L + 96) k4])) (hat : v8'.ownBlock = v8.ownBlock ∨ v8'.ownBlock = some (w.alloc ob).heap.size) :
    ∃ us', us'.length = us.length + 5 ∧ St B w' v8' v9 L us' m9 (mK ++ [mk]) := by
  refine ⟨us ++ [⟨g0, L, k0, mk⟩, ⟨g1, L + 1, k1, mk⟩, ⟨g2, L + 2, k2, mk⟩, ⟨g3, L + 3, k3, mk⟩, ⟨g4, L + 96, k4, mk⟩], by simp, h.push8 (new := [⟨g0, L, k0, mk⟩, ⟨g1, L + 1, k1, mk⟩, ⟨g2, L + 2, k2, mk⟩, ⟨g3, L + 3, k3, mk⟩, ⟨g4, L + 96, k4, mk⟩]) hlen rfl ?_ ?_ ?_ hg ho hat⟩
  · intro j x hj
    match j, hj with
    | 0, hj => obtain rfl := Option.some.inj hj; exact ⟨rfl, rfl, (row_cells r0).1, (row_cells r0).2⟩
    | 1, hj => obtain rfl := Option.some.inj hj; exact ⟨rfl, rfl, (row_cells r1).1, (row_cells r1).2⟩
    | 2, hj => obtain rfl := Option.some.inj hj; exact ⟨rfl, rfl, (row_cells r2).1, (row_cells r2).2⟩
    | 3, hj => obtain rfl := Option.some.inj hj; exact ⟨rfl, rfl, (row_cells r3).1, (row_cells r3).2⟩
    | 4, hj => obtain rfl := Option.some.inj hj; exact ⟨rfl, rfl, (row_cells r4).1, (row_cells r4).2⟩
  · intro x hx
    simp at hx
    rcases hx with rfl | rfl | rfl | rfl | rfl <;> exact n8 _ (by simp)
  · intro x hx
    simp at hx
    rcases hx with rfl | rfl | rfl | rfl | rfl <;> exact n9 _ (by simp)
end Go.Proofs.Ytpmdfgoajffmeaa
