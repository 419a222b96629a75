import Derived.Test.YtadmamfekodkaaaDoorHK

namespace Go.Proofs.YtadmamfekodkaaaDoor
open Go.RowKit
attribute [local go_sem ↓] Go.wp_at_zero Go.wp_at_succ

theorem own_low {B B' : Nat} {w : World} {e size n : Nat} {v : Value} {xs : List Value} (h : w.ownsRow B e size v n xs) (hb : B' ≤ B) : w.ownsRow B' e size v n xs := by
  obtain ⟨h1, h | ⟨g, cap, cur, rfl, h2, h3⟩⟩ := h
  · exact ⟨h1, .inl h⟩
  · exact ⟨h1, .inr ⟨g, cap, cur, rfl, Nat.le_trans hb h2, h3⟩⟩
theorem own_form {B : Nat} {w : World} {e size n : Nat} {v : Value} {xs : List Value} (h : w.ownsRow B e size v n xs) : ∃ a c, v = .slice a n c := by
  obtain ⟨h1, ⟨rfl, rfl⟩ | ⟨g, cap, cur, rfl, h2, h3⟩⟩ := h
  · exact ⟨_, _, rfl⟩
  · exact ⟨_, _, rfl⟩
theorem own_apart {B : Nat} {w : World} {e size n b t : Nat} {v : Value} {xs : List Value} {cs : Array Value} {fr : Nat × Nat} (h : w.ownsRow B e size v n xs) (hb : w.heap[b]? = some (.cells cs t fr)) (ht : e ≠ t) : v.ownBlock ≠ some b := by
  intro hv
  obtain ⟨h1, ⟨rfl, _⟩ | ⟨g, cap, cur, rfl, _, h4, _⟩⟩ := h
  · cases hv
  · obtain rfl : g = b := by simpa [Value.ownBlock] using hv
    rw [h4] at hb
    simp at hb
    exact ht hb.2.1
theorem own_two {B B' : Nat} {w : World} {e e' size size' n n' : Nat} {v u : Value} {xs ys : List Value} (h : w.ownsRow B e size v n xs) (k : w.ownsRow B' e' size' u n' ys) (ht : e ≠ e') : u.ownBlock = none ∨ u.ownBlock ≠ v.ownBlock := by
  cases hu : u.ownBlock with
  | none => exact .inl rfl
  | some q =>
    obtain ⟨k1, ⟨rfl, _⟩ | ⟨g, cap, cur, rfl, _, h4, _⟩⟩ := k
    · cases hu
    · obtain rfl : g = q := by simpa [Value.ownBlock] using hu
      exact .inr (fun e => own_apart h h4 ht e.symm)
theorem infoS : (Tryd.prog.info? 9).map (fun i => (i.zero, i.size, i.bytes)) = some (some (.string ByteArray.empty), 1, 16) := by kernel_rfl
theorem cells_one (w : World) (x : Value) (t : TypeId) : ∀ j u, [x][j]? = some u → (w.alloc (.cells #[x] t)).cell? ((⟨w.heap.size, 0, none⟩ : Addr).add j) = some u := by
  intro j u h
  match j with
  | 0 => rw [show (⟨w.heap.size, 0, none⟩ : Addr).add 0 = ⟨w.heap.size, 0, none⟩ from rfl, cell_of_row _ _ _ _ _ _ (heap_new w _)]; exact h
  | j + 1 => simp at h
def wsC (l : List (List Nat)) : List Value := l.map fun x => .string (ofN x)
def srA (s : RS) (vw vs : Value) : Array Value := #[.int .i64 (s.inn : Int), vw, vs, .int .i64 s.dig, .bool s.bad]
/-- The document's reader in block b. -/
structure Sr (b : Nat) (s : RS) (w : World) : Prop where
  blk : ∃ vw vs, w.heap[b]? = some (.cells (srA s vw vs) 43 (0, 0)) ∧ Bytes (b + 1) w vw s.word ∧ w.ownsRow (b + 1) 9 1 vs s.words.length (wsC s.words)
  dg : -1 ≤ s.dig ∧ s.dig ≤ 15
  by0 : Byt s.word
  bys : ∀ x ∈ s.words, Byt x
def SrQ (b : Nat) (s : RS) (W : World) (e : Ending) (w : World) : Prop := e = .returned (.tuple #[]) ∧ Sr b s w ∧ Below b W w
theorem Sr.lt {b : Nat} {s : RS} {w : World} (h : Sr b s w) : b < w.heap.size := by
  obtain ⟨_, _, hk, _⟩ := h.blk
  exact (Array.getElem?_eq_some_iff.1 hk).1
theorem Sr.up {b : Nat} {s : RS} {w w' : World} (h : Sr b s w) (hb : Below w.heap.size w w') : Sr b s w' := by
  have hl := h.lt
  obtain ⟨vw, vs, hk, h1, h2⟩ := h.blk
  exact ⟨⟨vw, vs, (hb.block b hl).trans hk, own_up h1 hb, own_up h2 hb⟩, h.dg, h.by0, h.bys⟩
/-- A cell is stored. -/
theorem Sr.put {b : Nat} {s s' : RS} {w : World} (h : Sr b s w) (j : Nat) (u : Value) (hw : s'.word = s.word) (hs : s'.words = s.words) (hx : ∀ vw vs, ((srA s vw vs).toList.set j u).toArray = srA s' vw vs) (hd : -1 ≤ s'.dig ∧ s'.dig ≤ 15) : Sr b s' (w.setCell ⟨b, j, none⟩ u) ∧ Below b w (w.setCell ⟨b, j, none⟩ u) := by
  obtain ⟨vw, vs, hk, h1, h2⟩ := h.blk
  obtain ⟨a1, a2⟩ := set_block (j := j) hk u
  rw [hx] at a1
  have n1 : vw.ownBlock ≠ some b := fun e => by have := (h1.lt b e).1; omega
  have n2 : vs.ownBlock ≠ some b := fun e => by have := (h2.lt b e).1; omega
  refine ⟨⟨⟨vw, vs, a1, ?_, ?_⟩, hd, by rw [hw]; exact h.by0, by rw [hs]; exact h.bys⟩, ⟨a2.os, a2.tape, a2.output, a2.size, fun k hk => a2.block k (by have := h.lt; omega) (fun e => by have := Option.some.inj e; omega)⟩⟩
  · rw [hw]; exact World.ownsRow.kept h1 a2 (.inr n1)
  · rw [hs]; exact h2.kept a2 (.inr n2)
theorem Sr.cells {b : Nat} {s : RS} {w : World} (h : Sr b s w) : ∃ wa wc sa sc, w.cell? ⟨b, 0, none⟩ = some (.int .i64 (s.inn : Int)) ∧ w.cell? ⟨b, 1, none⟩ = some (.slice wa s.word.length wc) ∧ w.cell? ⟨b, 2, none⟩ = some (.slice sa s.words.length sc) ∧ w.cell? ⟨b, 3, none⟩ = some (.int .i64 s.dig) ∧ w.cell? ⟨b, 4, none⟩ = some (.bool s.bad) ∧ (∀ j, w.frozen? ⟨b, j, none⟩ = false) ∧ Bytes (b + 1) w (.slice wa s.word.length wc) s.word ∧ w.ownsRow (b + 1) 9 1 (.slice sa s.words.length sc) s.words.length (wsC s.words) ∧ w.heap[b]? = some (.cells (srA s (.slice wa s.word.length wc) (.slice sa s.words.length sc)) 43 (0, 0)) := by
  obtain ⟨vw, vs, hk, h1, h2⟩ := h.blk
  obtain ⟨wa, wc, rfl⟩ := own_form h1
  obtain ⟨sa, sc, rfl⟩ := own_form h2
  exact ⟨wa, wc, sa, sc, cell_of_row _ _ _ _ _ _ hk, cell_of_row _ _ _ _ _ _ hk, cell_of_row _ _ _ _ _ _ hk, cell_of_row _ _ _ _ _ _ hk, cell_of_row _ _ _ _ _ _ hk, fun j => by simp [World.frozen?, hk], h1, h2, hk⟩
/-- A byte has gone into the word. -/
theorem Sr.push {b : Nat} {s : RS} {w w2 : World} {wa : Option Addr} {wc : Nat} {sa : Option Addr} {sc : Nat} {u : Value} {c : Nat} (h : Sr b s w) (hk : w.heap[b]? = some (.cells (srA s (.slice wa s.word.length wc) (.slice sa s.words.length sc)) 43 (0, 0))) (h1 : Bytes (b + 1) w (.slice wa s.word.length wc) s.word) (h2 : w.ownsRow (b + 1) 9 1 (.slice sa s.words.length sc) s.words.length (wsC s.words)) (hg : w.grownBy w2 (Value.slice wa s.word.length wc).ownBlock) (ho : w2.ownsRow (b + 1) 5 1 u (s.word.length + 1) (nb s.word ++ [.int .u8 (c : Int)])) (hc : c < 256) :
    Sr b { s with word := s.word ++ [c] } (w2.setCell ⟨b, 1, none⟩ u) ∧ Below b w (w2.setCell ⟨b, 1, none⟩ u) ∧ w2.cell? ⟨b, 1, none⟩ = some (.slice wa s.word.length wc) ∧ w2.frozen? ⟨b, 1, none⟩ = false := by
  have hlt := (Array.getElem?_eq_some_iff.1 hk).1
  have n1 : (Value.slice wa s.word.length wc).ownBlock ≠ some b := fun e => by have := (h1.lt b e).1; omega
  have hk2 := (hg.block b hlt (fun e => n1 e.symm)).trans hk
  obtain ⟨a1, a2⟩ := set_block (j := 1) hk2 u
  have n2 : u.ownBlock ≠ some b := fun e => by have := (ho.lt b e).1; omega
  have n3 : (Value.slice sa s.words.length sc).ownBlock ≠ some b := fun e => by have := (h2.lt b e).1; omega
  refine ⟨⟨⟨u, .slice sa s.words.length sc, a1, ?_, (h2.kept hg (own_two h1 h2 (by decide))).kept a2 (.inr n3)⟩, h.dg, h.by0.append (fun x hx => by rw [List.mem_singleton.1 hx]; exact hc), h.bys⟩, ⟨a2.os.trans hg.os, a2.tape.trans hg.tape, a2.output.trans hg.output, Nat.le_trans hg.size a2.size, fun k hk => ?_⟩, cell_of_row _ _ _ _ _ _ hk2, by simp [World.frozen?, hk2]⟩
  · show Bytes (b + 1) _ u (s.word ++ [c])
    refine World.ownsRow.kept ?_ a2 (.inr n2)
    rw [List.length_append, nb_append]
    exact ho
  · rw [a2.block k (by have := hg.size; omega) (fun e => by have := Option.some.inj e; omega), hg.block k (by omega) (fun e => by have := (h1.lt k e.symm).1; omega)]
/-- The word has gone into the words. -/
theorem Sr.ends {b : Nat} {s : RS} {w w2 : World} {wa : Option Addr} {wc : Nat} {sa : Option Addr} {sc : Nat} {u : Value} (h : Sr b s w) (hk : w.heap[b]? = some (.cells (srA s (.slice wa s.word.length wc) (.slice sa s.words.length sc)) 43 (0, 0))) (h1 : Bytes (b + 1) w (.slice wa s.word.length wc) s.word) (h2 : w.ownsRow (b + 1) 9 1 (.slice sa s.words.length sc) s.words.length (wsC s.words)) (hg : w.grownBy w2 (Value.slice sa s.words.length sc).ownBlock) (ho : w2.ownsRow (b + 1) 9 1 u (s.words.length + 1) (wsC s.words ++ [.string (ofN s.word)])) :
    Sr b { s with words := s.words ++ [s.word] } (w2.setCell ⟨b, 2, none⟩ u) ∧ Below b w (w2.setCell ⟨b, 2, none⟩ u) ∧ w2.cell? ⟨b, 2, none⟩ = some (.slice sa s.words.length sc) ∧ w2.frozen? ⟨b, 2, none⟩ = false := by
  have hlt := (Array.getElem?_eq_some_iff.1 hk).1
  have n1 : (Value.slice sa s.words.length sc).ownBlock ≠ some b := fun e => by have := (h2.lt b e).1; omega
  have hk2 := (hg.block b hlt (fun e => n1 e.symm)).trans hk
  obtain ⟨a1, a2⟩ := set_block (j := 2) hk2 u
  have n2 : u.ownBlock ≠ some b := fun e => by have := (ho.lt b e).1; omega
  have n3 : (Value.slice wa s.word.length wc).ownBlock ≠ some b := fun e => by have := (h1.lt b e).1; omega
  refine ⟨⟨⟨.slice wa s.word.length wc, u, a1, World.ownsRow.kept (World.ownsRow.kept h1 hg (own_two h2 h1 (by decide))) a2 (.inr n3), ?_⟩, h.dg, h.by0, fun x hx => ?_⟩, ⟨a2.os.trans hg.os, a2.tape.trans hg.tape, a2.output.trans hg.output, Nat.le_trans hg.size a2.size, fun k hk => ?_⟩, cell_of_row _ _ _ _ _ _ hk2, by simp [World.frozen?, hk2]⟩
  · refine World.ownsRow.kept ?_ a2 (.inr n2)
    show w2.ownsRow (b + 1) 9 1 u (s.words ++ [s.word]).length (wsC (s.words ++ [s.word]))
    rw [List.length_append, show wsC (s.words ++ [s.word]) = wsC s.words ++ [.string (ofN s.word)] from by unfold wsC; rw [List.map_append]; rfl]
    exact ho
  · rcases List.mem_append.1 hx with hx | hx
    · exact h.bys x hx
    · rw [List.mem_singleton.1 hx]; exact h.by0
  · rw [a2.block k (by have := hg.size; omega) (fun e => by have := Option.some.inj e; omega), hg.block k (by omega) (fun e => by have := (h2.lt k e.symm).1; omega)]
/-- The word is begun anew. -/
theorem Sr.fresh {b : Nat} {s : RS} {w : World} (h : Sr b s w) : Sr b { s with word := [] } (w.setCell ⟨b, 1, none⟩ (.slice none 0 0)) ∧ Below b w (w.setCell ⟨b, 1, none⟩ (.slice none 0 0)) := by
  obtain ⟨vw, vs, hk, h1, h2⟩ := h.blk
  obtain ⟨a1, a2⟩ := set_block (j := 1) hk (.slice none 0 0)
  have n2 : vs.ownBlock ≠ some b := fun e => by have := (h2.lt b e).1; omega
  exact ⟨⟨⟨.slice none 0 0, vs, a1, bytes_nil _ _, h2.kept a2 (.inr n2)⟩, h.dg, fun x hx => (by cases hx), h.bys⟩, ⟨a2.os, a2.tape, a2.output, a2.size, fun k hk => a2.block k (by have := h.lt; omega) (fun e => by have := Option.some.inj e; omega)⟩⟩
set_option maxRecDepth 100000 in
set_option maxHeartbeats 2000000 in
theorem zplain_any {b : Nat} {s : RS} {w : World} (h : Sr b s w) (hn : s.word.length ≤ 100000) {c : Nat} (hc : c < 256) : Calls Tryd.prog 28 #[.pointer (some ⟨b, 0, none⟩), .int .u8 (c : Int)] w (SrQ b (plainR c s) w) := by
  obtain ⟨i0, hi, hz0, hz1, hz2⟩ := info_parts infoByteB
  have Hn := hide hn
  have Hc := hide hc
  have HS := hide h
  have HP : Hid (∀ s', s' = { s with bad := s.bad || (ctl c || c == 34 || c == 92) } → ({ s' with word := s'.word ++ [c] } : RS) = plainR c s) := fun s' e => by subst e; rfl
  clear h hn hc
  rcases (by omega : c < 32 ∨ c = 127 ∨ c = 34 ∨ c = 92 ∨ (32 ≤ c ∧ c ≠ 127 ∧ c ≠ 34 ∧ c ≠ 92)) with hlt | rfl | rfl | rfl | ⟨g1, g2, g3, g4⟩
  · have f1 : decide ((c : Int) < 32) = true := by simp; omega
    obtain ⟨wa0, wc0, sa0, sc0, -, -, -, -, q4, q5, -, -, -⟩ := (unhide HS).cells
    have z4 := q5 4
    obtain ⟨hS1, hB1⟩ := (unhide HS).put (s' := { s with bad := true }) 4 (.bool true) rfl rfl (fun _ _ => rfl) (unhide HS).dg
    obtain ⟨w1, hw1⟩ : ∃ x, w.setCell ⟨b, 4, none⟩ (.bool true) = x := ⟨_, rfl⟩
    rw [hw1] at hS1 hB1
    obtain ⟨s1, hs1⟩ : ∃ x, ({ s with bad := true } : RS) = x := ⟨_, rfl⟩
    rw [hs1] at hS1
    have Hn := hide (show s1.word.length ≤ 100000 by rw [← hs1]; exact unhide Hn)
    have Hs1 := hide hs1
    clear hs1
    have HS1 := hide hS1
    have HB1 := hide hB1
    clear hS1 hB1 q5
    go_enter Tryd.func28, Tryd.ntmps28
    obtain ⟨wa, wc, sa, sc, x0, x1, x2, x3, x4, x5, x6, x7, x8⟩ := (unhide HS1).cells
    have z1 := x5 1
    have hbn : Below w1.heap.size w1 (w1.alloc (.cells #[.int .u8 (c : Int)] 5)) := (Below.refl _ _).alloc (Nat.le_refl _) _
    have HSa := hide ((unhide HS1).up hbn)
    have HO := hide (own_up x6 hbn)
    have HO2 := hide (own_up x7 hbn)
    have HSk := hide ((hbn.block b (Array.getElem?_eq_some_iff.1 x8).1).trans x8)
    have HBs := hide (show b + 1 ≤ (w1.alloc (.cells #[.int .u8 (c : Int)] 5)).heap.size by rw [World.size_alloc]; have := (Array.getElem?_eq_some_iff.1 x8).1; omega)
    have HBn := hide (Below.mono hbn (show b ≤ w1.heap.size by have := (Array.getElem?_eq_some_iff.1 x8).1; omega))
    have y1 : (w1.alloc (.cells #[.int .u8 (c : Int)] 5)).cell? ⟨b, 1, none⟩ = some (.slice wa (s1).word.length wc) := cell_of_row _ _ _ _ _ _ (unhide HSk)
    clear hbn x2 x3 x4 x5 x6 x7 x8
    have HBx := hide ((unhide HB1).trans (unhide HBn))
    go_wp2_with (at_builtin; refine wpList_append_own_at _ rfl _ _ 30 rfl (b + 1) 5 i0 (.int .u8 0) 1 1 Tryd.underlying30 hi hz0 hz1 hz2 rfl (by decide) _ _ _ rfl (unhide HO) ⟨w1.heap.size, 0, none⟩ 1 1 [.int .u8 (c : Int)] rfl rfl (cells_one _ _ _) (by simp [Value.oneCell']) (by have := unhide Hn; unfold maxLen; omega) (by have := unhide Hn; omega) (unhide HBs) ?_; intro v' w2 ho hg2 _ _; obtain ⟨a4, c4, rfl⟩ := own_form ho; obtain ⟨h1, h2, h3, h4⟩ := Sr.push (unhide HSa) (unhide HSk) (unhide HO) (unhide HO2) hg2 ho (unhide Hc); have HS9 := hide h1; have HB9 := hide h2; clear ho hg2 h1 h2)
    go_end0
    refine ⟨rfl, ?_, (unhide HBx).trans (unhide HB9)⟩
    rw [← unhide HP s1 (by rw [← unhide Hs1]; congr 1; unfold ctl; simp [hlt])]
    exact unhide HS9
  · obtain ⟨wa0, wc0, sa0, sc0, -, -, -, -, q4, q5, -, -, -⟩ := (unhide HS).cells
    have z4 := q5 4
    obtain ⟨hS1, hB1⟩ := (unhide HS).put (s' := { s with bad := true }) 4 (.bool true) rfl rfl (fun _ _ => rfl) (unhide HS).dg
    obtain ⟨w1, hw1⟩ : ∃ x, w.setCell ⟨b, 4, none⟩ (.bool true) = x := ⟨_, rfl⟩
    rw [hw1] at hS1 hB1
    obtain ⟨s1, hs1⟩ : ∃ x, ({ s with bad := true } : RS) = x := ⟨_, rfl⟩
    rw [hs1] at hS1
    have Hn := hide (show s1.word.length ≤ 100000 by rw [← hs1]; exact unhide Hn)
    have Hs1 := hide hs1
    clear hs1
    have HS1 := hide hS1
    have HB1 := hide hB1
    clear hS1 hB1 q5
    go_enter Tryd.func28, Tryd.ntmps28
    obtain ⟨wa, wc, sa, sc, x0, x1, x2, x3, x4, x5, x6, x7, x8⟩ := (unhide HS1).cells
    have z1 := x5 1
    have hbn : Below w1.heap.size w1 (w1.alloc (.cells #[.int .u8 (127 : Int)] 5)) := (Below.refl _ _).alloc (Nat.le_refl _) _
    have HSa := hide ((unhide HS1).up hbn)
    have HO := hide (own_up x6 hbn)
    have HO2 := hide (own_up x7 hbn)
    have HSk := hide ((hbn.block b (Array.getElem?_eq_some_iff.1 x8).1).trans x8)
    have HBs := hide (show b + 1 ≤ (w1.alloc (.cells #[.int .u8 (127 : Int)] 5)).heap.size by rw [World.size_alloc]; have := (Array.getElem?_eq_some_iff.1 x8).1; omega)
    have HBn := hide (Below.mono hbn (show b ≤ w1.heap.size by have := (Array.getElem?_eq_some_iff.1 x8).1; omega))
    have y1 : (w1.alloc (.cells #[.int .u8 (127 : Int)] 5)).cell? ⟨b, 1, none⟩ = some (.slice wa (s1).word.length wc) := cell_of_row _ _ _ _ _ _ (unhide HSk)
    clear hbn x2 x3 x4 x5 x6 x7 x8
    have HBx := hide ((unhide HB1).trans (unhide HBn))
    go_wp2_with (at_builtin; refine wpList_append_own_at _ rfl _ _ 30 rfl (b + 1) 5 i0 (.int .u8 0) 1 1 Tryd.underlying30 hi hz0 hz1 hz2 rfl (by decide) _ _ _ rfl (unhide HO) ⟨w1.heap.size, 0, none⟩ 1 1 [.int .u8 (127 : Int)] rfl rfl (cells_one _ _ _) (by simp [Value.oneCell']) (by have := unhide Hn; unfold maxLen; omega) (by have := unhide Hn; omega) (unhide HBs) ?_; intro v' w2 ho hg2 _ _; obtain ⟨a4, c4, rfl⟩ := own_form ho; obtain ⟨h1, h2, h3, h4⟩ := Sr.push (unhide HSa) (unhide HSk) (unhide HO) (unhide HO2) hg2 ho (unhide Hc); have HS9 := hide h1; have HB9 := hide h2; clear ho hg2 h1 h2)
    go_end0
    refine ⟨rfl, ?_, (unhide HBx).trans (unhide HB9)⟩
    rw [← unhide HP s1 (by rw [← unhide Hs1]; congr 1; unfold ctl; simp)]
    exact unhide HS9
  · obtain ⟨wa0, wc0, sa0, sc0, -, -, -, -, q4, q5, -, -, -⟩ := (unhide HS).cells
    have z4 := q5 4
    obtain ⟨hS1, hB1⟩ := (unhide HS).put (s' := { s with bad := true }) 4 (.bool true) rfl rfl (fun _ _ => rfl) (unhide HS).dg
    obtain ⟨w1, hw1⟩ : ∃ x, w.setCell ⟨b, 4, none⟩ (.bool true) = x := ⟨_, rfl⟩
    rw [hw1] at hS1 hB1
    obtain ⟨s1, hs1⟩ : ∃ x, ({ s with bad := true } : RS) = x := ⟨_, rfl⟩
    rw [hs1] at hS1
    have Hn := hide (show s1.word.length ≤ 100000 by rw [← hs1]; exact unhide Hn)
    have Hs1 := hide hs1
    clear hs1
    have HS1 := hide hS1
    have HB1 := hide hB1
    clear hS1 hB1 q5
    go_enter Tryd.func28, Tryd.ntmps28
    obtain ⟨wa, wc, sa, sc, x0, x1, x2, x3, x4, x5, x6, x7, x8⟩ := (unhide HS1).cells
    have z1 := x5 1
    have hbn : Below w1.heap.size w1 (w1.alloc (.cells #[.int .u8 (34 : Int)] 5)) := (Below.refl _ _).alloc (Nat.le_refl _) _
    have HSa := hide ((unhide HS1).up hbn)
    have HO := hide (own_up x6 hbn)
    have HO2 := hide (own_up x7 hbn)
    have HSk := hide ((hbn.block b (Array.getElem?_eq_some_iff.1 x8).1).trans x8)
    have HBs := hide (show b + 1 ≤ (w1.alloc (.cells #[.int .u8 (34 : Int)] 5)).heap.size by rw [World.size_alloc]; have := (Array.getElem?_eq_some_iff.1 x8).1; omega)
    have HBn := hide (Below.mono hbn (show b ≤ w1.heap.size by have := (Array.getElem?_eq_some_iff.1 x8).1; omega))
    have y1 : (w1.alloc (.cells #[.int .u8 (34 : Int)] 5)).cell? ⟨b, 1, none⟩ = some (.slice wa (s1).word.length wc) := cell_of_row _ _ _ _ _ _ (unhide HSk)
    clear hbn x2 x3 x4 x5 x6 x7 x8
    have HBx := hide ((unhide HB1).trans (unhide HBn))
    go_wp2_with (at_builtin; refine wpList_append_own_at _ rfl _ _ 30 rfl (b + 1) 5 i0 (.int .u8 0) 1 1 Tryd.underlying30 hi hz0 hz1 hz2 rfl (by decide) _ _ _ rfl (unhide HO) ⟨w1.heap.size, 0, none⟩ 1 1 [.int .u8 (34 : Int)] rfl rfl (cells_one _ _ _) (by simp [Value.oneCell']) (by have := unhide Hn; unfold maxLen; omega) (by have := unhide Hn; omega) (unhide HBs) ?_; intro v' w2 ho hg2 _ _; obtain ⟨a4, c4, rfl⟩ := own_form ho; obtain ⟨h1, h2, h3, h4⟩ := Sr.push (unhide HSa) (unhide HSk) (unhide HO) (unhide HO2) hg2 ho (unhide Hc); have HS9 := hide h1; have HB9 := hide h2; clear ho hg2 h1 h2)
    go_end0
    refine ⟨rfl, ?_, (unhide HBx).trans (unhide HB9)⟩
    rw [← unhide HP s1 (by rw [← unhide Hs1]; congr 1; unfold ctl; simp)]
    exact unhide HS9
  · obtain ⟨wa0, wc0, sa0, sc0, -, -, -, -, q4, q5, -, -, -⟩ := (unhide HS).cells
    have z4 := q5 4
    obtain ⟨hS1, hB1⟩ := (unhide HS).put (s' := { s with bad := true }) 4 (.bool true) rfl rfl (fun _ _ => rfl) (unhide HS).dg
    obtain ⟨w1, hw1⟩ : ∃ x, w.setCell ⟨b, 4, none⟩ (.bool true) = x := ⟨_, rfl⟩
    rw [hw1] at hS1 hB1
    obtain ⟨s1, hs1⟩ : ∃ x, ({ s with bad := true } : RS) = x := ⟨_, rfl⟩
    rw [hs1] at hS1
    have Hn := hide (show s1.word.length ≤ 100000 by rw [← hs1]; exact unhide Hn)
    have Hs1 := hide hs1
    clear hs1
    have HS1 := hide hS1
    have HB1 := hide hB1
    clear hS1 hB1 q5
    go_enter Tryd.func28, Tryd.ntmps28
    obtain ⟨wa, wc, sa, sc, x0, x1, x2, x3, x4, x5, x6, x7, x8⟩ := (unhide HS1).cells
    have z1 := x5 1
    have hbn : Below w1.heap.size w1 (w1.alloc (.cells #[.int .u8 (92 : Int)] 5)) := (Below.refl _ _).alloc (Nat.le_refl _) _
    have HSa := hide ((unhide HS1).up hbn)
    have HO := hide (own_up x6 hbn)
    have HO2 := hide (own_up x7 hbn)
    have HSk := hide ((hbn.block b (Array.getElem?_eq_some_iff.1 x8).1).trans x8)
    have HBs := hide (show b + 1 ≤ (w1.alloc (.cells #[.int .u8 (92 : Int)] 5)).heap.size by rw [World.size_alloc]; have := (Array.getElem?_eq_some_iff.1 x8).1; omega)
    have HBn := hide (Below.mono hbn (show b ≤ w1.heap.size by have := (Array.getElem?_eq_some_iff.1 x8).1; omega))
    have y1 : (w1.alloc (.cells #[.int .u8 (92 : Int)] 5)).cell? ⟨b, 1, none⟩ = some (.slice wa (s1).word.length wc) := cell_of_row _ _ _ _ _ _ (unhide HSk)
    clear hbn x2 x3 x4 x5 x6 x7 x8
    have HBx := hide ((unhide HB1).trans (unhide HBn))
    go_wp2_with (at_builtin; refine wpList_append_own_at _ rfl _ _ 30 rfl (b + 1) 5 i0 (.int .u8 0) 1 1 Tryd.underlying30 hi hz0 hz1 hz2 rfl (by decide) _ _ _ rfl (unhide HO) ⟨w1.heap.size, 0, none⟩ 1 1 [.int .u8 (92 : Int)] rfl rfl (cells_one _ _ _) (by simp [Value.oneCell']) (by have := unhide Hn; unfold maxLen; omega) (by have := unhide Hn; omega) (unhide HBs) ?_; intro v' w2 ho hg2 _ _; obtain ⟨a4, c4, rfl⟩ := own_form ho; obtain ⟨h1, h2, h3, h4⟩ := Sr.push (unhide HSa) (unhide HSk) (unhide HO) (unhide HO2) hg2 ho (unhide Hc); have HS9 := hide h1; have HB9 := hide h2; clear ho hg2 h1 h2)
    go_end0
    refine ⟨rfl, ?_, (unhide HBx).trans (unhide HB9)⟩
    rw [← unhide HP s1 (by rw [← unhide Hs1]; congr 1; unfold ctl; simp)]
    exact unhide HS9
  · have f1 : decide ((c : Int) < 32) = false := by simp; omega
    have f2 : ((c : Int) == 127) = false := by simp; omega
    have f3 : ((c : Int) == 34) = false := by simp; omega
    have f4 : ((c : Int) == 92) = false := by simp; omega
    have G := hide (And.intro g1 (And.intro g2 (And.intro g3 g4)))
    clear g1 g2 g3 g4
    go_enter Tryd.func28, Tryd.ntmps28
    obtain ⟨wa, wc, sa, sc, x0, x1, x2, x3, x4, x5, x6, x7, x8⟩ := (unhide HS).cells
    have z1 := x5 1
    have hbn : Below w.heap.size w (w.alloc (.cells #[.int .u8 (c : Int)] 5)) := (Below.refl _ _).alloc (Nat.le_refl _) _
    have HSa := hide ((unhide HS).up hbn)
    have HO := hide (own_up x6 hbn)
    have HO2 := hide (own_up x7 hbn)
    have HSk := hide ((hbn.block b (Array.getElem?_eq_some_iff.1 x8).1).trans x8)
    have HBs := hide (show b + 1 ≤ (w.alloc (.cells #[.int .u8 (c : Int)] 5)).heap.size by rw [World.size_alloc]; have := (Array.getElem?_eq_some_iff.1 x8).1; omega)
    have HBn := hide (Below.mono hbn (show b ≤ w.heap.size by have := (Array.getElem?_eq_some_iff.1 x8).1; omega))
    have y1 : (w.alloc (.cells #[.int .u8 (c : Int)] 5)).cell? ⟨b, 1, none⟩ = some (.slice wa (s).word.length wc) := cell_of_row _ _ _ _ _ _ (unhide HSk)
    clear hbn x2 x3 x4 x5 x6 x7 x8
    go_wp2_with (at_builtin; refine wpList_append_own_at _ rfl _ _ 30 rfl (b + 1) 5 i0 (.int .u8 0) 1 1 Tryd.underlying30 hi hz0 hz1 hz2 rfl (by decide) _ _ _ rfl (unhide HO) ⟨w.heap.size, 0, none⟩ 1 1 [.int .u8 (c : Int)] rfl rfl (cells_one _ _ _) (by simp [Value.oneCell']) (by have := unhide Hn; unfold maxLen; omega) (by have := unhide Hn; omega) (unhide HBs) ?_; intro v' w2 ho hg2 _ _; obtain ⟨a4, c4, rfl⟩ := own_form ho; obtain ⟨h1, h2, h3, h4⟩ := Sr.push (unhide HSa) (unhide HSk) (unhide HO) (unhide HO2) hg2 ho (unhide Hc); have HS9 := hide h1; have HB9 := hide h2; clear ho hg2 h1 h2)
    go_end0
    refine ⟨rfl, ?_, (unhide HBn).trans (unhide HB9)⟩
    rw [← unhide HP s (by
      obtain ⟨g1, g2, g3, g4⟩ := unhide G
      have e : (ctl c || c == 34 || c == 92) = false := by unfold ctl; simp [g2, g3, g4]; omega
      rw [e, Bool.or_false])]
    exact unhide HS9
theorem sr_cells {b : Nat} {s : RS} {w : World} {v1 v2 : Value} (h : w.heap[b]? = some (.cells (srA s v1 v2) 43 (0, 0))) : w.cell? ⟨b, 0, none⟩ = some (.int .i64 (s.inn : Int)) ∧ w.cell? ⟨b, 1, none⟩ = some v1 ∧ w.cell? ⟨b, 2, none⟩ = some v2 ∧ w.cell? ⟨b, 3, none⟩ = some (.int .i64 s.dig) ∧ w.cell? ⟨b, 4, none⟩ = some (.bool s.bad) := ⟨cell_of_row _ _ _ _ _ _ h, cell_of_row _ _ _ _ _ _ h, cell_of_row _ _ _ _ _ _ h, cell_of_row _ _ _ _ _ _ h, cell_of_row _ _ _ _ _ _ h⟩
set_option maxRecDepth 100000 in
set_option maxHeartbeats 2000000 in
theorem zends_any {b : Nat} {s : RS} {w : World} (h : Sr b s w) (hn : s.words.length ≤ 100000) : Calls Tryd.prog 17 #[.pointer (some ⟨b, 0, none⟩)] w (SrQ b (endsR s) w) := by
  obtain ⟨i0, hi, hz0, hz1, hz2⟩ := info_parts infoS
  have Hn := hide hn
  have hby := h.by0
  have HBy := hide hby
  have hdr : Below w.heap.size w w.drew := below_drewN (Below.refl _ _) 1
  have hS := h.up hdr
  have HB0 := hide (Below.mono hdr (show b ≤ w.heap.size by have := h.lt; omega))
  clear h hn hby hdr
  go_enter Tryd.func17, Tryd.ntmps17
  go_upto_region 0 with fail
  refine wp_region_any (by kernel_rfl) ?_
  try (change wpAny _ _ _ _ _ _ _ (World.drew _))
  obtain ⟨wd, hwd⟩ : ∃ x, w.drew = x := ⟨_, rfl⟩
  rw [hwd] at hS HB0 ⊢
  clear hwd
  obtain ⟨wa, wc, sa, sc, -, -, -, -, -, -, x6, x7, x8⟩ := hS.cells
  refine wpAny_of_Z (z := 14) (T := fun w' => w'.heap[b]? = some (.cells (srA s (.slice wa s.word.length wc) (.slice sa s.words.length sc)) 43 (0, 0)) ∧ Bytes (b + 1) w' (.slice wa s.word.length wc) s.word) _ _ _ _ ?_
  have hT : (fun w' : World => w'.heap[b]? = some (.cells (srA s (.slice wa s.word.length wc) (.slice sa s.words.length sc)) 43 (0, 0)) ∧ Bytes (b + 1) w' (.slice wa s.word.length wc) s.word) wd := ⟨x8, x6⟩
  refine wpAnyZ_tk 0 (.pointer (some ⟨b, 0, none⟩)) 2 rfl rfl (Or.inl ⟨by rfl, fun w' hw => by obtain ⟨tg, tb⟩ := hw; obtain ⟨t0, t1, t2, t3, t4⟩ := sr_cells tg; have hcv := conv_any tb.has (unhide HBy); go_simp⟩) hT ?_
  simp only [Act.put, List.setIfInBounds_toArray, List.set_cons_zero, List.set_cons_succ]
  refine wpAnyZ_tk 1 (.pointer (some ⟨b, 0, none⟩)) 3 rfl rfl (Or.inl ⟨by rfl, fun w' hw => by obtain ⟨tg, tb⟩ := hw; obtain ⟨t0, t1, t2, t3, t4⟩ := sr_cells tg; have hcv := conv_any tb.has (unhide HBy); go_simp⟩) hT ?_
  simp only [Act.put, List.setIfInBounds_toArray, List.set_cons_zero, List.set_cons_succ]
  refine wpAnyZ_tk 2 (.pointer (some ⟨b, 0, none⟩)) 4 rfl rfl (Or.inl ⟨by rfl, fun w' hw => by obtain ⟨tg, tb⟩ := hw; obtain ⟨t0, t1, t2, t3, t4⟩ := sr_cells tg; have hcv := conv_any tb.has (unhide HBy); go_simp⟩) hT ?_
  simp only [Act.put, List.setIfInBounds_toArray, List.set_cons_zero, List.set_cons_succ]
  refine wpAnyZ_tk 3 (.pointer (some ⟨b, 2, none⟩)) 5 rfl rfl (Or.inl ⟨by rfl, fun w' hw => by obtain ⟨tg, tb⟩ := hw; obtain ⟨t0, t1, t2, t3, t4⟩ := sr_cells tg; have hcv := conv_any tb.has (unhide HBy); go_simp⟩) hT ?_
  simp only [Act.put, List.setIfInBounds_toArray, List.set_cons_zero, List.set_cons_succ]
  refine wpAnyZ_tk 4 (.slice sa s.words.length sc) 6 rfl rfl (Or.inl ⟨by rfl, fun w' hw => by obtain ⟨tg, tb⟩ := hw; obtain ⟨t0, t1, t2, t3, t4⟩ := sr_cells tg; have hcv := conv_any tb.has (unhide HBy); go_simp⟩) hT ?_
  simp only [Act.put, List.setIfInBounds_toArray, List.set_cons_zero, List.set_cons_succ]
  refine wpAnyZ_tk 5 (.pointer (some ⟨b, 0, none⟩)) 7 rfl rfl (Or.inl ⟨by rfl, fun w' hw => by obtain ⟨tg, tb⟩ := hw; obtain ⟨t0, t1, t2, t3, t4⟩ := sr_cells tg; have hcv := conv_any tb.has (unhide HBy); go_simp⟩) hT ?_
  simp only [Act.put, List.setIfInBounds_toArray, List.set_cons_zero, List.set_cons_succ]
  refine wpAnyZ_tk 6 (.pointer (some ⟨b, 0, none⟩)) 8 rfl rfl (Or.inl ⟨by rfl, fun w' hw => by obtain ⟨tg, tb⟩ := hw; obtain ⟨t0, t1, t2, t3, t4⟩ := sr_cells tg; have hcv := conv_any tb.has (unhide HBy); go_simp⟩) hT ?_
  simp only [Act.put, List.setIfInBounds_toArray, List.set_cons_zero, List.set_cons_succ]
  refine wpAnyZ_tk 7 (.pointer (some ⟨b, 1, none⟩)) 9 rfl rfl (Or.inl ⟨by rfl, fun w' hw => by obtain ⟨tg, tb⟩ := hw; obtain ⟨t0, t1, t2, t3, t4⟩ := sr_cells tg; have hcv := conv_any tb.has (unhide HBy); go_simp⟩) hT ?_
  simp only [Act.put, List.setIfInBounds_toArray, List.set_cons_zero, List.set_cons_succ]
  refine wpAnyZ_tk 8 (.slice wa s.word.length wc) 10 rfl rfl (Or.inl ⟨by rfl, fun w' hw => by obtain ⟨tg, tb⟩ := hw; obtain ⟨t0, t1, t2, t3, t4⟩ := sr_cells tg; have hcv := conv_any tb.has (unhide HBy); go_simp⟩) hT ?_
  simp only [Act.put, List.setIfInBounds_toArray, List.set_cons_zero, List.set_cons_succ]
  refine wpAnyZ_tk 9 (.string (ofN s.word)) 11 rfl rfl (Or.inl ⟨by rfl, fun w' hw => by obtain ⟨tg, tb⟩ := hw; obtain ⟨t0, t1, t2, t3, t4⟩ := sr_cells tg; have hcv := conv_any tb.has (unhide HBy); go_simp⟩) hT ?_
  simp only [Act.put, List.setIfInBounds_toArray, List.set_cons_zero, List.set_cons_succ]
  obtain ⟨wy, hwy⟩ : ∃ x, wd.alloc (.cells #[.string (ofN s.word)] 9) = x := ⟨_, rfl⟩
  have hbn : Below wd.heap.size wd wy := by rw [← hwy]; exact (Below.refl _ _).alloc (Nat.le_refl _) _
  have hS2 := hS.up hbn
  have y6 := own_up x6 hbn
  have y7 := own_up x7 hbn
  have hlt := (Array.getElem?_eq_some_iff.1 x8).1
  have y8 := (hbn.block b hlt).trans x8
  have HB1 := hide ((unhide HB0).trans (Below.mono hbn (show b ≤ wd.heap.size by omega)))
  have hnw : ∀ j u, [Value.string (ofN s.word)][j]? = some u → wy.cell? ((⟨wd.heap.size, 0, none⟩ : Addr).add j) = some u := by rw [← hwy]; exact cells_new _ _ _
  have hsy : b + 1 ≤ wy.heap.size := by have := hbn.size; omega
  refine wpAnyZ_one 10 (by kernel_rfl) rfl (fun K hK => ?_)
  go_simp
  refine hK _ _ ⟨fun _ => ⟨y8, y6⟩, ?_⟩
  clear hK K hwy hbn hS x6 x7 x8 hT
  refine wpAnyZ_one 11 (by kernel_rfl) rfl (fun K hK => ?_)
  refine step_app_own 13 rfl rfl (.tmp 6) (.tmp 12) 22 rfl (b + 1) 9 i0 (.string ByteArray.empty) 1 16 Tryd.underlying22 hi hz0 hz1 hz2 rfl (by decide) (.slice sa s.words.length sc) s.words.length _ (by first | rfl | simp [Act.eval]) y7 ⟨wd.heap.size, 0, none⟩ 1 1 [.string (ofN s.word)] (by first | rfl | simp [Act.eval]) rfl hnw (by simp [Value.oneCell']) (by have := unhide Hn; unfold maxLen; omega) (by have := unhide Hn; omega) hsy ?_
  intro v' w2 ho hg _
  obtain ⟨a4, c4, rfl⟩ := own_form ho
  obtain ⟨q1, q2, q3, q4⟩ := Sr.ends hS2 y8 y6 y7 hg ho
  have hk2 : w2.heap[b]? = some (.cells (srA s (.slice wa s.word.length wc) (.slice sa s.words.length sc)) 43 (0, 0)) := (hg.block b (by omega) (fun e => by have := (y7.lt b e.symm).1; omega)).trans y8
  have hb2 : Bytes (b + 1) w2 (.slice wa s.word.length wc) s.word := World.ownsRow.kept y6 hg (own_two y7 y6 (by decide))
  refine hK _ _ ⟨fun _ => ⟨hk2, hb2⟩, ?_⟩
  clear hK K
  simp only [Act.put, List.setIfInBounds_toArray, List.set_cons_zero, List.set_cons_succ]
  refine wpAnyZ_one 12 (by kernel_rfl) rfl (fun K hK => ?_)
  go_simp
  refine hK _ _ ⟨fun _ => ⟨hk2, hb2⟩, ?_⟩
  clear hK K
  refine wpAnyZ_one 13 (by kernel_rfl) rfl (fun K hK => ?_)
  go_simp
  refine hK _ _ ⟨fun _ => ⟨hk2, hb2⟩, ?_⟩
  clear hK K
  refine wpAnyZ_one 14 (by kernel_rfl) rfl (fun K hK => ?_)
  go_simp
  refine hK _ _ ⟨fun q => absurd rfl q, ?_⟩
  clear hK K
  refine wpAnyZ_done (by kernel_rfl) ?_
  have HS3 := hide q1
  have HB3 := hide ((unhide HB1).trans q2)
  clear q1 q2 q3 q4 hS2 y6 y7 y8 hnw hk2 hb2 ho hg hsy hlt
  obtain ⟨w3, hw3⟩ : ∃ x, w2.setCell ⟨b, 2, none⟩ (.slice a4 (s.words.length + 1) c4) = x := ⟨_, rfl⟩
  rw [hw3] at HS3 HB3 ⊢
  clear hw3
  obtain ⟨r1, r2⟩ := (unhide HS3).fresh
  have z1 : w3.frozen? ⟨b, 1, none⟩ = false := by
    obtain ⟨_, _, k0, _⟩ := (unhide HS3).blk
    simp [World.frozen?, k0]
  have x1 : ∃ v, w3.cell? ⟨b, 1, none⟩ = some v := by
    obtain ⟨_, _, k0, _⟩ := (unhide HS3).blk
    exact ⟨_, (sr_cells k0).2.1⟩
  obtain ⟨v1, x1⟩ := x1
  have HS4 := hide r1
  have HB4 := hide ((unhide HB3).trans r2)
  clear r1 r2
  go_wp2
  go_end0
  exact ⟨rfl, unhide HS4, unhide HB4⟩
end Go.Proofs.YtadmamfekodkaaaDoor
