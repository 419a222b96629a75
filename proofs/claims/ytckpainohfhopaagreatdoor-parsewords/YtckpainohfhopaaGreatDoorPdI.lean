import Derived.Test.YtckpainohfhopaaGreatDoorJ46

namespace Go.Proofs.YtckpainohfhopaaGreatDoor
open Go.RowKit
attribute [local go_sem ↓] Go.wp_at_zero Go.wp_at_succ

theorem alloc6 (w : World) (a b c d e f : Obj) : Below w.heap.size w ((((((w.alloc a).alloc b).alloc c).alloc d).alloc e).alloc f) ∧ ((((((w.alloc a).alloc b).alloc c).alloc d).alloc e).alloc f).heap.size = w.heap.size + 6 ∧
    (((((w.alloc a).alloc b).alloc c).alloc d).alloc e |>.alloc f).heap[w.heap.size]? = some a ∧ (((((w.alloc a).alloc b).alloc c).alloc d).alloc e |>.alloc f).heap[w.heap.size + 1]? = some b ∧ (((((w.alloc a).alloc b).alloc c).alloc d).alloc e |>.alloc f).heap[w.heap.size + 1 + 1]? = some c ∧ (((((w.alloc a).alloc b).alloc c).alloc d).alloc e |>.alloc f).heap[w.heap.size + 1 + 1 + 1]? = some d ∧ (((((w.alloc a).alloc b).alloc c).alloc d).alloc e |>.alloc f).heap[w.heap.size + 1 + 1 + 1 + 1]? = some e ∧ (((((w.alloc a).alloc b).alloc c).alloc d).alloc e |>.alloc f).heap[w.heap.size + 1 + 1 + 1 + 1 + 1]? = some f := by
  have hs : ∀ (x : World) (o : Obj), (x.alloc o).heap.size = x.heap.size + 1 := fun x o => World.size_alloc _ _
  have hn : ∀ (x : World) (o : Obj) (k : Nat), k = x.heap.size → (x.alloc o).heap[k]? = some o := fun x o k h => by rw [h]; exact heap_new x o
  have ho : ∀ (x : World) (o : Obj) (k : Nat), k < x.heap.size → (x.alloc o).heap[k]? = x.heap[k]? := fun x o k h => Below.heap_alloc x o k h
  refine ⟨⟨rfl, rfl, rfl, ?_, fun k hk => ?_⟩, ?_, ?_, ?_, ?_, ?_, ?_, ?_⟩
  · simp only [hs]; omega
  · rw [ho _ _ _ (by simp only [hs]; omega), ho _ _ _ (by simp only [hs]; omega), ho _ _ _ (by simp only [hs]; omega), ho _ _ _ (by simp only [hs]; omega), ho _ _ _ (by simp only [hs]; omega), ho _ _ _ hk]
  · simp only [hs]
  · rw [ho _ _ _ (by simp only [hs]; omega), ho _ _ _ (by simp only [hs]; omega), ho _ _ _ (by simp only [hs]; omega), ho _ _ _ (by simp only [hs]; omega), ho _ _ _ (by simp only [hs]; omega), hn _ _ _ rfl]
  · rw [ho _ _ _ (by simp only [hs]; omega), ho _ _ _ (by simp only [hs]; omega), ho _ _ _ (by simp only [hs]; omega), ho _ _ _ (by simp only [hs]; omega), hn _ _ _ (by simp only [hs])]
  · rw [ho _ _ _ (by simp only [hs]; omega), ho _ _ _ (by simp only [hs]; omega), ho _ _ _ (by simp only [hs]; omega), hn _ _ _ (by simp only [hs])]
  · rw [ho _ _ _ (by simp only [hs]; omega), ho _ _ _ (by simp only [hs]; omega), hn _ _ _ (by simp only [hs])]
  · rw [ho _ _ _ (by simp only [hs]; omega), hn _ _ _ (by simp only [hs])]
  · rw [hn _ _ _ (by simp only [hs])]
theorem row_one {w : World} {g t sz : Nat} {cs : Array Value} (h : w.heap[g]? = some (.cells cs t (0, 0))) (hz : cs.size = 1 * sz) : RowR (fun _ => True) w t sz (.slice (some ⟨g, 0, none⟩) 1 1) 1 cs.toList :=
  ⟨⟨by rw [Array.length_toList]; exact hz, .inr ⟨g, 1, cs, rfl, Nat.zero_le _, h, Nat.le_refl _, by decide, hz, by rw [← hz, ← Array.length_toList, List.take_length]⟩⟩, fun _ _ => trivial⟩
theorem kn_want {A : World} {g1 g2 g3 : Nat} (h2 : A.heap[g1]? = some (.cells #[.string ⟨#[120, 46, 112, 114, 111, 116, 111]⟩] 9 (0, 0))) (h3 : A.heap[g2]? = some (.cells #[.int .i64 1, .string ⟨#[]⟩, .string ⟨#[105, 110, 116, 51, 50]⟩, .string ⟨#[97]⟩, .int .i64 1, .int .i64 0] 45 (0, 0)))
    (h4 : A.heap[g3]? = some (.cells #[.string ⟨#[77]⟩, .slice (some ⟨g2, 0, none⟩) 1 1, .slice none 0 0, .slice none 0 0, .slice none 0 0, .slice none 0 0, .slice none 0 0] 49 (0, 0))) :
    NF knF (.agg #[.string ⟨#[97, 46, 98]⟩, .slice (some ⟨g1, 0, none⟩) 1 1, .slice (some ⟨g3, 0, none⟩) 1 1, .slice none 0 0]) (fun _ => True) A := by
  have hn : ∀ t sz, RowR (fun _ => True) A t sz (.slice none 0 0) 0 [] := fun t sz => ⟨⟨by simp, .inl ⟨rfl, rfl⟩⟩, fun g h => by cases h⟩
  exact ⟨_, _, _, _, [], rfl, row_one h2 rfl, row_one h4 rfl, .cons (row_one h3 rfl) (hn _ _) (hn _ _) .nil (hn _ _) .nil (hn _ _) (hn _ _) .nil, hn _ _, .nil⟩
set_option maxRecDepth 100000 in
set_option maxHeartbeats 4000000 in
theorem known_any {W : World} (hF : HasF W) (hE : HasE W) (hM : HasM W) : Calls Tryz.prog 7 #[] W (SameP W) := by
  have HF := hide hF
  have HE := hide hE
  have HM := hide hM
  clear hF hE hM
  go_enter Tryz.func7, Tryz.ntmps7
  go_wp2_with fail
  refine (parse_any (unhide HF) (unhide HE) (unhide HM) kn1).mono ?_
  intro e w1 hr
  obtain ⟨ia, il, ic, ma, ml, mc, ea, el, ec, rfl, hn, hb1⟩ := rdp_form hr
  rw [kn1_fl] at hn
  rw [kn1_fl, kn1_er, kn1_sp]
  have HN := hide hn
  have HB1 := hide hb1
  clear hr hn hb1
  go_wp2_with fail
  obtain ⟨hA, hs, q0, q1, q2, q3, q4, q5⟩ := alloc6 w1 (.cells #[.string knF.pkg, .slice ia il ic, .slice ma ml mc, .slice ea el ec] 27) (.cells #[.int .i64 0, .int .i64 0, .int .i64 0, .string ⟨#[]⟩] 30) (.cells #[.string ⟨#[120, 46, 112, 114, 111, 116, 111]⟩] 9) (.cells #[.int .i64 1, .string ⟨#[]⟩, .string ⟨#[105, 110, 116, 51, 50]⟩, .string ⟨#[97]⟩, .int .i64 1, .int .i64 0] 45)
    (.cells #[.string ⟨#[77]⟩, .slice (some ⟨w1.heap.size + 1 + 1 + 1, 0, none⟩) 1 1, .slice none 0 0, .slice none 0 0, .slice none 0 0, .slice none 0 0, .slice none 0 0] 49) (.cells #[.string ⟨#[97, 46, 98]⟩, .slice (some ⟨w1.heap.size + 1 + 1, 0, none⟩) 1 1, .slice (some ⟨w1.heap.size + 1 + 1 + 1 + 1, 0, none⟩) 1 1, .slice none 0 0] 27)
  have hWA := (unhide HB1).trans (hA.mono (unhide HB1).size)
  refine (parse_any ((unhide HF).up hWA) ((unhide HE).up hWA) ((unhide HM).up hWA (unhide HM).1) kn2).mono ?_
  intro e w2 hr
  obtain ⟨ia', il', ic', ma', ml', mc', ea', el', ec', rfl, -, hb2⟩ := rdp_form hr
  rw [kn2_er, kn2_sp]
  obtain ⟨pk, hpk⟩ : ∃ pk, (flOf (parseF kn2)).pkg = pk := ⟨_, rfl⟩
  rw [hpk]
  have hsz := hb2.size
  rw [hs] at hsz
  have q0' := (hb2.block _ (by rw [hs]; omega)).trans q0
  have q1' := (hb2.block _ (by rw [hs]; omega)).trans q1
  have q5' := (hb2.block _ (by rw [hs]; omega)).trans q5
  have hw2 := hWA.trans (hb2.mono hWA.size)
  have hnf2 := ((unhide HN).up hA).up hb2
  have hwt2 := (kn_want q2 q3 q4).up hb2
  have HN2 := hide hnf2
  have HW2 := hide hwt2
  have HB2 := hide hw2
  have X0 : ∀ o o' j, ((w2.alloc o).alloc o').cell? ⟨w1.heap.size, j, none⟩ = (#[.string knF.pkg, .slice ia il ic, .slice ma ml mc, .slice ea el ec] : Array Value)[j]? := fun o o' j => (World.cell?_alloc_lt _ _ _ (by rw [World.size_alloc]; show w1.heap.size < _; omega)).trans ((World.cell?_alloc_lt _ _ _ (by show w1.heap.size < _; omega)).trans (cell_heap4 q0' j))
  have X1 : ∀ o o' j, ((w2.alloc o).alloc o').cell? ⟨w1.heap.size + 1, j, none⟩ = (#[.int .i64 0, .int .i64 0, .int .i64 0, .string ⟨#[]⟩] : Array Value)[j]? := fun o o' j => (World.cell?_alloc_lt _ _ _ (by rw [World.size_alloc]; show w1.heap.size + 1 < _; omega)).trans ((World.cell?_alloc_lt _ _ _ (by show w1.heap.size + 1 < _; omega)).trans (cell_heap4 q1' j))
  have X5 : ∀ o o' j, ((w2.alloc o).alloc o').cell? ⟨w1.heap.size + 1 + 1 + 1 + 1 + 1, j, none⟩ = (#[.string ⟨#[97, 46, 98]⟩, .slice (some ⟨w1.heap.size + 1 + 1, 0, none⟩) 1 1, .slice (some ⟨w1.heap.size + 1 + 1 + 1 + 1, 0, none⟩) 1 1, .slice none 0 0] : Array Value)[j]? := fun o o' j => (World.cell?_alloc_lt _ _ _ (by rw [World.size_alloc]; show w1.heap.size + 1 + 1 + 1 + 1 + 1 < _; omega)).trans ((World.cell?_alloc_lt _ _ _ (by show w1.heap.size + 1 + 1 + 1 + 1 + 1 < _; omega)).trans (cell_heap4 q5' j))
  have HT0 := hide (twoB_new2 (unhide HB2) #[.string pk, .slice ia' il' ic', .slice ma' ml' mc', .slice ea' el' ec'] #[.int .i64 52, .int .i64 0, .int .i64 19, .string ⟨#[]⟩] 27 30)
  clear hr hb2 hpk q0 q1 q2 q3 q4 q5 q0' q1' q5' hw2 hnf2 hwt2 hsz hs hA hWA HN HB1
  go_wp2_with fail
  have H0 := unhide HT0
  have hbZ := (twoB_new2 (Below.refl w2.heap.size w2) #[.string pk, .slice ia' il' ic', .slice ma' ml' mc', .slice ea' el' ec'] #[.int .i64 52, .int .i64 0, .int .i64 19, .string ⟨#[]⟩] 27 30).bl
  refine (sameFile_any ((unhide HN2).up hbZ) ((unhide HW2).up hbZ)).mono ?_
  rintro e w3 ⟨rfl, hb3⟩
  have HT3 := hide (H0.up hb3)
  have X3 := (unhide HT3).x
  have Y3 := (unhide HT3).y
  clear H0 hbZ hb3 HT0 X0 X1 X5 HN2 HW2 HB2
  go_wp2
  go_ret
  exact ⟨rfl, (unhide HT3).bl⟩
end Go.Proofs.YtckpainohfhopaaGreatDoor
