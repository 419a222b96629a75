import Derived.Test.YtaadpiimcaabkaaGreatDoorYBe
import Derived.Test.YtaadpiimcaabkaaGreatDoorJ38

namespace Go.Proofs.YtaadpiimcaabkaaGreatDoor
open Go.RowKit
attribute [local go_sem ↓] Go.wp_at_zero Go.wp_at_succ

/-- A file's copy. -/
def cutF (F : Fl) : Fl := ⟨F.pkg, F.imps, cutL 200 F.ms, F.es⟩
/-- A file's lists are not too long. -/
structure ReF (F : Fl) : Prop where
  i : F.imps.length * 16 ≤ 140737488355328
  m : F.ms.length * 160 ≤ 140737488355328
  ms : ∀ m ∈ F.ms, ReM 200 m
  e : F.es.length * 88 ≤ 140737488355328
  es : ∀ e ∈ F.es, ReE e
/-- A file whose lists lie in blocks of R. -/
structure FlO (R : Nat → Prop) (w : World) (v : Value) (F : Fl) (vi vm ve : Value) (cm ce : List Value) : Prop where
  is : v = .agg #[.string F.pkg, vi, vm, ve]
  hi : OwR R w 9 1 vi F.imps.length (strC F.imps)
  hm : OwR R w 46 7 vm F.ms.length cm
  hms : MsO R w cm F.ms
  he : OwR R w 67 4 ve F.es.length ce
  hes : EsO R w ce F.es
theorem FlO.mono {R R' : Nat → Prop} {w w' : World} {v vi vm ve : Value} {F : Fl} {cm ce : List Value} (h : FlO R w v F vi vm ve cm ce) (hs : Stays R R' w w') : FlO R' w' v F vi vm ve cm ce := ⟨h.is, h.hi.mono hs, h.hm.mono hs, h.hms.mono hs, h.he.mono hs, h.hes.mono hs⟩
theorem FlO.toL {R : Nat → Prop} {w : World} {v vi vm ve : Value} {F : Fl} {cm ce : List Value} (h : FlO R w v F vi vm ve cm ce) : FlL w v F vi vm ve cm ce := ⟨h.is, h.hi.rl, h.hm.rl, h.hms.toL, h.he.rl, h.hes.toL⟩
/-- What twin comes to. -/
def TwP (w0 : World) (F : Fl) (e : Ending) (w : World) : Prop := ∃ u ui um ue cm' ce', e = .returned u ∧ FlO (fun g => w0.heap.size ≤ g) w u (cutF F) ui um ue cm' ce' ∧ Below w0.heap.size w0 w
set_option maxRecDepth 100000 in
set_option maxHeartbeats 4000000 in
theorem twin_any {W : World} {v vi vm ve : Value} {F : Fl} {cm ce : List Value} (hFl : FlL W v F vi vm ve cm ce) (hr : ReF F) (w0 : World) (hw : Below W.heap.size W w0) :
    Calls Tryz.prog 7 #[v] w0 (TwP w0 F) := by
  obtain ⟨pk, is, ms, es⟩ := F
  obtain ⟨rfl, hi, hm, hms, he, hes⟩ := hFl
  obtain ⟨r1, r2, r3, r4, r5⟩ := hr
  simp only at hi hm hms he hes r1 r2 r3 r4 r5 ⊢
  have HI := hide (fun w' hb => texts_any hi r1 w' hb)
  have HM := hide (fun w' hb => messages_all 200 (Nat.le_refl _) W vm ms cm hm hms r2 r3 w' hb)
  rw [show (200 : Int) - ((200 : Nat) : Int) = 0 from rfl] at HM
  have HE := hide (fun w' hb => enums_any he hes r4 r5 w' hb)
  obtain ⟨ai, ci, rfl, -, -⟩ := hi
  obtain ⟨am, cm', rfl, -, -⟩ := hm
  obtain ⟨ae, ce', rfl, -, -⟩ := he
  have HS := hide (show is.length * 16 ≤ 140737488355328 ∧ ms.length * 160 ≤ 140737488355328 ∧ es.length * 88 ≤ 140737488355328 from ⟨r1, r2, r4⟩)
  obtain ⟨V0, hV0⟩ : ∃ V, w0.alloc (.cells #[.string pk, .slice ai is.length ci, .slice am ms.length cm', .slice ae es.length ce'] 26) = V := ⟨_, rfl⟩
  have k0 := heap_new w0 (.cells #[.string pk, .slice ai is.length ci, .slice am ms.length cm', .slice ae es.length ce'] 26)
  have s0 := World.size_alloc w0 (.cells #[.string pk, .slice ai is.length ci, .slice am ms.length cm', .slice ae es.length ce'] 26)
  have b0 : Below w0.heap.size w0 (w0.alloc (.cells #[.string pk, .slice ai is.length ci, .slice am ms.length cm', .slice ae es.length ce'] 26)) := (Below.refl _ _).alloc (Nat.le_refl _) _
  rw [hV0] at k0 s0 b0
  obtain ⟨V, hV⟩ : ∃ V', V0.alloc (.cells #[.string ⟨#[]⟩, .slice none 0 0, .slice none 0 0, .slice none 0 0] 26) = V' := ⟨_, rfl⟩
  have k1 := heap_new V0 (.cells #[.string ⟨#[]⟩, .slice none 0 0, .slice none 0 0, .slice none 0 0] 26)
  have s1 := World.size_alloc V0 (.cells #[.string ⟨#[]⟩, .slice none 0 0, .slice none 0 0, .slice none 0 0] 26)
  have b1 : Below V0.heap.size V0 (V0.alloc (.cells #[.string ⟨#[]⟩, .slice none 0 0, .slice none 0 0, .slice none 0 0] 26)) := (Below.refl _ _).alloc (Nat.le_refl _) _
  rw [hV] at k1 s1 b1
  have hb0 : Below w0.heap.size w0 V := b0.trans (b1.mono b0.size)
  have hbx : V.heap[w0.heap.size]? = some (.cells #[.string pk, .slice ai is.length ci, .slice am ms.length cm', .slice ae es.length ce'] 26 (0, 0)) := (b1.block _ (by omega)).trans k0
  have hbk : V.heap[V0.heap.size]? = some (.cells #[.string ⟨#[]⟩, .slice none 0 0, .slice none 0 0, .slice none 0 0] 26 (0, 0)) := k1
  have hbW : Below W.heap.size W V := hw.trans (hb0.mono hw.size)
  have hsV : w0.heap.size < V0.heap.size ∧ V0.heap.size < V.heap.size := by omega
  have HXs : Hid (∀ w' : World, (Below w0.heap.size w0 w' ∧ w'.heap[w0.heap.size]? = some (.cells #[.string pk, .slice ai is.length ci, .slice am ms.length cm', .slice ae es.length ce'] 26 (0, 0))) → w'.cell? ⟨w0.heap.size, 0, none⟩ = some (.string pk) ∧ w'.cell? ⟨w0.heap.size, 1, none⟩ = some (.slice ai is.length ci) ∧ w'.cell? ⟨w0.heap.size, 2, none⟩ = some (.slice am ms.length cm') ∧ w'.cell? ⟨w0.heap.size, 3, none⟩ = some (.slice ae es.length ce')) := fun w' hw => en_of hw.2
  have HV := hide (And.intro hb0 (And.intro hbx (And.intro hbk (And.intro hbW hsV))))
  have e0 := hV0
  have e1 := hV
  clear hw hms hes r1 r2 r3 r4 r5 k0 s0 b0 k1 s1 b1 hb0 hbx hbk hbW hsV hV0 hV
  go_enter Tryz.func7, Tryz.ntmps7
  go_wp2_with fail
  obtain ⟨hb0, hbx, hbk, hbW, hsV⟩ := unhide HV
  refine wp_region_any (by kernel_rfl) (wpAny_of_Z (z := 99) (T := fun w' => Below w0.heap.size w0 w' ∧ w'.heap[w0.heap.size]? = some (.cells #[.string pk, .slice ai is.length ci, .slice am ms.length cm', .slice ae es.length ce'] 26 (0, 0))) _ _ _ _ ?_)
  try (change wpAnyZ _ _ _ _ _ _ _ _ _ (World.drew _))
  have hbW : Below W.heap.size W V.drew := below_drewN hbW 1
  have hb0 : Below w0.heap.size w0 V.drew := below_drewN hb0 1
  have hbV : Below V.heap.size V V.drew := below_drewN (Below.refl V.heap.size V) 1
  have hbx : V.drew.heap[w0.heap.size]? = some (.cells #[.string pk, .slice ai is.length ci, .slice am ms.length cm', .slice ae es.length ce'] 26 (0, 0)) := hbx
  have hbk : V.drew.heap[V0.heap.size]? = some (.cells #[.string ⟨#[]⟩, .slice none 0 0, .slice none 0 0, .slice none 0 0] 26 (0, 0)) := hbk
  obtain ⟨wd, hwd⟩ : ∃ x, V.drew = x := ⟨_, rfl⟩
  rw [hwd] at hbW hb0 hbV hbx hbk ⊢
  have hT : Below w0.heap.size w0 wd ∧ wd.heap[w0.heap.size]? = some (.cells #[.string pk, .slice ai is.length ci, .slice am ms.length cm', .slice ae es.length ce'] 26 (0, 0)) := ⟨hb0, hbx⟩
  refine wpAnyZ_tk 0 (.pointer (some ⟨w0.heap.size, 0, none⟩)) 3 rfl rfl (Or.inl ⟨by rfl, fun w' hw => by obtain ⟨x0, x1, x2, x3⟩ := unhide HXs w' hw; go_simp⟩) hT ?_
  simp only [Act.put, List.setIfInBounds_toArray, List.set_cons_zero, List.set_cons_succ]
  refine wpAnyZ_tk 1 (.string pk) 4 rfl rfl (Or.inl ⟨by rfl, fun w' hw => by obtain ⟨x0, x1, x2, x3⟩ := unhide HXs w' hw; go_simp⟩) hT ?_
  simp only [Act.put, List.setIfInBounds_toArray, List.set_cons_zero, List.set_cons_succ]
  refine wpAnyZ_tk 2 (.pointer (some ⟨w0.heap.size, 1, none⟩)) 5 rfl rfl (Or.inl ⟨by rfl, fun w' hw => by obtain ⟨x0, x1, x2, x3⟩ := unhide HXs w' hw; go_simp⟩) hT ?_
  simp only [Act.put, List.setIfInBounds_toArray, List.set_cons_zero, List.set_cons_succ]
  refine wpAnyZ_tk 3 (.slice ai is.length ci) 6 rfl rfl (Or.inl ⟨by rfl, fun w' hw => by obtain ⟨x0, x1, x2, x3⟩ := unhide HXs w' hw; go_simp⟩) hT ?_
  simp only [Act.put, List.setIfInBounds_toArray, List.set_cons_zero, List.set_cons_succ]
  refine wpAnyZ_tk 5 (.pointer (some ⟨w0.heap.size, 2, none⟩)) 8 rfl rfl (Or.inl ⟨by rfl, fun w' hw => by obtain ⟨x0, x1, x2, x3⟩ := unhide HXs w' hw; go_simp⟩) hT ?_
  simp only [Act.put, List.setIfInBounds_toArray, List.set_cons_zero, List.set_cons_succ]
  refine wpAnyZ_tk 6 (.slice am ms.length cm') 9 rfl rfl (Or.inl ⟨by rfl, fun w' hw => by obtain ⟨x0, x1, x2, x3⟩ := unhide HXs w' hw; go_simp⟩) hT ?_
  simp only [Act.put, List.setIfInBounds_toArray, List.set_cons_zero, List.set_cons_succ]
  refine wpAnyZ_tk 8 (.pointer (some ⟨w0.heap.size, 3, none⟩)) 11 rfl rfl (Or.inl ⟨by rfl, fun w' hw => by obtain ⟨x0, x1, x2, x3⟩ := unhide HXs w' hw; go_simp⟩) hT ?_
  simp only [Act.put, List.setIfInBounds_toArray, List.set_cons_zero, List.set_cons_succ]
  refine wpAnyZ_tk 9 (.slice ae es.length ce') 12 rfl rfl (Or.inl ⟨by rfl, fun w' hw => by obtain ⟨x0, x1, x2, x3⟩ := unhide HXs w' hw; go_simp⟩) hT ?_
  simp only [Act.put, List.setIfInBounds_toArray, List.set_cons_zero, List.set_cons_succ]
  clear hT
  refine wpAnyZ_one 4 (by kernel_rfl) rfl (fun K hK => ?_)
  refine step_callD 7 rfl rfl 16 (fun vs => by kernel_rfl) #[.tmp 6] #[22] rfl #[.slice ai is.length ci] (by first | rfl | simp [Act.eval]) (unhide HI wd hbW) ?_
  rintro e' wc1 ⟨u1, rfl, ho1, hbn⟩
  obtain ⟨ua1, uc1, rfl⟩ := own_form ho1
  have ho1 := (own_owR ho1 (by have := (unhide HS).1; omega)).mono (R' := fun g => V.heap.size ≤ g) (fun g hg _ => ⟨rfl, Nat.le_trans hbV.size hg⟩)
  have hbV := hbV.trans (hbn.mono hbV.size)
  have hbW := hbW.trans (hbn.mono hbW.size)
  have hb0 := hb0.trans (hbn.mono hb0.size)
  have hbx := (hbn.block _ (Array.getElem?_eq_some_iff.1 hbx).1).trans hbx
  have hbk := (hbn.block _ (Array.getElem?_eq_some_iff.1 hbk).1).trans hbk
  refine ⟨_, rfl, hK _ _ ⟨fun _ => ⟨hb0, hbx⟩, ?_⟩⟩
  clear hK K hbn
  simp only [Act.put, List.setIfInBounds_toArray, List.set_cons_zero, List.set_cons_succ]
  refine wpAnyZ_one 7 (by kernel_rfl) rfl (fun K hK => ?_)
  refine step_callD 10 rfl rfl 17 (fun vs => by kernel_rfl) #[.tmp 9, .const (.int .i64 0)] #[23, 3] rfl #[.slice am ms.length cm', .int .i64 0] (by first | rfl | simp [Act.eval]) (unhide HM wc1 hbW) ?_
  rintro e' wc2 ⟨u2, cs2, rfl, ho2, hs2, hbn⟩
  have ho1 := ho1.mono (stays_below hbn)
  obtain ⟨ua2, uc2, rfl⟩ := own_form ho2
  have ho2 := (own_owR ho2 (by have := (unhide HS).2.1; have := cutL_len (f := 200) (l := ms); omega)).mono (R' := fun g => V.heap.size ≤ g) (fun g hg _ => ⟨rfl, Nat.le_trans hbV.size hg⟩)
  have hs2 := hs2.mono (R' := fun g => V.heap.size ≤ g) (fun g hg _ => ⟨rfl, Nat.le_trans hbV.size hg.1⟩)
  have hbV := hbV.trans (hbn.mono hbV.size)
  have hbW := hbW.trans (hbn.mono hbW.size)
  have hb0 := hb0.trans (hbn.mono hb0.size)
  have hbx := (hbn.block _ (Array.getElem?_eq_some_iff.1 hbx).1).trans hbx
  have hbk := (hbn.block _ (Array.getElem?_eq_some_iff.1 hbk).1).trans hbk
  refine ⟨_, rfl, hK _ _ ⟨fun _ => ⟨hb0, hbx⟩, ?_⟩⟩
  clear hK K hbn
  simp only [Act.put, List.setIfInBounds_toArray, List.set_cons_zero, List.set_cons_succ]
  refine wpAnyZ_one 10 (by kernel_rfl) rfl (fun K hK => ?_)
  refine step_callD 13 rfl rfl 18 (fun vs => by kernel_rfl) #[.tmp 12] #[24] rfl #[.slice ae es.length ce'] (by first | rfl | simp [Act.eval]) (unhide HE wc2 hbW) ?_
  rintro e' wc3 ⟨u3, cs3, rfl, ho3, hs3, hbn⟩
  have ho1 := ho1.mono (stays_below hbn)
  have ho2 := ho2.mono (stays_below hbn)
  have hs2 := hs2.mono (stays_below hbn)
  obtain ⟨ua3, uc3, rfl⟩ := own_form ho3
  have ho3 := (own_owR ho3 (by have := (unhide HS).2.2; omega)).mono (R' := fun g => V.heap.size ≤ g) (fun g hg _ => ⟨rfl, Nat.le_trans hbV.size hg⟩)
  have hs3 := hs3.mono (R' := fun g => V.heap.size ≤ g) (fun g hg _ => ⟨rfl, Nat.le_trans hbV.size hg.1⟩)
  have hbV := hbV.trans (hbn.mono hbV.size)
  have hbW := hbW.trans (hbn.mono hbW.size)
  have hb0 := hb0.trans (hbn.mono hb0.size)
  have hbx := (hbn.block _ (Array.getElem?_eq_some_iff.1 hbx).1).trans hbx
  have hbk := (hbn.block _ (Array.getElem?_eq_some_iff.1 hbk).1).trans hbk
  refine ⟨_, rfl, hK _ _ ⟨fun _ => ⟨hb0, hbx⟩, ?_⟩⟩
  clear hK K hbn
  simp only [Act.put, List.setIfInBounds_toArray, List.set_cons_zero, List.set_cons_succ]
  have hT : Below w0.heap.size w0 wc3 ∧ wc3.heap[w0.heap.size]? = some (.cells #[.string pk, .slice ai is.length ci, .slice am ms.length cm', .slice ae es.length ce'] 26 (0, 0)) := ⟨hb0, hbx⟩
  refine wpAnyZ_tk 11 (.agg #[.string pk, .slice ua1 is.length uc1, .slice ua2 (cutL 200 ms).length uc2, .slice ua3 es.length uc3]) 14 rfl rfl (Or.inl ⟨by rfl, fun w' hw => by go_simp⟩) hT ?_
  simp only [Act.put, List.setIfInBounds_toArray, List.set_cons_zero, List.set_cons_succ]
  refine wpAnyZ_one 12 (by kernel_rfl) rfl (fun K hK => ?_)
  obtain ⟨c0, c1, c2, c3⟩ := en_of hbk
  have z : ∀ j, wc3.frozen? ⟨V0.heap.size, j, none⟩ = false := fun j => by simp [World.frozen?, hbk]
  have z0 := z 0
  have z1 := z 1
  have z2 := z 2
  have z3 := z 3
  obtain ⟨q0, g0⟩ := set_block (j := 0) hbk (.string pk)
  obtain ⟨q1, g1⟩ := set_block (j := 1) q0 (.slice ua1 is.length uc1)
  obtain ⟨q2, g2⟩ := set_block (j := 2) q1 (.slice ua2 (cutL 200 ms).length uc2)
  obtain ⟨q3, g3⟩ := set_block (j := 3) q2 (.slice ua3 es.length uc3)
  have gg := ((g0.trans g1).trans g2).trans g3
  have st : Stays (fun g => V.heap.size ≤ g) (fun g => w0.heap.size ≤ g) _ _ := (stays_grown gg (fun g (hg : V.heap.size ≤ g) e => by have := Option.some.inj e; omega)).trans (R'' := fun g => w0.heap.size ≤ g) (fun g hg _ => ⟨rfl, by omega⟩) gg.size
  have p1 := ho1.mono st
  have p2 := ho2.mono st
  have p3 := ho3.mono st
  have m2 := hs2.mono st
  have m3 := hs3.mono st
  have hb5 := grown_below hb0 gg hb0.size (fun k e => by obtain rfl := Option.some.inj e; omega)
  have hx5 := (gg.block _ (Array.getElem?_eq_some_iff.1 hbx).1 (by simp; omega)).trans hbx
  go_simp
  refine hK _ _ ⟨fun _ => ⟨hb5, hx5⟩, ?_⟩
  clear hK K
  refine wpAnyZ_done (by kernel_rfl) ?_
  have Q3 := hide q3
  have P := hide (And.intro p1 (And.intro p2 (And.intro m2 (And.intro p3 (And.intro m3 hb5)))))
  clear hT c0 c1 c2 c3 z z0 z1 z2 z3 q0 q1 q2 q3 g0 g1 g2 g3 gg st p1 p2 p3 m2 m3 hb5 hx5 ho1 ho2 ho3 hs2 hs3 hbx hbk hbW hb0 hbV HXs HI HM HE HV
  go_wp2
  obtain ⟨p1, p2, m2, p3, m3, hb5⟩ := unhide P
  refine bodyPost_ret (results_cell_row rfl _ _ V0.heap.size 26 _ (0, 0) _ rfl (unhide Q3) Tryz.underlying26 rfl (by kernel_rfl)) rfl ?_
  exact ⟨_, _, _, _, _, _, rfl, ⟨rfl, p1, p2, m2, p3, m3⟩, hb5⟩
end Go.Proofs.YtaadpiimcaabkaaGreatDoor

namespace Go.Proofs.YtaadpiimcaabkaaGreatDoor
open Go.RowKit
attribute [local go_sem ↓] Go.wp_at_zero Go.wp_at_succ

/-- What says whether something is so. -/
def SmP (W : World) (p : Prop) (e : Ending) (w : World) : Prop := ∃ b : Bool, e = .returned (.bool b) ∧ (b = true ↔ p) ∧ Below W.heap.size W w
theorem smT {W w : World} {p : Prop} (h : p) (hb : Below W.heap.size W w) : SmP W p (.returned (.bool true)) w := ⟨true, rfl, ⟨fun _ => h, fun _ => rfl⟩, hb⟩
theorem smF {W w : World} {p : Prop} (h : ¬ p) (hb : Below W.heap.size W w) : SmP W p (.returned (.bool false)) w := ⟨false, rfl, ⟨fun e => (by cases e), fun e => absurd e h⟩, hb⟩
theorem str_ne {a b : ByteArray} (h : ¬ a = b) : (a.toList == b.toList) = false := by
  rw [beq_eq_false_iff_ne]
  intro e
  rw [toList_data, toList_data] at e
  obtain ⟨a⟩ := a
  obtain ⟨b⟩ := b
  exact h (congrArg ByteArray.mk (Array.toList_inj.1 e))
theorem take_eq_succ {α : Type} {l l' : List α} {i : Nat} {x : α} (h : l.take i = l'.take i) (h1 : l[i]? = some x) (h2 : l'[i]? = some x) : l.take (i + 1) = l'.take (i + 1) := by rw [take_app h1, take_app h2, h]
theorem take_all {α : Type} {l l' : List α} (hl : l.length = l'.length) (h : l.take l.length = l'.take l.length) : l = l' := by
  rw [List.take_length] at h
  rw [h, hl, List.take_length]
theorem at_ne {α : Type} {l l' : List α} {i : Nat} {x y : α} (h1 : l[i]? = some x) (h2 : l'[i]? = some y) (h : ¬ x = y) : ¬ l = l' := by
  rintro rfl
  rw [h1] at h2
  exact h (Option.some.inj h2)
set_option maxRecDepth 100000 in
set_option maxHeartbeats 2000000 in
theorem sameTexts_any {W : World} {v u : Value} {l l' : List ByteArray} (h : Rl W v l.length (strC l)) (h' : Rl W u l'.length (strC l')) (w0 : World) (hw : Below W.heap.size W w0) : Calls Tryz.prog 22 #[v, u] w0 (SmP w0 (l = l')) := by
  obtain ⟨a, c, rfl, hc, h3⟩ := h
  obtain ⟨a', c', rfl, hc', h3'⟩ := h'
  have H3 := hide h3
  have H3' := hide h3'
  have HW := hide hw
  clear h3 h3' hw
  by_cases hll : l.length = l'.length
  · have Hll := hide hll
    have e1 : ((l.length : Int) != (l'.length : Int)) = false := by simp [hll]
    have e2 : ((l.length : Int) == (l'.length : Int)) = true := by simp [hll]
    clear hll
    go_enter Tryz.func22, Tryz.ntmps22
    go_wp2
    go_loopg [5] l.length (fun gk v5 wr => ∃ (i m : Nat), v5 = .int .i64 (i : Int) ∧ gk = l.length - i ∧ i ≤ l.length ∧ Hid (l.take i = l'.take i) ∧ wr = w0.drewN m)
    case atStart => exact ⟨0, 0, rfl, rfl, by omega, rfl, rfl⟩
    case round =>
      obtain ⟨i, m, rfl, hgk, hi, HT, rfl⟩ := hrel
      have Hgk := hide hgk
      clear hgk
      by_cases hlt : i < l.length
      · obtain ⟨t, ht⟩ : ∃ t, l[i]? = some t := ⟨_, List.getElem?_eq_getElem hlt⟩
        obtain ⟨t', ht'⟩ : ∃ t, l'[i]? = some t := ⟨_, List.getElem?_eq_getElem (by have := unhide Hll; omega)⟩
        obtain ⟨g, o, rfl, hg, hx⟩ := unhide H3 (by omega)
        obtain ⟨g', o', rfl, hg', hx'⟩ := unhide H3' (by have := unhide Hll; omega)
        have x1 := ((unhide HW).cell (p := ⟨g, o + i, none⟩) hg).trans (hx _ _ (strC_at ht))
        have y1 := ((unhide HW).cell (p := ⟨g', o' + i, none⟩) hg').trans (hx' _ _ (strC_at ht'))
        have i0 : (0 : Int) ≤ (i : Int) := Int.natCast_nonneg _
        have i1 : (i : Int) < (l.length : Int) := by omega
        have i2 : (i : Int) < (l'.length : Int) := by have := unhide Hll; omega
        by_cases htt : t = t'
        · subst htt
          have HT2 := hide (take_eq_succ (unhide HT) ht ht')
          clear hx hx' ht ht' HT
          go_wp2
          go_quiet (fail)
          go_wp2
          go_roundg (l.length - (i + 1))
          case measure => have := unhide Hgk; omega
          case rel => exact ⟨i + 1, _, by go_num, rfl, by omega, HT2, rfl⟩
        · have HN := hide (at_ne ht ht' htt)
          have n1 := str_ne htt
          clear hx hx' ht ht' HT htt
          go_wp2
          go_quiet (fail)
          go_wp2
          go_ret
          exact smF (unhide HN) (below_drewN (below_drewN (Below.refl _ _) _) _)
      · obtain rfl : i = l.length := by omega
        have HE := hide (take_all (unhide Hll) (unhide HT))
        clear HT
        go_wp2
        go_ret
        exact smT (unhide HE) (below_drewN (Below.refl _ _) _)
  · have HN : Hid (¬ l = l') := fun e => hll (by rw [e])
    have e1 : ((l.length : Int) != (l'.length : Int)) = true := by simp; omega
    have e2 : ((l.length : Int) == (l'.length : Int)) = false := by simp; omega
    have e3 : ¬ (l.length : Int) = (l'.length : Int) := by omega
    clear hll
    go_enter Tryz.func22, Tryz.ntmps22
    go_wp2
    go_ret
    exact smF (unhide HN) (Below.refl _ _)
set_option maxRecDepth 100000 in
set_option maxHeartbeats 2000000 in
theorem sameRanges_any {W : World} {v u : Value} {l l' : List (Int × Int)} (h : Rl W v l.length (rgC l)) (h' : Rl W u l'.length (rgC l')) (w0 : World) (hw : Below W.heap.size W w0) : Calls Tryz.prog 49 #[v, u] w0 (SmP w0 (l = l')) := by
  obtain ⟨a, c, rfl, hc, h3⟩ := h
  obtain ⟨a', c', rfl, hc', h3'⟩ := h'
  have H3 := hide h3
  have H3' := hide h3'
  have HW := hide hw
  clear h3 h3' hw
  by_cases hll : l.length = l'.length
  · have Hll := hide hll
    have e1 : ((l.length : Int) != (l'.length : Int)) = false := by simp [hll]
    have e2 : ((l.length : Int) == (l'.length : Int)) = true := by simp [hll]
    clear hll
    go_enter Tryz.func49, Tryz.ntmps49
    go_wp2
    go_loopg [5] l.length (fun gk v5 wr => ∃ (i m : Nat), v5 = .int .i64 (i : Int) ∧ gk = l.length - i ∧ i ≤ l.length ∧ Hid (l.take i = l'.take i) ∧ wr = w0.drewN m)
    case atStart => exact ⟨0, 0, rfl, rfl, by omega, rfl, rfl⟩
    case round =>
      obtain ⟨i, m, rfl, hgk, hi, HT, rfl⟩ := hrel
      have Hgk := hide hgk
      clear hgk
      by_cases hlt : i < l.length
      · obtain ⟨t, ht⟩ : ∃ t, l[i]? = some t := ⟨_, List.getElem?_eq_getElem hlt⟩
        obtain ⟨t', ht'⟩ : ∃ t, l'[i]? = some t := ⟨_, List.getElem?_eq_getElem (by have := unhide Hll; omega)⟩
        obtain ⟨g, o, rfl, hg, hx⟩ := unhide H3 (by omega)
        obtain ⟨g', o', rfl, hg', hx'⟩ := unhide H3' (by have := unhide Hll; omega)
        have x1 := ((unhide HW).cell (p := ⟨g, o + (i * 2 + 0), none⟩) hg).trans (hx _ _ (rgC_at ht (j := 0) (by decide)))
        have x2 := ((unhide HW).cell (p := ⟨g, o + (i * 2 + 1), none⟩) hg).trans (hx _ _ (rgC_at ht (j := 1) (by decide)))
        have y1 := ((unhide HW).cell (p := ⟨g', o' + (i * 2 + 0), none⟩) hg').trans (hx' _ _ (rgC_at ht' (j := 0) (by decide)))
        have y2 := ((unhide HW).cell (p := ⟨g', o' + (i * 2 + 1), none⟩) hg').trans (hx' _ _ (rgC_at ht' (j := 1) (by decide)))
        rw [Nat.add_zero] at x1 y1
        rw [← Nat.add_assoc] at x2 y2
        obtain ⟨t1, t2⟩ := t
        obtain ⟨r1, r2⟩ := t'
        simp only at x1 x2 y1 y2
        have i0 : (0 : Int) ≤ (i : Int) := Int.natCast_nonneg _
        have i1 : (i : Int) < (l.length : Int) := by omega
        have i2 : (i : Int) < (l'.length : Int) := by have := unhide Hll; omega
        by_cases h1 : t1 = r1
        · by_cases h2 : t2 = r2
          · subst h1 h2
            have HT2 := hide (take_eq_succ (unhide HT) ht ht')
            clear hx hx' ht ht' HT
            go_wp2
            go_quiet (fail)
            go_wp2
            go_roundg (l.length - (i + 1))
            case measure => have := unhide Hgk; omega
            case rel => exact ⟨i + 1, _, by go_num, rfl, by omega, HT2, rfl⟩
          · have HN := hide (at_ne ht ht' (fun e => h2 (congrArg Prod.snd e)))
            have n1 : (t2 == r2) = false := by simpa using h2
            clear hx hx' ht ht' HT
            go_wp2
            go_quiet (fail)
            go_wp2
            go_ret
            exact smF (unhide HN) (below_drewN (below_drewN (Below.refl _ _) _) _)
        · have HN := hide (at_ne ht ht' (fun e => h1 (congrArg Prod.fst e)))
          have n1 : (t1 == r1) = false := by simpa using h1
          clear hx hx' ht ht' HT
          go_wp2
          go_quiet (fail)
          go_wp2
          go_ret
          exact smF (unhide HN) (below_drewN (below_drewN (Below.refl _ _) _) _)
      · obtain rfl : i = l.length := by omega
        have HE := hide (take_all (unhide Hll) (unhide HT))
        clear HT
        go_wp2
        go_ret
        exact smT (unhide HE) (below_drewN (Below.refl _ _) _)
  · have HN : Hid (¬ l = l') := fun e => hll (by rw [e])
    have e1 : ((l.length : Int) != (l'.length : Int)) = true := by simp; omega
    have e2 : ((l.length : Int) == (l'.length : Int)) = false := by simp; omega
    have e3 : ¬ (l.length : Int) = (l'.length : Int) := by omega
    clear hll
    go_enter Tryz.func49, Tryz.ntmps49
    go_wp2
    go_ret
    exact smF (unhide HN) (Below.refl _ _)
end Go.Proofs.YtaadpiimcaabkaaGreatDoor
