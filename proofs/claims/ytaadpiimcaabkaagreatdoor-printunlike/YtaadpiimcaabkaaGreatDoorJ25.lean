import Derived.Test.YtaadpiimcaabkaaGreatDoorJ20
import Derived.Test.YtaadpiimcaabkaaGreatDoorJ23
import Derived.Test.YtaadpiimcaabkaaGreatDoorJ23
import Derived.Test.YtaadpiimcaabkaaGreatDoorYZ

namespace Go.Proofs.YtaadpiimcaabkaaGreatDoor
open Go.RowKit Go.Shelf
attribute [local go_sem ↓] Go.wp_at_zero Go.wp_at_succ

theorem extraJ : Builder.Extra Tryz.prog Tryz.laysNJ156_ren := {
  sizeBuilder := by kernel_rfl
  liesBuilder := by kernel_rfl
  t5 := Tryz.underlying5
  a5 := Tryz.isAgg5
  z5 := Tryz.sizeOf5
  v5 := Tryz.zeroValue5
  infoByte := by kernel_rfl
  cellsByte := by kernel_rfl
  sizeByte := by kernel_rfl
  neB5 := by decide }
def joinB (ts : List ByteArray) : ByteArray := ⟨(Lib.join (ts.map (·.data.toList)) [44, 32]).toArray⟩
/-- Texts in a row of their own, one at least. -/
theorem join_any {w : World} {B : Nat} {u : Value} {ts : List ByteArray} (h : w.ownsRow B 9 1 u ts.length (strC ts)) (h0 : 0 < ts.length) (htl : ts.length ≤ 4096) (hl : (joinB ts).size ≤ 140737488355328) : Calls Tryz.prog 169 #[u, .string ⟨#[44, 32]⟩] w fun e w' => e = .returned (.string (joinB ts)) ∧ Below w.heap.size w w' := by
  obtain ⟨h1, ⟨rfl, h2⟩ | ⟨g, c, cur, rfl, hB, hg, h3, h4, h5, h6⟩⟩ := h
  · omega
  · refine Any.strings_Join Tryz.laysNJ156 extraJ g 0 c ts ⟨#[44, 32]⟩ w (fun j x hx => ?_) (Array.getElem?_eq_some_iff.1 hg).1 (by omega) h3 hl
    rw [Nat.zero_add, cell_of_row _ _ _ _ _ _ hg, ← Array.getElem?_toList]
    have hj := strC_at hx
    rw [← h6, List.getElem?_take] at hj
    split at hj
    · exact hj
    · cases hj
theorem line3 (n : Nat) (a b c : ByteArray) : (lineL n [a, b, c]).length = 2 * n + (a.size + (b.size + c.size)) + 1 := by
  unfold lineL
  rw [List.length_append, List.length_append, List.length_replicate, List.flatMap_cons, List.flatMap_cons, List.flatMap_cons, List.flatMap_nil, List.append_nil, List.length_append, List.length_append, strN_len, strN_len, strN_len]
  rfl
def sResv : ByteArray := ⟨#[114, 101, 115, 101, 114, 118, 101, 100, 32]⟩
def sSemi : ByteArray := ⟨#[59]⟩
/-- A line of what is reserved. -/
def resL (n : Nat) (ts : List ByteArray) : List Nat := if 0 < ts.length then lineL n [sResv, joinB ts, sSemi] else []
set_option maxRecDepth 100000 in
set_option maxHeartbeats 2000000 in
theorem list_any {W w : World} {B bb dd pp : Nat} {L : List Nat} {n C : Nat} {x y u : Value} {ts : List ByteArray} (h : Pn W B bb dd L n w) (hp : w.heap[pp]? = some (.cells #[fLine bb dd, x, y] 89 (0, 0))) (hpb : pp ≠ bb) (hu : w.ownsRow C 9 1 u ts.length (strC ts)) (htl : ts.length ≤ 4096) (hl : L.length + (resL n ts).length ≤ 1099511627776) :
    Calls Tryz.prog 168 #[u, .pointer (some ⟨pp, 0, none⟩)] w (PnQ W B bb dd (L ++ resL n ts) n w) := by
  obtain ⟨au, lu, cu, rfl, hlu⟩ : ∃ a l c, u = .slice a l c ∧ l = ts.length := by
    obtain ⟨h1, ⟨rfl, h2⟩ | ⟨g, c, cur, rfl, hB, hg, h3, h4, h5, h6⟩⟩ := hu
    · exact ⟨none, 0, 0, rfl, h2.symm⟩
    · exact ⟨_, _, _, rfl, rfl⟩
  subst hlu
  by_cases h0 : 0 < ts.length
  · have e0 : decide ((0 : Int) < (ts.length : Int)) = true := decide_eq_true (by omega)
    have hr : resL n ts = lineL n [sResv, joinB ts, sSemi] := by unfold resL; rw [if_pos h0]
    rw [hr] at hl ⊢
    have hjl : (joinB ts).size ≤ 1099511627776 := by
      have e := line3 n sResv (joinB ts) sSemi
      omega
    have HJ := hide (fun w' hb => join_any (own_up hu hb) h0 htl (w := w') (by omega))
    have HP := hide h
    have c0 : w.cell? ⟨pp, 0, none⟩ = some (fLine bb dd) := cell_of_row _ _ _ _ _ _ hp
    unfold fLine at c0 hp
    have HPB := hide hp
    have Hl := hide hl
    have Hpb := hide hpb
    unfold sResv sSemi at Hl ⊢
    obtain ⟨jt, hjt⟩ : ∃ t, joinB ts = t := ⟨_, rfl⟩
    rw [hjt] at HJ Hl ⊢
    clear h hp hu hl hr hjl hpb hjt
    go_enter Tryz.func168, Tryz.ntmps168
    go_upto_region 1 with fail
    have hT : (fun w : World => w.cell? ⟨pp, 0, none⟩ = some (.func (.func 80) #[] #[.pointer (some ⟨bb, 0, none⟩), .pointer (some ⟨dd, 0, none⟩)])) w.drew := c0
    refine wp_region_any (by kernel_rfl) (wpAny_of_Z (z := 99) (T := fun w => w.cell? ⟨pp, 0, none⟩ = some (.func (.func 80) #[] #[.pointer (some ⟨bb, 0, none⟩), .pointer (some ⟨dd, 0, none⟩)])) _ _ _ _ ?_)
    try (change wpAnyZ _ _ _ _ _ _ _ _ _ (World.drew _))
    refine wpAnyZ_tk 0 (.pointer (some ⟨pp, 0, none⟩)) 6 rfl rfl (Or.inl ⟨by rfl, fun w hw => by go_simp⟩) hT ?_
    simp only [Act.put, List.setIfInBounds_toArray, List.set_cons_zero, List.set_cons_succ]
    refine wpAnyZ_tk 1 (.func (.func 80) #[] #[.pointer (some ⟨bb, 0, none⟩), .pointer (some ⟨dd, 0, none⟩)]) 7 rfl rfl (Or.inl ⟨by rfl, fun w hw => by go_simp⟩) hT ?_
    simp only [Act.put, List.setIfInBounds_toArray, List.set_cons_zero, List.set_cons_succ]
    refine wpAnyZ_tk 2 (.slice au ts.length cu) 8 rfl rfl (Or.inl ⟨by rfl, fun w hw => by go_simp⟩) hT ?_
    simp only [Act.put, List.setIfInBounds_toArray, List.set_cons_zero, List.set_cons_succ]
    refine wpAnyZ_one 3 (by kernel_rfl) rfl (fun K hK => ?_)
    refine step_callD 9 rfl rfl 169 (fun vs => by kernel_rfl) #[.tmp 8, .const (.string ⟨#[44, 32]⟩)] #[22, 9] rfl #[.slice au ts.length cu, .string ⟨#[44, 32]⟩] (by first | rfl | simp [Act.eval]) (unhide HJ w.drew (below_drewN (Below.refl _ _) 1)) ?_
    rintro e w1 ⟨rfl, hb1⟩
    have hb1 : Below w.heap.size w w1 := ⟨hb1.os, hb1.tape, hb1.output, hb1.size, hb1.block⟩
    have hp1 := (unhide HP).below hb1
    have hT1 : w1.cell? ⟨pp, 0, none⟩ = some (.func (.func 80) #[] #[.pointer (some ⟨bb, 0, none⟩), .pointer (some ⟨dd, 0, none⟩)]) := cell_of_row _ _ _ _ _ _ (Kp.below hb1 _ _ _ _ (unhide Hpb) (unhide HPB) (by decide))
    refine ⟨_, rfl, hK _ _ ⟨fun _ => hT1, ?_⟩⟩
    clear hK K hT
    simp only [Act.put, List.setIfInBounds_toArray, List.set_cons_zero, List.set_cons_succ]
    have hb2 : Below w1.heap.size w1 (w1.alloc (.cells #[.string ⟨#[114, 101, 115, 101, 114, 118, 101, 100, 32]⟩, .string jt, .string ⟨#[59]⟩] 9)) := (Below.refl _ _).alloc (Nat.le_refl _) _
    have hT2 : (w1.alloc (.cells #[.string ⟨#[114, 101, 115, 101, 114, 118, 101, 100, 32]⟩, .string jt, .string ⟨#[59]⟩] 9)).cell? ⟨pp, 0, none⟩ = some (.func (.func 80) #[] #[.pointer (some ⟨bb, 0, none⟩), .pointer (some ⟨dd, 0, none⟩)]) := cell_of_row _ _ _ _ _ _ ((Kp.below hb1).trans (Kp.below hb2) _ _ _ _ (unhide Hpb) (unhide HPB) (by decide))
    refine wpAnyZ_one 4 (by kernel_rfl) rfl (fun K hK => ?_)
    go_simp
    refine hK _ _ ⟨fun _ => hT2, ?_⟩
    clear hK K
    refine wpAnyZ_one 5 (by kernel_rfl) rfl (fun K hK => ?_)
    refine step_callF 11 7 rfl 80 #[] #[.pointer (some ⟨bb, 0, none⟩), .pointer (some ⟨dd, 0, none⟩)] (fun vs => by kernel_rfl) #[.tmp 10] #[22] rfl (by first | rfl | simp [Act.eval]) #[.slice (some ⟨w1.heap.size, 0, none⟩) 3 3, .pointer (some ⟨bb, 0, none⟩), .pointer (some ⟨dd, 0, none⟩)] (by first | rfl | simp [Act.eval]) (line_any (hp1.below hb2) (pt_new (ps := [⟨#[114, 101, 115, 101, 114, 118, 101, 100, 32]⟩, jt, ⟨#[59]⟩]) (c := 3) rfl hp1.bi.lt.2) (unhide Hl) (by simp)) (by rfl) ?_
    rintro e w2 ⟨rfl, hp2, hk2⟩
    have HE := hide (show PnQ W B bb dd _ n w (.returned (.tuple #[])) w2 from ⟨rfl, hp2, ((Kp.below hb1).trans (Kp.below hb2)).trans hk2⟩)
    have hT3 : w2.cell? ⟨pp, 0, none⟩ = some (.func (.func 80) #[] #[.pointer (some ⟨bb, 0, none⟩), .pointer (some ⟨dd, 0, none⟩)]) := cell_of_row _ _ _ _ _ _ ((unhide HE).2.2 _ _ _ _ (unhide Hpb) (unhide HPB) (by decide))
    refine ⟨_, rfl, hK _ _ ⟨fun _ => hT3, ?_⟩⟩
    clear hK K hT1 hT2 hp2 hk2 hb1 hb2 hp1 HJ HP
    simp only [Act.put, List.setIfInBounds_toArray, List.set_cons_zero, List.set_cons_succ]
    refine wpAnyZ_done (by kernel_rfl) ?_
    go_wp2
    refine bodyPost_ret (results_none rfl _ _ _) rfl ?_
    exact unhide HE
  · have e0 : decide ((0 : Int) < (ts.length : Int)) = false := decide_eq_false (by omega)
    have hr : resL n ts = [] := by unfold resL; rw [if_neg h0]
    rw [hr, List.append_nil]
    have HE := hide (show PnQ W B bb dd L n w (.returned (.tuple #[])) w from ⟨rfl, h, Kp.refl _ _⟩)
    clear h hp hu hl hr hpb
    go_enter Tryz.func168, Tryz.ntmps168
    go_wp2
    refine bodyPost_ret (results_none rfl _ _ _) rfl ?_
    exact unhide HE
end Go.Proofs.YtaadpiimcaabkaaGreatDoor

namespace Go.Proofs.YtaadpiimcaabkaaGreatDoor
open Go.RowKit
attribute [local go_sem ↓] Go.wp_at_zero Go.wp_at_succ

/-- The pen's value. -/
def penV (bb dd ll : Nat) : Array Value := #[fLine bb dd, fBlock ll dd, fWhole bb]
noncomputable def quoteB (s : ByteArray) : ByteArray := ofN (34 :: qAll s 0 ++ [34])
set_option maxRecDepth 100000 in
set_option maxHeartbeats 1000000 in
theorem res_2 {w : World} (hP : HasP w) {mm : Nat} {most a b : Int} (hm : w.heap[mm]? = some (.cells #[.int .i64 most] 3 (0, 0))) (ha : -2147483648 ≤ a ∧ a ≤ 2147483647) (hb : -2147483648 ≤ b ∧ b ≤ 2147483647) :
    Calls Tryz.prog 171 #[.agg #[.int .i64 a, .int .i64 b], .pointer (some ⟨mm, 0, none⟩)] w fun e w' => e = .returned (.string (rowT most (a, b))) ∧ Below w.heap.size w w' := by
  have hn := heap_new w (.cells #[.int .i64 a, .int .i64 b] 111)
  have hb0 : Below w.heap.size w (w.alloc (.cells #[.int .i64 a, .int .i64 b] 111)) := (Below.refl _ _).alloc (Nat.le_refl _) _
  have hm1 := (hb0.block _ (Array.getElem?_eq_some_iff.1 hm).1).trans hm
  obtain ⟨V, hV⟩ : ∃ V, w.alloc (.cells #[.int .i64 a, .int .i64 b] 111) = V := ⟨_, rfl⟩
  rw [hV] at hn hb0 hm1
  have c0 : V.cell? ⟨w.heap.size, 0, none⟩ = some (.int .i64 a) := cell_of_row _ _ _ _ _ _ hn
  have c1 : V.cell? ⟨w.heap.size, 1, none⟩ = some (.int .i64 b) := cell_of_row _ _ _ _ _ _ hn
  have m0 : V.cell? ⟨mm, 0, none⟩ = some (.int .i64 most) := cell_of_row _ _ _ _ _ _ hm1
  have HR := hide (rowText_any (hP.up hb0) a b most ha hb)
  have HB := hide hb0
  clear hn hb0 hm hm1 hP ha hb
  go_enter Tryz.func171, Tryz.ntmps171
  go_wp2_with fail
  refine (unhide HR).mono ?_
  rintro e w1 ⟨rfl, hb1⟩
  have HB1 := hide ((unhide HB).trans (hb1.mono (unhide HB).size))
  clear hb1 HR HB
  go_wp2
  go_ret
  exact ⟨rfl, unhide HB1⟩
/-- What is reserved, rows and names. -/
noncomputable def rsvL (n : Nat) (most : Int) (rs : List (Int × Int)) (gs : List ByteArray) : List Nat := resL n (rs.map (rowT most)) ++ resL n (gs.map quoteB)
set_option maxRecDepth 100000 in
set_option maxHeartbeats 2000000 in
theorem reserved_any {W w : World} {B bb dd ll : Nat} {L : List Nat} {n : Nat} (h : Pn W B bb dd L n w) (hP : HasP W) (hF : HasF W) {v u : Value} {rs : List (Int × Int)} {gs : List ByteArray} {most : Int} (hv : Rl W v rs.length (rgC rs)) (hu : Rl W u gs.length (strC gs))
    (hr : rs.length ≤ 4096) (hr2 : ∀ r ∈ rs, (-2147483648 ≤ r.1 ∧ r.1 ≤ 2147483647) ∧ (-2147483648 ≤ r.2 ∧ r.2 ≤ 2147483647)) (hg : gs.length ≤ 4096) (hg2 : ∀ s ∈ gs, s.size ≤ 1048576) (hl : L.length + (rsvL n most rs gs).length ≤ 1099511627776) :
    Calls Tryz.prog 130 #[.agg (penV bb dd ll), v, .int .i64 most, u] w (PnQ W B bb dd (L ++ rsvL n most rs gs) n w) := by
  have hlt := h.bi.lt.2
  have s1 := World.size_alloc w (.cells (penV bb dd ll) 89)
  have k1 := heap_new w (.cells (penV bb dd ll) 89)
  have k2 := heap_new (w.alloc (.cells (penV bb dd ll) 89)) (.cells #[.int .i64 most] 3)
  rw [s1] at k2
  have k1' := (Below.heap_alloc (w.alloc (.cells (penV bb dd ll) 89)) (.cells #[.int .i64 most] 3) _ (by rw [s1]; omega)).trans k1
  have hbV : Below w.heap.size w ((w.alloc (.cells (penV bb dd ll) 89)).alloc (.cells #[.int .i64 most] 3)) := ((Below.refl _ _).alloc (Nat.le_refl _) _).alloc (by omega) _
  unfold penV at k1' k2 hbV ⊢
  obtain ⟨V, hV⟩ : ∃ V, (w.alloc (.cells #[fLine bb dd, fBlock ll dd, fWhole bb] 89)).alloc (.cells #[.int .i64 most] 3) = V := ⟨_, rfl⟩
  rw [hV] at k1' k2 hbV
  have hpV := h.below hbV
  have HEr := hide (eachR_any (T := rowT most) hv hr (f := ⟨171, #[], #[.pointer (some ⟨w.heap.size + 1, 0, none⟩)]⟩) (fun vs w => by kernel_rfl) V hpV.bel (fun r hr3 w' hb' => by
    have hm := (hb'.block _ (Array.getElem?_eq_some_iff.1 k2).1).trans k2
    exact res_2 (hP.up (hpV.bel.trans (hb'.mono hpV.bel.size))) hm (hr2 r hr3).1 (hr2 r hr3).2))
  have HEg := hide (fun w' (hb' : Below W.heap.size W w') => eachS_any (T := quoteB) hu hg (f := ⟨44, #[], #[]⟩) (fun vs w => by kernel_rfl) w' hb' (fun s hs w2 hb2 => quote_any (hF.up (hb'.trans (hb2.mono hb'.size))) s (hg2 s hs)))
  have HKV := hide (show Kp bb w V from Kp.below hbV)
  have HPV := hide hpV
  have HK1 := hide k1'
  have Hpb := hide (show w.heap.size ≠ bb by omega)
  have Hl := hide hl
  have Hr := hide hr
  have Hg := hide hg
  clear hpV hbV k1 k1' k2 s1 hlt h hP hF hr2 hg2 hr hg hl
  obtain ⟨av, cv, rfl, -, -⟩ := hv
  obtain ⟨au, cu, rfl, -, -⟩ := hu
  unfold rsvL at Hl ⊢
  unfold Fv.val at HEr HEg
  simp only at HEr HEg
  unfold fLine fBlock fWhole at hV HK1 ⊢
  go_enter Tryz.func130, Tryz.ntmps130
  go_wp2_with fail
  refine (unhide HEr).mono ?_
  rintro e w1 ⟨u1, rfl, ho1, hb1⟩
  have hp1 := (unhide HPV).below hb1
  have hk1 := (hb1.block _ (Array.getElem?_eq_some_iff.1 (unhide HK1)).1).trans (unhide HK1)
  have HKp1 := hide ((unhide HKV).trans (Kp.below hb1))
  have HL1 := hide (list_any (ts := rs.map (rowT most)) hp1 hk1 (unhide Hpb) (by rw [List.length_map]; exact ho1) (by rw [List.length_map]; exact unhide Hr) (by have := unhide Hl; rw [List.length_append] at this; omega))
  have HKb1 := hide hk1
  obtain ⟨a1, l1, c1, rfl⟩ : ∃ a l c, u1 = .slice a l c := by
    obtain ⟨h1, ⟨rfl, h2⟩ | ⟨g, c, cur, rfl, h3⟩⟩ := ho1
    · exact ⟨none, 0, 0, rfl⟩
    · exact ⟨_, _, _, rfl⟩
  clear hp1 hk1 ho1 hb1 HEr HPV HKV HK1
  go_wp2_with fail
  refine (unhide HL1).mono ?_
  rintro e w2 ⟨rfl, hp2, hk2⟩
  have HE2 := hide (unhide HEg w2 hp2.bel)
  have HP2 := hide hp2
  have HKp2 := hide ((unhide HKp1).trans hk2)
  have HKb2 := hide (hk2 _ _ _ _ (unhide Hpb) (unhide HKb1) (by decide))
  clear hp2 hk2 HL1 HKp1 HKb1 HEg
  go_wp2_with fail
  refine (unhide HE2).mono ?_
  rintro e w3 ⟨u3, rfl, ho3, hb3⟩
  have hp3 := (unhide HP2).below hb3
  have hk3 := (hb3.block _ (Array.getElem?_eq_some_iff.1 (unhide HKb2)).1).trans (unhide HKb2)
  have HKp3 := hide ((unhide HKp2).trans (Kp.below hb3))
  have HL3 := hide (list_any (ts := gs.map quoteB) hp3 hk3 (unhide Hpb) (by rw [List.length_map]; exact ho3) (by rw [List.length_map]; exact unhide Hg) (by rw [List.length_append]; have := unhide Hl; rw [List.length_append] at this; omega))
  obtain ⟨a3, l3, c3, rfl⟩ : ∃ a l c, u3 = .slice a l c := by
    obtain ⟨h1, ⟨rfl, h2⟩ | ⟨g, c, cur, rfl, h3⟩⟩ := ho3
    · exact ⟨none, 0, 0, rfl⟩
    · exact ⟨_, _, _, rfl⟩
  clear hp3 hk3 ho3 hb3 HE2 HP2 HKp2 HKb2
  go_wp2_with fail
  refine (unhide HL3).mono ?_
  rintro e w4 ⟨rfl, hp4, hk4⟩
  rw [List.append_assoc] at hp4
  have HE := hide (show PnQ W B bb dd _ n w (.returned (.tuple #[])) w4 from ⟨rfl, hp4, (unhide HKp3).trans hk4⟩)
  clear hp4 hk4 HL3 HKp3
  go_wp2
  refine bodyPost_ret (results_none rfl _ _ _) rfl ?_
  exact unhide HE
end Go.Proofs.YtaadpiimcaabkaaGreatDoor
