import Derived.Test.YthodjkeppobcmaaDoorKZ
import Derived.Test.YthodjkeppobcmaaDoorKH

namespace Go.Proofs.YthodjkeppobcmaaDoor
open Go.RowKit Go.Lib
attribute [local go_sem ↓] Go.wp_at_zero Go.wp_at_succ

theorem cf_begins (w : World) (vs : Array Value) : (callFunc 40 vs).run Tryd.prog w = .ok (.enter 40 vs) w := by
  have hf := Tryd.func40
  simp [callFunc, hf, Tryd.f40, go_sem]
theorem cf_bg (c : Nat) (w : World) (vs : Array Value) : (callFunc (bgF c) vs).run Tryd.prog w = .ok (.enter (bgF c) vs) w := by
  unfold bgF
  have h1 := Tryd.func45
  have h2 := Tryd.func46
  have h3 := Tryd.func47
  have h4 := Tryd.func48
  have h5 := Tryd.func49
  split
  · simp [callFunc, h1, Tryd.f45, go_sem]
  · split
    · simp [callFunc, h2, Tryd.f46, go_sem]
    · split
      · simp [callFunc, h3, Tryd.f47, go_sem]
      · split
        · simp [callFunc, h4, Tryd.f48, go_sem]
        · simp [callFunc, h5, Tryd.f49, go_sem]
/-- What is thrown. -/
def flt (er sp : Int) : Ending := .panicked [{ v := .iface 24 (.agg #[.int .i64 er, .int .i64 0, .int .i64 sp, .string ⟨#[]⟩]), recovered := false }]
set_option maxRecDepth 100000 in
theorem refuse_any (W : World) (er sp : Int) : Calls Tryd.prog 28 #[.int .i64 sp, .int .i64 er] W fun e w => e = flt er sp ∧ w = W := by
  go_enter Tryd.func28, Tryd.ntmps28
  go_wp2
  exact ⟨rfl, rfl, rfl⟩
/-- What a method of the scanner leaves. -/
def CR (V : World × World) (s : ByteArray) (bb b op : Nat) (out : List Nat) (A : Value → Prop) (r : RR) (e : Ending) (w : World) : Prop := match r with
  | .error (c, p) => e = flt (c : Int) (p : Int) ∧ Fw V bb b w
  | .ok (l, p) => ∃ v, e = .returned v ∧ A v ∧ Sc V s bb b p op (out ++ l) w
theorem Sc.up {V : World × World} {s : ByteArray} {bb b a op : Nat} {out : List Nat} {W w : World} (h : Sc V s bb b a op out W) (hb : Below W.heap.size W w) : Sc V s bb b a op out w := by
  have hl := (Array.getElem?_eq_some_iff.1 h.blk).1
  refine ⟨(hb.block b hl).trans h.blk, ?_, h.ne, h.lo, h.bel.up hb, h.le, h.len, h.op⟩
  have key : ∀ {p : Value}, Lib.BuilderAt 33 5 V.1.heap.size bb p (nb out) W → Lib.BuilderAt 33 5 V.1.heap.size bb p (nb out) w := by
    rintro p ⟨h1, v, hbk, hown, hne⟩
    refine ⟨h1, v, (hb.block bb (Array.getElem?_eq_some_iff.1 hbk).1).trans hbk, hown.kept (show W.grownBy w none from ⟨hb.os, hb.tape, hb.output, hb.size, fun k hk _ => hb.block k hk⟩) ?_, hne⟩
    cases v.ownBlock with
    | none => exact .inl rfl
    | some k => exact .inr (by simp)
  rcases h.bld with h | h
  · exact .inl (key h)
  · exact .inr (key h)
set_option maxRecDepth 100000 in
theorem tell_any {B bb : Nat} {L : List Nat} {w : World} (h : BI B bb L w) (hl : L.length ≤ 1099511627776) (hBw : B ≤ w.heap.size) (x : ByteArray) (hx : x.size ≤ 1099511627776) : Calls Tryd.prog 7 #[.string x, .pointer (some ⟨bb, 0, none⟩)] w fun e w' => e = .returned (.tuple #[]) ∧ BI B bb (L ++ strN x) w' ∧ Below B w w' ∧ Kp bb w w' := by
  have hc := hide (putS h hl hBw x hx)
  clear h hl hBw hx
  go_enter Tryd.func7, Tryd.ntmps7
  go_wp2_with fail
  refine (unhide hc).mono ?_
  rintro e w1 ⟨rfl, h1⟩
  have H1 := hide h1
  clear h1 hc
  go_wp2
  go_end0
  exact ⟨rfl, unhide H1⟩
theorem Sc.tell {V : World × World} {s : ByteArray} {bb b a op : Nat} {out l : List Nat} {W w : World} (h : Sc V s bb b a op out W) (h1 : BI V.1.heap.size bb (out ++ l) w) (h2 : Below V.1.heap.size W w) (h3 : Kp bb W w) (t : Nat) (ht : a ≤ t) (hts : t ≤ s.size) (hl : l.length ≤ t - a) : w.cell? ⟨b, 1, none⟩ = some (.int .i64 (a : Int)) ∧ w.frozen? ⟨b, 1, none⟩ = false ∧ Sc V s bb b t op (out ++ l) (w.setCell ⟨b, 1, none⟩ (.int .i64 (t : Int))) := by
  have hk := h3 b _ _ _ (Ne.symm h.ne) h.blk (by decide)
  obtain ⟨k1, k2⟩ := set_block (j := 1) hk (.int .i64 (t : Int))
  have hb := h.bel.kp h2 h3
  refine ⟨by rw [cell_of_row _ _ _ _ _ _ hk]; rfl, by simp [World.frozen?, hk], k1, h1.kept k2 hk (by decide) h.ne, h.ne, h.lo, hb.grown k2 h.lo.1, hts, ?_, h.op⟩
  rw [List.length_append]
  have := h.len
  omega
set_option maxRecDepth 100000 in
set_option maxHeartbeats 2000000 in
theorem token_any {V : World × World} {s : ByteArray} {bb b a op : Nat} {out : List Nat} {W : World} (hE : HasE V.1) (h : Sc V s bb b a op out W) (hs : s.size ≤ 67108864) : Calls Tryd.prog 29 #[.pointer (some ⟨b, 0, none⟩)] W (CR V s bb b op out (fun v => ∃ x, v = .string x) (tokR (strN s) a)) := by
  have HP := hide (peek_any h hs)
  have Hsk := hide (skB_le h.le)
  obtain ⟨k, hk⟩ : ∃ k, skB (strN s) a = k := ⟨_, rfl⟩
  have HR : Hid (tokR (strN s) a = if k < tkE (strN s) k then .ok (((strN s).drop k).take (tkE (strN s) k - k), tkE (strN s) k) else .error (if bt (strN s) k = 34 then 125 else 120, k)) := by rw [← hk]; rfl
  rw [hk] at HP Hsk
  obtain ⟨r, hr⟩ : ∃ r, tokR (strN s) a = r := ⟨_, rfl⟩
  rw [hr] at HR ⊢
  have HE := hide hE
  clear hk h hE hr
  go_enter Tryd.func29, Tryd.ntmps29
  go_wp2_with fail
  refine (unhide HP).mono ?_
  rintro e w1 ⟨rfl, h1⟩
  have H1 := hide h1
  clear HP
  obtain ⟨c0, c1, c2, -, fz⟩ := h1.cells
  have f1 := fz 1
  have H5 : Hid (∀ w, Below w1.heap.size w1 w → Calls Tryd.prog (bgF (bt (strN s) k)) #[.string s, .int .i64 (k : Int)] w fun e w' => e = .returned (.int .i64 (tkE (strN s) k : Int)) ∧ Below w.heap.size w w') := fun w hb => ends_any ((unhide HE).up (h1.bel.1.trans (hb.mono h1.bel.1.size))) s k (unhide Hsk).2 hs
  have hlt : b < w1.heap.size := (Array.getElem?_eq_some_iff.1 h1.blk).1
  obtain ⟨x, hx⟩ : ∃ x, bt (strN s) k = x := ⟨_, rfl⟩
  rw [hx] at H5 ⊢
  have Hx := hide hx
  clear fz h1 hx
  go_upto_region 2 with fail
  have hT : (fun w : World => w.cell? ⟨b, 0, none⟩ = some (.string s) ∧ w.cell? ⟨b, 1, none⟩ = some (.int .i64 (k : Int))) w1.drew := ⟨c0, c1⟩
  refine wp_region_any (by kernel_rfl) (wpAny_of_Z (z := 12) (T := fun w => w.cell? ⟨b, 0, none⟩ = some (.string s) ∧ w.cell? ⟨b, 1, none⟩ = some (.int .i64 (k : Int))) _ _ _ _ ?_)
  try (change wpAnyZ _ _ _ _ _ _ _ _ _ (World.drew _))
  refine wpAnyZ_tk 0 (.int .u8 (x : Int)) 8 rfl rfl (Or.inl ⟨by rfl, fun w hw => by obtain ⟨hw1, hw2⟩ := hw; go_simp⟩) hT ?_
  simp only [Act.put, List.setIfInBounds_toArray, List.set_cons_zero, List.set_cons_succ]
  refine wpAnyZ_tk 2 (.pointer (some ⟨b, 0, none⟩)) 10 rfl rfl (Or.inl ⟨by rfl, fun w hw => by obtain ⟨hw1, hw2⟩ := hw; go_simp⟩) hT ?_
  simp only [Act.put, List.setIfInBounds_toArray, List.set_cons_zero, List.set_cons_succ]
  refine wpAnyZ_tk 3 (.pointer (some ⟨b, 0, none⟩)) 11 rfl rfl (Or.inl ⟨by rfl, fun w hw => by obtain ⟨hw1, hw2⟩ := hw; go_simp⟩) hT ?_
  simp only [Act.put, List.setIfInBounds_toArray, List.set_cons_zero, List.set_cons_succ]
  refine wpAnyZ_tk 4 (.pointer (some ⟨b, 0, none⟩)) 12 rfl rfl (Or.inl ⟨by rfl, fun w hw => by obtain ⟨hw1, hw2⟩ := hw; go_simp⟩) hT ?_
  simp only [Act.put, List.setIfInBounds_toArray, List.set_cons_zero, List.set_cons_succ]
  refine wpAnyZ_tk 5 (.string s) 13 rfl rfl (Or.inl ⟨by rfl, fun w hw => by obtain ⟨hw1, hw2⟩ := hw; go_simp⟩) hT ?_
  simp only [Act.put, List.setIfInBounds_toArray, List.set_cons_zero, List.set_cons_succ]
  refine wpAnyZ_tk 6 (.pointer (some ⟨b, 0, none⟩)) 14 rfl rfl (Or.inl ⟨by rfl, fun w hw => by obtain ⟨hw1, hw2⟩ := hw; go_simp⟩) hT ?_
  simp only [Act.put, List.setIfInBounds_toArray, List.set_cons_zero, List.set_cons_succ]
  refine wpAnyZ_tk 7 (.pointer (some ⟨b, 0, none⟩)) 15 rfl rfl (Or.inl ⟨by rfl, fun w hw => by obtain ⟨hw1, hw2⟩ := hw; go_simp⟩) hT ?_
  simp only [Act.put, List.setIfInBounds_toArray, List.set_cons_zero, List.set_cons_succ]
  refine wpAnyZ_tk 8 (.pointer (some ⟨b, 1, none⟩)) 16 rfl rfl (Or.inl ⟨by rfl, fun w hw => by obtain ⟨hw1, hw2⟩ := hw; go_simp⟩) hT ?_
  simp only [Act.put, List.setIfInBounds_toArray, List.set_cons_zero, List.set_cons_succ]
  refine wpAnyZ_tk 9 (.int .i64 (k : Int)) 17 rfl rfl (Or.inl ⟨by rfl, fun w hw => by obtain ⟨hw1, hw2⟩ := hw; go_simp⟩) hT ?_
  simp only [Act.put, List.setIfInBounds_toArray, List.set_cons_zero, List.set_cons_succ]
  refine wpAnyZ_one 1 (by kernel_rfl) rfl (fun K hK => ?_)
  refine step_callD 9 rfl rfl 40 (cf_begins _) #[.tmp 8] #[5] rfl #[.int .u8 (x : Int)] (by first | rfl | simp [Act.eval]) (begins_any _ x) ?_
  rintro e w2 ⟨rfl, rfl⟩
  refine ⟨_, rfl, hK _ _ ⟨fun _ => hT, ?_⟩⟩
  clear hK K
  simp only [Act.put, List.setIfInBounds_toArray, List.set_cons_zero, List.set_cons_succ]
  refine wpAnyZ_one 10 (by kernel_rfl) rfl (fun K hK => ?_)
  refine step_callV 18 9 rfl rfl (bgF x) (cf_bg x _) #[.tmp 13, .tmp 17] #[9, 3] rfl rfl #[.string s, .int .i64 (k : Int)] (by first | rfl | simp [Act.eval]) (unhide H5 w1.drew ⟨rfl, rfl, rfl, Nat.le_refl _, fun _ _ => rfl⟩) ?_
  rintro e w3 ⟨rfl, hb3⟩
  have hb3' : Below w1.heap.size w1 w3 := ⟨hb3.os, hb3.tape, hb3.output, hb3.size, hb3.block⟩
  have HS3 := hide ((unhide H1).up hb3')
  have d0 : w3.cell? ⟨b, 0, none⟩ = some (.string s) := (unhide HS3).cells.1
  have d1 : w3.cell? ⟨b, 1, none⟩ = some (.int .i64 (k : Int)) := (unhide HS3).cells.2.1
  have d2 := (unhide HS3).cells.2.2.1
  have d4 := (unhide HS3).cells.2.2.2.2 1
  refine ⟨_, rfl, hK _ _ ⟨fun _ => ⟨d0, d1⟩, ?_⟩⟩
  clear hK K hb3 hb3' hT c0 c1 c2 f1 H5
  simp only [Act.put, List.setIfInBounds_toArray, List.set_cons_zero, List.set_cons_succ]
  refine wpAnyZ_tk 11 (.int .i64 (tkE (strN s) k : Int)) 4 rfl rfl (Or.inl ⟨by rfl, fun w hw => by go_simp⟩) ⟨d0, d1⟩ ?_
  simp only [Act.put, List.setIfInBounds_toArray, List.set_cons_zero, List.set_cons_succ]
  refine wpAnyZ_done (by kernel_rfl) ?_
  have Ht := hide (tkE_le (unhide Hsk).2)
  obtain ⟨t, ht⟩ : ∃ t, tkE (strN s) k = t := ⟨_, rfl⟩
  rw [ht] at Ht ⊢
  have Hte := hide ht
  clear ht
  by_cases hlt2 : k < t
  · have i1 : (k : Int) < (t : Int) := by omega
    have i2 : (t : Int) ≤ (s.size : Int) := by have := (unhide Ht).2; omega
    have k0 : (0 : Int) ≤ (k : Int) := Int.natCast_nonneg _
    have Hlt := hide hlt2
    have hsz : (s.extract k t).size = t - k := extract_size _ _ _ (unhide Ht).2
    have Hsz := hide hsz
    have HC := hide (tell_any (unhide HS3).drew.bld (by have := (unhide HS3).len; have := (unhide Hsk).2; omega) (unhide HS3).drew.bel.1.size (s.extract k t) (by rw [hsz]; have := (unhide Ht).2; omega))
    clear hsz hlt2
    go_wp2_with fail
    go_region
    go_wp2_with fail
    refine (unhide HC).mono ?_
    rintro e w4 ⟨rfl, h1, h2, h3⟩
    obtain ⟨g1, g2, g3⟩ := (unhide HS3).drew.tell h1 h2 h3 t (by have := unhide Hlt; omega) (unhide Ht).2 (by rw [strN_len, unhide Hsz]; omega)
    have G3 := hide g3
    clear h1 h2 h3 g3 HC HS3 H1
    go_wp2
    go_ret
    rw [unhide HR, unhide Hte, if_pos (unhide Hlt)]
    refine ⟨_, rfl, ⟨_, rfl⟩, ?_⟩
    rw [← strN_ext]
    exact unhide G3
  · have i1 : decide ((k : Int) < (t : Int)) = false := by simp; omega
    have Hlt := hide hlt2
    have HB := hide (unhide HS3).bel
    clear hlt2 HS3 H1
    by_cases h34 : x = 34
    · have q : ((x : Int) == 34) = true := by simp; omega
      have HX : Hid (bt (strN s) k = 34) := (unhide Hx).trans h34
      clear h34
      go_wp2_with fail
      refine (refuse_any _ _ _).mono ?_
      rintro e w4 ⟨rfl, rfl⟩
      have HEnd : CR V s bb b op out (fun v => ∃ x, v = .string x) r (flt 125 (k : Int)) w4 := by
        rw [unhide HR, unhide Hte, if_neg (unhide Hlt), if_pos (unhide HX)]
        exact ⟨rfl, unhide HB⟩
      exact ⟨rfl, HEnd⟩
    · have q : ((x : Int) == 34) = false := by simp; omega
      have HX : Hid (¬ bt (strN s) k = 34) := fun e => h34 ((unhide Hx).symm.trans e)
      clear h34
      go_wp2_with fail
      refine (refuse_any _ _ _).mono ?_
      rintro e w4 ⟨rfl, rfl⟩
      have HEnd : CR V s bb b op out (fun v => ∃ x, v = .string x) r (flt 120 (k : Int)) w4 := by
        rw [unhide HR, unhide Hte, if_neg (unhide Hlt), if_neg (unhide HX)]
        exact ⟨rfl, unhide HB⟩
      exact ⟨rfl, HEnd⟩
end Go.Proofs.YthodjkeppobcmaaDoor
