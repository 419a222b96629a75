import Derived.Test.YtdhncpeemcanlaaGreatDoorJ46
import Derived.Test.YtdhncpeemcanlaaGreatDoorJ49

namespace Go.Proofs.YtdhncpeemcanlaaGreatDoor
open Go.RowKit
attribute [local go_sem ↓] Go.wp_at_zero Go.wp_at_succ

theorem below_drew2 {B : Nat} {W w : World} (h : Below B W w) : Below B W w.drew := ⟨h.os, h.tape, h.output, h.size, h.block⟩
/-- Two rows that grow side by side. -/
structure BkS (w2 w : World) (va vb : Value) (L : List Tk) (bs : List Nat) : Prop where
  b : Below w2.heap.size w2 w
  m : RowT w2.heap.size w va L
  o : Bytes w2.heap.size w vb bs
  ap : ∀ k, va.ownBlock = some k → vb.ownBlock ≠ some k
theorem BkS.up {w2 w w' : World} {va vb : Value} {L : List Tk} {bs : List Nat} (h : BkS w2 w va vb L bs) (hb : Below w.heap.size w w') : BkS w2 w' va vb L bs := ⟨h.b.trans (hb.mono h.b.size), h.m.up hb, h.o.up hb, h.ap⟩
theorem BkS.appM {w2 w w' : World} {va vb va' : Value} {L : List Tk} {bs : List Nat} {t : Tk} (h : BkS w2 w va vb L bs) (ho : w'.ownsRow w2.heap.size 29 3 va' (L.length + 1) (kcells L ++ [.int .i64 t.kind, .int .i64 t.spot, .string t.text])) (hg : w.grownBy w' va.ownBlock) (hat : va'.ownBlock = va.ownBlock ∨ va'.ownBlock = some w.heap.size) : BkS w2 w' va' vb (L ++ [t]) bs := by
  refine ⟨h.b.grown hg h.b.size (fun q e => (World.ownsRow.lt h.m q e).1), ?_, World.ownsRow.kept h.o hg ?_, fun k hk => ?_⟩
  · unfold RowT
    rw [List.length_append, kcells_app]
    exact ho
  · by_cases e : vb.ownBlock = none
    · exact .inl e
    · refine .inr (fun q => ?_)
      obtain ⟨k, hk⟩ := Option.ne_none_iff_exists'.1 e
      exact h.ap k (by rw [← q]; exact hk) hk
  · rcases hat with hat | hat
    · exact h.ap k (by rw [← hat]; exact hk)
    · intro hq
      have h1 := (World.ownsRow.lt h.o k hq).2
      rw [hat] at hk
      have := Option.some.inj hk
      omega
theorem BkS.appB {w2 w w' : World} {va vb vb' : Value} {L : List Tk} {bs ys : List Nat} (h : BkS w2 w va vb L bs) (ho : Bytes w2.heap.size w' vb' ys) (hg : w.grownBy w' vb.ownBlock) (hat : vb'.ownBlock = vb.ownBlock ∨ vb'.ownBlock = some w.heap.size) : BkS w2 w' va vb' L ys := by
  refine ⟨h.b.grown hg h.b.size (fun q e => (World.ownsRow.lt h.o q e).1), World.ownsRow.kept h.m hg ?_, ho, fun k hk => ?_⟩
  · by_cases e : va.ownBlock = none
    · exact .inl e
    · refine .inr (fun q => ?_)
      obtain ⟨k, hk⟩ := Option.ne_none_iff_exists'.1 e
      exact h.ap k hk (by rw [← q]; exact hk)
  · rcases hat with hat | hat
    · rw [hat]; exact h.ap k hk
    · intro hq
      have h1 := (World.ownsRow.lt h.m k hk).2
      rw [hat] at hq
      have := Option.some.inj hq
      omega
/-- What is laid so far. -/
def BkL (ts : List Tok) (i : Nat) (L : List Tk) (bs : List Nat) : Prop := Byt bs ∧ flatB (fun _ => two) 0 ts = bs ++ flatB (fun _ => two) i (ts.drop i) ∧ ∃ L0 : List Tok, L = L0.map Tok.tk ∧ layT 0 ts = L0 ++ layT bs.length (ts.drop i)
theorem BkL.step {ts : List Tok} {i : Nat} {L : List Tk} {bs : List Nat} {t : Tok} (h : BkL ts i L bs) (ht : ts[i]? = some t) : BkL ts (i + 1) (L ++ [⟨(t.kind : Int), (bs.length : Int), t.text⟩]) ((bs ++ strN t.text) ++ two) := by
  obtain ⟨h1, h2, L0, rfl, h4⟩ := h
  refine ⟨(h1.append (strN_byt _)).append (fun x hx => by simp [two] at hx; omega), ?_, L0 ++ [⟨t.kind, bs.length, t.text⟩], by rw [List.map_append]; rfl, ?_⟩
  · rw [h2, flat_step2 ht]
    simp [List.append_assoc]
  · rw [h4, lay_step ht, List.append_assoc, List.length_append, List.length_append, strN_len]
    rfl
theorem below_set2 {W w : World} {B g : Nat} (h : Below B W w) (hg : B ≤ g) (j : Nat) (u : Value) : Below B W (w.setCell ⟨g, j, none⟩ u) := below_set h hg j u
theorem sp_re (f : Int → Int) (r : Except (Int × Int) (Fl × PSt)) : flOf (reX f r) = flOf r ∧ erOf (reX f r) = erOf r ∧ spOf (reX f r) = if erOf r = 0 then spOf r else f (spOf r) := by
  cases r with
  | error y =>
    show _ ∧ (reE f y).1 = y.1 ∧ (reE f y).2 = if y.1 = 0 then y.2 else f y.2
    unfold reE
    by_cases h : y.1 = 0
    · rw [if_pos h, if_pos h]; exact ⟨rfl, rfl, rfl⟩
    · rw [if_neg h, if_neg h]; exact ⟨rfl, rfl, rfl⟩
  | ok p => exact ⟨rfl, rfl, (show spOf (reX f (.ok p)) = spOf (.ok p) from rfl).trans (if_pos rfl).symm⟩
set_option maxRecDepth 100000 in
set_option maxHeartbeats 8000000 in
theorem blanks_core {W : World} {s : ByteArray} (hF : HasF W) (hE : HasE W) (hM : HasM W) (_ : s.size ≤ 140737488351232) : Calls Tryz.prog 3 #[.string s] W fun e W' => e = .returned (.bool true) ∧ Below W.heap.size W W' := by
  obtain ⟨i0, hi, hz0, hz1, hz2⟩ := info_parts Tryz.infoByte
  obtain ⟨k0, hk0, kz0, kz1, kz2⟩ := info_parts Tryz.infoTok
  have HF := hide hF
  have HE := hide hE
  have HM := hide hM
  go_enter Tryz.func3, Tryz.ntmps3
  go_wp2_with fail
  refine (tokens_any hF hE hM s).mono ?_
  rintro e w1 ⟨hb1, htk⟩
  clear hF hE hM
  have HK := hide (known_any ((unhide HF).up hb1) ((unhide HE).up hb1) ((unhide HM).up hb1 (unhide HM).1))
  have HB1 := hide hb1
  cases ht : tokR s with
  | inr p =>
    obtain ⟨kk, cc⟩ := p
    rw [ht] at htk
    obtain ⟨hc, rfl⟩ := htk
    have hcz : ((cc : Int) != 0) = true := by simp; omega
    clear hb1 ht hc
    go_wp2_with fail
    refine (unhide HK).mono ?_
    rintro e w2 ⟨rfl, hb2⟩
    have HB2 : Hid (Below W.heap.size W w2) := (unhide HB1).trans (hb2.mono (unhide HB1).size)
    clear hb2
    go_wp2
    go_ret
    exact ⟨rfl, unhide HB2⟩
  | inl ts =>
    rw [ht] at htk
    obtain ⟨v, rfl, hrow⟩ := htk
    obtain ⟨ta, tc, hv, -, -, h3⟩ := tok_has hrow (Nat.le_refl _) (Nat.le_refl _)
    rw [List.length_map] at hv h3
    subst hv
    obtain ⟨hs1, hu, pre, hts, hgood, hpl, hrise⟩ := tokR_struct2 ht
    have htl : ts.length = pre.length + 1 := by rw [hts]; simp
    obtain ⟨g, off, rfl, hg1, -, hx⟩ := h3 (by omega)
    have hx' : ∀ i t, ts[i]? = some t → w1.cell? ⟨g, off + i * 3, none⟩ = some (.int .i64 (t.kind : Int)) ∧ w1.cell? ⟨g, off + i * 3 + 1, none⟩ = some (.int .i64 (t.place : Int)) ∧ w1.cell? ⟨g, off + i * 3 + 2, none⟩ = some (.string t.text) := fun i t h => hx i t.tk (by rw [List.getElem?_map, h]; rfl)
    have hsz : ∀ t ∈ ts, t.text.size ≤ 65536 := tokR_text ht
    have HSZ := hide hsz
    have HT := hide ht
    have HX1 := hide hx'
    have htlb : ts.length ≤ 16384 := by omega
    have HPR := hide hts
    have HTL := hide htl
    clear hrow h3 hx hx' ht hs1 hu hgood hrise hsz hb1 hts htl hpl
    go_wp2_with fail
    refine (unhide HK).mono ?_
    rintro e w2 ⟨rfl, hb2⟩
    have HB2 : Hid (Below W.heap.size W w2) := (unhide HB1).trans (hb2.mono (unhide HB1).size)
    have HX : Hid (∀ i t, ts[i]? = some t → w2.cell? ⟨g, off + i * 3, none⟩ = some (.int .i64 (t.kind : Int)) ∧ w2.cell? ⟨g, off + i * 3 + 1, none⟩ = some (.int .i64 (t.place : Int)) ∧ w2.cell? ⟨g, off + i * 3 + 2, none⟩ = some (.string t.text)) := fun i t h => by
      obtain ⟨q1, q2, q3⟩ := unhide HX1 i t h
      exact ⟨(hb2.cell (p := ⟨g, off + i * 3, none⟩) hg1).trans q1, (hb2.cell (p := ⟨g, off + i * 3 + 1, none⟩) hg1).trans q2, (hb2.cell (p := ⟨g, off + i * 3 + 2, none⟩) hg1).trans q3⟩
    have hg2 : g < w2.heap.size := Nat.lt_of_lt_of_le hg1 hb2.size
    have HS0 : Hid (BkS w2 w2 (.slice none 0 0) (.slice none 0 0) [] []) := ⟨Below.refl _ _, World.ownsRow_nil _ _ _ _, bytes_nil _ _, fun k h => by cases h⟩
    have HL0 : Hid (BkL ts 0 [] []) := ⟨fun x hx => by simp at hx, rfl, [], rfl, rfl⟩
    clear hb2 HX1 hg1 HK HB1
    go_wp2
    go_loopg [7, 8, 9] ts.length (fun gk v7 v8 v9 wr => ∃ (i : Nat) (va : Option Addr) (vc : Nat) (vb : Option Addr) (vd : Nat) (L : List Tk) (bs : List Nat), v7 = .slice va L.length vc ∧ v8 = .slice vb bs.length vd ∧ v9 = .int .i64 (i : Int) ∧ gk = ts.length - i ∧ i ≤ ts.length ∧ bs.length ≤ i * 65549 ∧ Hid (L.length = i) ∧ Hid (BkS w2 wr (.slice va L.length vc) (.slice vb bs.length vd) L bs) ∧ Hid (BkL ts i L bs))
    case atStart => exact ⟨0, none, 0, none, 0, [], [], rfl, rfl, rfl, rfl, by omega, by simp, hide rfl, HS0, HL0⟩
    case round =>
      clear HS0 HL0
      obtain ⟨i, va, vc, vb, vd, L, bs, rfl, rfl, rfl, hgk, hi2, hbl, HLi, HS, HL⟩ := hrel
      have Hgk := hide hgk
      have hLb : L.length ≤ 16384 := by have := unhide HLi; omega
      clear hgk
      by_cases hlt : i < ts.length
      · obtain ⟨⟨K, P, T⟩, ht⟩ : ∃ t, ts[i]? = some t := ⟨_, List.getElem?_eq_getElem hlt⟩
        obtain ⟨y1, y2, y3⟩ := unhide HX i _ ht
        simp only at y1 y2 y3
        have x1 := ((unhide HS).b.cell (p := ⟨g, off + i * 3, none⟩) hg2).trans y1
        have x2 := ((unhide HS).b.cell (p := ⟨g, off + i * 3 + 1, none⟩) hg2).trans y2
        have x3 := ((unhide HS).b.cell (p := ⟨g, off + i * 3 + 2, none⟩) hg2).trans y3
        have hgl : g < wr.heap.size := Nat.lt_of_lt_of_le hg2 (unhide HS).b.size
        have hTs : T.size ≤ 65536 := unhide HSZ _ (List.mem_of_getElem? ht)
        have HST := hide ((unhide HL).step ht)
        simp only at HST
        have i0' : (0 : Int) ≤ (i : Int) := Int.natCast_nonneg _
        have i1' : (i : Int) < (ts.length : Int) := by omega
        clear ht
        go_upto_region 12 with fail
        have hT : (fun w => w.cell? ⟨g, off + i * 3, none⟩ = some (.int .i64 (K : Int)) ∧ w.cell? ⟨g, off + i * 3 + 1, none⟩ = some (.int .i64 (P : Int)) ∧ w.cell? ⟨g, off + i * 3 + 2, none⟩ = some (.string T)) wr.drew := ⟨x1, x2, x3⟩
        refine wp_region_any (by kernel_rfl) (wpAny_of_Z (z := 16) (T := fun w => w.cell? ⟨g, off + i * 3, none⟩ = some (.int .i64 (K : Int)) ∧ w.cell? ⟨g, off + i * 3 + 1, none⟩ = some (.int .i64 (P : Int)) ∧ w.cell? ⟨g, off + i * 3 + 2, none⟩ = some (.string T)) _ _ _ _ ?_)
        try (change wpAnyZ _ _ _ _ _ _ _ _ _ (World.drew _))
        refine wpAnyZ_take 0 (.slice va L.length vc) 31 rfl rfl (by kernel_rfl) (by kernel_rfl) (by kernel_rfl) (by kernel_rfl) (fun _ _ _ h => h) (Or.inl ⟨by rfl, fun w hw => by obtain ⟨hw1, hw2, hw3⟩ := hw; go_simp⟩) hT ?_
        simp only [Act.put, List.setIfInBounds_toArray, List.set_cons_zero, List.set_cons_succ]
        refine wpAnyZ_take 1 (.slice (some ⟨g, off, none⟩) ts.length tc) 32 rfl rfl (by kernel_rfl) (by kernel_rfl) (by kernel_rfl) (by kernel_rfl) (fun _ _ _ h => h) (Or.inl ⟨by rfl, fun w hw => by obtain ⟨hw1, hw2, hw3⟩ := hw; go_simp⟩) hT ?_
        simp only [Act.put, List.setIfInBounds_toArray, List.set_cons_zero, List.set_cons_succ]
        refine wpAnyZ_take 2 (.int .i64 (i : Int)) 33 rfl rfl (by kernel_rfl) (by kernel_rfl) (by kernel_rfl) (by kernel_rfl) (fun _ _ _ h => h) (Or.inl ⟨by rfl, fun w hw => by obtain ⟨hw1, hw2, hw3⟩ := hw; go_simp⟩) hT ?_
        simp only [Act.put, List.setIfInBounds_toArray, List.set_cons_zero, List.set_cons_succ]
        refine wpAnyZ_take 3 (.pointer (some ⟨g, off + i * 3, none⟩)) 34 rfl rfl (by kernel_rfl) (by kernel_rfl) (by kernel_rfl) (by kernel_rfl) (fun _ _ _ h => h) (Or.inl ⟨by rfl, fun w hw => by obtain ⟨hw1, hw2, hw3⟩ := hw; go_simp⟩) hT ?_
        simp only [Act.put, List.setIfInBounds_toArray, List.set_cons_zero, List.set_cons_succ]
        refine wpAnyZ_take 4 (.pointer (some ⟨g, off + i * 3, none⟩)) 35 rfl rfl (by kernel_rfl) (by kernel_rfl) (by kernel_rfl) (by kernel_rfl) (fun _ _ _ h => h) (Or.inl ⟨by rfl, fun w hw => by obtain ⟨hw1, hw2, hw3⟩ := hw; go_simp⟩) hT ?_
        simp only [Act.put, List.setIfInBounds_toArray, List.set_cons_zero, List.set_cons_succ]
        refine wpAnyZ_take 5 (.int .i64 (K : Int)) 36 rfl rfl (by kernel_rfl) (by kernel_rfl) (by kernel_rfl) (by kernel_rfl) (fun _ _ _ h => h) (Or.inl ⟨by rfl, fun w hw => by obtain ⟨hw1, hw2, hw3⟩ := hw; go_simp⟩) hT ?_
        simp only [Act.put, List.setIfInBounds_toArray, List.set_cons_zero, List.set_cons_succ]
        refine wpAnyZ_take 6 (.slice vb bs.length vd) 37 rfl rfl (by kernel_rfl) (by kernel_rfl) (by kernel_rfl) (by kernel_rfl) (fun _ _ _ h => h) (Or.inl ⟨by rfl, fun w hw => by obtain ⟨hw1, hw2, hw3⟩ := hw; go_simp⟩) hT ?_
        simp only [Act.put, List.setIfInBounds_toArray, List.set_cons_zero, List.set_cons_succ]
        refine wpAnyZ_take 7 (.int .i64 (bs.length : Int)) 38 rfl rfl (by kernel_rfl) (by kernel_rfl) (by kernel_rfl) (by kernel_rfl) (fun _ _ _ h => h) (Or.inl ⟨by rfl, fun w hw => by obtain ⟨hw1, hw2, hw3⟩ := hw; go_simp⟩) hT ?_
        simp only [Act.put, List.setIfInBounds_toArray, List.set_cons_zero, List.set_cons_succ]
        refine wpAnyZ_take 8 (.slice (some ⟨g, off, none⟩) ts.length tc) 39 rfl rfl (by kernel_rfl) (by kernel_rfl) (by kernel_rfl) (by kernel_rfl) (fun _ _ _ h => h) (Or.inl ⟨by rfl, fun w hw => by obtain ⟨hw1, hw2, hw3⟩ := hw; go_simp⟩) hT ?_
        simp only [Act.put, List.setIfInBounds_toArray, List.set_cons_zero, List.set_cons_succ]
        refine wpAnyZ_take 9 (.int .i64 (i : Int)) 40 rfl rfl (by kernel_rfl) (by kernel_rfl) (by kernel_rfl) (by kernel_rfl) (fun _ _ _ h => h) (Or.inl ⟨by rfl, fun w hw => by obtain ⟨hw1, hw2, hw3⟩ := hw; go_simp⟩) hT ?_
        simp only [Act.put, List.setIfInBounds_toArray, List.set_cons_zero, List.set_cons_succ]
        refine wpAnyZ_take 10 (.pointer (some ⟨g, off + i * 3, none⟩)) 41 rfl rfl (by kernel_rfl) (by kernel_rfl) (by kernel_rfl) (by kernel_rfl) (fun _ _ _ h => h) (Or.inl ⟨by rfl, fun w hw => by obtain ⟨hw1, hw2, hw3⟩ := hw; go_simp⟩) hT ?_
        simp only [Act.put, List.setIfInBounds_toArray, List.set_cons_zero, List.set_cons_succ]
        refine wpAnyZ_take 11 (.pointer (some ⟨g, off + i * 3 + 2, none⟩)) 42 rfl rfl (by kernel_rfl) (by kernel_rfl) (by kernel_rfl) (by kernel_rfl) (fun _ _ _ h => h) (Or.inl ⟨by rfl, fun w hw => by obtain ⟨hw1, hw2, hw3⟩ := hw; go_simp⟩) hT ?_
        simp only [Act.put, List.setIfInBounds_toArray, List.set_cons_zero, List.set_cons_succ]
        refine wpAnyZ_take 12 (.string T) 43 rfl rfl (by kernel_rfl) (by kernel_rfl) (by kernel_rfl) (by kernel_rfl) (fun _ _ _ h => h) (Or.inl ⟨by rfl, fun w hw => by obtain ⟨hw1, hw2, hw3⟩ := hw; go_simp⟩) hT ?_
        simp only [Act.put, List.setIfInBounds_toArray, List.set_cons_zero, List.set_cons_succ]
        refine wpAnyZ_take 13 (.agg #[.int .i64 (K : Int), .int .i64 (bs.length : Int), .string T]) 44 rfl rfl (by kernel_rfl) (by kernel_rfl) (by kernel_rfl) (by kernel_rfl) (fun _ _ _ h => h) (Or.inl ⟨by rfl, fun w hw => by obtain ⟨hw1, hw2, hw3⟩ := hw; go_simp⟩) hT ?_
        simp only [Act.put, List.setIfInBounds_toArray, List.set_cons_zero, List.set_cons_succ]
        refine wpAnyZ_one 14 (by kernel_rfl) rfl (fun KK hK => ?_)
        go_simp
        have hbA : Below wr.heap.size wr (World.drew (wr.alloc (.cells #[.int .i64 (K : Int), .int .i64 (bs.length : Int), .string T] 29))) := below_drew2 ((Below.refl _ _).alloc (Nat.le_refl _) _)
        have hA := (unhide HS).up hbA
        have hTA : (fun w => w.cell? ⟨g, off + i * 3, none⟩ = some (.int .i64 (K : Int)) ∧ w.cell? ⟨g, off + i * 3 + 1, none⟩ = some (.int .i64 (P : Int)) ∧ w.cell? ⟨g, off + i * 3 + 2, none⟩ = some (.string T)) (World.drew (wr.alloc (.cells #[.int .i64 (K : Int), .int .i64 (bs.length : Int), .string T] 29))) := ⟨(hbA.cell (p := ⟨g, off + i * 3, none⟩) hgl).trans x1, (hbA.cell (p := ⟨g, off + i * 3 + 1, none⟩) hgl).trans x2, (hbA.cell (p := ⟨g, off + i * 3 + 2, none⟩) hgl).trans x3⟩
        refine hK _ _ ⟨fun _ => hTA, ?_⟩
        clear hK KK
        have hal : (World.drew (wr.alloc (.cells #[.int .i64 (K : Int), .int .i64 (bs.length : Int), .string T] 29))).heap.size = wr.heap.size + 1 := World.size_alloc _ _
        have hws : w2.heap.size ≤ wr.heap.size := (unhide HS).b.size
        refine wpAnyZ_one 15 (by kernel_rfl) rfl (fun KK hK => ?_)
        refine step_app_own rfl (.tmp 31) (.tmp 45) 22 rfl w2.heap.size 29 k0 (.agg #[.int .i64 0, .int .i64 0, .string ⟨#[]⟩]) 3 32 Tryz.underlying22 hk0 kz0 kz1 kz2 rfl (by decide) (.slice va L.length vc) L.length (kcells L) (by first | rfl | simp [Act.eval]) hA.m ⟨wr.heap.size, 0, none⟩ 1 1 [.int .i64 (K : Int), .int .i64 (bs.length : Int), .string T] (by first | rfl | simp [Act.eval]) rfl (cells_lit _ _ _) (by simp [Value.oneCell']) (by unfold maxLen; omega) (by omega) (by rw [hal]; omega) ?_
        intro v7 w7 hown7 hgrow7 hat7
        obtain ⟨a7, c7, rfl⟩ := slice_form hown7
        have HS7 := hide (hA.appM (t := ⟨(K : Int), (bs.length : Int), T⟩) hown7 hgrow7 hat7)
        have hT7 : (fun w => w.cell? ⟨g, off + i * 3, none⟩ = some (.int .i64 (K : Int)) ∧ w.cell? ⟨g, off + i * 3 + 1, none⟩ = some (.int .i64 (P : Int)) ∧ w.cell? ⟨g, off + i * 3 + 2, none⟩ = some (.string T)) w7 := by
          have hb := (unhide HS7).b
          exact ⟨(hb.cell (p := ⟨g, off + i * 3, none⟩) hg2).trans y1, (hb.cell (p := ⟨g, off + i * 3 + 1, none⟩) hg2).trans y2, (hb.cell (p := ⟨g, off + i * 3 + 2, none⟩) hg2).trans y3⟩
        refine hK _ _ ⟨fun _ => hT7, ?_⟩
        clear hK KK hown7 hgrow7 hat7 hTA hA hbA hal hT
        simp only [Act.put, List.setIfInBounds_toArray]
        refine wpAnyZ_one 16 (by kernel_rfl) rfl (fun KK hK => ?_)
        go_simp
        refine hK _ _ ⟨fun q => absurd rfl q, ?_⟩
        clear hK KK
        refine wpAnyZ_done (by kernel_rfl) ?_
        obtain ⟨x1', x2', x3'⟩ := hT7
        clear x1 x2 x3 HS
        have O1 : Hid (bs.length + T.size ≤ maxLen) := by show _ ≤ _; unfold maxLen; omega
        have O2 : Hid (bs.length + T.size ≤ 140737488355328) := by show _ ≤ _; omega
        have hsz7 : w2.heap.size ≤ w7.heap.size := (unhide HS7).b.size
        obtain ⟨bs4, hbs4⟩ : ∃ l, l = bs ++ strN T := ⟨_, rfl⟩
        have hbt : bs4.length ≤ i * 65549 + 65536 := by rw [hbs4, List.length_append, strN_len]; omega
        have Hb4 := hide hbs4
        have O3 : Hid (bs4.length + 2 ≤ maxLen) := by show _ ≤ _; unfold maxLen; omega
        have O4 : Hid ((bs4.length + 2) * 1 ≤ 140737488355328) := by show _ ≤ _; omega
        have GO1 : True := trivial
        have GO2 : True := trivial
        clear hbs4
        go_wp2_with (first | (at_builtin; clear GO1; refine wpList_append_str_at rfl _ _ 27 9 rfl w2.heap.size 5 i0 Tryz.underlying27 Tryz.underlying9 hi hz0 hz1 hz2 _ _ _ rfl (unhide HS7).o T rfl (unhide O1) (unhide O2) hsz7 ?_; intro v4 w4 hown4 hgrow4 hat4; obtain ⟨v5, hv5, hby, -⟩ := putE_str (ys := strN T) hown4 (by rw [strN_len]) (strCells_nb _) hgrow4 hat4; obtain rfl : v4 = v5 := (by simpa using hv5); rw [← unhide Hb4] at hby; have HS4 := hide ((unhide HS7).appB hby hgrow4 hat4); obtain ⟨a4, c4, rfl⟩ : ∃ a c, v4 = .slice a bs4.length c := (by obtain ⟨a, c, e, _⟩ := hby.has; exact ⟨a, c, e⟩); have hsz4 : w2.heap.size ≤ w4.heap.size := (unhide HS4).b.size; clear hby hown4 hgrow4 hat4 hv5) | (at_builtin; clear GO2; refine wpList_append_own_at _ rfl _ _ 27 rfl w2.heap.size 5 i0 (.int .u8 0) 1 1 Tryz.underlying27 hi hz0 hz1 hz2 rfl (by decide) _ _ _ rfl ((unhide HS4).up ((Below.refl _ _).alloc (Nat.le_refl _) _)).o ⟨w4.heap.size, 0, none⟩ 2 2 [.int .u8 32, .int .u8 10] rfl rfl (cells_lit _ _ _) (by simp [Value.oneCell']) (unhide O3) (unhide O4) (by rw [World.size_alloc]; omega) ?_; intro v6 w6 hown6 hgrow6 _ hat6; obtain ⟨v7', hv7, hby6, -⟩ := putE_lit (ys := two) hown6 rfl rfl hgrow6 hat6; obtain rfl : v6 = v7' := (by simpa using hv7); have HS6 := hide (((unhide HS4).up ((Below.refl _ _).alloc (Nat.le_refl _) _)).appB hby6 hgrow6 hat6); obtain ⟨a6, c6, rfl⟩ : ∃ a c, v6 = .slice a (bs4 ++ two).length c := (by obtain ⟨a, c, e, _⟩ := hby6.has; exact ⟨a, c, e⟩); clear hby6 hown6 hgrow6 hat6 hv7))
        have HST2 : Hid (BkL ts (i + 1) (L ++ [⟨(K : Int), (bs.length : Int), T⟩]) (bs4 ++ two)) := by rw [unhide Hb4]; exact unhide HST
        have hL1 : (L ++ [(⟨(K : Int), (bs.length : Int), T⟩ : Tk)]).length = L.length + 1 := by simp
        go_roundg (ts.length - (i + 1))
        case measure => have := unhide Hgk; omega
        case rel => exact ⟨i + 1, a7, c7, a6, c6, L ++ [⟨(K : Int), (bs.length : Int), T⟩], bs4 ++ two, by rw [hL1], by rw [List.length_append], by go_num, rfl, by omega, by rw [List.length_append]; show bs4.length + 2 ≤ _; omega, by have := unhide HLi; show _ = _; rw [hL1]; omega, by rw [hL1]; exact HS6, HST2⟩
      · obtain rfl : i = ts.length := by omega
        obtain ⟨hby, hfl, L0, hL0, hlay⟩ := unhide HL
        rw [List.drop_length] at hfl hlay
        have hfl2 : flatB (fun _ => two) 0 ts = bs := hfl.trans (List.append_nil bs)
        have hlay2 : layT 0 ts = L0 := hlay.trans (List.append_nil L0)
        have hcv := conv_any (unhide HS).o.has hby
        have hwsz : (ofN bs).size = bs.length := ofN_size bs
        have hstr : strN (ofN bs) = flatB (fun _ => two) 0 ts := by rw [hfl2]; exact strN_of hby
        have hLp : 0 < L.length := by have := unhide HTL; have := unhide HLi; omega
        obtain ⟨mg, mc, hmv⟩ := (unhide HS).m.pos hLp
        simp only [Value.slice.injEq] at hmv
        obtain ⟨rfl, -, rfl⟩ := hmv
        obtain ⟨B, hB⟩ : ∃ B, B = ofN bs := ⟨_, rfl⟩
        rw [← hB] at hcv hwsz hstr
        have HBB : Hid (Below W.heap.size W wr) := (unhide HB2).trans ((unhide HS).b.mono (unhide HB2).size)
        have HST := hide hstr
        have HL0 := hide (show L = L0.map Tok.tk ∧ layT 0 ts = L0 from ⟨hL0, hlay2⟩)
        have hls : (0 : Int) < (L.length : Int) := by omega
        have hd0 : decide (0 < (L.length : Int)) = true := by simp; omega
        have hd1 : decide (0 < L.length) = true := by simp; omega
        clear hby hfl hlay hfl2 hlay2 hB hL0 hstr HL hlt hwsz
        by_cases hlong : 65536 < B.size
        · have el : decide ((65536 : Int) < (B.size : Int)) = true := by simp; omega
          clear hlong
          go_wp2
          go_ret
          exact ⟨rfl, unhide HBB⟩
        have el : decide ((65536 : Int) < (B.size : Int)) = false := by simp; omega
        have e0 : ((L.length : Int) == 0) = false := beq_false_of_ne (by omega)
        obtain ⟨pre', hpre, hup, hal, hpB, hin⟩ := blanks_pure (unhide HT) (unhide HST) (by omega)
        obtain rfl : pre = pre' := by
          have h1 := (unhide HPR).symm.trans hpre
          exact (List.append_inj_left' h1 rfl)
        obtain ⟨ts', hts'⟩ : ∃ l, l = layT 0 pre ++ [endT B] := ⟨_, rfl⟩
        rw [← hts'] at hal hpB
        have hl' : ts'.length = ts.length := by rw [hts', unhide HPR]; simp [lay_len]
        obtain ⟨ul, hul⟩ : ∃ u, L[L.length - 1]? = some u := ⟨_, List.getElem?_eq_getElem (by omega)⟩
        obtain ⟨m1, m2, m3⟩ := (unhide HS).m.cell hul
        have mf := (unhide HS).m.frozenAt ((L.length - 1) * 3 + 1)
        have z3 : (0 : Int) ≤ (L.length : Int) - 1 := by omega
        have z4 : (L.length : Int) - 1 < (L.length : Int) := by omega
        have z5 : ((L.length : Int) - 1).toNat = L.length - 1 := by omega
        have hmg := (unhide HS).m.lt
        obtain ⟨wS, hwS⟩ : ∃ w, w = wr.setCell ⟨mg, (L.length - 1) * 3 + 1, none⟩ (.int .i64 (B.size : Int)) := ⟨_, rfl⟩
        have hbS : Below w2.heap.size w2 wS := by rw [hwS]; exact below_set2 (unhide HS).b hmg.1 _ _
        have hsS : wS.heap.size = wr.heap.size := by rw [hwS, World.size_setCell]
        have HMC : Hid (∀ i u, ts'[i]? = some u → wS.cell? ⟨mg, i * 3 + 1, none⟩ = some (.int .i64 (u.place : Int))) := fun i u hiu => by
          obtain ⟨q, hq⟩ := lay_end (s := s) 0 pre
          have hLL : L = (layT 0 pre ++ [(⟨5, q, ⟨#[]⟩⟩ : Tok)]).map Tok.tk := by rw [(unhide HL0).1, ← (unhide HL0).2, unhide HPR, hq]
          have hil := (List.getElem?_eq_some_iff.1 hiu).1
          have hpl : (layT 0 pre).length = pre.length := lay_len 0 pre
          have hLn : L.length = pre.length + 1 := by rw [hLL]; simp [hpl]
          rw [hwS]
          by_cases hlast : i = L.length - 1
          · subst hlast
            rw [hts', List.getElem?_append_right (by omega), show L.length - 1 - (layT 0 pre).length = 0 by omega] at hiu
            obtain rfl := Option.some.inj hiu
            exact World.cell?_setCell_same _ _ _ m2
          · rw [World.cell?_setCell_other _ _ _ _ (by intro h; simp only [Addr.mk.injEq] at h; omega)]
            have hlt : i < (layT 0 pre).length := by have := unhide HLi; omega
            rw [hts', List.getElem?_append_left hlt] at hiu
            have hLi2 : L[i]? = some u.tk := by
              rw [hLL, List.getElem?_map, List.getElem?_append_left hlt, hiu]
              rfl
            exact ((unhide HS).m.cell hLi2).2.1
        have HWS := hide hwS
        have HBS : Hid (Below W.heap.size W wS) := (unhide HB2).trans (hbS.mono (unhide HB2).size)
        have HXS : Hid (∀ i t, ts[i]? = some t → wS.cell? ⟨g, off + i * 3 + 1, none⟩ = some (.int .i64 (t.place : Int))) := fun i t h => (hbS.cell (p := ⟨g, off + i * 3 + 1, none⟩) hg2).trans (unhide HX i t h).2.1
        have HPH := hide (fun i t u => phi_at ts ts' hup i t u)
        have HIN := hide hin
        have HPB := hide hpB
        have hgS : g < wS.heap.size := by have := hbS.size; omega
        have hmgS : mg < wS.heap.size := by omega
        have HL2 : Hid (L.length = ts.length) := HLi
        obtain ⟨φ, hφ⟩ : ∃ φ, φ = phi ts ts' := ⟨_, rfl⟩
        rw [← hφ] at HPH HPB
        clear hpre hup hal hpB hin hts' hbS hwS hul m1 m3 hmg hsS hφ HX HL0 HST HSZ HBB hLp
        go_upto_region 19 with fail
        rw [← unhide HWS]
        clear hcv el e0 m2 mf z3 z4 z5 HWS HS hd0 hd1 hls
        go_wp2_with fail
        refine (parse_any ((unhide HF).up (unhide HBS)) ((unhide HE).up (unhide HBS)) ((unhide HM).up (unhide HBS) (unhide HM).1) s).mono ?_
        intro e w3 hr
        obtain ⟨ia, il, ic, ma, ml, mc', ea, el, ec, rfl, hn, hb3⟩ := rdp_form hr
        obtain ⟨hq1, hq2, hq3⟩ := sp_re φ (parseF s)
        rw [← unhide HPB] at hq1 hq2 hq3
        have hin2 : ∀ er sp, erOf (parseF s) = er → spOf (parseF s) = sp → er ≠ 0 → ∃ t ∈ ts, (t.place : Int) = sp := fun er sp h1 h2 h3 => by
          cases hps : parseF s with
          | error y =>
            rw [hps] at h1 h2
            subst h1 h2
            exact unhide HIN y hps h3
          | ok p =>
            rw [hps] at h1
            exact absurd h1.symm h3
        obtain ⟨fl, hfl⟩ : ∃ x, flOf (parseF s) = x := ⟨_, rfl⟩
        obtain ⟨er, her⟩ : ∃ x, erOf (parseF s) = x := ⟨_, rfl⟩
        obtain ⟨sp, hsp⟩ : ∃ x, spOf (parseF s) = x := ⟨_, rfl⟩
        obtain ⟨sq, hsq⟩ : ∃ x, spOf (parseF B) = x := ⟨_, rfl⟩
        rw [hfl] at hq1
        rw [her] at hq2
        rw [her, hsp, hsq] at hq3
        have HIN2 := hide (hin2 er sp her hsp)
        rw [hfl] at hn
        rw [hfl, her, hsp]
        have HQ1 := hide hq1
        have HQ2 := hide hq2
        have HQ3 := hide hq3
        have HSQ := hide hsq
        have hB3 := (unhide HBS).trans (hb3.mono (unhide HBS).size)
        have hT := twoB_new2 hB3 #[.string fl.pkg, .slice ia il ic, .slice ma ml mc', .slice ea el ec] #[.int .i64 er, .int .i64 0, .int .i64 sp, .string ⟨#[]⟩] 34 36
        have hbS3 := (twoB_new2 (Below.refl w3.heap.size w3) #[.string fl.pkg, .slice ia il ic, .slice ma ml mc', .slice ea el ec] #[.int .i64 er, .int .i64 0, .int .i64 sp, .string ⟨#[]⟩] 34 36).bl
        have HN := hide (hn.up hbS3)
        have HTT := hide hT
        have HB3 := hide (hb3.trans (hbS3.mono hb3.size))
        clear hr hn hb3 hB3 hT hbS3 hfl her hsp hsq hq1 hq2 hq3 hin2
        go_wp2_with fail
        have hZ := (unhide HTT).bl
        refine (parse_any ((unhide HF).up hZ) ((unhide HE).up hZ) ((unhide HM).up hZ (unhide HM).1) B).mono ?_
        intro e w4 hr
        obtain ⟨ia', il', ic', ma', ml', mc'', ea', el', ec', rfl, hn', hb4⟩ := rdp_form hr
        rw [unhide HQ1] at hn'
        rw [unhide HQ1, unhide HQ2, unhide HSQ]
        have hT4 := (unhide HTT).up hb4
        have HN4 := hide ((unhide HN).up hb4)
        have HN4' := hide hn'
        have HB4 := hide ((unhide HB3).trans (hb4.mono (unhide HB3).size))
        have X4 : ∀ o o' j, ((w4.alloc o).alloc o').cell? ⟨w3.heap.size, j, none⟩ = (#[.string fl.pkg, .slice ia il ic, .slice ma ml mc', .slice ea el ec] : Array Value)[j]? := fun o o' j => (World.cell?_alloc_lt _ _ _ (by rw [World.size_alloc]; have := hT4.lx; show w3.heap.size < _; omega)).trans ((World.cell?_alloc_lt _ _ _ hT4.lx).trans (hT4.x j))
        have Y4 : ∀ o o' j, ((w4.alloc o).alloc o').cell? ⟨w3.heap.size + 1, j, none⟩ = (#[.int .i64 er, .int .i64 0, .int .i64 sp, .string ⟨#[]⟩] : Array Value)[j]? := fun o o' j => (World.cell?_alloc_lt _ _ _ (by rw [World.size_alloc]; have := hT4.ly; show w3.heap.size + 1 < _; omega)).trans ((World.cell?_alloc_lt _ _ _ hT4.ly).trans (hT4.y j))
        have HT5 := hide (twoB_new2 hT4.bl #[.string fl.pkg, .slice ia' il' ic', .slice ma' ml' mc'', .slice ea' el' ec'] #[.int .i64 er, .int .i64 0, .int .i64 sq, .string ⟨#[]⟩] 34 36)
        have HY3 := hide (show (∀ j, w4.cell? ⟨w3.heap.size + 1, j, none⟩ = (#[.int .i64 er, .int .i64 0, .int .i64 sp, .string ⟨#[]⟩] : Array Value)[j]?) ∧ w3.heap.size + 1 < w4.heap.size from ⟨hT4.y, hT4.ly⟩)
        clear hr hn' hb4 hT4 HTT HN hZ
        go_wp2_with fail
        have hbZ := (twoB_new2 (Below.refl w4.heap.size w4) #[.string fl.pkg, .slice ia' il' ic', .slice ma' ml' mc'', .slice ea' el' ec'] #[.int .i64 er, .int .i64 0, .int .i64 sq, .string ⟨#[]⟩] 34 36).bl
        refine (sameFile_any ((unhide HN4).up hbZ) ((unhide HN4').up hbZ)).mono ?_
        rintro e w5 ⟨rfl, hb5⟩
        have hT6 := (unhide HT5).up hb5
        have hb45 : Below w4.heap.size w4 w5 := hbZ.trans (hb5.mono hbZ.size)
        have HB5 : Hid (Below W.heap.size W w5) := hT6.bl
        have hSl : wS.heap.size ≤ w4.heap.size := (unhide HB4).size
        have cB : ∀ j, w5.cell? ⟨w3.heap.size + 1, j, none⟩ = (#[.int .i64 er, .int .i64 0, .int .i64 sp, .string ⟨#[]⟩] : Array Value)[j]? := fun j => (hb45.cell (p := ⟨w3.heap.size + 1, j, none⟩) (unhide HY3).2).trans ((unhide HY3).1 j)
        have cW : ∀ j, w5.cell? ⟨w4.heap.size + 1, j, none⟩ = (#[.int .i64 er, .int .i64 0, .int .i64 sq, .string ⟨#[]⟩] : Array Value)[j]? := hT6.y
        have HML : Hid (∀ i u, ts'[i]? = some u → w5.cell? ⟨mg, i * 3 + 1, none⟩ = some (.int .i64 (u.place : Int))) := fun i u h => (hb45.cell (p := ⟨mg, i * 3 + 1, none⟩) (by show mg < _; omega)).trans (((unhide HB4).cell (p := ⟨mg, i * 3 + 1, none⟩) hmgS).trans (unhide HMC i u h))
        have HLL : Hid (∀ i t, ts[i]? = some t → w5.cell? ⟨g, off + i * 3 + 1, none⟩ = some (.int .i64 (t.place : Int))) := fun i t h => (hb45.cell (p := ⟨g, off + i * 3 + 1, none⟩) (by show g < _; omega)).trans (((unhide HB4).cell (p := ⟨g, off + i * 3 + 1, none⟩) hgS).trans (unhide HXS i t h))
        have q4l : w4.heap.size + 1 < w5.heap.size := hT6.ly
        have q3l : w3.heap.size + 1 < w5.heap.size := by have := (unhide HY3).2; omega
        have qgl : g < w5.heap.size := by omega
        have qml : mg < w5.heap.size := by omega
        clear hb5 hbZ X4 Y4 HT5 HN4 HN4' hT6 hb45 HY3 HMC HXS HB4 HB3 hSl
        by_cases hez : er = 0
        · subst hez
          obtain rfl : sq = sp := by rw [unhide HQ3, if_pos rfl]
          go_wp2
          go_ret
          exact ⟨rfl, unhide HB5⟩
        · have ez : (er == 0) = false := by simpa using hez
          have HSQ2 : Hid (sq = φ sp) := by show _ = _; rw [unhide HQ3, if_neg hez]
          obtain ⟨tq, htq, hplq⟩ := unhide HIN2 hez
          have HTQ := hide (show tq ∈ ts ∧ (tq.place : Int) = sp from ⟨htq, hplq⟩)
          have HNN : Hid (∀ j t, j < 0 → ts[j]? = some t → (t.place : Int) ≠ sp) := fun j t h => absurd h (by omega)
          have HB50 : Hid (Below w5.heap.size w5 w5) := Below.refl _ _
          have CB := hide cB
          have CW := hide cW
          clear hez htq hplq
          go_wp2
          go_loopg [14] ts.length (fun gk v14 wr => ∃ (i : Nat), v14 = .int .i64 (i : Int) ∧ gk = ts.length - i ∧ i ≤ ts.length ∧ Hid (∀ j t, j < i → ts[j]? = some t → (t.place : Int) ≠ sp) ∧ Hid (Below w5.heap.size w5 wr))
          case atStart => exact ⟨0, rfl, rfl, by omega, HNN, HB50⟩
          case round =>
            clear HNN HB50
            obtain ⟨i, rfl, hgk, hi2, HNo, HBr⟩ := hrel
            have Hgk := hide hgk
            clear hgk
            by_cases hlt : i < ts.length
            · obtain ⟨t, ht⟩ : ∃ t, ts[i]? = some t := ⟨_, List.getElem?_eq_getElem hlt⟩
              obtain ⟨u, hu⟩ : ∃ u, ts'[i]? = some u := ⟨_, List.getElem?_eq_getElem (by omega)⟩
              have cl : wr.cell? ⟨g, off + i * 3 + 1, none⟩ = some (.int .i64 (t.place : Int)) := ((unhide HBr).cell (p := ⟨g, off + i * 3 + 1, none⟩) qgl).trans (unhide HLL i t ht)
              have cm : wr.cell? ⟨mg, i * 3 + 1, none⟩ = some (.int .i64 (u.place : Int)) := ((unhide HBr).cell (p := ⟨mg, i * 3 + 1, none⟩) qml).trans (unhide HML i u hu)
              have cb : wr.cell? ⟨w3.heap.size + 1, 2, none⟩ = some (.int .i64 sp) := ((unhide HBr).cell (p := ⟨w3.heap.size + 1, 2, none⟩) q3l).trans (unhide CB 2)
              have cw : wr.cell? ⟨w4.heap.size + 1, 2, none⟩ = some (.int .i64 sq) := ((unhide HBr).cell (p := ⟨w4.heap.size + 1, 2, none⟩) q4l).trans (unhide CW 2)
              have i0' : (0 : Int) ≤ (i : Int) := Int.natCast_nonneg _
              have i1' : (i : Int) < (ts.length : Int) := by omega
              have i2' : (i : Int) < (L.length : Int) := by have := unhide HL2; omega
              have HPU := hide (unhide HPH i t u ht hu)
              obtain ⟨tp, htp⟩ : ∃ x : Int, (t.place : Int) = x := ⟨_, rfl⟩
              obtain ⟨up, hup⟩ : ∃ x : Int, (u.place : Int) = x := ⟨_, rfl⟩
              rw [htp] at cl HPU
              rw [hup] at cm HPU
              have HTP := hide htp
              have HTI := hide ht
              clear ht hu htp hup hlt
              by_cases hp : tp = sp
              · subst hp
                have eu : (up == sq) = true := by rw [unhide HSQ2, unhide HPU]; simp
                go_upto_region 28 with fail
                go_quiet (fail)
                have cm' : (wr.drewN nq).cell? ⟨mg, i * 3 + 1, none⟩ = some (.int .i64 up) := cm
                have cw' : (wr.drewN nq).cell? ⟨w4.heap.size + 1, 2, none⟩ = some (.int .i64 sq) := cw
                have HBq : Hid (Below W.heap.size W (wr.drewN nq)) := below_drewN ((unhide HB5).trans ((unhide HBr).mono (unhide HB5).size)) nq
                obtain ⟨wq, hwq⟩ : ∃ w, w = wr.drewN nq := ⟨_, rfl⟩
                rw [← hwq] at cm' cw' HBq ⊢
                clear hwq cl cm cb cw HBr
                go_upto_region 29 with fail
                go_quiet (fail)
                go_wp2
                go_ret
                exact ⟨rfl, below_drewN (unhide HBq) _⟩
              · have ep : (tp == sp) = false := by simpa using hp
                have HN2 : Hid (∀ j t, j < i + 1 → ts[j]? = some t → (t.place : Int) ≠ sp) := fun j t' hj hjt => by
                  by_cases hji : j = i
                  · subst hji
                    rw [unhide HTI] at hjt
                    obtain rfl := Option.some.inj hjt
                    rw [unhide HTP]
                    exact hp
                  · exact unhide HNo j t' (by omega) hjt
                clear hp
                go_upto_region 28 with fail
                go_quiet (fail)
                have HBq : Hid (Below w5.heap.size w5 (wr.drewN nq)) := below_drewN (unhide HBr) nq
                go_wp2
                go_roundg (ts.length - (i + 1))
                case measure => have := unhide Hgk; omega
                case rel => exact ⟨i + 1, by go_num, rfl, by omega, HN2, HBq⟩
            · exfalso
              obtain ⟨h1, h2⟩ := unhide HTQ
              obtain ⟨j, hj⟩ := List.getElem?_of_mem h1
              have := (List.getElem?_eq_some_iff.1 hj).1
              exact unhide HNo j tq (by omega) hj h2
end Go.Proofs.YtdhncpeemcanlaaGreatDoor
