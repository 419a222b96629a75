import Derived.Test.YtcbcahnajabhfaaSRuns2
namespace Go.Proofs.Ytcbcahnajabhfaa
open Go.RowKit Go.Shelf
attribute [local go_sem] kless_eq keq_eq kne_eq kgeq_eq
attribute [local go_sem ↓] Go.wp_at_zero Go.wp_at_succ

theorem isR_setBox {W : World} {b : Nat} {t : TypeId} {v u : Value} {l : List Ent} (hb : Boxed W b t v) (h : IsR W u l) (v' : Value) : IsR (W.setCell ⟨b, 0, none⟩ v') u l := by
  obtain ⟨a, c, rfl, h1, h2, h3⟩ := h
  refine ⟨a, c, rfl, h1, h2, fun hp => ?_⟩
  obtain ⟨g, o, rfl, hg, hc⟩ := h3 hp
  have hne : g ≠ b := by
    rintro rfl
    obtain ⟨x, hx⟩ : ∃ x, l[0]? = some x := ⟨_, List.getElem?_eq_getElem hp⟩
    have := (hc 0 x hx).2
    unfold World.cell? at this
    rw [show W.heap[g]? = _ from hb] at this
    simp at this
  have hh := Below.heap_setCell W ⟨b, 0, none⟩ v' g hne
  have hcell : ∀ k, (W.setCell ⟨b, 0, none⟩ v').cell? ⟨g, k, none⟩ = W.cell? ⟨g, k, none⟩ := fun k => World.cell?_of_block (a := ⟨g, k, none⟩) hh
  exact ⟨g, o, rfl, by rw [World.size_setCell]; exact hg, fun i x hx => ⟨(hcell _).trans (hc i x hx).1, (hcell _).trans (hc i x hx).2⟩⟩

set_option maxRecDepth 100000 in
set_option maxHeartbeats 4000000 in
theorem runs_from {base bw N : Nat} {W : World} {vs : List Ver} (o : Step) (hwf : o.wf) (h : St base W bw vs) (hN : ∀ v ∈ vs, v.T.io.length ≤ N) (hbig : (2 * N + 2) ≤ 5864062014805) (hvs : vs.length ≤ 4096) (hk : o.kind = 12) :
    Calls Try.prog 23 #[.pointer (some ⟨bw, 0, none⟩), o.val] W fun e W' => e = .returned (.bool true) ∧ Below W.heap.size W W' := by
  obtain ⟨kd, on, other, a, b, st⟩ := o
  obtain ⟨_, ⟨w3, w4⟩, ⟨w5, w6⟩, ⟨w7, w8⟩, w9, w10⟩ := hwf
  simp only at hk w3 w4 w5 w6 w7 w8 w9 w10
  subst hk
  have hs0 : (W.alloc (.cells #[.int .i64 12, .int .i64 on, .int .i64 other, .int .i64 a, .int .i64 b, .string st] 32)).heap.size = W.heap.size + 1 := World.size_alloc _ _
  have hB0 : Below W.heap.size W ((W.alloc (.cells #[.int .i64 12, .int .i64 on, .int .i64 other, .int .i64 a, .int .i64 b, .string st] 32)).alloc (.cells #[.bool false] 4)) := ((Below.refl _ W).alloc (Nat.le_refl _) _).alloc (by omega) _
  have hbox0 := World.alloc_heap_new W (.cells #[.int .i64 12, .int .i64 on, .int .i64 other, .int .i64 a, .int .i64 b, .string st] 32)
  have hbox := (Below.heap_alloc (W.alloc (.cells #[.int .i64 12, .int .i64 on, .int .i64 other, .int .i64 a, .int .i64 b, .string st] 32)) (.cells #[.bool false] 4) W.heap.size (by omega)).trans hbox0
  have hres := Boxed.new (W.alloc (.cells #[.int .i64 12, .int .i64 on, .int .i64 other, .int .i64 a, .int .i64 b, .string st] 32)) 4 (.bool false)
  have hs1 : ((W.alloc (.cells #[.int .i64 12, .int .i64 on, .int .i64 other, .int .i64 a, .int .i64 b, .string st] 32)).alloc (.cells #[.bool false] 4)).heap.size = W.heap.size + 1 + 1 := by rw [World.size_alloc, hs0]
  rw [hs0] at hres
  have hnf := func_not_nil
  refine (callsIn_wide (n := 5)).1 ?_
  refine callsIn_of_wp_marks Try.func23 runs_split trivial ?_ rfl
  rw [wpIn_wide]
  obtain ⟨t, ht⟩ : ∃ t, runsTail = t := ⟨_, rfl⟩
  rw [ht]
  unfold runsWith Step.val
  dsimp only [Try.f23]
  simp only [List.size_toArray, List.length_cons, List.length_nil, Nat.reduceAdd, Nat.reduceSub, Array.replicate_succ, Array.replicate_zero, List.push_toArray, List.append_toArray, List.nil_append, List.cons_append]
  go_wp2
  generalize (W.alloc (.cells #[.int .i64 12, .int .i64 on, .int .i64 other, .int .i64 a, .int .i64 b, .string st] 32)).alloc (.cells #[.bool false] 4) = V at *
  obtain ⟨o0, o1, o2, o3, o4, o5⟩ := cells6_of hbox
  have hV := h.up hB0
  obtain ⟨gM, cM, gR, cR, m0, m1, mb, mg, rg, hn, hbb, hcells, hver⟩ := hV.reads
  have Hcells := hide hcells
  have Hver := hide hver
  have HN := hide hN
  clear hcells hver hV hN hbox hbox0 h
  go_region_held3 (fun w' => w'.cell? ⟨W.heap.size, 1, none⟩ = some (.int .i64 on) ∧ w'.cell? ⟨bw, 0, none⟩ = some (.slice (some ⟨gM, 0, none⟩) vs.length cM)) (go_keep)
    (first
      | (go_at_call 12; refine (within_any _ on vs.length hn (by omega)).mono ?_; rintro e w' ⟨i, hi, rfl, rfl⟩))
  obtain ⟨x, hx⟩ : ∃ x, vs[i]? = some x := ⟨_, List.getElem?_eq_getElem hi⟩
  obtain ⟨hxm, hxr⟩ := unhide Hcells i x hx
  obtain ⟨mx, rx⟩ := unhide Hver x (List.mem_of_getElem? hx)
  have nx := unhide HN x (List.mem_of_getElem? hx)
  have hi0 : (0 : Int) ≤ (i : Int) := Int.natCast_nonneg _
  have hi1 : (i : Int) < (vs.length : Int) := by omega
  obtain ⟨bmx, px, epx, mx1, mx2, mx3, mx4⟩ := mx
  obtain ⟨ra, rc, hrf, rx1, rx2, rx3⟩ := rx
  rw [epx] at hxm
  go_wp2_with fail
  refine ((callsIn_wide (n := 5)).1 (all_in Fence.wide 5 trivial rfl bmx px _ (by exact mx2))).mono ?_
  rintro e w1 ⟨rfl, rfl⟩
  have hB1 : Below V.heap.size V (V.drew.alloc (.cells #[.pointer px] 52)) := (Below.refl _ V).drew.alloc (Nat.le_refl _) _
  have hs2 : (V.drew.alloc (.cells #[.pointer px] 52)).heap.size = V.heap.size + 1 := World.size_alloc _ _
  have bI : Boxed (V.drew.alloc (.cells #[.pointer px] 52)) V.heap.size 52 (.pointer px) := Boxed.new V.drew 52 (.pointer px)
  have e1 := (hB1.cell (p := ⟨bw, 1, none⟩) mb).trans m1
  have e2 := (hB1.cell (p := ⟨gR, i, none⟩) rg).trans hxr
  rw [hrf] at e2
  have Wlt : W.heap.size < V.heap.size := by omega
  have q0 := (hB1.cell (p := ⟨W.heap.size, 0, none⟩) Wlt).trans o0
  have q4 := (hB1.cell (p := ⟨W.heap.size, 4, none⟩) Wlt).trans o4
  generalize V.drew.alloc (.cells #[.pointer px] 52) = V1 at *
  have Wlt1 : W.heap.size < V1.heap.size := by omega
  have hBV1 : Below W.heap.size W V1 := hB0.trans (hB1.mono hB0.size)
  have hs3 : V1.heap.size = W.heap.size + 1 + 1 + 1 := by omega
  have rx0 : IsR V (.slice ra x.T.io.length rc) x.T.io := ⟨ra, rc, rfl, rx1, rx2, fun hp => let ⟨g, h4, h5, h6⟩ := rx3 hp; ⟨g, 0, h4, h5, h6⟩⟩
  have gl := ge_len st x.T.io
  have hL : ((ge st x.T.io).length : Int) ≤ 1152921504606846976 := by omega
  have TAIL : ∀ (Z : World) (B1 B2 : Nat) (wv : Value), Below V.heap.size V Z → B1 < Z.heap.size → B2 < Z.heap.size → Z.cell? ⟨B1, 0, none⟩ = some (.pointer px) → Z.cell? ⟨B2, 0, none⟩ = some (.string st) → W.heap.size + 1 + 1 + 1 < Z.heap.size → Z.cell? ⟨W.heap.size + 1 + 1 + 1, 0, none⟩ = some wv → IsR Z wv (cut b (ge st x.T.io)) →
      ∀ (s0 s1 s2 s5 s8 s9 s10 s11 s12 s13 s14 s15 s16 s17 s18 s19 s20 s21 s22 s23 s24 s25 s26 s27 s28 s29 s30 s31 s32 s33 s34 s35 s36 s37 s38 s39 s40 s41 s42 s43 s44 s45 s46 s47 s48 s49 s50 s51 s52 s53 s54 s55 s56 s57 s58 s59 s60 s61 s62 s63 s64 s65 s66 s67 s68 s69 s70 s71 s72 s73 s74 s75 s76 s77 s78 s79 s80 s81 s82 s83 s84 s85 s86 s87 s88 s89 s90 s91 s92 s93 s94 s95 s96 s97 s98 s99 s100 s101 s102 s103 s104 s105 s106 : Value), t.wp Try.prog (bodyPostM Fence.wide 5 Try.prog Try.f23 fun e W' => e = .returned (.bool true) ∧ Below W.heap.size W W') { tmps := #[s0, s1, s2, .pointer (some ⟨W.heap.size, 0, none⟩), .pointer (some ⟨W.heap.size + 1, 0, none⟩), s5, .func (.func 28) #[] #[.pointer (some ⟨B1, 0, none⟩), .pointer (some ⟨B2, 0, none⟩)], .pointer (some ⟨W.heap.size + 1 + 1 + 1, 0, none⟩), s8, s9, s10, s11, s12, s13, s14, s15, s16, s17, s18, s19, s20, s21, s22, s23, s24, s25, s26, s27, s28, s29, s30, s31, s32, s33, s34, s35, s36, s37, s38, s39, s40, s41, s42, s43, s44, s45, s46, s47, s48, s49, s50, s51, s52, s53, s54, s55, s56, s57, s58, s59, s60, s61, s62, s63, s64, s65, s66, s67, s68, s69, s70, s71, s72, s73, s74, s75, s76, s77, s78, s79, s80, s81, s82, s83, s84, s85, s86, s87, s88, s89, s90, s91, s92, s93, s94, s95, s96, s97, s98, s99, s100, s101, s102, s103, s104, s105, s106], defers := [] } Z := by
    intro Z B1 B2 wv g1 g2 g3 g4 g5 g6 g7 g8
    intros
    have gz := g1.size
    rw [← ht]
    exact wpIn_wide.1 (tail_any (hB0.trans (g1.mono hB0.size)) (enters_of Try.func28 (by kernel_rfl) rfl)
      (from_stops Fence.wide rfl 4 trivial trivial trivial rfl B1 B2 Z.heap.size px st x.T Z g2 g3 (Nat.le_refl _) g4 g5 ((mx3.below g1).mono g1.size) mx4)
      ((g1.cell (p := ⟨W.heap.size, 4, none⟩) Wlt).trans o4) (by omega) g7 g6 g8 ((g1.block _ hres.lt).trans hres) (by omega) w9 w10 hL _ _ _ _ _ _ _ _ _ _ _ _ _ _ _ _ _ _ _ _ _ _ _ _ _ _ _ _ _ _ _ _ _ _ _ _ _ _ _ _ _ _ _ _ _ _ _ _ _ _ _ _ _ _ _ _ _ _ _ _ _ _ _ _ _ _ _ _ _ _ _ _ _ _ _ _ _ _ _ _ _ _ _ _ _ _ _ _ _ _ _ _ _ _ _ _ _ _ _ _ _ _ _)
  have TT := hide TAIL
  clear TAIL
  have hBw : Below V.heap.size V (V1.alloc (.cells #[.slice ra x.T.io.length rc] 44)) := hB1.alloc hB1.size _
  have hsw : (V1.alloc (.cells #[.slice ra x.T.io.length rc] 44)).heap.size = W.heap.size + 1 + 1 + 1 + 1 := by rw [World.size_alloc, hs3]
  have bQ := Boxed.new V1 44 (.slice ra x.T.io.length rc)
  rw [hs3] at bQ
  have Hs := hide mx4
  have Rx := hide rx0
  go_wp2
  generalize V1.alloc (.cells #[.slice ra x.T.io.length rc] 44) = V2 at *
  have hz2 := hBw.size
  have p0 := (hBw.cell (p := ⟨bw, 0, none⟩) mb).trans m0
  have p1 := (hBw.cell (p := ⟨gM, i, none⟩) mg).trans hxm
  have p2 := (hBw.cell (p := ⟨W.heap.size, 5, none⟩) Wlt).trans o5
  have p3 := (hBw.cell (p := ⟨bmx, 0, none⟩) mx1).trans mx2
  have hbmx : bmx < V2.heap.size := by omega
  have D2 : Hid (∀ w', Below V2.heap.size V2 w' → w'.cell? ⟨bw, 0, none⟩ = some (.slice (some ⟨gM, 0, none⟩) vs.length cM) ∧ w'.cell? ⟨gM, i, none⟩ = some (.pointer (some ⟨bmx, 0, none⟩)) ∧ w'.cell? ⟨W.heap.size, 5, none⟩ = some (.string st)) :=
    fun w' h => ⟨(h.cell (p := ⟨bw, 0, none⟩) (by show bw < _; omega)).trans p0, (h.cell (p := ⟨gM, i, none⟩) (by show gM < _; omega)).trans p1, (h.cell (p := ⟨W.heap.size, 5, none⟩) (by show W.heap.size < _; omega)).trans p2⟩
  have Ho := hide (And.intro o5 o4)
  clear rx3 rx0 mx3 mx4 hB1 hBV1 m0 m1 hxm hxr e1 e2 q0 q4 o0 o1 o2 o3 o4 o5
  go_region_held3 (fun w' => w'.cell? ⟨bw, 0, none⟩ = some (.slice (some ⟨gM, 0, none⟩) vs.length cM) ∧ w'.cell? ⟨gM, i, none⟩ = some (.pointer (some ⟨bmx, 0, none⟩)) ∧ w'.cell? ⟨W.heap.size, 5, none⟩ = some (.string st)) (first | go_keep | exact unhide D2 _ hc1)
    (first
      | (go_at_call 11; refine ((callsIn_wide (n := 5)).1 (from_in Fence.wide 5 trivial rfl bmx px st _ (by exact p3) (by exact hbmx))).mono ?_; rintro e W3 ⟨rfl, rfl⟩; have hc1 : Below V2.heap.size V2 _ := (((Below.refl V2.heap.size V2).drew.drew.drew).alloc (Nat.le_refl _) (.cells #[.string st] 9)).alloc (by rw [World.size_alloc]; exact Nat.le_succ _) (.cells #[.pointer px] 52)))
  have hB3 : Below V.heap.size V ((V2.alloc (.cells #[.string st] 9)).alloc (.cells #[.pointer px] 52)).drew := (((hBw.alloc hz2 _).alloc (by rw [World.size_alloc]; omega) _)).drew
  have hs4 : ((V2.alloc (.cells #[.string st] 9)).alloc (.cells #[.pointer px] 52)).drew.heap.size = V2.heap.size + 1 + 1 := by show ((V2.alloc _).alloc _).heap.size = _; rw [World.size_alloc, World.size_alloc]
  have k2 : Boxed ((V2.alloc (.cells #[.string st] 9)).alloc (.cells #[.pointer px] 52)).drew V2.heap.size 9 (.string st) := (Boxed.new V2 9 (.string st)).alloc _
  have k1 : Boxed ((V2.alloc (.cells #[.string st] 9)).alloc (.cells #[.pointer px] 52)).drew (V2.heap.size + 1) 52 (.pointer px) := by
    have := Boxed.new (V2.alloc (.cells #[.string st] 9)) 52 (.pointer px)
    rw [World.size_alloc] at this
    exact this
  have bQ3 : Boxed ((V2.alloc (.cells #[.string st] 9)).alloc (.cells #[.pointer px] 52)).drew (W.heap.size + 1 + 1 + 1) 44 (.slice ra x.T.io.length rc) := (bQ.alloc _).alloc _
  have Rx3 := (unhide Rx).up hB3
  generalize ((V2.alloc (.cells #[.string st] 9)).alloc (.cells #[.pointer px] 52)).drew = V3 at *
  have r0 := bQ3.cell
  have r1 := (hB3.cell (p := ⟨W.heap.size, 5, none⟩) Wlt).trans (unhide Ho).1
  clear p0 p1 p2 p3 bQ D2
  go_wp2_with fail
  refine (rfrom_any st Rx3 (unhide Hs)).mono ?_
  rintro e W4 ⟨u, rfl, hR, hb4⟩
  have hu : ∃ ua uc, u = .slice ua (ge st x.T.io).length uc ∧ (ge st x.T.io).length ≤ uc ∧ uc ≤ maxLen := by obtain ⟨ua, uc, e, h, h', _⟩ := hR; exact ⟨ua, uc, e, h, h'⟩
  obtain ⟨ua, uc, rfl, hu1, hu2⟩ := hu
  unfold maxLen at hu2
  have hB4 : Below V.heap.size V W4 := hB3.trans (hb4.mono hB3.size)
  have z4 := hb4.size
  have bQ4 : Boxed W4 (W.heap.size + 1 + 1 + 1) 44 (.slice ra x.T.io.length rc) := (hb4.block _ bQ3.lt).trans bQ3
  have c1 : Boxed W4 (V2.heap.size + 1) 52 (.pointer px) := (hb4.block _ k1.lt).trans k1
  have c2 : Boxed W4 V2.heap.size 9 (.string st) := (hb4.block _ k2.lt).trans k2
  have f4 := bQ4.frozen
  have g4 := bQ4.cell
  have bS := bQ4.set (.slice ua (ge st x.T.io).length uc)
  have hB5 : Below V.heap.size V (W4.setCell ⟨W.heap.size + 1 + 1 + 1, 0, none⟩ (.slice ua (ge st x.T.io).length uc)) := hB4.setCell (p := ⟨W.heap.size + 1 + 1 + 1, 0, none⟩) (by show V.heap.size ≤ W.heap.size + 1 + 1 + 1; omega) _
  have s1 := bS.cell
  have s2 := bS.frozen
  have s3 := (hB5.cell (p := ⟨W.heap.size, 4, none⟩) Wlt).trans (unhide Ho).2
  have hR5 := isR_setBox bQ4 hR (.slice ua (ge st x.T.io).length uc)
  have hz5 : (W4.setCell ⟨W.heap.size + 1 + 1 + 1, 0, none⟩ (.slice ua (ge st x.T.io).length uc)).heap.size = W4.heap.size := World.size_setCell _ _ _
  have c1' : Boxed (W4.setCell ⟨W.heap.size + 1 + 1 + 1, 0, none⟩ (.slice ua (ge st x.T.io).length uc)) (V2.heap.size + 1) 52 (.pointer px) := c1.other (by omega) _
  have c2' : Boxed (W4.setCell ⟨W.heap.size + 1 + 1 + 1, 0, none⟩ (.slice ua (ge st x.T.io).length uc)) V2.heap.size 9 (.string st) := c2.other (by omega) _
  rw [hsw] at c1' c2'
  have HR5 := hide hR5
  have HB5 := hide hB5
  have hzz : V.heap.size ≤ W.heap.size + 1 + 1 + 1 := by omega
  clear Rx3 hR hR5 hB5 hb4 hB3 bQ3 k1 k2 r0 r1 c1 c2 hs2 hs1 hsw hs3
  have l1 := c1'.lt
  have l2 := c2'.lt
  have l3 := bS.lt
  by_cases hb0 : b < 0
  · have HC : Hid (cut b (ge st x.T.io) = ge st x.T.io) := cut_all (by omega)
    have d1 : decide (0 ≤ b) = false := by simp; omega
    go_wp2
    exact unhide TT _ _ _ _ (unhide HB5) l1 l2 c1'.cell c2'.cell l3 s1 (by rw [unhide HC]; exact unhide HR5) _ _ _ _ _ _ _ _ _ _ _ _ _ _ _ _ _ _ _ _ _ _ _ _ _ _ _ _ _ _ _ _ _ _ _ _ _ _ _ _ _ _ _ _ _ _ _ _ _ _ _ _ _ _ _ _ _ _ _ _ _ _ _ _ _ _ _ _ _ _ _ _ _ _ _ _ _ _ _ _ _ _ _ _ _ _ _ _ _ _ _ _ _ _ _ _ _ _ _ _ _ _ _
  · by_cases hb1 : b < ((ge st x.T.io).length : Int)
    · obtain ⟨m, rfl⟩ : ∃ m : Nat, b = m := ⟨b.toNat, by omega⟩
      have hml : m < (ge st x.T.io).length := by omega
      have HC : Hid (cut (m : Int) (ge st x.T.io) = (ge st x.T.io).take m) := by
        show cut _ _ = _
        unfold cut
        rw [if_pos ⟨by omega, hb1⟩, Int.toNat_natCast]
      have d1 : decide (0 ≤ (m : Int)) = true := by simp
      have d2 : decide ((m : Int) < ((ge st x.T.io).length : Int)) = true := by simp; omega
      go_wp2
      exact unhide TT _ _ _ _ ((unhide HB5).setCell (p := ⟨W.heap.size + 1 + 1 + 1, 0, none⟩) hzz _) (by rw [World.size_setCell]; exact l1) (by rw [World.size_setCell]; exact l2) (c1'.other (by omega) _).cell (c2'.other (by omega) _).cell (by rw [World.size_setCell]; exact l3) (bS.set (.slice ua m uc)).cell
        (by rw [unhide HC]; exact isR_setBox bS (isR_take (unhide HR5) hml) _) _ _ _ _ _ _ _ _ _ _ _ _ _ _ _ _ _ _ _ _ _ _ _ _ _ _ _ _ _ _ _ _ _ _ _ _ _ _ _ _ _ _ _ _ _ _ _ _ _ _ _ _ _ _ _ _ _ _ _ _ _ _ _ _ _ _ _ _ _ _ _ _ _ _ _ _ _ _ _ _ _ _ _ _ _ _ _ _ _ _ _ _ _ _ _ _ _ _ _ _ _ _ _
    · have HC : Hid (cut b (ge st x.T.io) = ge st x.T.io) := cut_all (by omega)
      have d1 : decide (0 ≤ b) = true := by simp; omega
      have d2 : decide (b < ((ge st x.T.io).length : Int)) = false := by simp; omega
      go_wp2
      exact unhide TT _ _ _ _ (unhide HB5) l1 l2 c1'.cell c2'.cell l3 s1 (by rw [unhide HC]; exact unhide HR5) _ _ _ _ _ _ _ _ _ _ _ _ _ _ _ _ _ _ _ _ _ _ _ _ _ _ _ _ _ _ _ _ _ _ _ _ _ _ _ _ _ _ _ _ _ _ _ _ _ _ _ _ _ _ _ _ _ _ _ _ _ _ _ _ _ _ _ _ _ _ _ _ _ _ _ _ _ _ _ _ _ _ _ _ _ _ _ _ _ _ _ _ _ _ _ _ _ _ _ _ _ _ _
end Go.Proofs.Ytcbcahnajabhfaa
