import Derived.Test.YtcbcahnajabhfaaSRuns
namespace Go.Proofs.Ytcbcahnajabhfaa
open Go.RowKit Go.Shelf
attribute [local go_sem] kless_eq keq_eq kne_eq kgeq_eq
attribute [local go_sem ↓] Go.wp_at_zero Go.wp_at_succ

theorem isR_take {W : World} {a : Option Addr} {c : Nat} {l : List Ent} (h : IsR W (.slice a l.length c) l) {m : Nat} (hm : m < l.length) : IsR W (.slice a m c) (l.take m) := by
  obtain ⟨a', c', e, h1, h2, h3⟩ := h
  obtain ⟨rfl, rfl⟩ : a = a' ∧ c = c' := by simpa using e
  have hl : (l.take m).length = m := by rw [List.length_take]; omega
  refine ⟨a, c, by rw [hl], by omega, h2, fun _ => ?_⟩
  obtain ⟨g, o, rfl, hg, hc⟩ := h3 (by omega)
  refine ⟨g, o, rfl, hg, fun i x hx => hc i x ?_⟩
  have hi : i < (l.take m).length := (List.getElem?_eq_some_iff.1 hx).1
  rwa [List.getElem?_take_of_lt (by omega)] at hx
theorem cells1_of {W : World} {b : Nat} {v : Value} {t : TypeId} (h : Boxed W b t v) : W.cell? ⟨b, 0, none⟩ = some v ∧ W.frozen? ⟨b, 0, none⟩ = false := ⟨h.cell, h.frozen⟩

def RunsTo (W : World) (e : Ending) (W' : World) : Prop := e = .returned (.bool true) ∧ Below W.heap.size W W'

set_option maxRecDepth 100000 in
set_option maxHeartbeats 4000000 in
theorem runs_all {base bw N : Nat} {W : World} {vs : List Ver} (o : Step) (hwf : o.wf) (h : St base W bw vs) (hN : ∀ v ∈ vs, v.T.io.length ≤ N) (hbig : (2 * N + 2) ≤ 5864062014805) (hvs : vs.length ≤ 4096) (hk : o.kind = 11) :
    Calls Try.prog 23 #[.pointer (some ⟨bw, 0, none⟩), o.val] W fun e W' => e = .returned (.bool true) ∧ Below W.heap.size W W' := by
  obtain ⟨kd, on, other, a, b, st⟩ := o
  obtain ⟨_, ⟨w3, w4⟩, ⟨w5, w6⟩, ⟨w7, w8⟩, w9, w10⟩ := hwf
  simp only at hk w3 w4 w5 w6 w7 w8 w9 w10
  subst hk
  have hs0 : (W.alloc (.cells #[.int .i64 11, .int .i64 on, .int .i64 other, .int .i64 a, .int .i64 b, .string st] 32)).heap.size = W.heap.size + 1 := World.size_alloc _ _
  have hB0 : Below W.heap.size W ((W.alloc (.cells #[.int .i64 11, .int .i64 on, .int .i64 other, .int .i64 a, .int .i64 b, .string st] 32)).alloc (.cells #[.bool false] 4)) := ((Below.refl _ W).alloc (Nat.le_refl _) _).alloc (by omega) _
  have hbox0 := World.alloc_heap_new W (.cells #[.int .i64 11, .int .i64 on, .int .i64 other, .int .i64 a, .int .i64 b, .string st] 32)
  have hbox := (Below.heap_alloc (W.alloc (.cells #[.int .i64 11, .int .i64 on, .int .i64 other, .int .i64 a, .int .i64 b, .string st] 32)) (.cells #[.bool false] 4) W.heap.size (by omega)).trans hbox0
  have hres := Boxed.new (W.alloc (.cells #[.int .i64 11, .int .i64 on, .int .i64 other, .int .i64 a, .int .i64 b, .string st] 32)) 4 (.bool false)
  have hs1 : ((W.alloc (.cells #[.int .i64 11, .int .i64 on, .int .i64 other, .int .i64 a, .int .i64 b, .string st] 32)).alloc (.cells #[.bool false] 4)).heap.size = W.heap.size + 1 + 1 := by rw [World.size_alloc, hs0]
  rw [hs0] at hres
  have hnf := func_not_nil
  refine (callsIn_wide (n := 5)).1 ?_
  refine callsIn_of_wp_marks Try.func23 runs_split trivial ?_ rfl
  rw [wpIn_wide]
  obtain ⟨t, ht⟩ : ∃ t, runsTail = t := ⟨_, rfl⟩
  rw [ht]
  unfold runsWith Step.val
  dsimp only [Try.f23]
  simp only [List.size_toArray, List.length_cons, List.length_nil, Nat.reduceAdd, Nat.reduceSub, Array.replicate_succ, Array.replicate_zero, List.push_toArray, List.append_toArray, List.nil_append, List.cons_append]
  go_wp2
  generalize (W.alloc (.cells #[.int .i64 11, .int .i64 on, .int .i64 other, .int .i64 a, .int .i64 b, .string st] 32)).alloc (.cells #[.bool false] 4) = V at *
  obtain ⟨o0, o1, o2, o3, o4, o5⟩ := cells6_of hbox
  have hV := h.up hB0
  obtain ⟨gM, cM, gR, cR, m0, m1, mb, mg, rg, hn, hbb, hcells, hver⟩ := hV.reads
  have Hcells := hide hcells
  have Hver := hide hver
  have HN := hide hN
  clear hcells hver hV hN hbox hbox0 h
  go_region_held3 (fun w' => w'.cell? ⟨W.heap.size, 1, none⟩ = some (.int .i64 on) ∧ w'.cell? ⟨bw, 0, none⟩ = some (.slice (some ⟨gM, 0, none⟩) vs.length cM)) (go_keep)
    (first
      | (go_at_call 12; refine (within_any _ on vs.length hn (by omega)).mono ?_; rintro e w' ⟨i, hi, rfl, rfl⟩))
  obtain ⟨x, hx⟩ : ∃ x, vs[i]? = some x := ⟨_, List.getElem?_eq_getElem hi⟩
  obtain ⟨hxm, hxr⟩ := unhide Hcells i x hx
  obtain ⟨mx, rx⟩ := unhide Hver x (List.mem_of_getElem? hx)
  have nx := unhide HN x (List.mem_of_getElem? hx)
  have hi0 : (0 : Int) ≤ (i : Int) := Int.natCast_nonneg _
  have hi1 : (i : Int) < (vs.length : Int) := by omega
  obtain ⟨bmx, px, epx, mx1, mx2, mx3, mx4⟩ := mx
  obtain ⟨ra, rc, hrf, rx1, rx2, rx3⟩ := rx
  rw [epx] at hxm
  go_wp2_with fail
  refine ((callsIn_wide (n := 5)).1 (all_in Fence.wide 5 trivial rfl bmx px _ (by exact mx2))).mono ?_
  rintro e w1 ⟨rfl, rfl⟩
  have hB1 : Below V.heap.size V (V.drew.alloc (.cells #[.pointer px] 52)) := (Below.refl _ V).drew.alloc (Nat.le_refl _) _
  have hs2 : (V.drew.alloc (.cells #[.pointer px] 52)).heap.size = V.heap.size + 1 := World.size_alloc _ _
  have bI : Boxed (V.drew.alloc (.cells #[.pointer px] 52)) V.heap.size 52 (.pointer px) := Boxed.new V.drew 52 (.pointer px)
  have e1 := (hB1.cell (p := ⟨bw, 1, none⟩) mb).trans m1
  have e2 := (hB1.cell (p := ⟨gR, i, none⟩) rg).trans hxr
  rw [hrf] at e2
  have Wlt : W.heap.size < V.heap.size := by omega
  have q0 := (hB1.cell (p := ⟨W.heap.size, 0, none⟩) Wlt).trans o0
  have q4 := (hB1.cell (p := ⟨W.heap.size, 4, none⟩) Wlt).trans o4
  generalize V.drew.alloc (.cells #[.pointer px] 52) = V1 at *
  have Wlt1 : W.heap.size < V1.heap.size := by omega
  have hres1 : Boxed V1 (W.heap.size + 1) 4 (.bool false) := (hB1.block _ (by omega)).trans hres
  have bI1 : Boxed V1 (W.heap.size + 1 + 1) 52 (.pointer px) := by rw [← hs1]; exact bI
  have hBV1 : Below W.heap.size W V1 := hB0.trans (hB1.mono hB0.size)
  have hs3 : V1.heap.size = W.heap.size + 1 + 1 + 1 := by omega
  have rx0 : IsR V (.slice ra x.T.io.length rc) x.T.io := ⟨ra, rc, rfl, rx1, rx2, fun hp => let ⟨g, h4, h5, h6⟩ := rx3 hp; ⟨g, 0, h4, h5, h6⟩⟩
  have rxV1 := rx0.up hB1
  have hL : (x.T.io.length : Int) ≤ 1152921504606846976 := by omega
  have T3 : IsT V1.heap.size V1 px x.T := (mx3.below hB1).mono hB1.size
  have TAIL : ∀ (V2 : World) (m : Nat), Below V1.heap.size V1 V2 → V2.heap.size = V1.heap.size + 1 → V2.cell? ⟨W.heap.size + 1 + 1 + 1, 0, none⟩ = some (.slice ra m rc) → IsR V1 (.slice ra m rc) (cut b x.T.io) →
      ∀ (s0 s1 s2 s5 s8 s9 s10 s11 s12 s13 s14 s15 s16 s17 s18 s19 s20 s21 s22 s23 s24 s25 s26 s27 s28 s29 s30 s31 s32 s33 s34 s35 s36 s37 s38 s39 s40 s41 s42 s43 s44 s45 s46 s47 s48 s49 s50 s51 s52 s53 s54 s55 s56 s57 s58 s59 s60 s61 s62 s63 s64 s65 s66 s67 s68 s69 s70 s71 s72 s73 s74 s75 s76 s77 s78 s79 s80 s81 s82 s83 s84 s85 s86 s87 s88 s89 s90 s91 s92 s93 s94 s95 s96 s97 s98 s99 s100 s101 s102 s103 s104 s105 s106 : Value), t.wp Try.prog (bodyPostM Fence.wide 5 Try.prog Try.f23 fun e W' => e = .returned (.bool true) ∧ Below W.heap.size W W') { tmps := #[s0, s1, s2, .pointer (some ⟨W.heap.size, 0, none⟩), .pointer (some ⟨W.heap.size + 1, 0, none⟩), s5, .func (.func 26) #[] #[.pointer (some ⟨W.heap.size + 1 + 1, 0, none⟩)], .pointer (some ⟨W.heap.size + 1 + 1 + 1, 0, none⟩), s8, s9, s10, s11, s12, s13, s14, s15, s16, s17, s18, s19, s20, s21, s22, s23, s24, s25, s26, s27, s28, s29, s30, s31, s32, s33, s34, s35, s36, s37, s38, s39, s40, s41, s42, s43, s44, s45, s46, s47, s48, s49, s50, s51, s52, s53, s54, s55, s56, s57, s58, s59, s60, s61, s62, s63, s64, s65, s66, s67, s68, s69, s70, s71, s72, s73, s74, s75, s76, s77, s78, s79, s80, s81, s82, s83, s84, s85, s86, s87, s88, s89, s90, s91, s92, s93, s94, s95, s96, s97, s98, s99, s100, s101, s102, s103, s104, s105, s106], defers := [] } V2 := by
    intro V2 m g1 g2 g3 g4
    intros
    rw [← ht]
    exact wpIn_wide.1 (tail_any (hBV1.trans (g1.mono hBV1.size)) (enters_of Try.func26 (by kernel_rfl) rfl)
      (all_stops Fence.wide rfl 4 trivial trivial rfl (W.heap.size + 1 + 1) V2.heap.size px x.T V2 (by omega) (Nat.le_refl _) ((g1.cell (p := ⟨W.heap.size + 1 + 1, 0, none⟩) (by show W.heap.size + 1 + 1 < _; omega)).trans bI1.cell) ((T3.below g1).mono g1.size))
      ((g1.cell (p := ⟨W.heap.size, 4, none⟩) Wlt1).trans q4) (by omega) g3 (by omega) (g4.up g1) ((g1.block _ hres1.lt).trans hres1) (by omega) w9 w10 hL _ _ _ _ _ _ _ _ _ _ _ _ _ _ _ _ _ _ _ _ _ _ _ _ _ _ _ _ _ _ _ _ _ _ _ _ _ _ _ _ _ _ _ _ _ _ _ _ _ _ _ _ _ _ _ _ _ _ _ _ _ _ _ _ _ _ _ _ _ _ _ _ _ _ _ _ _ _ _ _ _ _ _ _ _ _ _ _ _ _ _ _ _ _ _ _ _ _ _ _ _ _ _)
  have TT := hide TAIL
  clear TAIL
  have hBw : Below V1.heap.size V1 (V1.alloc (.cells #[.slice ra x.T.io.length rc] 44)) := (Below.refl _ _).alloc (Nat.le_refl _) _
  have hsw : (V1.alloc (.cells #[.slice ra x.T.io.length rc] 44)).heap.size = V1.heap.size + 1 := World.size_alloc _ _
  have bQ := Boxed.new V1 44 (.slice ra x.T.io.length rc)
  rw [hs3] at bQ
  have Rx := hide rxV1
  have Hrx3 := hide rx3
  clear rxV1 rx0 rx3 mx3 mx4 T3 hB1 hBV1
  by_cases hb0 : b < 0
  · have HC : Hid (cut b x.T.io = x.T.io) := cut_all (by omega)
    have d1 : decide (0 ≤ b) = false := by simp; omega
    go_wp2
    exact unhide TT _ _ hBw hsw bQ.cell (by rw [unhide HC]; exact unhide Rx) _ _ _ _ _ _ _ _ _ _ _ _ _ _ _ _ _ _ _ _ _ _ _ _ _ _ _ _ _ _ _ _ _ _ _ _ _ _ _ _ _ _ _ _ _ _ _ _ _ _ _ _ _ _ _ _ _ _ _ _ _ _ _ _ _ _ _ _ _ _ _ _ _ _ _ _ _ _ _ _ _ _ _ _ _ _ _ _ _ _ _ _ _ _ _ _ _ _ _ _ _ _ _
  · by_cases hb1 : b < (x.T.io.length : Int)
    · obtain ⟨m, rfl⟩ : ∃ m : Nat, b = m := ⟨b.toNat, by omega⟩
      have hml : m < x.T.io.length := by omega
      have HC : Hid (cut (m : Int) x.T.io = x.T.io.take m) := by
        show cut _ _ = _
        unfold cut
        rw [if_pos ⟨by omega, hb1⟩, Int.toNat_natCast]
      have d1 : decide (0 ≤ (m : Int)) = true := by simp
      have d2 : decide ((m : Int) < (x.T.io.length : Int)) = true := by simp; omega
      have q5 := bQ.cell
      have q6 := bQ.frozen
      have q7 := (hBw.cell (p := ⟨W.heap.size, 4, none⟩) Wlt1).trans q4
      go_wp2
      have bQ2 := Boxed.new V1 44 (.slice ra m rc)
      rw [hs3] at bQ2
      exact unhide TT (V1.alloc (.cells #[.slice ra m rc] 44)) m ((Below.refl _ _).alloc (Nat.le_refl _) _) (World.size_alloc _ _) bQ2.cell (by rw [unhide HC]; exact isR_take (unhide Rx) hml) _ _ _ _ _ _ _ _ _ _ _ _ _ _ _ _ _ _ _ _ _ _ _ _ _ _ _ _ _ _ _ _ _ _ _ _ _ _ _ _ _ _ _ _ _ _ _ _ _ _ _ _ _ _ _ _ _ _ _ _ _ _ _ _ _ _ _ _ _ _ _ _ _ _ _ _ _ _ _ _ _ _ _ _ _ _ _ _ _ _ _ _ _ _ _ _ _ _ _ _ _ _ _
    · have HC : Hid (cut b x.T.io = x.T.io) := cut_all (by omega)
      have d1 : decide (0 ≤ b) = true := by simp; omega
      have d2 : decide (b < (x.T.io.length : Int)) = false := by simp; omega
      go_wp2
      exact unhide TT _ _ hBw hsw bQ.cell (by rw [unhide HC]; exact unhide Rx) _ _ _ _ _ _ _ _ _ _ _ _ _ _ _ _ _ _ _ _ _ _ _ _ _ _ _ _ _ _ _ _ _ _ _ _ _ _ _ _ _ _ _ _ _ _ _ _ _ _ _ _ _ _ _ _ _ _ _ _ _ _ _ _ _ _ _ _ _ _ _ _ _ _ _ _ _ _ _ _ _ _ _ _ _ _ _ _ _ _ _ _ _ _ _ _ _ _ _ _ _ _ _
end Go.Proofs.Ytcbcahnajabhfaa
