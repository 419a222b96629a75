import Derived.Test.YtpmdfgoajffmeaaIWhA

namespace Go.Proofs.Ytpmdfgoajffmeaa
open Go.RowKit Go.Shelf
attribute [local go_sem] Oper.semAt_some

/-- The body of the loop of 'OrderWhile'. -/
noncomputable def whBody : Code := match Try.f4.body with
  | some (.seq _ (.seq _ (.seq _ (.seq _ (.seq _ (.seq _ (.seq _ (.seq _ (.seq _ (.seq _ (.seq (.seq _ (.block _ (.rangeFunc _ _ _ (.block _ b)))) _))))))))))) => b
  | _ => .skip
noncomputable def whB : Code := match whBody with
  | .seq _ (.seq b _) => b
  | _ => .skip
noncomputable def whC : Code := match whBody with
  | .seq _ (.seq _ (.seq c _)) => c
  | _ => .skip

set_option maxRecDepth 100000 in
set_option maxHeartbeats 4000000 in
theorem whB_any {b3 b5 b6 b8 Bt bm bn bx br : Nat} {p0 ka va : Option Addr} {kc vc : Nat} {ad : Option Addr} {cap : Nat} {ss : List Step} {T : BT} {l : Nat} {r : Loop} {W : World} (hr : W.heap[l]? = some (.loop r)) (C : WC W b3 b5 b6 b8 Bt bm p0 ka va kc vc ad cap ss T) {n : Nat} (hn : W.cell? ⟨bn, 0, none⟩ = some (.int .i64 (n : Int))) (hL : T.io.length ≤ 1152921504606846975)
    (hbr : Boxed W br 4 (.bool false)) {k : KT} {Q : Exit → Act → World → Prop}
    (h : ∀ W', Below W.heap.size W W' → ∀ s0 s1 s2 s7 s12 s13 s14 s15 s16 s17 s18 s19 s20 s21 s22 s23 s24 s25 s26 s27 s28 s29 s30 s31 s32 s33 s34 s35 s36 s37 s38 s39 s40 s41 s42 s43 s44 s45 s46 s47 s48 s49 s50 s51 s52 s53 s54 s55 s56 s57 s58 s59 s60 s61 s62 s63 s64 s65 s66 s67 s68 s69 s70 s71 s72 s73 s74 s75 s76 s77 s78 s79 s80 s81 s82 s83 s84 s85 s86 s87 s88 s89 s90 s91 s92 s93 s94 s95 s96 s97 s98 s99 s100 s101 s102 s103 s104 s105 s106 s107 s108 s109 s110 s111 s112 s113 s114 s115 s116 s117 s118 s119 s120 s121 s122 s123 s124 s125 s126 s127 s128 s129 s130 s131 s132 s133 s134 s135 s136 s137 s138 s139 s140 s141 s142 s143 s144 s145 s146 s147 s148 s149 s150 s151 s152 s153 s154 s155 s156 s157 s158 s159 s160 s161 s162 s163 s164 s165 s166 s167 s168 s169 s170 s171 s172 s173 s174 s175 s176 : Value, Q .normal { tmps := #[s0, s1, s2, .pointer (some ⟨b3, 0, none⟩), .pointer (some ⟨br, 0, none⟩), .pointer (some ⟨b5, 0, none⟩), .pointer (some ⟨b6, 0, none⟩), s7, .pointer (some ⟨b8, 0, none⟩), .pointer (some ⟨bn, 0, none⟩), .pointer (some ⟨bx, 0, none⟩), .int .i64 k, s12, s13, s14, s15, s16, s17, s18, s19, s20, s21, s22, s23, s24, s25, s26, s27, s28, s29, s30, s31, s32, s33, s34, s35, s36, s37, s38, s39, s40, s41, s42, s43, s44, s45, s46, s47, s48, s49, s50, s51, s52, s53, s54, s55, s56, s57, s58, s59, s60, s61, s62, s63, s64, s65, s66, s67, s68, s69, s70, s71, s72, s73, s74, s75, s76, s77, s78, s79, s80, s81, s82, s83, s84, s85, s86, s87, s88, s89, s90, s91, s92, s93, s94, s95, s96, s97, s98, s99, s100, s101, s102, s103, s104, s105, s106, s107, s108, s109, s110, s111, s112, s113, s114, s115, s116, s117, s118, s119, s120, s121, s122, s123, s124, s125, s126, s127, s128, s129, s130, s131, s132, s133, s134, s135, s136, s137, s138, s139, s140, s141, s142, s143, s144, s145, s146, s147, s148, s149, s150, s151, s152, s153, s154, s155, s156, s157, s158, s159, s160, s161, s162, s163, s164, s165, s166, s167, s168, s169, s170, s171, s172, s173, s174, s175, s176], defers := [] } W') (s0 s1 s2 s7 s12 s13 s14 s15 s16 s17 s18 s19 s20 s21 s22 s23 s24 s25 s26 s27 s28 s29 s30 s31 s32 s33 s34 s35 s36 s37 s38 s39 s40 s41 s42 s43 s44 s45 s46 s47 s48 s49 s50 s51 s52 s53 s54 s55 s56 s57 s58 s59 s60 s61 s62 s63 s64 s65 s66 s67 s68 s69 s70 s71 s72 s73 s74 s75 s76 s77 s78 s79 s80 s81 s82 s83 s84 s85 s86 s87 s88 s89 s90 s91 s92 s93 s94 s95 s96 s97 s98 s99 s100 s101 s102 s103 s104 s105 s106 s107 s108 s109 s110 s111 s112 s113 s114 s115 s116 s117 s118 s119 s120 s121 s122 s123 s124 s125 s126 s127 s128 s129 s130 s131 s132 s133 s134 s135 s136 s137 s138 s139 s140 s141 s142 s143 s144 s145 s146 s147 s148 s149 s150 s151 s152 s153 s154 s155 s156 s157 s158 s159 s160 s161 s162 s163 s164 s165 s166 s167 s168 s169 s170 s171 s172 s173 s174 s175 s176 : Value) :
    whB.wpIn (Fence.wide.inRound l) 7 Try.prog Q { tmps := #[s0, s1, s2, .pointer (some ⟨b3, 0, none⟩), .pointer (some ⟨br, 0, none⟩), .pointer (some ⟨b5, 0, none⟩), .pointer (some ⟨b6, 0, none⟩), s7, .pointer (some ⟨b8, 0, none⟩), .pointer (some ⟨bn, 0, none⟩), .pointer (some ⟨bx, 0, none⟩), .int .i64 k, s12, s13, s14, s15, s16, s17, s18, s19, s20, s21, s22, s23, s24, s25, s26, s27, s28, s29, s30, s31, s32, s33, s34, s35, s36, s37, s38, s39, s40, s41, s42, s43, s44, s45, s46, s47, s48, s49, s50, s51, s52, s53, s54, s55, s56, s57, s58, s59, s60, s61, s62, s63, s64, s65, s66, s67, s68, s69, s70, s71, s72, s73, s74, s75, s76, s77, s78, s79, s80, s81, s82, s83, s84, s85, s86, s87, s88, s89, s90, s91, s92, s93, s94, s95, s96, s97, s98, s99, s100, s101, s102, s103, s104, s105, s106, s107, s108, s109, s110, s111, s112, s113, s114, s115, s116, s117, s118, s119, s120, s121, s122, s123, s124, s125, s126, s127, s128, s129, s130, s131, s132, s133, s134, s135, s136, s137, s138, s139, s140, s141, s142, s143, s144, s145, s146, s147, s148, s149, s150, s151, s152, s153, s154, s155, s156, s157, s158, s159, s160, s161, s162, s163, s164, s165, s166, s167, s168, s169, s170, s171, s172, s173, s174, s175, s176], defers := [] } W := by
  have HC := hide C
  have q8 := C.q8
  have H := hide h
  clear h C
  unfold whB whBody
  dsimp only [Try.f4]
  by_cases h7 : (n : Int) % 7 = 1
  · have e7 : ((n : Int) % 7 == 1) = true := by simp [h7]
    have h0 : Below W.heap.size W (W.alloc (.cells #[.int .i64 0] 3)) := (Below.refl _ _).alloc (Nat.le_refl _) _
    have q8' := (h0.cell (p := ⟨b8, 0, none⟩) (lt_of_cell q8)).trans q8
    clear q8
    gi_wp2
    have b0 := Boxed.new W 3 (.int .i64 0)
    generalize W.alloc (.cells #[.int .i64 0] 3) = X at *
    have CX := (unhide HC).up h0
    refine inner_loop (W0 := W) (bc := W.heap.size) (L := T.io) (r := r) (fun pre => pre <+: T.io) List.nil_prefix (fun a x => { tmps := (((a.tmps.setIfInBounds 83 (.int .i64 x.1)).setIfInBounds 84 (.int .i64 x.2)).setIfInBounds 14 (.int .i64 x.1)).setIfInBounds 15 (.int .i64 x.2), defers := [] }) hr (gf := 23) (lb := #[.pointer (some ⟨Bt, 0, none⟩)]) rfl (enters_of Try.func23 (by kernel_rfl) rfl)
      (all_stops Fence.wide rfl 6 trivial trivial rfl Bt W.heap.size p0 T X (lt_of_cell CX.t8) h0.size CX.t8 ((unhide HC).isT.below h0)) h0 (fun _ => rfl) b0 ?assign ?body ?fin
    case assign =>
      intro l2 x W2 K hK
      simp only [List.setIfInBounds_toArray, List.set_cons_succ, List.set_cons_zero] at hK
      gi_wp2
      exact hK
    case body =>
      rintro l2 pre x W2 bn' hpre hBW hlt
      simp only [List.setIfInBounds_toArray, List.set_cons_succ, List.set_cons_zero]
      have CW := (unhide HC).up hBW
      obtain ⟨y, hy⟩ : ∃ y, T.io[pre.length]? = some y := ⟨_, List.getElem?_eq_getElem hlt⟩
      obtain ⟨g, g', rfl, rfl, c0, c1⟩ := CW.at hy
      have c2 := CW.k6
      have c3 := CW.v6
      have hr3 : Boxed W2 br 4 (.bool false) := (hBW.block br hbr.lt).trans hbr
      have hr1 := hr3.cell
      have hr2 := hr3.frozen
      have hnx := prefix_next (x := x) hpre hy
      have hln : ((pre ++ [x]).length : Int) = (pre.length : Int) + 1 := by simp
      obtain ⟨j, hj⟩ : ∃ j, pre.length = j := ⟨_, rfl⟩
      rw [hj] at bn' hlt hy hln c0 c1
      have hc1 := bn'.cell
      have hc2 := bn'.frozen
      have hj0 : (0 : Int) ≤ (j : Int) := Int.natCast_nonneg _
      have hj1 : (j : Int) < (T.io.length : Int) := by omega
      have hG : decide ((T.io.length : Int) ≤ (j : Int)) = false := by simp; omega
      have HB := hide hBW
      have Hnx := hide hnx
      clear CW hy hpre hnx
      by_cases hx1 : x.1 = y.1
      · have hd1 : (x.1 != y.1) = false := by simp [hx1]
        by_cases hx2 : x.2 = y.2
        · have hd2 : (x.2 != y.2) = false := by simp [hx2]
          have Hxy : Hid (x = y) := Prod.ext hx1 hx2
          clear hx1 hx2
          gi_wp2
          refine ⟨(KeepsOthers.setCell _ _ _).from _, (Below.refl _ W2).setCell (p := ⟨W.heap.size, 0, none⟩) (Nat.le_refl _) _, ?_, (unhide Hnx).2 (unhide Hxy), (unhide HB).setCell (p := ⟨W.heap.size, 0, none⟩) (Nat.le_refl _) _⟩
          rw [hln]; exact bn'.set _
        · have hd2 : (x.2 != y.2) = true := by simp [hx2]
          have HX : Hid (¬ pre ++ [x] <+: T.io) := fun h => hx2 (by rw [(unhide Hnx).1 h])
          clear hx1 hx2
          gi_wp2
          exact ⟨(KeepsOthers.setCell _ _ _).from _, rfl, unhide HX⟩
      · have hd1 : (x.1 != y.1) = true := by simp [hx1]
        have HX : Hid (¬ pre ++ [x] <+: T.io) := fun h => hx1 (by rw [(unhide Hnx).1 h])
        clear hx1
        gi_wp2
        exact ⟨(KeepsOthers.setCell _ _ _).from _, rfl, unhide HX⟩
    case fin =>
      intro W2 bn' hBW
      have CW := (unhide HC).up hBW
      have c2 := CW.k6
      have hc1 := bn'.cell
      have hne : ((T.io.length : Int) != (T.io.length : Int)) = false := by simp
      clear CW
      gi_wp2
      exact unhide H _ hBW _ _ _ _ _ _ _ _ _ _ _ _ _ _ _ _ _ _ _ _ _ _ _ _ _ _ _ _ _ _ _ _ _ _ _ _ _ _ _ _ _ _ _ _ _ _ _ _ _ _ _ _ _ _ _ _ _ _ _ _ _ _ _ _ _ _ _ _ _ _ _ _ _ _ _ _ _ _ _ _ _ _ _ _ _ _ _ _ _ _ _ _ _ _ _ _ _ _ _ _ _ _ _ _ _ _ _ _ _ _ _ _ _ _ _ _ _ _ _ _ _ _ _ _ _ _ _ _ _ _ _ _ _ _ _ _ _ _ _ _ _ _ _ _ _ _ _ _ _ _ _ _ _ _ _ _ _ _ _ _ _ _ _ _ _ _ _ _ _
  · have e7 : ((n : Int) % 7 == 1) = false := by simp [h7]
    clear q8
    gi_wp2
    exact unhide H _ (Below.refl _ _) _ _ _ _ _ _ _ _ _ _ _ _ _ _ _ _ _ _ _ _ _ _ _ _ _ _ _ _ _ _ _ _ _ _ _ _ _ _ _ _ _ _ _ _ _ _ _ _ _ _ _ _ _ _ _ _ _ _ _ _ _ _ _ _ _ _ _ _ _ _ _ _ _ _ _ _ _ _ _ _ _ _ _ _ _ _ _ _ _ _ _ _ _ _ _ _ _ _ _ _ _ _ _ _ _ _ _ _ _ _ _ _ _ _ _ _ _ _ _ _ _ _ _ _ _ _ _ _ _ _ _ _ _ _ _ _ _ _ _ _ _ _ _ _ _ _ _ _ _ _ _ _ _ _ _ _ _ _ _ _ _ _ _ _ _ _ _ _ _
end Go.Proofs.Ytpmdfgoajffmeaa
