import Derived.Test.YtpmdfgoajffmeaaIWhB

namespace Go.Proofs.Ytpmdfgoajffmeaa
open Go.RowKit Go.Shelf
attribute [local go_sem] Oper.semAt_some

set_option maxRecDepth 100000 in
set_option maxHeartbeats 8000000 in
theorem whC_any {b3 b5 b6 b8 Bt bm bn bx br : Nat} {p0 ka va : Option Addr} {kc vc : Nat} {ad : Option Addr} {cap : Nat} {ss : List Step} {T : BT} {l : Nat} {r : Loop} {W : World} (hr : W.heap[l]? = some (.loop r)) (C : WC W b3 b5 b6 b8 Bt bm p0 ka va kc vc ad cap ss T) {n : Nat} (hn : Boxed W bn 3 (.int .i64 (n : Int))) (hL : T.io.length ≤ 1152921504606846975)
    {n₀ B bmx M : Nat} {X : BT} (hx : Boxed W bx 23 (.pointer (some ⟨bmx, 0, none⟩))) (hbx : bmx ≠ bx) (hX : IsM W (some ⟨bmx, 0, none⟩) X) (hXl : X.io.length ≤ M) (hM : M ≤ 1152921504606846974) (h₀ : n₀ ≤ bx) (h₀' : n₀ ≤ W.heap.size) (hnx : bn ≠ bx)
    {k : KT} {Q : Exit → Act → World → Prop}
    (h : ∀ W' bm' X', Below n₀ W W' → KeepsFrom B W W' → Boxed W' bn 3 (.int .i64 (n : Int)) → Boxed W' bx 23 (.pointer (some ⟨bm', 0, none⟩)) → bm' ≠ bx → IsM W' (some ⟨bm', 0, none⟩) X' → X'.io.length ≤ M + 1 → ∀ s0 s1 s2 s7 s12 s13 s14 s15 s16 s17 s18 s19 s20 s21 s22 s23 s24 s25 s26 s27 s28 s29 s30 s31 s32 s33 s34 s35 s36 s37 s38 s39 s40 s41 s42 s43 s44 s45 s46 s47 s48 s49 s50 s51 s52 s53 s54 s55 s56 s57 s58 s59 s60 s61 s62 s63 s64 s65 s66 s67 s68 s69 s70 s71 s72 s73 s74 s75 s76 s77 s78 s79 s80 s81 s82 s83 s84 s85 s86 s87 s88 s89 s90 s91 s92 s93 s94 s95 s96 s97 s98 s99 s100 s101 s102 s103 s104 s105 s106 s107 s108 s109 s110 s111 s112 s113 s114 s115 s116 s117 s118 s119 s120 s121 s122 s123 s124 s125 s126 s127 s128 s129 s130 s131 s132 s133 s134 s135 s136 s137 s138 s139 s140 s141 s142 s143 s144 s145 s146 s147 s148 s149 s150 s151 s152 s153 s154 s155 s156 s157 s158 s159 s160 s161 s162 s163 s164 s165 s166 s167 s168 s169 s170 s171 s172 s173 s174 s175 s176 : Value, Q .normal { tmps := #[s0, s1, s2, .pointer (some ⟨b3, 0, none⟩), .pointer (some ⟨br, 0, none⟩), .pointer (some ⟨b5, 0, none⟩), .pointer (some ⟨b6, 0, none⟩), s7, .pointer (some ⟨b8, 0, none⟩), .pointer (some ⟨bn, 0, none⟩), .pointer (some ⟨bx, 0, none⟩), .int .i64 k, s12, s13, s14, s15, s16, s17, s18, s19, s20, s21, s22, s23, s24, s25, s26, s27, s28, s29, s30, s31, s32, s33, s34, s35, s36, s37, s38, s39, s40, s41, s42, s43, s44, s45, s46, s47, s48, s49, s50, s51, s52, s53, s54, s55, s56, s57, s58, s59, s60, s61, s62, s63, s64, s65, s66, s67, s68, s69, s70, s71, s72, s73, s74, s75, s76, s77, s78, s79, s80, s81, s82, s83, s84, s85, s86, s87, s88, s89, s90, s91, s92, s93, s94, s95, s96, s97, s98, s99, s100, s101, s102, s103, s104, s105, s106, s107, s108, s109, s110, s111, s112, s113, s114, s115, s116, s117, s118, s119, s120, s121, s122, s123, s124, s125, s126, s127, s128, s129, s130, s131, s132, s133, s134, s135, s136, s137, s138, s139, s140, s141, s142, s143, s144, s145, s146, s147, s148, s149, s150, s151, s152, s153, s154, s155, s156, s157, s158, s159, s160, s161, s162, s163, s164, s165, s166, s167, s168, s169, s170, s171, s172, s173, s174, s175, s176], defers := [] } W') (s0 s1 s2 s7 s12 s13 s14 s15 s16 s17 s18 s19 s20 s21 s22 s23 s24 s25 s26 s27 s28 s29 s30 s31 s32 s33 s34 s35 s36 s37 s38 s39 s40 s41 s42 s43 s44 s45 s46 s47 s48 s49 s50 s51 s52 s53 s54 s55 s56 s57 s58 s59 s60 s61 s62 s63 s64 s65 s66 s67 s68 s69 s70 s71 s72 s73 s74 s75 s76 s77 s78 s79 s80 s81 s82 s83 s84 s85 s86 s87 s88 s89 s90 s91 s92 s93 s94 s95 s96 s97 s98 s99 s100 s101 s102 s103 s104 s105 s106 s107 s108 s109 s110 s111 s112 s113 s114 s115 s116 s117 s118 s119 s120 s121 s122 s123 s124 s125 s126 s127 s128 s129 s130 s131 s132 s133 s134 s135 s136 s137 s138 s139 s140 s141 s142 s143 s144 s145 s146 s147 s148 s149 s150 s151 s152 s153 s154 s155 s156 s157 s158 s159 s160 s161 s162 s163 s164 s165 s166 s167 s168 s169 s170 s171 s172 s173 s174 s175 s176 : Value) :
    whC.wpIn (Fence.wide.inRound l) 7 Try.prog Q { tmps := #[s0, s1, s2, .pointer (some ⟨b3, 0, none⟩), .pointer (some ⟨br, 0, none⟩), .pointer (some ⟨b5, 0, none⟩), .pointer (some ⟨b6, 0, none⟩), s7, .pointer (some ⟨b8, 0, none⟩), .pointer (some ⟨bn, 0, none⟩), .pointer (some ⟨bx, 0, none⟩), .int .i64 k, s12, s13, s14, s15, s16, s17, s18, s19, s20, s21, s22, s23, s24, s25, s26, s27, s28, s29, s30, s31, s32, s33, s34, s35, s36, s37, s38, s39, s40, s41, s42, s43, s44, s45, s46, s47, s48, s49, s50, s51, s52, s53, s54, s55, s56, s57, s58, s59, s60, s61, s62, s63, s64, s65, s66, s67, s68, s69, s70, s71, s72, s73, s74, s75, s76, s77, s78, s79, s80, s81, s82, s83, s84, s85, s86, s87, s88, s89, s90, s91, s92, s93, s94, s95, s96, s97, s98, s99, s100, s101, s102, s103, s104, s105, s106, s107, s108, s109, s110, s111, s112, s113, s114, s115, s116, s117, s118, s119, s120, s121, s122, s123, s124, s125, s126, s127, s128, s129, s130, s131, s132, s133, s134, s135, s136, s137, s138, s139, s140, s141, s142, s143, s144, s145, s146, s147, s148, s149, s150, s151, s152, s153, s154, s155, s156, s157, s158, s159, s160, s161, s162, s163, s164, s165, s166, s167, s168, s169, s170, s171, s172, s173, s174, s175, s176], defers := [] } W := by
  have HC := hide C
  have c3 := C.c3
  have nc := hn.cell
  have H := hide h
  clear h
  unfold whC whBody
  dsimp only [Try.f4]
  by_cases hlt : n < ss.length
  · obtain ⟨o, ho⟩ : ∃ o, ss[n]? = some o := ⟨_, List.getElem?_eq_getElem hlt⟩
    obtain ⟨hwf, b, off, hab, hcell⟩ := C.st
    obtain ⟨rfl, hbl⟩ := hab (by omega)
    obtain ⟨d0, d1, d2, d3, d4, d5⟩ := hcell n o ho
    have hn0 : (0 : Int) ≤ (n : Int) := Int.natCast_nonneg _
    have hn1 : (n : Int) < (ss.length : Int) := by omega
    have hd : decide ((n : Int) < (ss.length : Int)) = true := by simp; omega
    have m5 := C.m5
    obtain ⟨bm', p, e5, f1, f2, f3, f4⟩ := C.isM
    obtain rfl : bm = bm' := by simpa using e5
    have Hf3 := hide f3
    have Hf4 := hide f4
    have Hho := hide ho
    clear f3 f4 e5
    clear hcell hwf hab C ho
    have hV1 : Below W.heap.size W (W.alloc (.cells #[.int .i64 o.kind, .int .i64 o.on, .int .i64 o.other, .int .i64 o.a, .int .i64 o.b, .string o.s] 42)) := (Below.refl _ _).alloc (Nat.le_refl _) _
    have bO := World.alloc_heap_new W (.cells #[.int .i64 o.kind, .int .i64 o.on, .int .i64 o.other, .int .i64 o.a, .int .i64 o.b, .string o.s] 42)
    have z1 : (W.alloc (.cells #[.int .i64 o.kind, .int .i64 o.on, .int .i64 o.other, .int .i64 o.a, .int .i64 o.b, .string o.s] 42)).heap.size = W.heap.size + 1 := World.size_alloc _ _
    have hV2 : Below (W.alloc (.cells #[.int .i64 o.kind, .int .i64 o.on, .int .i64 o.other, .int .i64 o.a, .int .i64 o.b, .string o.s] 42)).heap.size (W.alloc (.cells #[.int .i64 o.kind, .int .i64 o.on, .int .i64 o.other, .int .i64 o.a, .int .i64 o.b, .string o.s] 42)) ((W.alloc (.cells #[.int .i64 o.kind, .int .i64 o.on, .int .i64 o.other, .int .i64 o.a, .int .i64 o.b, .string o.s] 42)).alloc (.cells #[.int .i64 0] 3)) := (Below.refl _ _).alloc (Nat.le_refl _) _
    have bI := Boxed.new (W.alloc (.cells #[.int .i64 o.kind, .int .i64 o.on, .int .i64 o.other, .int .i64 o.a, .int .i64 o.b, .string o.s] 42)) 3 (.int .i64 0)
    have z2 : ((W.alloc (.cells #[.int .i64 o.kind, .int .i64 o.on, .int .i64 o.other, .int .i64 o.a, .int .i64 o.b, .string o.s] 42)).alloc (.cells #[.int .i64 0] 3)).heap.size = W.heap.size + 1 + 1 := by rw [World.size_alloc, z1]
    have bO2 := (hV2.block W.heap.size (by omega)).trans bO
    have m5' := (hV2.cell (p := ⟨b5, 0, none⟩) (by have := lt_of_cell m5; show b5 < _; simp at this; omega)).trans ((hV1.cell (p := ⟨b5, 0, none⟩) (lt_of_cell m5)).trans m5)
    obtain ⟨_, _, _, o3, _, _⟩ := cells6_of bO2
    rw [z1] at bI
    clear m5
    gi_wp2_with fail
    generalize hW1 : W.alloc (.cells #[.int .i64 o.kind, .int .i64 o.on, .int .i64 o.other, .int .i64 o.a, .int .i64 o.b, .string o.s] 42) = V1 at *
    generalize V1.alloc (.cells #[.int .i64 0] 3) = V2 at *
    clear hW1 d0 d1 d2 d3 d4 d5
    have f2' : V2.cell? ⟨bm, 0, none⟩ = some (.pointer p) := (hV2.cell (p := ⟨bm, 0, none⟩) (by show bm < _; omega)).trans ((hV1.cell (p := ⟨bm, 0, none⟩) f1).trans f2)
    refine ⟨trivial, ?_⟩
    refine (CallsIn.inRound l (from_in Fence.wide 6 trivial rfl bm p o.a V2 f2' (by omega))).mono ?_
    rintro e w' ⟨rfl, rfl⟩
    have hV3 : Below V2.heap.size V2 ((V2.alloc (.cells #[.int .i64 o.a] 3)).alloc (.cells #[.pointer p] 49)) := ((Below.refl _ _).alloc (Nat.le_refl _) _).alloc (by rw [World.size_alloc]; omega) _
    have bK := Boxed.new V2 3 (.int .i64 o.a)
    have bP := Boxed.new (V2.alloc (.cells #[.int .i64 o.a] 3)) 49 (.pointer p)
    have z3 : (V2.alloc (.cells #[.int .i64 o.a] 3)).heap.size = V2.heap.size + 1 := World.size_alloc _ _
    have bK' := bK.alloc (.cells #[.pointer p] 49)
    rw [z3] at bP
    have z4 : ((V2.alloc (.cells #[.int .i64 o.a] 3)).alloc (.cells #[.pointer p] 49)).heap.size = V2.heap.size + 1 + 1 := by rw [World.size_alloc, z3]
    have hnf := func_not_nil
    gi_wp2
    generalize (V2.alloc (.cells #[.int .i64 o.a] 3)).alloc (.cells #[.pointer p] 49) = V3 at *
    clear hnf
    rw [z2] at bK' bP
    have hV13 : Below V1.heap.size V1 V3 := hV2.trans (hV3.mono hV2.size)
    have hW3 : Below W.heap.size W V3 := hV1.trans (hV13.mono hV1.size)
    have hr1 : V1.heap[l]? = some (.loop r) := (hV1.block l (Array.getElem?_eq_some_iff.1 hr).1).trans hr
    have hT1 : IsT V1.heap.size V3 p T := ((unhide Hf3).below hW3).mono (by omega)
    have bI3 : Boxed V3 (W.heap.size + 1) 3 (.int .i64 0) := (hV3.block _ (by omega)).trans bI
    have hgl := ge_len o.a T.io
    refine inner_loop (W0 := V1) (bc := W.heap.size + 1) (L := ge o.a T.io) (r := r) (fun _ => True) trivial (fun a x => { tmps := (a.tmps.setIfInBounds 130 (.int .i64 x.1)).setIfInBounds 131 (.int .i64 x.2), defers := [] }) hr1 (gf := 25) (lb := #[.pointer (some ⟨W.heap.size + 1 + 1 + 1, 0, none⟩), .pointer (some ⟨W.heap.size + 1 + 1, 0, none⟩)]) rfl (enters_of Try.func25 (by kernel_rfl) rfl)
      (from_stops Fence.wide rfl 6 trivial trivial trivial rfl (W.heap.size + 1 + 1 + 1) (W.heap.size + 1 + 1) V1.heap.size p o.a T V3 (by omega) (by omega) hV13.size bP.cell bK'.cell hT1 (unhide Hf4)) hV13 (fun _ => rfl) bI3 ?assign ?body ?fin
    case assign =>
      intro l2 x W2 K hK
      gi_wp2
      exact hK
    case body =>
      rintro l2 pre x W2 bn' _ hBW hlt2
      simp only [List.setIfInBounds_toArray, List.set_cons_succ, List.set_cons_zero]
      have CW := ((unhide HC).up hV1).up hBW
      have c2 := CW.k6
      have hc1 := bn'.cell
      have hc2 := bn'.frozen
      have hln : ((pre ++ [x]).length : Int) = (pre.length : Int) + 1 := by simp
      have hG : decide ((T.io.length : Int) < (pre.length : Int) + 1) = false := by simp; omega
      have c4 : (W2.setCell ⟨W.heap.size + 1, 0, none⟩ (.int .i64 ((pre.length : Int) + 1))).cell? ⟨b6, 1, none⟩ = some (.slice ka T.io.length kc) := (World.cell?_of_block (a := ⟨b6, 1, none⟩) (Below.heap_setCell _ ⟨W.heap.size + 1, 0, none⟩ _ b6 (by have := lt_of_cell (unhide HC).k6; simp at this; show b6 ≠ W.heap.size + 1; omega))).trans c2
      have HB := hide hBW
      clear CW
      gi_wp2
      refine ⟨(KeepsOthers.setCell _ _ _).from _, (Below.refl _ W2).setCell (p := ⟨W.heap.size + 1, 0, none⟩) (by show _ ≤ W.heap.size + 1; omega) _, ?_, trivial, (unhide HB).setCell (p := ⟨W.heap.size + 1, 0, none⟩) (by show _ ≤ W.heap.size + 1; omega) _⟩
      rw [hln]; exact bn'.set _
    case fin =>
      intro W2 bn' hBW
      have CW := ((unhide HC).up hV1).up hBW
      have zz := hBW.size
      have hWB : Below W.heap.size W W2 := hV1.trans (hBW.mono (by omega))
      have m2 := CW.m5
      have k2 := CW.k6
      obtain ⟨_, _, _, p3, p4, _⟩ := cells6_of ((hBW.block W.heap.size (by omega)).trans bO)
      have hc1 := bn'.cell
      have hMW := CW.isM
      have hgr := ge_rk o.a T.io
      have hne : (((ge o.a T.io).length : Int) != (T.io.length : Int) - (rk o.a T.io : Int)) = false := by simp; omega
      have hx2 : Boxed W2 bx 23 (.pointer (some ⟨bmx, 0, none⟩)) := (hWB.block bx hx.lt).trans hx
      have hn2 : Boxed W2 bn 3 (.int .i64 (n : Int)) := (hWB.block bn hn.lt).trans hn
      have hX2 := hX.up hWB
      have xc := hx2.cell
      have Hn2 := hide hn2
      have hbxl := hx.lt
      clear CW hn2 o3 f2 f2' bO bO2 bK bK' bP bI bI3 hV2 hV3 hV13 hW3
      gi_wp2_with fail
      refine ⟨trivial, ?_⟩
      refine (CallsIn.inRound l (callsIn_wide.2 (mrank_any o.a hMW (by omega)))).mono ?_
      rintro e w' ⟨f, rfl, _, he⟩
      obtain rfl : W2 = w' := he.symm
      gi_wp2_with fail
      refine ⟨trivial, ?_⟩
      refine (CallsIn.inRound l (callsIn_wide.2 (mput_any (o.a, o.b) hX2 (by omega)))).mono ?_
      rintro e w3 ⟨_, U, rfl, hU, mU, hb4, bm1, rfl, hnew⟩
      have hlU : U.io.length ≤ X.io.length + 1 := by
        have hs' : Srt U.io := by obtain ⟨_, _, _, _, _, _, q⟩ := hU; exact q
        have := hs'.len_le (z := (o.a, o.b) :: X.io) (fun y hy => by
          rcases (mU y).1 hy with h | h
          · simp [h]
          · simp [h.1])
        simpa using this
      have hx3 : Boxed w3 bx 23 (.pointer (some ⟨bmx, 0, none⟩)) := (hb4.block bx hx2.lt).trans hx2
      have hx3c := hx3.cell
      have hx3f := hx3.frozen
      have hx4 := hx3.set (.pointer (some ⟨bm1, 0, none⟩))
      have hx4c := hx4.cell
      have hU4 : IsM (w3.setCell ⟨bx, 0, none⟩ (.pointer (some ⟨bm1, 0, none⟩))) (some ⟨bm1, 0, none⟩) U := isM_setBox hx3 (fun e h => by cases h) (by omega) hU
      have hk4 : KeepsFrom B W (w3.setCell ⟨bx, 0, none⟩ (.pointer (some ⟨bm1, 0, none⟩))) := (keepsFrom_below (hWB.trans (hb4.mono hWB.size))).trans ((KeepsOthers.setCell _ _ _).from _)
      have hb5 : Below n₀ W (w3.setCell ⟨bx, 0, none⟩ (.pointer (some ⟨bm1, 0, none⟩))) := (((hWB.mono h₀').trans (hb4.mono (by omega))).setCell (p := ⟨bx, 0, none⟩) h₀ _)
      have hn4 : Boxed (w3.setCell ⟨bx, 0, none⟩ (.pointer (some ⟨bm1, 0, none⟩))) bn 3 (.int .i64 (n : Int)) := Boxed.other ((hb4.block bn (unhide Hn2).lt).trans (unhide Hn2)) hnx _
      have Hn4 := hide hn4
      clear hn4 mU p3 p4 m2 k2 hc1 hMW hX2 hx2 xc
      gi_wp2_with fail
      generalize w3.setCell ⟨bx, 0, none⟩ (.pointer (some ⟨bm1, 0, none⟩)) = w4 at *
      refine ⟨trivial, ?_⟩
      refine (CallsIn.inRound l (callsIn_wide.2 (mdrop_any k hU4 (by omega)))).mono ?_
      rintro e w5 ⟨_, U2, rfl, hU2, mU2, hb6, bm2, rfl, hnew2⟩
      have hlU2 : U2.io.length ≤ U.io.length := by
        have hs' : Srt U2.io := by obtain ⟨_, _, _, _, _, _, q⟩ := hU2; exact q
        exact hs'.len_le (fun y hy => ((mU2 y).1 hy).1)
      have hx5 : Boxed w5 bx 23 (.pointer (some ⟨bm1, 0, none⟩)) := (hb6.block bx hx4.lt).trans hx4
      have hx5c := hx5.cell
      have hx5f := hx5.frozen
      have hx6 := hx5.set (.pointer (some ⟨bm2, 0, none⟩))
      have hx6c := hx6.cell
      have z5 := hb5.size
      have z6 := hx4.lt
      have HU6 : Hid (IsM (w5.setCell ⟨bx, 0, none⟩ (.pointer (some ⟨bm2, 0, none⟩))) (some ⟨bm2, 0, none⟩) U2) := isM_setBox hx5 (fun e h => by cases h) (by omega) hU2
      have HK6 : Hid (KeepsFrom B W (w5.setCell ⟨bx, 0, none⟩ (.pointer (some ⟨bm2, 0, none⟩)))) := (hk4.trans (keepsFrom_below hb6)).trans ((KeepsOthers.setCell _ _ _).from _)
      have HB6 : Hid (Below n₀ W (w5.setCell ⟨bx, 0, none⟩ (.pointer (some ⟨bm2, 0, none⟩)))) := (hb5.trans (hb6.mono (by omega))).setCell (p := ⟨bx, 0, none⟩) h₀ _
      have HN6 : Hid (Boxed (w5.setCell ⟨bx, 0, none⟩ (.pointer (some ⟨bm2, 0, none⟩))) bn 3 (.int .i64 (n : Int))) := Boxed.other ((hb6.block bn (unhide Hn4).lt).trans (unhide Hn4)) hnx _
      have HX6 := hide hx6
      clear hU4 hk4 hb5 mU2 hx4 hx4c
      gi_wp2
      exact unhide H _ bm2 U2 (unhide HB6) (unhide HK6) (unhide HN6) (unhide HX6) (by omega) (unhide HU6) (by omega) _ _ _ _ _ _ _ _ _ _ _ _ _ _ _ _ _ _ _ _ _ _ _ _ _ _ _ _ _ _ _ _ _ _ _ _ _ _ _ _ _ _ _ _ _ _ _ _ _ _ _ _ _ _ _ _ _ _ _ _ _ _ _ _ _ _ _ _ _ _ _ _ _ _ _ _ _ _ _ _ _ _ _ _ _ _ _ _ _ _ _ _ _ _ _ _ _ _ _ _ _ _ _ _ _ _ _ _ _ _ _ _ _ _ _ _ _ _ _ _ _ _ _ _ _ _ _ _ _ _ _ _ _ _ _ _ _ _ _ _ _ _ _ _ _ _ _ _ _ _ _ _ _ _ _ _ _ _ _ _ _ _ _ _ _ _ _ _ _
  · have hd : decide ((n : Int) < (ss.length : Int)) = false := by simp; omega
    clear C
    gi_wp2
    exact unhide H _ bmx X (Below.refl _ _) (KeepsFrom.refl _ _) hn hx hbx hX (by omega) _ _ _ _ _ _ _ _ _ _ _ _ _ _ _ _ _ _ _ _ _ _ _ _ _ _ _ _ _ _ _ _ _ _ _ _ _ _ _ _ _ _ _ _ _ _ _ _ _ _ _ _ _ _ _ _ _ _ _ _ _ _ _ _ _ _ _ _ _ _ _ _ _ _ _ _ _ _ _ _ _ _ _ _ _ _ _ _ _ _ _ _ _ _ _ _ _ _ _ _ _ _ _ _ _ _ _ _ _ _ _ _ _ _ _ _ _ _ _ _ _ _ _ _ _ _ _ _ _ _ _ _ _ _ _ _ _ _ _ _ _ _ _ _ _ _ _ _ _ _ _ _ _ _ _ _ _ _ _ _ _ _ _ _ _ _ _ _ _
end Go.Proofs.Ytpmdfgoajffmeaa
