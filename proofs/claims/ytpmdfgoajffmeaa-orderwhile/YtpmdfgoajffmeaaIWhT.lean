import Derived.Test.YtpmdfgoajffmeaaIWhC

namespace Go.Proofs.Ytpmdfgoajffmeaa
open Go.RowKit Go.Shelf
attribute [local go_sem] Oper.semAt_some

noncomputable def whBodyWith (b c : Code) : Code := match whBody with
  | .seq a (.seq _ (.seq _ d)) => .seq a (.seq b (.seq c d))
  | _ => .skip
theorem whBody_split : whBody = whBodyWith whB whC := rfl
noncomputable def whTail : Code := match Try.f4.body with
  | some (.seq _ (.seq _ (.seq _ (.seq _ (.seq _ (.seq _ (.seq _ (.seq _ t)))))))) => t
  | _ => .skip

theorem isT_setBox {A : World} {b : Nat} {t : TypeId} {u v : Value} (hb : Boxed A b t u) {n₀ : Nat} : ∀ {p : Option Addr} {T : BT}, IsT n₀ A p T → IsT n₀ (A.setCell ⟨b, 0, none⟩ v) p T
  | _, .leaf, ht => ht
  | _, .node _ _ _, ⟨k, pl, pr, hp, hk, h0, h1, h2, h3, h4, hl, hr⟩ => by
    have hne : k ≠ b := by
      rintro rfl
      unfold World.cell? at h1
      rw [show A.heap[k]? = _ from hb] at h1
      simp at h1
    have hc : ∀ o, (A.setCell ⟨b, 0, none⟩ v).cell? ⟨k, o, none⟩ = A.cell? ⟨k, o, none⟩ := fun o => World.cell?_of_block (a := ⟨k, o, none⟩) (Below.heap_setCell _ ⟨b, 0, none⟩ _ k hne)
    exact ⟨k, pl, pr, hp, hk, (hc _).trans h0, (hc _).trans h1, (hc _).trans h2, (hc _).trans h3, (hc _).trans h4, isT_setBox hb hl, isT_setBox hb hr⟩
theorem isM_setInt {A : World} {b bm : Nat} {t : TypeId} {n : Int} {v : Value} {T : BT} (hb : Boxed A b t (.int .i64 n)) (h : IsM A (some ⟨bm, 0, none⟩) T) : IsM (A.setCell ⟨b, 0, none⟩ v) (some ⟨bm, 0, none⟩) T := by
  obtain ⟨k, p, e, h1, h2, h3, h4⟩ := h
  obtain rfl : bm = k := by simpa using e
  have hne : bm ≠ b := by
    rintro rfl
    rw [hb.cell] at h2
    simp at h2
  refine ⟨bm, p, rfl, by rw [World.size_setCell]; exact h1, (World.cell?_of_block (a := ⟨bm, 0, none⟩) (Below.heap_setCell _ ⟨b, 0, none⟩ _ bm hne)).trans h2, ?_, h4⟩
  rw [World.size_setCell]
  exact isT_setBox hb h3

/-- Between two rounds. -/
def WhI (U : World) (T : BT) (pre : List Ent) (W : World) : Prop := Boxed W U.heap.size 3 (.int .i64 (pre.length : Int)) ∧ (pre <+: T.io) ∧ (∃ bm X, Boxed W (U.heap.size + 1) 23 (.pointer (some ⟨bm, 0, none⟩)) ∧ bm ≠ U.heap.size + 1 ∧ IsM W (some ⟨bm, 0, none⟩) X ∧ X.io.length ≤ T.io.length + pre.length) ∧ Below U.heap.size U W
theorem whI_own (U : World) (T : BT) (b : Nat) (hb : U.heap.size ≤ b) : OwnFrom b (WhI U T) :=
  OwnFrom.and (Own.from (boxed_own _ _ _) _) (OwnFrom.and (ownFrom_pure _ _) (OwnFrom.and (fun pre A B row ⟨bm, X, h1, h2, h3, h4⟩ hg hr => by
    have hr' : ∀ r, row = some r → ∃ o : Obj, A.heap[r]? = some o ∧ o.isCells = false := fun r e => (hr r e).2
    obtain ⟨v, hv⟩ := isM_bm h3
    exact ⟨bm, X, (block_own hg hr' h1.cell).trans h1, h2, (Keeps.of_own hg hr').isM (block_own hg hr' hv) h3, h4⟩) (ownFrom_below (Nat.le_refl _) hb)))

theorem outer_loop {P : Program} {g : Operand} {ps : Array Tmp} {assign body : Code} {Q : Exit → Act → World → Prop} {a : Act} {w U : World} {T : BT} (A1 : Act → Ent → Act)
    {gf : Nat} {lb : Array Value} (hg : a.eval g = .func (.func gf) #[] lb) (eg : ∀ args w, (callFunc gf args).run P w = .ok (.enter gf args) w)
    {encs : Ent → Array Value} (hseq : SeqStopsK Fence.wide 8 P gf lb encs (Below U.heap.size) (fun ys => ys = T.io) (fun pre => pre <+: T.io) T.io.length w)
    (hU : U.heap.size ≤ w.heap.size) (hps : ∀ x, (encs x).size = ps.size) (h0 : WhI U T [] w)
    (hassign : ∀ (l : Nat) (x : Ent) (W : World) (K : Act → World → Prop), K (A1 a x) W →
      assign.wpIn (Fence.wide.inRound l) 7 P (Exit.then K (fun _ _ _ => False)) { tmps := (ps.zip (encs x)).foldl (fun t (p, v) => t.setIfInBounds p v) a.tmps, defers := [] } W)
    (hbody : ∀ (l : Nat) (r : Loop) (pre : List Ent) (x : Ent) (W : World), W.heap[l]? = some (.loop r) → WhI U T pre W → pre.length < T.io.length → body.wpIn (Fence.wide.inRound l) 7 P (ownPostG w.heap.size (Below U.heap.size) (WhI U T) (LpX T.io) (pre ++ [x]) W) (A1 a x) W)
    (hend : ∀ (D : Nat) (W : World), w.heap.size ≤ D → Boxed W U.heap.size 3 (.int .i64 (T.io.length : Int)) → Below U.heap.size U W → W.heap[D]? = some (.deferred (some [])) → Q .normal { a with defers := { target := .collected D, args := #[] } :: a.defers } W) :
    (Code.rangeFunc g ps assign body).wpIn Fence.wide 9 P Q a w := by
  refine wpIn_rangeFunc_ownH (F := Fence.wide) rfl (by omega) hg trivial eg hseq belowK_t (belowK_b hU) (Below.refl _ _) hps (WhI U T) (LpX T.io) (whI_own U T _ hU) (fun c => ownFrom_pure _ (fun pre => c = .ret ∧ ¬ pre <+: T.io)) h0
    (fun x a' _ => a' = A1 a x) (fun x a' => ownFrom_pure _ (fun _ : Unit => a' = A1 a x)) ?assign ?body ?done ?stop
  case assign =>
    intro l pre x W K hi hK
    exact hassign l x W K (hK _ _ (KeepsFrom.refl _ _) (Below.refl _ _) hi rfl)
  case body =>
    rintro l pre x a' W hl ⟨r, hr⟩ hi rfl hlt
    exact hbody l r pre x W hr hi hlt
  case done =>
    rintro D xs W hD rfl ⟨h1, _, _, h3⟩ hK
    exact hend D W hD h1 h3 hK
  case stop =>
    rintro D c pre W hD hS ⟨rfl, hno⟩ hK
    exact (hno hS).elim

set_option maxRecDepth 100000 in
set_option maxHeartbeats 8000000 in
theorem whT_any {b3 b5 b6 b8 Bt bm br : Nat} {p0 ka va : Option Addr} {kc vc : Nat} {ad : Option Addr} {cap : Nat} {ss : List Step} {T : BT} {W U : World} (hB : Below W.heap.size W U) (C : WC U b3 b5 b6 b8 Bt bm p0 ka va kc vc ad cap ss T) (hL : T.io.length ≤ 17592186044416) (hbr : Boxed U br 4 (.bool false)) (hbr' : W.heap.size ≤ br) (s0 s1 s2 s7 s9 s10 s11 s12 s13 s14 s15 s16 s17 s18 s19 s20 s21 s22 s23 s24 s25 s26 s27 s28 s29 s30 s31 s32 s33 s34 s35 s36 s37 s38 s39 s40 s41 s42 s43 s44 s45 s46 s47 s48 s49 s50 s51 s52 s53 s54 s55 s56 s57 s58 s59 s60 s61 s62 s63 s64 s65 s66 s67 s68 s69 s70 s71 s72 s73 s74 s75 s76 s77 s78 s79 s80 s81 s82 s83 s84 s85 s86 s87 s88 s89 s90 s91 s92 s93 s94 s95 s96 s97 s98 s99 s100 s101 s102 s103 s104 s105 s106 s107 s108 s109 s110 s111 s112 s113 s114 s115 s116 s117 s118 s119 s120 s121 s122 s123 s124 s125 s126 s127 s128 s129 s130 s131 s132 s133 s134 s135 s136 s137 s138 s139 s140 s141 s142 s143 s144 s145 s146 s147 s148 s149 s150 s151 s152 s153 s154 s155 s156 s157 s158 s159 s160 s161 s162 s163 s164 s165 s166 s167 s168 s169 s170 s171 s172 s173 s174 s175 s176 : Value) :
    whTail.wpIn Fence.wide 9 Try.prog (bodyPostM Fence.wide 9 Try.prog Try.f4 fun e W' => e = .returned (.bool true) ∧ Below W.heap.size W W') { tmps := #[s0, s1, s2, .pointer (some ⟨b3, 0, none⟩), .pointer (some ⟨br, 0, none⟩), .pointer (some ⟨b5, 0, none⟩), .pointer (some ⟨b6, 0, none⟩), s7, .pointer (some ⟨b8, 0, none⟩), s9, s10, s11, s12, s13, s14, s15, s16, s17, s18, s19, s20, s21, s22, s23, s24, s25, s26, s27, s28, s29, s30, s31, s32, s33, s34, s35, s36, s37, s38, s39, s40, s41, s42, s43, s44, s45, s46, s47, s48, s49, s50, s51, s52, s53, s54, s55, s56, s57, s58, s59, s60, s61, s62, s63, s64, s65, s66, s67, s68, s69, s70, s71, s72, s73, s74, s75, s76, s77, s78, s79, s80, s81, s82, s83, s84, s85, s86, s87, s88, s89, s90, s91, s92, s93, s94, s95, s96, s97, s98, s99, s100, s101, s102, s103, s104, s105, s106, s107, s108, s109, s110, s111, s112, s113, s114, s115, s116, s117, s118, s119, s120, s121, s122, s123, s124, s125, s126, s127, s128, s129, s130, s131, s132, s133, s134, s135, s136, s137, s138, s139, s140, s141, s142, s143, s144, s145, s146, s147, s148, s149, s150, s151, s152, s153, s154, s155, s156, s157, s158, s159, s160, s161, s162, s163, s164, s165, s166, s167, s168, s169, s170, s171, s172, s173, s174, s175, s176], defers := [] } U := by
  have HC := hide C
  obtain ⟨bn, ebn⟩ : ∃ bn, bn = U.heap.size := ⟨_, rfl⟩
  have h1 : Below U.heap.size U (U.alloc (.cells #[.int .i64 0] 3)) := (Below.refl _ _).alloc (Nat.le_refl _) _
  have z1 : (U.alloc (.cells #[.int .i64 0] 3)).heap.size = U.heap.size + 1 := World.size_alloc _ _
  have h2 : Below U.heap.size U ((U.alloc (.cells #[.int .i64 0] 3)).alloc (.cells #[.pointer (some ⟨bm, 0, none⟩)] 23)) := h1.alloc h1.size _
  have z2 : ((U.alloc (.cells #[.int .i64 0] 3)).alloc (.cells #[.pointer (some ⟨bm, 0, none⟩)] 23)).heap.size = U.heap.size + 1 + 1 := by rw [World.size_alloc, z1]
  have b1 := (Boxed.new U 3 (.int .i64 0)).alloc (.cells #[.pointer (some ⟨bm, 0, none⟩)] 23)
  have b2 := Boxed.new (U.alloc (.cells #[.int .i64 0] 3)) 23 (.pointer (some ⟨bm, 0, none⟩))
  rw [z1] at b2
  have m5 := (h1.cell (p := ⟨b5, 0, none⟩) (lt_of_cell C.m5)).trans C.m5
  have q8 := (h2.cell (p := ⟨b8, 0, none⟩) (lt_of_cell C.q8)).trans C.q8
  have hbm : bm < U.heap.size := by
    obtain ⟨v, hv⟩ := isM_bm C.isM
    exact lt_of_cell hv
  clear C
  unfold whTail
  dsimp only [Try.f4]
  gi_wp2
  generalize (U.alloc (.cells #[.int .i64 0] 3)).alloc (.cells #[.pointer (some ⟨bm, 0, none⟩)] 23) = w at *
  clear m5 h1
  have Cw := (unhide HC).up h2
  have HI : Hid (WhI U T [] w) := ⟨b1, List.nil_prefix, ⟨bm, T, b2, by omega, Cw.isM, by simp⟩, h2⟩
  have hTw := (unhide HC).isT.below h2
  refine outer_loop (U := U) (T := T) (fun a x => { tmps := (((a.tmps.setIfInBounds 54 (.int .i64 x.1)).setIfInBounds 55 (.int .i64 x.2)).setIfInBounds 11 (.int .i64 x.1)).setIfInBounds 12 (.int .i64 x.2), defers := [] }) (gf := 23) (lb := #[.pointer (some ⟨Bt, 0, none⟩)]) rfl (enters_of Try.func23 (by kernel_rfl) rfl)
    (all_stops Fence.wide rfl 8 trivial trivial rfl Bt U.heap.size p0 T w (lt_of_cell Cw.t8) h2.size Cw.t8 hTw) h2.size (fun _ => rfl) (unhide HI) ?assign ?body ?fin
  case assign =>
    intro l x W2 K hK
    simp only [List.setIfInBounds_toArray, List.set_cons_succ, List.set_cons_zero] at hK
    gi_wp2
    exact hK
  case body =>
    rintro l r pre x W2 hr ⟨bn', hpre, ⟨bmx, X, hx, hbx, hX, hXl⟩, hBW⟩ hlt
    simp only [List.setIfInBounds_toArray, List.set_cons_succ, List.set_cons_zero]
    change Code.wpIn _ _ _ (Code.block 1 whBody) _ _ _
    rw [whBody_split]
    obtain ⟨tB, hB'⟩ : ∃ t, whB = t := ⟨_, rfl⟩
    obtain ⟨tC, hC'⟩ : ∃ t, whC = t := ⟨_, rfl⟩
    rw [hB', hC']
    unfold whBodyWith whBody
    dsimp only [Try.f4]
    have CW := (unhide HC).up hBW
    have HCW := hide CW
    obtain ⟨y, hy⟩ : ∃ y, T.io[pre.length]? = some y := ⟨_, List.getElem?_eq_getElem hlt⟩
    obtain ⟨g, g', rfl, rfl, c0, c1⟩ := CW.at hy
    have c2 := CW.k6
    have c3 := CW.v6
    have hr3 : Boxed W2 br 4 (.bool false) := (hBW.block br hbr.lt).trans hbr
    have hr1 := hr3.cell
    have hr2 := hr3.frozen
    have hnx := prefix_next (x := x) hpre hy
    have hln : ((pre ++ [x]).length : Int) = (pre.length : Int) + 1 := by simp
    obtain ⟨j, hj⟩ : ∃ j, pre.length = j := ⟨_, rfl⟩
    rw [hj] at bn' hlt hy hln c0 c1 hXl
    have hc1 := bn'.cell
    have hc2 := bn'.frozen
    have hj0 : (0 : Int) ≤ (j : Int) := Int.natCast_nonneg _
    have hj1 : (j : Int) < (T.io.length : Int) := by omega
    have hG : decide ((T.io.length : Int) ≤ (j : Int)) = false := by simp; omega
    have HB := hide hBW
    have Hnx := hide hnx
    have Hj := hide hj
    have HX := hide hX
    clear CW hy hpre hnx hj Cw hX HI
    by_cases hx1 : x.1 = y.1
    · have hd1 : (x.1 != y.1) = false := by simp [hx1]
      by_cases hx2 : x.2 = y.2
      · have hd2 : (x.2 != y.2) = false := by simp [hx2]
        have Hxy : Hid (x = y) := Prod.ext hx1 hx2
        clear hx1 hx2
        gi_wp2
        rw [← hB']
        refine whB_any hr (unhide HCW) hc1 (by omega) hr3 ?_ _ _ _ _ _ _ _ _ _ _ _ _ _ _ _ _ _ _ _ _ _ _ _ _ _ _ _ _ _ _ _ _ _ _ _ _ _ _ _ _ _ _ _ _ _ _ _ _ _ _ _ _ _ _ _ _ _ _ _ _ _ _ _ _ _ _ _ _ _ _ _ _ _ _ _ _ _ _ _ _ _ _ _ _ _ _ _ _ _ _ _ _ _ _ _ _ _ _ _ _ _ _ _ _ _ _ _ _ _ _ _ _ _ _ _ _ _ _ _ _ _ _ _ _ _ _ _ _ _ _ _ _ _ _ _ _ _ _ _ _ _ _ _ _ _ _ _ _ _ _ _ _ _ _ _ _ _ _ _ _ _ _ _ _ _ _ _ _ _
        intro W3 hb3 s0 s1 s2 s7 s12 s13 s14 s15 s16 s17 s18 s19 s20 s21 s22 s23 s24 s25 s26 s27 s28 s29 s30 s31 s32 s33 s34 s35 s36 s37 s38 s39 s40 s41 s42 s43 s44 s45 s46 s47 s48 s49 s50 s51 s52 s53 s54 s55 s56 s57 s58 s59 s60 s61 s62 s63 s64 s65 s66 s67 s68 s69 s70 s71 s72 s73 s74 s75 s76 s77 s78 s79 s80 s81 s82 s83 s84 s85 s86 s87 s88 s89 s90 s91 s92 s93 s94 s95 s96 s97 s98 s99 s100 s101 s102 s103 s104 s105 s106 s107 s108 s109 s110 s111 s112 s113 s114 s115 s116 s117 s118 s119 s120 s121 s122 s123 s124 s125 s126 s127 s128 s129 s130 s131 s132 s133 s134 s135 s136 s137 s138 s139 s140 s141 s142 s143 s144 s145 s146 s147 s148 s149 s150 s151 s152 s153 s154 s155 s156 s157 s158 s159 s160 s161 s162 s163 s164 s165 s166 s167 s168 s169 s170 s171 s172 s173 s174 s175 s176
        have hr' : W3.heap[l]? = some (.loop r) := (hb3.block l (Array.getElem?_eq_some_iff.1 hr).1).trans hr
        have bn3 : Boxed W3 U.heap.size 3 (.int .i64 (j : Int)) := (hb3.block _ bn'.lt).trans bn'
        have hx3 : Boxed W3 (U.heap.size + 1) 23 (.pointer (some ⟨bmx, 0, none⟩)) := (hb3.block _ hx.lt).trans hx
        have zU := hBW.size
        have z3 := hb3.size
        clear c0 c1 c2 c3 hr1 hr2 hc1 hc2
        gi_wp2
        rw [← hC']
        refine whC_any (n₀ := U.heap.size) (B := w.heap.size) (M := T.io.length + j) hr' ((unhide HCW).up hb3) bn3 (by omega) hx3 hbx ((unhide HX).up hb3) hXl (by omega) (by omega) (by omega) (by omega) ?_ _ _ _ _ _ _ _ _ _ _ _ _ _ _ _ _ _ _ _ _ _ _ _ _ _ _ _ _ _ _ _ _ _ _ _ _ _ _ _ _ _ _ _ _ _ _ _ _ _ _ _ _ _ _ _ _ _ _ _ _ _ _ _ _ _ _ _ _ _ _ _ _ _ _ _ _ _ _ _ _ _ _ _ _ _ _ _ _ _ _ _ _ _ _ _ _ _ _ _ _ _ _ _ _ _ _ _ _ _ _ _ _ _ _ _ _ _ _ _ _ _ _ _ _ _ _ _ _ _ _ _ _ _ _ _ _ _ _ _ _ _ _ _ _ _ _ _ _ _ _ _ _ _ _ _ _ _ _ _ _ _ _ _ _ _ _ _ _ _
        intro W4 bm4 X4 hb4 hk4 bn4 hx4 hne4 hX4 hl4 s0 s1 s2 s7 s12 s13 s14 s15 s16 s17 s18 s19 s20 s21 s22 s23 s24 s25 s26 s27 s28 s29 s30 s31 s32 s33 s34 s35 s36 s37 s38 s39 s40 s41 s42 s43 s44 s45 s46 s47 s48 s49 s50 s51 s52 s53 s54 s55 s56 s57 s58 s59 s60 s61 s62 s63 s64 s65 s66 s67 s68 s69 s70 s71 s72 s73 s74 s75 s76 s77 s78 s79 s80 s81 s82 s83 s84 s85 s86 s87 s88 s89 s90 s91 s92 s93 s94 s95 s96 s97 s98 s99 s100 s101 s102 s103 s104 s105 s106 s107 s108 s109 s110 s111 s112 s113 s114 s115 s116 s117 s118 s119 s120 s121 s122 s123 s124 s125 s126 s127 s128 s129 s130 s131 s132 s133 s134 s135 s136 s137 s138 s139 s140 s141 s142 s143 s144 s145 s146 s147 s148 s149 s150 s151 s152 s153 s154 s155 s156 s157 s158 s159 s160 s161 s162 s163 s164 s165 s166 s167 s168 s169 s170 s171 s172 s173 s174 s175 s176
        have hc1 := bn4.cell
        have hc2 := bn4.frozen
        have HX4 := hide hX4
        have HK4 := hide hk4
        have HB4 := hide hb4
        clear hX4 hk4 hb4
        gi_wp2
        have hbU : Below U.heap.size W2 W4 := (hb3.mono zU).trans (unhide HB4)
        refine ⟨((keepsFrom_below hb3).trans (unhide HK4)).trans ((KeepsOthers.setCell _ _ _).from _), hbU.setCell (p := ⟨U.heap.size, 0, none⟩) (Nat.le_refl _) _, ?_, (unhide Hnx).2 (unhide Hxy), ⟨bm4, X4, hx4.other (by omega) _, hne4, ?_, ?_⟩, ((unhide HB).trans hbU).setCell (p := ⟨U.heap.size, 0, none⟩) (Nat.le_refl _) _⟩
        · rw [hln]; exact bn4.set _
        · exact isM_setInt bn4 (unhide HX4)
        · simp [unhide Hj]; omega
      · have hd2 : (x.2 != y.2) = true := by simp [hx2]
        have HX : Hid (¬ pre ++ [x] <+: T.io) := fun h => hx2 (by rw [(unhide Hnx).1 h])
        clear hx1 hx2
        gi_wp2
        exact ⟨(KeepsOthers.setCell _ _ _).from _, rfl, unhide HX⟩
    · have hd1 : (x.1 != y.1) = true := by simp [hx1]
      have HX : Hid (¬ pre ++ [x] <+: T.io) := fun h => hx1 (by rw [(unhide Hnx).1 h])
      clear hx1
      gi_wp2
      exact ⟨(KeepsOthers.setCell _ _ _).from _, rfl, unhide HX⟩
  case fin =>
    rintro D V1 hD bn' hBW hK
    have CW := (unhide HC).up hBW
    have c0 := CW.p6
    have c2 := CW.k6
    have c3 := CW.v6
    have hc1 := bn'.cell
    have HCW := hide CW
    have hr3 : Boxed V1 br 4 (.bool false) := (hBW.block br hbr.lt).trans hbr
    have hE : ((T.io.length : Int) == (T.io.length : Int)) = true := by simp
    clear CW Cw HI
    gi_wp2_with fail
    refine ⟨trivial, ?_⟩
    refine (callsIn_wide.2 (still_any (unhide HCW).isM (unhide HCW).isK (unhide HCW).isV (by omega))).mono ?_
    rintro e V2 ⟨rfl, hb3⟩
    have hK2 : V2.heap[D]? = some (.deferred (some [])) := (hb3.block D (Array.getElem?_eq_some_iff.1 hK).1).trans hK
    have hr4 : Boxed V2 br 4 (.bool false) := (hb3.block br hr3.lt).trans hr3
    have hr1 := hr4.cell
    have hr2 := hr4.frozen
    have hb4 : Below W.heap.size W V2 := (hB.trans (hBW.mono hB.size)).trans (hb3.mono (by have := hB.size; have := hBW.size; omega))
    gi_wp2
    have hbl := hbr.lt
    have hZ1 : (V2.setCell ⟨br, 0, none⟩ (.bool true)).heap[D]? = some (.deferred (some [])) := (Below.heap_setCell V2 ⟨br, 0, none⟩ _ _ (by show D ≠ br; omega)).trans hK2
    have hZ2 : (V2.setCell ⟨br, 0, none⟩ (.bool true)).cell? ⟨br, 0, none⟩ = some (.bool true) := (hr4.set (.bool true)).cell
    have hZB : Below W.heap.size W (V2.setCell ⟨br, 0, none⟩ (.bool true)) := hb4.setCell (p := ⟨br, 0, none⟩) hbr' _
    generalize V2.setCell ⟨br, 0, none⟩ (.bool true) = Z at *
    have hY2 : (Z.putObj D (.deferred none)).cell? ⟨br, 0, none⟩ = some (.bool true) := (World.cell?_of_block (World.putObj_heap_other (k := br) (by omega))).trans hZ2
    have hYB : Below W.heap.size W (Z.putObj D (.deferred none)) := hZB.trans (belowK_b (w := W) (Nat.le_refl _) Z D _ _ (by have := hB.size; omega) hZ1 rfl rfl)
    refine ⟨by simp, .inl ⟨_, _, rfl, run_takeDeferred hZ1, ?_⟩⟩
    exact ⟨.bool true, by simp [results, go_sem, hY2], rfl, hYB⟩
end Go.Proofs.Ytpmdfgoajffmeaa
