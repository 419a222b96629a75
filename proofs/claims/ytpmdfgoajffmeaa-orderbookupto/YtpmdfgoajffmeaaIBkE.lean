import Derived.Test.YtpmdfgoajffmeaaIBkB
import Derived.Test.YtpmdfgoajffmeaaIBkS

namespace Go.Proofs.Ytpmdfgoajffmeaa
open Go.RowKit Go.Shelf
attribute [local go_sem ↓] Go.wp_at_zero Go.wp_at_succ

noncomputable def bkApp (z : Code) : Code := match bkBody with
  | .seq _ (.seq _ (.seq _ (.seq _ (.seq _ (.seq _ (.seq x (.seq y _))))))) => .seq x (.seq y z)
  | _ => .skip
theorem hle4 {W w : World} {B : Nat} (hb : Below W.heap.size W w) (ob : Obj) (h : B ≤ W.heap.size) : B ≤ (w.alloc ob).heap.size := by
  have := hb.size
  rw [World.size_alloc]
  omega
theorem ne5 {W : World} {B e size n g g1 g2 g3 g4 : Nat} {v : Value} {xs : List Value} (h0 : some g ≠ v.ownBlock) (h : W.ownsRow B e size v n xs) (h1 : W.heap.size ≤ g1) (h2 : W.heap.size ≤ g2) (h3 : W.heap.size ≤ g3) (h4 : W.heap.size ≤ g4) : ∀ y ∈ [g, g1, g2, g3, g4], some y ≠ v.ownBlock := by
  intro y hy
  simp at hy
  rcases hy with rfl | rfl | rfl | rfl | rfl
  · exact h0
  · exact ne_new h h1
  · exact ne_new h h2
  · exact ne_new h h3
  · exact ne_new h h4
theorem grown_below {W w w' : World} {B e size n : Nat} {v : Value} {xs : List Value} {ob : Obj} (hb : Below W.heap.size W w) (hB : B ≤ W.heap.size) (h : W.ownsRow B e size v n xs) (hg : (w.alloc ob).grownBy w' v.ownBlock) : Below B W w' :=
  ((hb.mono hB).alloc (Nat.le_trans hB hb.size) ob).grown hg (by have := hb.size; rw [World.size_alloc]; omega) (fun k e => (h.lt k e).1)
theorem grown_below2 {W w w' : World} {B e size n : Nat} {v : Value} {xs : List Value} {ob : Obj} (hb : Below B W w) (hB : B ≤ W.heap.size) (h : w.ownsRow B e size v n xs) (hg : (w.alloc ob).grownBy w' v.ownBlock) : Below B W w' :=
  (hb.alloc (Nat.le_trans hB hb.size) ob).grown hg (by have := hb.size; rw [World.size_alloc]; omega) (fun k e => (h.lt k e).1)
theorem two_new (w : World) (x y : Value) (t : TypeId) : ∀ j u, [x, y][j]? = some u → (w.alloc (.cells #[x, y] t)).cell? ((⟨w.heap.size, 0, none⟩ : Addr).add j) = some u := by
  intro j u hj
  match j, hj with
  | 0, hj => simp at hj; subst hj; simp [Addr.add]
  | 1, hj => simp at hj; subst hj; simp [Addr.add]
theorem three_new (w : World) (x y z : Value) (t : TypeId) : ∀ j u, [x, y, z][j]? = some u → (w.alloc (.cells #[x, y, z] t)).cell? ((⟨w.heap.size, 0, none⟩ : Addr).add j) = some u := by
  intro j u hj
  match j, hj with
  | 0, hj => simp at hj; subst hj; simp [Addr.add]
  | 1, hj => simp at hj; subst hj; simp [Addr.add]
  | 2, hj => simp at hj; subst hj; simp [Addr.add]
theorem five_new (w : World) (x0 x1 x2 x3 x4 : Value) (t : TypeId) : ∀ j u, [x0, x1, x2, x3, x4][j]? = some u → (w.alloc (.cells #[x0, x1, x2, x3, x4] t)).cell? ((⟨w.heap.size, 0, none⟩ : Addr).add j) = some u := by
  intro j u hj
  match j, hj with
  | 0, hj => simp at hj; subst hj; simp [Addr.add]
  | 1, hj => simp at hj; subst hj; simp [Addr.add]
  | 2, hj => simp at hj; subst hj; simp [Addr.add]
  | 3, hj => simp at hj; subst hj; simp [Addr.add]
  | 4, hj => simp at hj; subst hj; simp [Addr.add]
/-- Behind an append onto a full list: a new list of marks, and all else as it was. -/
theorem grown_row {w w' : World} {L m : Nat} {mk : Int} {v : Value} {news : List Value} (hn : news = (List.replicate m mk).map fun x => .int .i64 x) (hm : 0 < m) (ho : w'.ownsRow w.heap.size 3 1 v (L + m) ((List.replicate L mk).map (fun x => .int .i64 x) ++ news)) :
    ∃ g c, v = .slice (some ⟨g, 0, none⟩) (L + m) c ∧ RowI w.heap.size w' g (L + m) c (List.replicate (L + m) mk) := by
  obtain ⟨k, rfl⟩ : ∃ k, m = k + 1 := ⟨m - 1, by omega⟩
  obtain ⟨g, c, rfl⟩ := ownsRow_succ ho
  refine ⟨g, c, rfl, ?_⟩
  rw [hn, ← List.map_append, List.replicate_append_replicate] at ho
  exact ho

set_option maxRecDepth 100000 in
set_option maxHeartbeats 8000000 in
theorem app_any (z : Code) {W : World} {a0 a1 v8 v9 : Value} {bm b6 r g g14 c14 L B bs bs14 : Nat} {mk : Int} {us : List Kp} {ms : List Int} (hS : St B W v8 v9 L us ms ms) (hlen : us.length = 5 * ms.length) (hms : ms.length ≤ 1048576) (hB : B ≤ W.heap.size)
    (hl : RowI bs W g L L (List.replicate L mk)) (hL : L ≤ 17592186044320) (g8 : some g ≠ v8.ownBlock) (g9 : some g ≠ v9.ownBlock) (h14 : RowI bs14 W g14 96 c14 (List.replicate 96 mk)) (s2 s3 s4 s7 s13 s15 s16 s17 s18 s19 s20 s21 s22 s23 s24 s25 s26 s27 s28 s29 s30 s31 s32 s33 s34 s35 s36 s37 s38 s39 s40 s41 s42 s43 s44 s45 s46 s47 s48 s49 s50 s51 s52 s53 s54 s55 s56 s57 s58 s59 s60 s61 s62 s63 s64 s65 s66 s67 s68 s69 s70 s71 s72 s73 s74 s75 s76 s77 s78 s79 s80 s81 s82 s83 s84 s85 s86 s87 s88 s89 s90 s91 s92 s93 s94 s95 s96 s97 s98 s99 s100 s101 s102 s103 s104 s105 s106 s107 s108 s109 s110 s111 s112 s113 s114 s115 s116 s117 s118 s119 s120 s121 s122 s123 s124 s125 s126 s127 s128 s129 s130 s131 s132 s133 s134 s135 s136 s137 s138 s139 s140 s141 s142 s143 s144 s145 s146 s147 s148 s149 s150 s151 s152 s153 s154 s155 s156 s157 s158 s159 : Value) {Q : Exit → Act → World → Prop}
    (hQ : ∀ W' v8' v9' us', St B W' v8' v9' L us' (ms ++ [mk]) (ms ++ [mk]) → us'.length = us.length + 5 → Below B W W' → ∀ u84 u85 u86 u87 u88 u89 u90 u91 u92 u93 u94 u95 u96 u97 u98 u99 u100 u101 u102 u103 u104 u105 u106 u107 u108 u109 : Value, z.wp Try.prog Q { tmps := #[a0, a1, s2, s3, s4, .pointer (some ⟨bm, 0, none⟩), .pointer (some ⟨b6, 0, none⟩), s7, v8', v9', .int .i64 (r : Int), .slice (some ⟨g, 0, none⟩) L L, .int .i64 mk, s13, .slice (some ⟨g14, 0, none⟩) 96 c14, s15, s16, s17, s18, s19, s20, s21, s22, s23, s24, s25, s26, s27, s28, s29, s30, s31, s32, s33, s34, s35, s36, s37, s38, s39, s40, s41, s42, s43, s44, s45, s46, s47, s48, s49, s50, s51, s52, s53, s54, s55, s56, s57, s58, s59, s60, s61, s62, s63, s64, s65, s66, s67, s68, s69, s70, s71, s72, s73, s74, s75, s76, s77, s78, s79, s80, s81, s82, s83, u84, u85, u86, u87, u88, u89, u90, u91, u92, u93, u94, u95, u96, u97, u98, u99, u100, u101, u102, u103, u104, u105, u106, u107, u108, u109, s110, s111, s112, s113, s114, s115, s116, s117, s118, s119, s120, s121, s122, s123, s124, s125, s126, s127, s128, s129, s130, s131, s132, s133, s134, s135, s136, s137, s138, s139, s140, s141, s142, s143, s144, s145, s146, s147, s148, s149, s150, s151, s152, s153, s154, s155, s156, s157, s158, s159], defers := [] } W') :
    (bkApp z).wp Try.prog Q { tmps := #[a0, a1, s2, s3, s4, .pointer (some ⟨bm, 0, none⟩), .pointer (some ⟨b6, 0, none⟩), s7, v8, v9, .int .i64 (r : Int), .slice (some ⟨g, 0, none⟩) L L, .int .i64 mk, s13, .slice (some ⟨g14, 0, none⟩) 96 c14, s15, s16, s17, s18, s19, s20, s21, s22, s23, s24, s25, s26, s27, s28, s29, s30, s31, s32, s33, s34, s35, s36, s37, s38, s39, s40, s41, s42, s43, s44, s45, s46, s47, s48, s49, s50, s51, s52, s53, s54, s55, s56, s57, s58, s59, s60, s61, s62, s63, s64, s65, s66, s67, s68, s69, s70, s71, s72, s73, s74, s75, s76, s77, s78, s79, s80, s81, s82, s83, s84, s85, s86, s87, s88, s89, s90, s91, s92, s93, s94, s95, s96, s97, s98, s99, s100, s101, s102, s103, s104, s105, s106, s107, s108, s109, s110, s111, s112, s113, s114, s115, s116, s117, s118, s119, s120, s121, s122, s123, s124, s125, s126, s127, s128, s129, s130, s131, s132, s133, s134, s135, s136, s137, s138, s139, s140, s141, s142, s143, s144, s145, s146, s147, s148, s149, s150, s151, s152, s153, s154, s155, s156, s157, s158, s159], defers := [] } W := by
  obtain ⟨i0, hi, hz0, hz1, hz2⟩ := info_parts Try.infoInt
  obtain ⟨i1, qi, qz0, qz1, qz2⟩ := info_parts Try.infoInts
  have HQ := hide hQ
  have HS := hide hS
  have Hl0 := hide hl
  have H14 := hide h14
  have G8 := hide g8
  have G9 := hide g9
  have hll := hl.len
  clear hQ hS hl h14 g8 g9
  have GO1 : True := trivial
  have GO2 : True := trivial
  have GO3 : True := trivial
  have GO4 : True := trivial
  have GO5 : True := trivial
  have GO6 : True := trivial
  have HB0 : Hid (Below W.heap.size W W) := Below.refl _ _
  unfold bkApp bkBody
  dsimp only [Try.f3]
  go_wp2_with (first
    | (at_builtin; clear GO1; refine wpList_append_grows _ rfl _ _ 22 rfl 3 i0 (.int .i64 0) 1 8 Try.underlying22 hi hz0 hz1 hz2 rfl (by decide) (some ⟨g, 0, none⟩) L L ((List.replicate L mk).map fun x => .int .i64 x) rfl (fun e => by cases e) (by simp) (RowI.news' (World.ownsRow.alloc (unhide Hl0) _)) ⟨W.heap.size, 0, none⟩ 1 1 [.int .i64 mk] rfl rfl (cell_one_new _ _ _) (by simp [Value.oneCell']) (by omega) (by unfold maxLen; omega) (by omega) ?_; intro v w1 ho hg; obtain ⟨g1, c1, rfl, hr1⟩ := grown_row rfl (by decide) ho; have HBn1 : Hid (Below W.heap.size W w1) := ((Below.refl _ _).alloc (Nat.le_refl _) _).trans (below_of_grown hg (by rw [World.size_alloc]; omega)); have HB1 : Hid (Below W.heap.size W w1) := (unhide HB0).trans ((unhide HBn1).mono (unhide HB0).size); have Hl1 : Hid (RowI bs w1 g L L (List.replicate L mk)) := (unhide Hl0).up' (unhide HBn1); have Hge1 : Hid (W.heap.size ≤ g1) := grown_ge (unhide HB0) hr1; have HR1 := hide hr1; clear ho hg hr1)
    | (at_builtin; clear GO2; refine wpList_append_grows _ rfl _ _ 22 rfl 3 i0 (.int .i64 0) 1 8 Try.underlying22 hi hz0 hz1 hz2 rfl (by decide) (some ⟨g, 0, none⟩) L L ((List.replicate L mk).map fun x => .int .i64 x) rfl (fun e => by cases e) (by simp) (RowI.news' (World.ownsRow.alloc (unhide Hl1) _)) ⟨w1.heap.size, 0, none⟩ 2 2 [.int .i64 mk, .int .i64 mk] rfl rfl (two_new _ _ _ _) (by simp [Value.oneCell']) (by omega) (by unfold maxLen; omega) (by omega) ?_; intro v w2 ho hg; obtain ⟨g2, c2, rfl, hr2⟩ := grown_row rfl (by decide) ho; have HBn2 : Hid (Below w1.heap.size w1 w2) := ((Below.refl _ _).alloc (Nat.le_refl _) _).trans (below_of_grown hg (by rw [World.size_alloc]; omega)); have HB2 : Hid (Below W.heap.size W w2) := (unhide HB1).trans ((unhide HBn2).mono (unhide HB1).size); have Hl2 : Hid (RowI bs w2 g L L (List.replicate L mk)) := (unhide Hl1).up' (unhide HBn2); have Hge2 : Hid (W.heap.size ≤ g2) := grown_ge (unhide HB1) hr2; have HR2 := hide hr2; clear ho hg hr2)
    | (at_builtin; clear GO3; refine wpList_append_grows _ rfl _ _ 22 rfl 3 i0 (.int .i64 0) 1 8 Try.underlying22 hi hz0 hz1 hz2 rfl (by decide) (some ⟨g, 0, none⟩) L L ((List.replicate L mk).map fun x => .int .i64 x) rfl (fun e => by cases e) (by simp) (RowI.news' (World.ownsRow.alloc (unhide Hl2) _)) ⟨w2.heap.size, 0, none⟩ 3 3 [.int .i64 mk, .int .i64 mk, .int .i64 mk] rfl rfl (three_new _ _ _ _ _) (by simp [Value.oneCell']) (by omega) (by unfold maxLen; omega) (by omega) ?_; intro v w3 ho hg; obtain ⟨g3, c3, rfl, hr3⟩ := grown_row rfl (by decide) ho; have HBn3 : Hid (Below w2.heap.size w2 w3) := ((Below.refl _ _).alloc (Nat.le_refl _) _).trans (below_of_grown hg (by rw [World.size_alloc]; omega)); have HB3 : Hid (Below W.heap.size W w3) := (unhide HB2).trans ((unhide HBn3).mono (unhide HB2).size); have Hl3 : Hid (RowI bs w3 g L L (List.replicate L mk)) := (unhide Hl2).up' (unhide HBn3); have Hge3 : Hid (W.heap.size ≤ g3) := grown_ge (unhide HB2) hr3; have HR3 := hide hr3; clear ho hg hr3)
    | (at_builtin; clear GO4; have H14n : Hid (RowI bs14 w3 g14 96 c14 (List.replicate 96 mk)) := (unhide H14).up' (unhide HB3); refine wpList_append_grows _ rfl _ _ 22 rfl 3 i0 (.int .i64 0) 1 8 Try.underlying22 hi hz0 hz1 hz2 rfl (by decide) (some ⟨g, 0, none⟩) L L ((List.replicate L mk).map fun x => .int .i64 x) rfl (fun e => by cases e) (by simp) (RowI.news' (unhide Hl3)) ⟨g14, 0, none⟩ 96 c14 ((List.replicate 96 mk).map fun x => .int .i64 x) rfl (by simp) (RowI.news (unhide H14n)) (one_ints _) (by omega) (by unfold maxLen; omega) (by omega) ?_; intro v w4 ho hg; obtain ⟨g4, c4, rfl, hr4⟩ := grown_row rfl (by decide) ho; have HBn4 : Hid (Below w3.heap.size w3 w4) := below_of_grown hg (Nat.le_refl _); have HB4 : Hid (Below W.heap.size W w4) := (unhide HB3).trans ((unhide HBn4).mono (unhide HB3).size); have Hl4 : Hid (RowI bs w4 g L L (List.replicate L mk)) := (unhide Hl3).up' (unhide HBn4); have Hge4 : Hid (W.heap.size ≤ g4) := grown_ge' (unhide HB3) hr4; have HR4 := hide hr4; clear ho hg hr4)
    | (at_builtin; clear GO5; refine wpList_append_own_at _ rfl _ _ 32 rfl B 22 i1 (.slice none 0 0) 1 24 Try.underlying32 qi qz0 qz1 qz2 rfl (by decide) _ _ _ rfl (((unhide HS).up (unhide HB4)).o8.alloc _) ⟨w4.heap.size, 0, none⟩ 5 5 [.slice (some ⟨g, 0, none⟩) L L, .slice (some ⟨g1, 0, none⟩) (L + 1) c1, .slice (some ⟨g2, 0, none⟩) (L + 2) c2, .slice (some ⟨g3, 0, none⟩) (L + 3) c3, .slice (some ⟨g4, 0, none⟩) (L + 96) c4] rfl rfl (five_new _ _ _ _ _ _ _) (by simp [Value.oneCell']) (by unfold maxLen; omega) (by omega) (hle4 (unhide HB4) _ hB) ?_; intro v8' w5 ho hg _ hat; have HG5 := hide hg; have HO5 := hide ho; have HA5 := hide hat; obtain ⟨us', hul, hS5⟩ := ((unhide HS).up (unhide HB4)).push5 hlen (unhide Hl4) ((unhide HR1).up' ((unhide HBn2).trans (((unhide HBn3).trans ((unhide HBn4).mono (unhide HBn3).size)).mono (unhide HBn2).size))) ((unhide HR2).up' ((unhide HBn3).trans ((unhide HBn4).mono (unhide HBn3).size))) ((unhide HR3).up' (unhide HBn4)) (unhide HR4) (ne5 (unhide G8) (unhide HS).o8 (unhide Hge1) (unhide Hge2) (unhide Hge3) (unhide Hge4)) (ne5 (unhide G9) (unhide HS).o9 (unhide Hge1) (unhide Hge2) (unhide Hge3) (unhide Hge4)) hg ho hat; have HS5 := hide hS5; have HB5 : Hid (Below B W w5) := grown_below (unhide HB4) hB (unhide HS).o8 hg; have hB5 := (unhide HB5).size; clear ho hg hat hS5)
    | (at_builtin; clear GO6; refine wpList_append_own_at _ rfl _ _ 22 rfl B 3 i0 (.int .i64 0) 1 8 Try.underlying22 hi hz0 hz1 hz2 rfl (by decide) _ _ _ rfl ((unhide HS5).o9.alloc _) ⟨w5.heap.size, 0, none⟩ 1 1 [.int .i64 mk] rfl rfl (cell_one_new _ _ _) (by simp [Value.oneCell']) (by unfold maxLen; omega) (by omega) (by rw [World.size_alloc]; omega) ?_; intro v9' w6 ho hg _ hat; have HS6 := hide ((unhide HS5).push9 hg ho hat); have HB6 : Hid (Below B W w6) := grown_below2 (unhide HB5) hB (unhide HS5).o9 hg; clear ho hg hat))
  exact unhide HQ _ _ _ us' (unhide HS6) hul (unhide HB6) _ _ _ _ _ _ _ _ _ _ _ _ _ _ _ _ _ _ _ _ _ _ _ _ _ _
end Go.Proofs.Ytpmdfgoajffmeaa
