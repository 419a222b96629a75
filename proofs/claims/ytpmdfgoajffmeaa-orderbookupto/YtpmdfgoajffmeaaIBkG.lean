import Derived.Test.YtpmdfgoajffmeaaIBkE
import Derived.Test.YtpmdfgoajffmeaaIBkF

namespace Go.Proofs.Ytpmdfgoajffmeaa
open Go.RowKit Go.Shelf
attribute [local go_sem ↓] Go.wp_at_zero Go.wp_at_succ

noncomputable def bkEnd : Code := match bkBody with
  | .seq _ (.seq _ (.seq _ (.seq _ (.seq _ (.seq _ e))))) => e
  | _ => .skip
noncomputable def bkTail (t : Code) : Code := match bkBody with
  | .seq _ (.seq _ (.seq _ (.seq _ (.seq _ (.seq _ (.seq _ (.seq _ (.seq x _)))))))) => .seq x t
  | _ => .skip
theorem bkEnd_eq : bkEnd = bkApp (bkTail bkCheck) := rfl

set_option maxRecDepth 100000 in
set_option maxHeartbeats 8000000 in
theorem end_any {W : World} {a0 a1 v8 v9 : Value} {bm b6 r g g14 c14 L B bs bs14 kc : Nat} {ka : Option Addr} {mk : Int} {us : List Kp} {ms : List Int} (hS : St B W v8 v9 L us ms ms) (hlen : us.length = 5 * ms.length) (hms : ms.length ≤ 1048576) (hB : B ≤ W.heap.size)
    (hl : RowI bs W g L L (List.replicate L mk)) (hL : L ≤ 17592186044320) (g8 : some g ≠ v8.ownBlock) (g9 : some g ≠ v9.ownBlock) (h14 : RowI bs14 W g14 96 c14 (List.replicate 96 mk)) (h6 : W.cell? ⟨b6, 1, none⟩ = some (.slice ka L kc)) (hb6 : b6 < B) (s2 s3 s4 s7 s13 s15 s16 s17 s18 s19 s20 s21 s22 s23 s24 s25 s26 s27 s28 s29 s30 s31 s32 s33 s34 s35 s36 s37 s38 s39 s40 s41 s42 s43 s44 s45 s46 s47 s48 s49 s50 s51 s52 s53 s54 s55 s56 s57 s58 s59 s60 s61 s62 s63 s64 s65 s66 s67 s68 s69 s70 s71 s72 s73 s74 s75 s76 s77 s78 s79 s80 s81 s82 s83 s84 s85 s86 s87 s88 s89 s90 s91 s92 s93 s94 s95 s96 s97 s98 s99 s100 s101 s102 s103 s104 s105 s106 s107 s108 s109 s110 s111 s112 s113 s114 s115 s116 s117 s118 s119 s120 s121 s122 s123 s124 s125 s126 s127 s128 s129 s130 s131 s132 s133 s134 s135 s136 s137 s138 s139 s140 s141 s142 s143 s144 s145 s146 s147 s148 s149 s150 s151 s152 s153 s154 s155 s156 s157 s158 s159 : Value) {Q : Exit → Act → World → Prop}
    (hQ : ∀ W' v8' v9' us', St B W' v8' v9' L us' (ms ++ [mk]) (ms ++ [mk]) → us'.length = us.length + 5 → Below B W W' → ∀ u4 u15 u16 u84 u85 u86 u87 u88 u89 u90 u91 u92 u93 u94 u95 u96 u97 u98 u99 u100 u101 u102 u103 u104 u105 u106 u107 u108 u109 u110 u111 u112 u113 u114 u115 u116 u117 u118 u119 u120 u121 u122 u123 u124 u125 u126 u127 u128 u129 u130 u131 u132 u133 u134 u135 u136 u137 u138 u139 u140 u141 u142 u143 u144 u145 u146 u147 u148 u149 u150 u151 u152 : Value, Q .normal { tmps := #[a0, a1, s2, s3, u4, .pointer (some ⟨bm, 0, none⟩), .pointer (some ⟨b6, 0, none⟩), s7, v8', v9', .int .i64 (r : Int), .slice (some ⟨g, 0, none⟩) L L, .int .i64 mk, s13, .slice (some ⟨g14, 0, none⟩) 96 c14, u15, u16, s17, s18, s19, s20, s21, s22, s23, s24, s25, s26, s27, s28, s29, s30, s31, s32, s33, s34, s35, s36, s37, s38, s39, s40, s41, s42, s43, s44, s45, s46, s47, s48, s49, s50, s51, s52, s53, s54, s55, s56, s57, s58, s59, s60, s61, s62, s63, s64, s65, s66, s67, s68, s69, s70, s71, s72, s73, s74, s75, s76, s77, s78, s79, s80, s81, s82, s83, u84, u85, u86, u87, u88, u89, u90, u91, u92, u93, u94, u95, u96, u97, u98, u99, u100, u101, u102, u103, u104, u105, u106, u107, u108, u109, u110, u111, u112, u113, u114, u115, u116, u117, u118, u119, u120, u121, u122, u123, u124, u125, u126, u127, u128, u129, u130, u131, u132, u133, u134, u135, u136, u137, u138, u139, u140, u141, u142, u143, u144, u145, u146, u147, u148, u149, u150, u151, u152, s153, s154, s155, s156, s157, s158, s159], defers := [] } W') :
    bkEnd.wp Try.prog Q { tmps := #[a0, a1, s2, s3, s4, .pointer (some ⟨bm, 0, none⟩), .pointer (some ⟨b6, 0, none⟩), s7, v8, v9, .int .i64 (r : Int), .slice (some ⟨g, 0, none⟩) L L, .int .i64 mk, s13, .slice (some ⟨g14, 0, none⟩) 96 c14, s15, s16, s17, s18, s19, s20, s21, s22, s23, s24, s25, s26, s27, s28, s29, s30, s31, s32, s33, s34, s35, s36, s37, s38, s39, s40, s41, s42, s43, s44, s45, s46, s47, s48, s49, s50, s51, s52, s53, s54, s55, s56, s57, s58, s59, s60, s61, s62, s63, s64, s65, s66, s67, s68, s69, s70, s71, s72, s73, s74, s75, s76, s77, s78, s79, s80, s81, s82, s83, s84, s85, s86, s87, s88, s89, s90, s91, s92, s93, s94, s95, s96, s97, s98, s99, s100, s101, s102, s103, s104, s105, s106, s107, s108, s109, s110, s111, s112, s113, s114, s115, s116, s117, s118, s119, s120, s121, s122, s123, s124, s125, s126, s127, s128, s129, s130, s131, s132, s133, s134, s135, s136, s137, s138, s139, s140, s141, s142, s143, s144, s145, s146, s147, s148, s149, s150, s151, s152, s153, s154, s155, s156, s157, s158, s159], defers := [] } W := by
  rw [bkEnd_eq]
  refine app_any (bkTail bkCheck) hS hlen hms hB hl hL g8 g9 h14 _ _ _ _ _ _ _ _ _ _ _ _ _ _ _ _ _ _ _ _ _ _ _ _ _ _ _ _ _ _ _ _ _ _ _ _ _ _ _ _ _ _ _ _ _ _ _ _ _ _ _ _ _ _ _ _ _ _ _ _ _ _ _ _ _ _ _ _ _ _ _ _ _ _ _ _ _ _ _ _ _ _ _ _ _ _ _ _ _ _ _ _ _ _ _ _ _ _ _ _ _ _ _ _ _ _ _ _ _ _ _ _ _ _ _ _ _ _ _ _ _ _ _ _ _ _ _ _ _ _ _ _ _ _ _ _ _ _ _ _ _ _ _ _ _ _ _ _ _ _ ?_
  intro W1 v8' v9' us' hS1 hul hb1 u84 u85 u86 u87 u88 u89 u90 u91 u92 u93 u94 u95 u96 u97 u98 u99 u100 u101 u102 u103 u104 u105 u106 u107 u108 u109
  have o8 := hS1.o8
  have o9 := hS1.o9
  rw [hul] at o8
  rw [show (ms ++ [mk]).length = ms.length + 1 by simp] at o9
  obtain ⟨q8, c8, e8⟩ := ownsRow_succ o8
  obtain ⟨q9, c9, e9⟩ := ownsRow_succ o9
  have e8' : v8' = .slice (some ⟨q8, 0, none⟩) us'.length c8 := by rw [e8, hul]
  have e9' : v9' = .slice (some ⟨q9, 0, none⟩) (ms ++ [mk]).length c9 := by rw [e9]; simp
  subst e8' e9'
  have HS1 := hide hS1
  have hlm : (ms ++ [mk]).length = ms.length + 1 := by simp
  have hlm2 : (ms ++ [mk]).length ≤ 1152921504606846976 := by omega
  have hlu : us'.length ≤ 1152921504606846976 := by omega
  have HH : Hid (∀ u4 u16 u84 u85 u86 u87 u88 u89 u90 u91 u92 u93 u94 u95 u96 u97 u98 u99 u100 u101 u102 u103 u104 u105 u106 u107 u108 u109 u110 u111 u112 u113 u114 u115 u116 u117 u118 u119 u120 u121 u122 u123 u124 u125 u126 u127 u128 u129 u130 u131 u132 u133 u134 u135 u136 u137 u138 u139 u140 u141 u142 u143 u144 u145 u146 u147 u148 u149 u150 u151 u152 : Value, bkCheck.wp Try.prog Q { tmps := #[a0, a1, s2, s3, u4, .pointer (some ⟨bm, 0, none⟩), .pointer (some ⟨b6, 0, none⟩), s7, .slice (some ⟨q8, 0, none⟩) us'.length c8, .slice (some ⟨q9, 0, none⟩) (ms ++ [mk]).length c9, .int .i64 (r : Int), .slice (some ⟨g, 0, none⟩) L L, .int .i64 mk, s13, .slice (some ⟨g14, 0, none⟩) 96 c14, .int .i64 0, u16, s17, s18, s19, s20, s21, s22, s23, s24, s25, s26, s27, s28, s29, s30, s31, s32, s33, s34, s35, s36, s37, s38, s39, s40, s41, s42, s43, s44, s45, s46, s47, s48, s49, s50, s51, s52, s53, s54, s55, s56, s57, s58, s59, s60, s61, s62, s63, s64, s65, s66, s67, s68, s69, s70, s71, s72, s73, s74, s75, s76, s77, s78, s79, s80, s81, s82, s83, u84, u85, u86, u87, u88, u89, u90, u91, u92, u93, u94, u95, u96, u97, u98, u99, u100, u101, u102, u103, u104, u105, u106, u107, u108, u109, u110, u111, u112, u113, u114, u115, u116, u117, u118, u119, u120, u121, u122, u123, u124, u125, u126, u127, u128, u129, u130, u131, u132, u133, u134, u135, u136, u137, u138, u139, u140, u141, u142, u143, u144, u145, u146, u147, u148, u149, u150, u151, u152, s153, s154, s155, s156, s157, s158, s159], defers := [] } W1) := by
    intro u4 u16 u84 u85 u86 u87 u88 u89 u90 u91 u92 u93 u94 u95 u96 u97 u98 u99 u100 u101 u102 u103 u104 u105 u106 u107 u108 u109 u110 u111 u112 u113 u114 u115 u116 u117 u118 u119 u120 u121 u122 u123 u124 u125 u126 u127 u128 u129 u130 u131 u132 u133 u134 u135 u136 u137 u138 u139 u140 u141 u142 u143 u144 u145 u146 u147 u148 u149 u150 u151 u152
    refine check_any hS1.k (fun k x hx => ?_) (fun j x hx => ?_) ((hb1.cell (p := ⟨b6, 1, none⟩) hb6).trans h6) (by omega) hlm2 hlu _ _ _ _ _ _ _ _ _ _ _ _ _ _ _ _ _ _ _ _ _ _ _ _ _ _ _ _ _ _ _ _ _ _ _ _ _ _ _ _ _ _ _ _ _ _ _ _ _ _ _ _ _ _ _ _ _ _ _ _ _ _ _ _ _ _ _ _ _ _ _ _ _ _ _ _ _ _ _ _ _ _ _ _ _ _ _ _ _ _ _ _ _ _ _ _ _ _ _ _ _ _ _ _ _ _ _ _ _ _ _ _ _ _ _ _ _ _ _ _ _ _ _ _ _ _ _ _ _ _ _ _ _ _ _ _ _ _ _ _ _ _ _ _ _ _ _ _ _ _ _ _ ?_
    · have h1 : k < us'.length := (List.getElem?_eq_some_iff.1 hx).1
      rw [World.ownsRow.cellAt hS1.o8 k (by omega), List.getElem?_map, hx]
      rfl
    · have h1 : j < (ms ++ [mk]).length := (List.getElem?_eq_some_iff.1 hx).1
      rw [World.ownsRow.cellAt hS1.o9 j (by omega), List.getElem?_map, hx]
      rfl
    · intro W2 hb2 u4 u15 u16 u110 u111 u112 u113 u114 u115 u116 u117 u118 u119 u120 u121 u122 u123 u124 u125 u126 u127 u128 u129 u130 u131 u132 u133 u134 u135 u136 u137 u138 u139 u140 u141 u142 u143 u144 u145 u146 u147 u148 u149 u150 u151 u152
      exact hQ W2 _ _ us' (hS1.up hb2) hul (hb1.trans (hb2.mono (Nat.le_trans hB hb1.size))) _ _ _ _ _ _ _ _ _ _ _ _ _ _ _ _ _ _ _ _ _ _ _ _ _ _ _ _ _ _ _ _ _ _ _ _ _ _ _ _ _ _ _ _ _ _ _ _ _ _ _ _ _ _ _ _ _ _ _ _ _ _ _ _ _ _ _ _ _ _ _ _
  obtain ⟨t, ht⟩ : ∃ t, bkCheck = t := ⟨_, rfl⟩
  rw [ht] at HH ⊢
  clear hQ hS hS1 HS1 o8 o9 e8 e9 hl h14 h6 hul hlen hlm hlm2 hlu
  generalize (ms ++ [mk]).length = n9 at HH ⊢
  generalize us'.length = n8 at HH ⊢
  unfold bkTail bkBody
  dsimp only [Try.f3]
  go_wp2
  exact unhide HH _ _ _ _ _ _ _ _ _ _ _ _ _ _ _ _ _ _ _ _ _ _ _ _ _ _ _ _ _ _ _ _ _ _ _ _ _ _ _ _ _ _ _ _ _ _ _ _ _ _ _ _ _ _ _ _ _ _ _ _ _ _ _ _ _ _ _ _ _ _ _
end Go.Proofs.Ytpmdfgoajffmeaa
