import Derived.Test.YtpmdfgoajffmeaaIBkB
import Derived.Deep.RegionHeld3

namespace Go.Proofs.Ytpmdfgoajffmeaa
open Go.RowKit Go.Shelf
attribute [local go_sem ↓] Go.wp_at_zero Go.wp_at_succ

noncomputable def bkOne : Code := match bkCheck with
  | .block _ (.loop (.seq _ (.seq (.block _ b) _))) => b
  | .seq _ (.block _ (.loop (.seq _ (.seq (.block _ b) _)))) => b
  | _ => .skip
noncomputable def bkIn : Code := match bkOne with
  | .seq _ b => b
  | _ => .skip
noncomputable def bkOneWith (t : Code) : Code := match bkOne with
  | .seq a _ => .seq a t
  | _ => .skip
theorem bkOne_split : bkOne = bkOneWith bkIn := rfl

set_option maxRecDepth 100000 in
set_option maxHeartbeats 8000000 in
theorem in_any {W : World} {a0 a1 : Value} {bm b6 r g8 c8 g9 c9 k q : Nat} {us : List Kp} {ms : List Int} {x : Kp} (hk : us[k]? = some x) (h8 : W.cell? ⟨g8, k, none⟩ = some x.val) (hc : ∀ i, i < x.len → W.cell? ⟨x.b, i, none⟩ = some (.int .i64 x.mark)) (hq : (k : Int) / 5 = (q : Int)) (hql : q < ms.length) (hms : ms.length ≤ 1152921504606846976) (h9 : W.cell? ⟨g9, q, none⟩ = some (.int .i64 x.mark)) (hxl : x.len ≤ 1152921504606846976)
    (s2 s3 s4 s7 s11 s12 s13 s14 s16 s17 s18 s19 s20 s21 s22 s23 s24 s25 s26 s27 s28 s29 s30 s31 s32 s33 s34 s35 s36 s37 s38 s39 s40 s41 s42 s43 s44 s45 s46 s47 s48 s49 s50 s51 s52 s53 s54 s55 s56 s57 s58 s59 s60 s61 s62 s63 s64 s65 s66 s67 s68 s69 s70 s71 s72 s73 s74 s75 s76 s77 s78 s79 s80 s81 s82 s83 s84 s85 s86 s87 s88 s89 s90 s91 s92 s93 s94 s95 s96 s97 s98 s99 s100 s101 s102 s103 s104 s105 s106 s107 s108 s109 s110 s111 s112 s113 s114 s115 s116 s117 s118 s119 s120 s121 s122 s123 s124 s125 s126 s127 s128 s129 s130 s131 s132 s133 s134 s135 s136 s137 s138 s139 s140 s141 s142 s143 s144 s145 s146 s147 s148 s149 s150 s151 s152 s153 s154 s155 s156 s157 s158 s159 : Value) {Q : Exit → Act → World → Prop} (hQ : ∀ W', Below W.heap.size W W' → ∀ u4 u16 u131 u132 u133 u134 u135 u136 u137 u138 u139 u140 u141 u142 u143 u144 u145 u146 u147 u148 u149 u150 u151 u152 : Value, Q .normal { tmps := #[a0, a1, s2, s3, u4, .pointer (some ⟨bm, 0, none⟩), .pointer (some ⟨b6, 0, none⟩), s7, .slice (some ⟨g8, 0, none⟩) us.length c8, .slice (some ⟨g9, 0, none⟩) ms.length c9, .int .i64 (r : Int), s11, s12, s13, s14, .int .i64 (k : Int), u16, s17, s18, s19, s20, s21, s22, s23, s24, s25, s26, s27, s28, s29, s30, s31, s32, s33, s34, s35, s36, s37, s38, s39, s40, s41, s42, s43, s44, s45, s46, s47, s48, s49, s50, s51, s52, s53, s54, s55, s56, s57, s58, s59, s60, s61, s62, s63, s64, s65, s66, s67, s68, s69, s70, s71, s72, s73, s74, s75, s76, s77, s78, s79, s80, s81, s82, s83, s84, s85, s86, s87, s88, s89, s90, s91, s92, s93, s94, s95, s96, s97, s98, s99, s100, s101, s102, s103, s104, s105, s106, s107, s108, s109, s110, s111, s112, s113, s114, s115, s116, s117, s118, s119, s120, s121, s122, s123, s124, s125, s126, s127, s128, s129, s130, u131, u132, u133, u134, u135, u136, u137, u138, u139, u140, u141, u142, u143, u144, u145, u146, u147, u148, u149, u150, u151, u152, s153, s154, s155, s156, s157, s158, s159], defers := [] } W') :
    bkIn.wp Try.prog Q { tmps := #[a0, a1, s2, s3, s4, .pointer (some ⟨bm, 0, none⟩), .pointer (some ⟨b6, 0, none⟩), s7, .slice (some ⟨g8, 0, none⟩) us.length c8, .slice (some ⟨g9, 0, none⟩) ms.length c9, .int .i64 (r : Int), s11, s12, s13, s14, .int .i64 (k : Int), s16, s17, s18, s19, s20, s21, s22, s23, s24, s25, s26, s27, s28, s29, s30, s31, s32, s33, s34, s35, s36, s37, s38, s39, s40, s41, s42, s43, s44, s45, s46, s47, s48, s49, s50, s51, s52, s53, s54, s55, s56, s57, s58, s59, s60, s61, s62, s63, s64, s65, s66, s67, s68, s69, s70, s71, s72, s73, s74, s75, s76, s77, s78, s79, s80, s81, s82, s83, s84, s85, s86, s87, s88, s89, s90, s91, s92, s93, s94, s95, s96, s97, s98, s99, s100, s101, s102, s103, s104, s105, s106, s107, s108, s109, s110, s111, s112, s113, s114, s115, s116, s117, s118, s119, s120, s121, s122, s123, s124, s125, s126, s127, s128, s129, s130, s131, s132, s133, s134, s135, s136, s137, s138, s139, s140, s141, s142, s143, s144, s145, s146, s147, s148, s149, s150, s151, s152, s153, s154, s155, s156, s157, s158, s159], defers := [] } W := by
  have HQ := hide hQ
  have HC := hide hc
  have hkl : k < us.length := (List.getElem?_eq_some_iff.1 hk).1
  have hk0 : (0 : Int) ≤ (k : Int) := Int.natCast_nonneg _
  have hk1 : (k : Int) < (us.length : Int) := by omega
  have hq0 : (0 : Int) ≤ (q : Int) := Int.natCast_nonneg _
  have hq1 : (q : Int) < (ms.length : Int) := by omega
  unfold Kp.val at h8
  clear hQ hk hc
  unfold bkIn bkOne bkCheck bkBody
  dsimp only [Try.f3]
  go_wp2
  go_loopg [16] x.len (fun gk v16 wr => ∃ i : Nat, v16 = .int .i64 (i : Int) ∧ gk = x.len - i ∧ i ≤ x.len ∧ Below W.heap.size W wr)
  case atStart => exact ⟨0, rfl, rfl, Nat.zero_le _, Below.refl _ _⟩
  case round =>
    obtain ⟨i, rfl, hgk, hi, hB⟩ := hrel
    have Hgk := hide hgk
    have b8 := (hB.cell (p := ⟨g8, k, none⟩) (lt_of_cell h8)).trans h8
    have b9 := (hB.cell (p := ⟨g9, q, none⟩) (lt_of_cell h9)).trans h9
    have HB := hide hB
    clear hgk
    by_cases hlt : i < x.len
    · have c0 := unhide HC i hlt
      have c1 := (hB.cell (p := ⟨x.b, i, none⟩) (lt_of_cell c0)).trans c0
      have hi0 : (0 : Int) ≤ (i : Int) := Int.natCast_nonneg _
      have hi1 : (i : Int) < (x.len : Int) := by omega
      have hd : decide ((i : Int) < (x.len : Int)) = true := by simp; omega
      have hn : (x.mark != x.mark) = false := by simp
      clear c0 hB h8 h9
      go_wp2
      refine wp_region_noPanic ?_
      go_region
      refine NoPanic.normal ?_
      go_wp2
      go_roundg (x.len - (i + 1))
      case measure => have := unhide Hgk; omega
      case rel => exact ⟨i + 1, by go_num, rfl, by omega, (unhide HB).drew⟩
    · obtain rfl : i = x.len := by omega
      have hd : decide ((x.len : Int) < (x.len : Int)) = false := by simp
      clear hB h8 h9
      go_wp2
      exact unhide HQ _ (unhide HB) _ _ _ _ _ _ _ _ _ _ _ _ _ _ _ _ _ _ _ _ _ _ _ _
end Go.Proofs.Ytpmdfgoajffmeaa
