import Derived.Test.YtpmdfgoajffmeaaIBkA

namespace Go.Proofs.Ytpmdfgoajffmeaa
open Go.RowKit Go.Shelf
attribute [local go_sem ↓] Go.wp_at_zero Go.wp_at_succ

/-- The body of the loop of 'OrderBook', and its pieces. -/
noncomputable def bkBody : Code := match Try.f3.body with
  | some (.seq _ (.seq _ (.seq _ (.seq _ (.seq _ (.seq _ (.seq _ (.seq _ (.seq _ (.seq (.seq _ (.block _ (.loop (.seq _ (.seq (.block _ b) _))))) _)))))))))) => b
  | _ => .skip
noncomputable def bkFill : Code := match bkBody with
  | .seq _ (.seq _ (.seq _ (.seq x _))) => x
  | _ => .skip
noncomputable def bkMore : Code := match bkBody with
  | .seq _ (.seq _ (.seq _ (.seq _ (.seq _ (.seq x _))))) => x
  | _ => .skip
noncomputable def bkCheck : Code := match bkBody with
  | .seq _ (.seq _ (.seq _ (.seq _ (.seq _ (.seq _ (.seq _ (.seq _ (.seq _ x)))))))) => x
  | _ => .skip
noncomputable def bkBodyWith (f m k : Code) : Code := match bkBody with
  | .seq c0 (.seq c1 (.seq c2 (.seq _ (.seq c4 (.seq _ (.seq c6 (.seq c7 (.seq c8 _)))))))) => .seq c0 (.seq c1 (.seq c2 (.seq f (.seq c4 (.seq m (.seq c6 (.seq c7 (.seq c8 k))))))))
  | _ => .skip
theorem bkBody_split : bkBody = bkBodyWith bkFill bkMore bkCheck := rfl

set_option maxRecDepth 100000 in
set_option maxHeartbeats 4000000 in
theorem fill_any {W : World} {bs : Nat} {xs : List Int} {a0 a1 v8 v9 : Value} {bm b6 g L c r : Nat} {mk : Int} (h : RowI bs W g L c xs) (hL : L ≤ 1152921504606846976) (s2 s3 s4 s7 s13 s14 s15 s16 s17 s18 s19 s20 s21 s22 s23 s24 s25 s26 s27 s28 s29 s30 s31 s32 s33 s34 s35 s36 s37 s38 s39 s40 s41 s42 s43 s44 s45 s46 s47 s48 s49 s50 s51 s52 s53 s54 s55 s56 s57 s58 s59 s60 s61 s62 s63 s64 s65 s66 s67 s68 s69 s70 s71 s72 s73 s74 s75 s76 s77 s78 s79 s80 s81 s82 s83 s84 s85 s86 s87 s88 s89 s90 s91 s92 s93 s94 s95 s96 s97 s98 s99 s100 s101 s102 s103 s104 s105 s106 s107 s108 s109 s110 s111 s112 s113 s114 s115 s116 s117 s118 s119 s120 s121 s122 s123 s124 s125 s126 s127 s128 s129 s130 s131 s132 s133 s134 s135 s136 s137 s138 s139 s140 s141 s142 s143 s144 s145 s146 s147 s148 s149 s150 s151 s152 s153 s154 s155 s156 s157 s158 s159 : Value) {Q : Exit → Act → World → Prop}
    (hQ : ∀ W', RowI bs W' g L c (List.replicate L mk) → W.grownBy W' (some g) → ∀ u13 u57 u58 u59 u60 u61 u62 u63 u64 u65 u66 : Value, Q .normal { tmps := #[a0, a1, s2, s3, s4, .pointer (some ⟨bm, 0, none⟩), .pointer (some ⟨b6, 0, none⟩), s7, v8, v9, .int .i64 (r : Int), .slice (some ⟨g, 0, none⟩) L c, .int .i64 mk, u13, s14, s15, s16, s17, s18, s19, s20, s21, s22, s23, s24, s25, s26, s27, s28, s29, s30, s31, s32, s33, s34, s35, s36, s37, s38, s39, s40, s41, s42, s43, s44, s45, s46, s47, s48, s49, s50, s51, s52, s53, s54, s55, s56, u57, u58, u59, u60, u61, u62, u63, u64, u65, u66, s67, s68, s69, s70, s71, s72, s73, s74, s75, s76, s77, s78, s79, s80, s81, s82, s83, s84, s85, s86, s87, s88, s89, s90, s91, s92, s93, s94, s95, s96, s97, s98, s99, s100, s101, s102, s103, s104, s105, s106, s107, s108, s109, s110, s111, s112, s113, s114, s115, s116, s117, s118, s119, s120, s121, s122, s123, s124, s125, s126, s127, s128, s129, s130, s131, s132, s133, s134, s135, s136, s137, s138, s139, s140, s141, s142, s143, s144, s145, s146, s147, s148, s149, s150, s151, s152, s153, s154, s155, s156, s157, s158, s159], defers := [] } W') :
    bkFill.wp Try.prog Q { tmps := #[a0, a1, s2, s3, s4, .pointer (some ⟨bm, 0, none⟩), .pointer (some ⟨b6, 0, none⟩), s7, v8, v9, .int .i64 (r : Int), .slice (some ⟨g, 0, none⟩) L c, .int .i64 mk, s13, s14, s15, s16, s17, s18, s19, s20, s21, s22, s23, s24, s25, s26, s27, s28, s29, s30, s31, s32, s33, s34, s35, s36, s37, s38, s39, s40, s41, s42, s43, s44, s45, s46, s47, s48, s49, s50, s51, s52, s53, s54, s55, s56, s57, s58, s59, s60, s61, s62, s63, s64, s65, s66, s67, s68, s69, s70, s71, s72, s73, s74, s75, s76, s77, s78, s79, s80, s81, s82, s83, s84, s85, s86, s87, s88, s89, s90, s91, s92, s93, s94, s95, s96, s97, s98, s99, s100, s101, s102, s103, s104, s105, s106, s107, s108, s109, s110, s111, s112, s113, s114, s115, s116, s117, s118, s119, s120, s121, s122, s123, s124, s125, s126, s127, s128, s129, s130, s131, s132, s133, s134, s135, s136, s137, s138, s139, s140, s141, s142, s143, s144, s145, s146, s147, s148, s149, s150, s151, s152, s153, s154, s155, s156, s157, s158, s159], defers := [] } W := by
  have HQ := hide hQ
  have H := hide h
  clear hQ h
  unfold bkFill bkBody
  dsimp only [Try.f3]
  go_wp2
  go_loopg [13] L (fun gk v13 wr => ∃ j : Nat, v13 = .int .i64 (j : Int) ∧ gk = L - j ∧ j ≤ L ∧ RowI bs wr g L c (List.replicate j mk ++ xs.drop j) ∧ W.grownBy wr (some g))
  case atStart => exact ⟨0, rfl, rfl, Nat.zero_le _, by simpa using unhide H, World.grownBy.refl _ _⟩
  case round =>
    obtain ⟨j, rfl, hgk, hj, hR, hB⟩ := hrel
    have Hgk := hide hgk
    have hxl := (unhide H).len
    have hRl := hR.len
    clear hgk
    by_cases hlt : j < L
    · have hc := hR.cellSome hlt
      obtain ⟨z, hz⟩ := hc
      have hf := hR.frozenAt j
      have hj0 : (0 : Int) ≤ (j : Int) := Int.natCast_nonneg _
      have hj1 : (j : Int) < (L : Int) := by omega
      have hd : decide ((j : Int) < (L : Int)) = true := by simp; omega
      obtain ⟨h1, h2⟩ := hR.set j mk
      have H1 := hide h1
      have H2 := hide (hB.trans h2)
      clear h1 h2 hR hB
      go_wp2
      go_roundg (L - (j + 1))
      case measure => have := unhide Hgk; omega
      case rel =>
        refine ⟨j + 1, by go_num, rfl, by omega, ?_, unhide H2⟩
        have := unhide H1
        rw [fill_step (by omega)] at this
        exact this
    · obtain rfl : j = L := by omega
      have hd : decide ((j : Int) < (j : Int)) = false := by simp
      have Hx : Hid (RowI bs wr g j c (List.replicate j mk)) := by
        have := hR
        rw [List.drop_eq_nil_of_le (by omega), List.append_nil] at this
        exact this
      have HB := hide hB
      clear hR hB
      go_wp2
      exact unhide HQ _ (unhide Hx) (unhide HB) _ _ _ _ _ _ _ _ _ _ _

set_option maxRecDepth 100000 in
set_option maxHeartbeats 4000000 in
theorem more_any {W : World} {bs : Nat} {a0 a1 v8 v9 : Value} {bm b6 g L r : Nat} {mk : Int} (h : RowI bs W g L L (List.replicate L mk)) (hL : L ≤ 17592186044320) (s2 s3 s4 s7 s13 s15 s16 s17 s18 s19 s20 s21 s22 s23 s24 s25 s26 s27 s28 s29 s30 s31 s32 s33 s34 s35 s36 s37 s38 s39 s40 s41 s42 s43 s44 s45 s46 s47 s48 s49 s50 s51 s52 s53 s54 s55 s56 s57 s58 s59 s60 s61 s62 s63 s64 s65 s66 s67 s68 s69 s70 s71 s72 s73 s74 s75 s76 s77 s78 s79 s80 s81 s82 s83 s84 s85 s86 s87 s88 s89 s90 s91 s92 s93 s94 s95 s96 s97 s98 s99 s100 s101 s102 s103 s104 s105 s106 s107 s108 s109 s110 s111 s112 s113 s114 s115 s116 s117 s118 s119 s120 s121 s122 s123 s124 s125 s126 s127 s128 s129 s130 s131 s132 s133 s134 s135 s136 s137 s138 s139 s140 s141 s142 s143 s144 s145 s146 s147 s148 s149 s150 s151 s152 s153 s154 s155 s156 s157 s158 s159 : Value) {Q : Exit → Act → World → Prop}
    (hQ : ∀ W' v14, W'.ownsRow W.heap.size 3 1 v14 96 ((List.replicate 96 mk).map fun x => .int .i64 x) → Below W.heap.size W W' → ∀ u4 u67 u68 u69 u70 u71 u72 u73 u74 u75 u76 u77 u78 u79 u80 u81 u82 u83 : Value, Q .normal { tmps := #[a0, a1, s2, s3, u4, .pointer (some ⟨bm, 0, none⟩), .pointer (some ⟨b6, 0, none⟩), s7, v8, v9, .int .i64 (r : Int), .slice (some ⟨g, 0, none⟩) L L, .int .i64 mk, s13, v14, s15, s16, s17, s18, s19, s20, s21, s22, s23, s24, s25, s26, s27, s28, s29, s30, s31, s32, s33, s34, s35, s36, s37, s38, s39, s40, s41, s42, s43, s44, s45, s46, s47, s48, s49, s50, s51, s52, s53, s54, s55, s56, s57, s58, s59, s60, s61, s62, s63, s64, s65, s66, u67, u68, u69, u70, u71, u72, u73, u74, u75, u76, u77, u78, u79, u80, u81, u82, u83, s84, s85, s86, s87, s88, s89, s90, s91, s92, s93, s94, s95, s96, s97, s98, s99, s100, s101, s102, s103, s104, s105, s106, s107, s108, s109, s110, s111, s112, s113, s114, s115, s116, s117, s118, s119, s120, s121, s122, s123, s124, s125, s126, s127, s128, s129, s130, s131, s132, s133, s134, s135, s136, s137, s138, s139, s140, s141, s142, s143, s144, s145, s146, s147, s148, s149, s150, s151, s152, s153, s154, s155, s156, s157, s158, s159], defers := [] } W') :
    bkMore.wp Try.prog Q { tmps := #[a0, a1, s2, s3, s4, .pointer (some ⟨bm, 0, none⟩), .pointer (some ⟨b6, 0, none⟩), s7, v8, v9, .int .i64 (r : Int), .slice (some ⟨g, 0, none⟩) L L, .int .i64 mk, s13, .slice none 0 0, s15, s16, s17, s18, s19, s20, s21, s22, s23, s24, s25, s26, s27, s28, s29, s30, s31, s32, s33, s34, s35, s36, s37, s38, s39, s40, s41, s42, s43, s44, s45, s46, s47, s48, s49, s50, s51, s52, s53, s54, s55, s56, s57, s58, s59, s60, s61, s62, s63, s64, s65, s66, s67, s68, s69, s70, s71, s72, s73, s74, s75, s76, s77, s78, s79, s80, s81, s82, s83, s84, s85, s86, s87, s88, s89, s90, s91, s92, s93, s94, s95, s96, s97, s98, s99, s100, s101, s102, s103, s104, s105, s106, s107, s108, s109, s110, s111, s112, s113, s114, s115, s116, s117, s118, s119, s120, s121, s122, s123, s124, s125, s126, s127, s128, s129, s130, s131, s132, s133, s134, s135, s136, s137, s138, s139, s140, s141, s142, s143, s144, s145, s146, s147, s148, s149, s150, s151, s152, s153, s154, s155, s156, s157, s158, s159], defers := [] } W := by
  obtain ⟨i0, hi, hz0, hz1, hz2⟩ := info_parts Try.infoInt
  have HQ := hide hQ
  have H := hide h
  have hgW := h.lt.2
  clear hQ h
  unfold bkMore bkBody
  dsimp only [Try.f3]
  go_wp2
  go_loopg [14] 96 (fun gk v14 wr => ∃ m : Nat, gk = 96 - m ∧ m ≤ 96 ∧ wr.ownsRow W.heap.size 3 1 v14 m ((List.replicate m mk).map fun x => .int .i64 x) ∧ Below W.heap.size W wr)
  case atStart => exact ⟨0, rfl, by omega, World.ownsRow_nil _ _ _ _, Below.refl _ _⟩
  case round =>
    obtain ⟨m, hgk, hm, hR, hB⟩ := hrel
    have Hgk := hide hgk
    clear hgk
    obtain ⟨a14, c14, rfl⟩ := row_form hR
    by_cases hlt : m < 96
    · have hd : decide ((m : Int) < 96) = true := by simp; omega
      have HR := hide hR
      have HB := hide hB
      have hsz := hB.size
      have GO1 : True := trivial
      have GO2 : True := trivial
      clear hR hB
      go_wp2_with (first
        | (at_builtin; clear GO1; refine wpList_append_own_at _ rfl _ _ 22 rfl W.heap.size 3 i0 (.int .i64 0) 1 8 Try.underlying22 hi hz0 hz1 hz2 rfl (by decide) _ _ _ rfl ((unhide HR).alloc _) ⟨wr.heap.size, 0, none⟩ 1 1 [.int .i64 mk] rfl rfl (cell_one_new _ _ _) (by simp [Value.oneCell']) (by unfold maxLen; omega) (by omega) (by rw [World.size_alloc]; omega) ?_; intro v' w4 hown' hgrow _ hat; obtain ⟨g', c', rfl⟩ := ownsRow_succ hown'; have Hown := hide hown'; have HB4 : Hid (Below W.heap.size W w4) := ((unhide HB).alloc hsz _).grown hgrow (by rw [World.size_alloc]; omega) (fun k e => ((unhide HR).lt k e).1); have Hl4 : Hid (RowI bs w4 g L L (List.replicate L mk)) := (unhide H).up' (unhide HB4); clear hown' hgrow hat)
        | (at_builtin; clear GO2; refine wpList_append_grows _ rfl _ _ 22 rfl 3 i0 (.int .i64 0) 1 8 Try.underlying22 hi hz0 hz1 hz2 rfl (by decide) (some ⟨g, 0, none⟩) L L _ rfl (fun e => by cases e) (unhide Hl4).1 (unhide Hl4).news' ⟨g', 0, none⟩ (m + 1) c' _ rfl (unhide Hown).1 ((unhide Hown).cells rfl) (one_more _ _) (by omega) (by unfold maxLen; omega) (by omega) ?_; intro v5 w5 hown5 hgrow5; obtain ⟨a5, c5, rfl⟩ := row_form hown5; have HB5 : Hid (Below W.heap.size W w5) := (unhide HB4).trans (below_of_grown hgrow5 (unhide HB4).size); have HO5 : Hid (w5.ownsRow W.heap.size 3 1 (.slice (some ⟨g', 0, none⟩) (m + 1) c') (m + 1) _) := (unhide Hown).kept hgrow5 (.inr (by simp [Value.ownBlock])); clear hown5 hgrow5))
      go_roundg (96 - (m + 1))
      case measure => have := unhide Hgk; omega
      case rel =>
        refine ⟨m + 1, rfl, by omega, ?_, unhide HB5⟩
        rw [← rep_succ]
        exact unhide HO5
    · obtain rfl : m = 96 := by omega
      have HR := hide hR
      have HB := hide hB
      clear hR hB
      go_wp2
      exact unhide HQ _ _ (unhide HR) (unhide HB) _ _ _ _ _ _ _ _ _ _ _ _ _ _ _ _ _ _
end Go.Proofs.Ytpmdfgoajffmeaa
