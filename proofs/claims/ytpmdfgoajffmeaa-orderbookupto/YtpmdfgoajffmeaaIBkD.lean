import Derived.Test.YtpmdfgoajffmeaaIBkC
import Derived.Deep.RegionHeld3

namespace Go.Proofs.Ytpmdfgoajffmeaa
open Go.RowKit Go.Shelf
attribute [local go_sem ↓] Go.wp_at_zero Go.wp_at_succ

set_option maxRecDepth 100000 in
set_option maxHeartbeats 8000000 in
theorem one_any {W : World} {a0 a1 : Value} {bm b6 r g8 c8 g9 c9 k L kc : Nat} {ka : Option Addr} {us : List Kp} {ms : List Int} {x : Kp} (hk : us[k]? = some x) (hK : KeptOk W L us ms) (h8 : W.cell? ⟨g8, k, none⟩ = some x.val) (h9 : W.cell? ⟨g9, k / 5, none⟩ = some (.int .i64 x.mark)) (hms : ms.length ≤ 1152921504606846976)
    (h6 : W.cell? ⟨b6, 1, none⟩ = some (.slice ka L kc)) (hL : L ≤ 17592186044416)
    (s2 s3 s4 s7 s11 s12 s13 s14 s16 s17 s18 s19 s20 s21 s22 s23 s24 s25 s26 s27 s28 s29 s30 s31 s32 s33 s34 s35 s36 s37 s38 s39 s40 s41 s42 s43 s44 s45 s46 s47 s48 s49 s50 s51 s52 s53 s54 s55 s56 s57 s58 s59 s60 s61 s62 s63 s64 s65 s66 s67 s68 s69 s70 s71 s72 s73 s74 s75 s76 s77 s78 s79 s80 s81 s82 s83 s84 s85 s86 s87 s88 s89 s90 s91 s92 s93 s94 s95 s96 s97 s98 s99 s100 s101 s102 s103 s104 s105 s106 s107 s108 s109 s110 s111 s112 s113 s114 s115 s116 s117 s118 s119 s120 s121 s122 s123 s124 s125 s126 s127 s128 s129 s130 s131 s132 s133 s134 s135 s136 s137 s138 s139 s140 s141 s142 s143 s144 s145 s146 s147 s148 s149 s150 s151 s152 s153 s154 s155 s156 s157 s158 s159 : Value) {Q : Exit → Act → World → Prop} (hQ : ∀ W', Below W.heap.size W W' → ∀ u4 u16 u116 u117 u118 u119 u120 u121 u122 u123 u124 u125 u126 u127 u128 u129 u130 u131 u132 u133 u134 u135 u136 u137 u138 u139 u140 u141 u142 u143 u144 u145 u146 u147 u148 u149 u150 u151 u152 : Value, Q .normal { tmps := #[a0, a1, s2, s3, u4, .pointer (some ⟨bm, 0, none⟩), .pointer (some ⟨b6, 0, none⟩), s7, .slice (some ⟨g8, 0, none⟩) us.length c8, .slice (some ⟨g9, 0, none⟩) ms.length c9, .int .i64 (r : Int), s11, s12, s13, s14, .int .i64 (k : Int), u16, s17, s18, s19, s20, s21, s22, s23, s24, s25, s26, s27, s28, s29, s30, s31, s32, s33, s34, s35, s36, s37, s38, s39, s40, s41, s42, s43, s44, s45, s46, s47, s48, s49, s50, s51, s52, s53, s54, s55, s56, s57, s58, s59, s60, s61, s62, s63, s64, s65, s66, s67, s68, s69, s70, s71, s72, s73, s74, s75, s76, s77, s78, s79, s80, s81, s82, s83, s84, s85, s86, s87, s88, s89, s90, s91, s92, s93, s94, s95, s96, s97, s98, s99, s100, s101, s102, s103, s104, s105, s106, s107, s108, s109, s110, s111, s112, s113, s114, s115, u116, u117, u118, u119, u120, u121, u122, u123, u124, u125, u126, u127, u128, u129, u130, u131, u132, u133, u134, u135, u136, u137, u138, u139, u140, u141, u142, u143, u144, u145, u146, u147, u148, u149, u150, u151, u152, s153, s154, s155, s156, s157, s158, s159], defers := [] } W') :
    bkOne.wp Try.prog Q { tmps := #[a0, a1, s2, s3, s4, .pointer (some ⟨bm, 0, none⟩), .pointer (some ⟨b6, 0, none⟩), s7, .slice (some ⟨g8, 0, none⟩) us.length c8, .slice (some ⟨g9, 0, none⟩) ms.length c9, .int .i64 (r : Int), s11, s12, s13, s14, .int .i64 (k : Int), s16, s17, s18, s19, s20, s21, s22, s23, s24, s25, s26, s27, s28, s29, s30, s31, s32, s33, s34, s35, s36, s37, s38, s39, s40, s41, s42, s43, s44, s45, s46, s47, s48, s49, s50, s51, s52, s53, s54, s55, s56, s57, s58, s59, s60, s61, s62, s63, s64, s65, s66, s67, s68, s69, s70, s71, s72, s73, s74, s75, s76, s77, s78, s79, s80, s81, s82, s83, s84, s85, s86, s87, s88, s89, s90, s91, s92, s93, s94, s95, s96, s97, s98, s99, s100, s101, s102, s103, s104, s105, s106, s107, s108, s109, s110, s111, s112, s113, s114, s115, s116, s117, s118, s119, s120, s121, s122, s123, s124, s125, s126, s127, s128, s129, s130, s131, s132, s133, s134, s135, s136, s137, s138, s139, s140, s141, s142, s143, s144, s145, s146, s147, s148, s149, s150, s151, s152, s153, s154, s155, s156, s157, s158, s159], defers := [] } W := by
  have HQ := hide hQ
  obtain ⟨e1, e2, _, e4⟩ := hK k x hk
  have hkl : k < us.length := (List.getElem?_eq_some_iff.1 hk).1
  have hql : k / 5 < ms.length := (List.getElem?_eq_some_iff.1 e2).1
  have hx8 := h8
  have l8 : g8 < W.heap.size := lt_of_cell h8
  have l6 : b6 < W.heap.size := lt_of_cell h6
  unfold Kp.val at hx8
  have H8 := hide h8
  have H9 := hide h9
  have HK := hide hk
  have HC := hide e4
  have he1 : x.len ≤ L + 96 := by
    have : ex (k % 5) ≤ 96 := by unfold ex; split <;> omega
    omega
  obtain ⟨e, hee⟩ : ∃ e, k % 5 = e := ⟨_, rfl⟩
  rw [hee] at e1
  have he5 : e < 5 := by omega
  have hk0 : (0 : Int) ≤ (k : Int) := Int.natCast_nonneg _
  have hk1 : (k : Int) < (us.length : Int) := by omega
  have hm : (k : Int) % 5 = (e : Int) := by omega
  have hq : (k : Int) / 5 = ((k / 5 : Nat) : Int) := by omega
  have Hq := hide hq
  have HE1 := hide e1
  rw [bkOne_split]
  obtain ⟨t, ht⟩ : ∃ t, bkIn = t := ⟨_, rfl⟩
  rw [ht]
  unfold bkOneWith bkOne bkCheck bkBody
  dsimp only [Try.f3]
  clear hQ hK h8 h9 hk e4 hq e1 e2 hee
  have fin : ∀ W', Below W.heap.size W W' → ∀ u4 u16 u116 u117 u118 u119 u120 u121 u122 u123 u124 u125 u126 u127 u128 u129 u130 u131 u132 u133 u134 u135 u136 u137 u138 u139 u140 u141 u142 u143 u144 u145 u146 u147 u148 u149 u150 u151 u152 : Value, t.wp Try.prog Q { tmps := #[a0, a1, s2, s3, u4, .pointer (some ⟨bm, 0, none⟩), .pointer (some ⟨b6, 0, none⟩), s7, .slice (some ⟨g8, 0, none⟩) us.length c8, .slice (some ⟨g9, 0, none⟩) ms.length c9, .int .i64 (r : Int), s11, s12, s13, s14, .int .i64 (k : Int), u16, s17, s18, s19, s20, s21, s22, s23, s24, s25, s26, s27, s28, s29, s30, s31, s32, s33, s34, s35, s36, s37, s38, s39, s40, s41, s42, s43, s44, s45, s46, s47, s48, s49, s50, s51, s52, s53, s54, s55, s56, s57, s58, s59, s60, s61, s62, s63, s64, s65, s66, s67, s68, s69, s70, s71, s72, s73, s74, s75, s76, s77, s78, s79, s80, s81, s82, s83, s84, s85, s86, s87, s88, s89, s90, s91, s92, s93, s94, s95, s96, s97, s98, s99, s100, s101, s102, s103, s104, s105, s106, s107, s108, s109, s110, s111, s112, s113, s114, s115, u116, u117, u118, u119, u120, u121, u122, u123, u124, u125, u126, u127, u128, u129, u130, u131, u132, u133, u134, u135, u136, u137, u138, u139, u140, u141, u142, u143, u144, u145, u146, u147, u148, u149, u150, u151, u152, s153, s154, s155, s156, s157, s158, s159], defers := [] } W' := by
    intro W' hb u4 u16 u116 u117 u118 u119 u120 u121 u122 u123 u124 u125 u126 u127 u128 u129 u130 u131 u132 u133 u134 u135 u136 u137 u138 u139 u140 u141 u142 u143 u144 u145 u146 u147 u148 u149 u150 u151 u152
    rw [← ht]
    exact in_any (unhide HK) ((hb.cell (p := ⟨g8, k, none⟩) l8).trans (unhide H8)) (fun i hi => (hb.cell (p := ⟨x.b, i, none⟩) (lt_of_cell (unhide HC i hi))).trans (unhide HC i hi)) (unhide Hq) hql hms ((hb.cell (p := ⟨g9, k / 5, none⟩) (lt_of_cell (unhide H9))).trans (unhide H9)) (by omega) _ _ _ _ _ _ _ _ _ _ _ _ _ _ _ _ _ _ _ _ _ _ _ _ _ _ _ _ _ _ _ _ _ _ _ _ _ _ _ _ _ _ _ _ _ _ _ _ _ _ _ _ _ _ _ _ _ _ _ _ _ _ _ _ _ _ _ _ _ _ _ _ _ _ _ _ _ _ _ _ _ _ _ _ _ _ _ _ _ _ _ _ _ _ _ _ _ _ _ _ _ _ _ _ _ _ _ _ _ _ _ _ _ _ _ _ _ _ _ _ _ _ _ _ _ _ _ _ _ _ _ _ _ _ _ _ _ _ _ _ _ _ _ _ _ _ _ _ _ _ _ _
      (fun W2 hb2 u4 u16 u131 u132 u133 u134 u135 u136 u137 u138 u139 u140 u141 u142 u143 u144 u145 u146 u147 u148 u149 u150 u151 u152 => unhide HQ W2 (hb.trans (hb2.mono hb.size)) _ _ _ _ _ _ _ _ _ _ _ _ _ _ _ _ _ _ _ _ _ _ _ _ _ _ _ _ _ _ _ _ _ _ _ _ _ _ _)
  have FIN := hide fin
  clear fin
  have he0 : (0 : Int) ≤ (e : Int) := Int.natCast_nonneg _
  have he6 : (e : Int) < 5 := by omega
  have hm2 : Int.tmod (k : Int) 5 = (e : Int) := by rw [Int.tmod_eq_emod_of_nonneg hk0]; exact hm
  have hm3 : IntKind.i64.wrap (e : Int) = (e : Int) := by rw [IntKind.wrap_i64]; omega
  have hexl : ex e ≤ 96 := by unfold ex; split <;> omega
  have hn : ((x.len : Int) != (L : Int) + (ex e : Int)) = false := by have := unhide HE1; simp; omega
  have hcell : (#[.int .i64 0, .int .i64 1, .int .i64 2, .int .i64 3, .int .i64 96] : Array Value)[e]? = some (.int .i64 (ex e : Int)) := by
    rcases (by omega : e = 0 ∨ e = 1 ∨ e = 2 ∨ e = 3 ∨ e = 4) with rfl | rfl | rfl | rfl | rfl <;> rfl
  have hcell2 : (W.alloc (.cells #[.int .i64 0, .int .i64 1, .int .i64 2, .int .i64 3, .int .i64 96] 3)).cell? ⟨W.heap.size, e, none⟩ = some (.int .i64 (ex e : Int)) := (cell_of_row _ _ _ _ _ _ (World.alloc_heap_new _ _)).trans hcell
  have hx8' : (W.alloc (.cells #[.int .i64 0, .int .i64 1, .int .i64 2, .int .i64 3, .int .i64 96] 3)).cell? ⟨g8, k, none⟩ = some (.slice (some ⟨x.b, 0, none⟩) x.len x.cap) := (((Below.refl _ W).alloc (Nat.le_refl _) _).cell (p := ⟨g8, k, none⟩) l8).trans hx8
  have h6' : (W.alloc (.cells #[.int .i64 0, .int .i64 1, .int .i64 2, .int .i64 3, .int .i64 96] 3)).cell? ⟨b6, 1, none⟩ = some (.slice ka L kc) := (((Below.refl _ W).alloc (Nat.le_refl _) _).cell (p := ⟨b6, 1, none⟩) l6).trans h6
  have HBa : Hid (Below W.heap.size W (W.alloc (.cells #[.int .i64 0, .int .i64 1, .int .i64 2, .int .i64 3, .int .i64 96] 3)).drew) := ((Below.refl _ W).alloc (Nat.le_refl _) _).drew
  clear hm HK H8 H9 HC Hq HE1
  go_wp2
  refine wp_region_noPanic ?_
  go_region
  refine NoPanic.normal ?_
  go_wp2
  exact unhide FIN _ (unhide HBa) _ _ _ _ _ _ _ _ _ _ _ _ _ _ _ _ _ _ _ _ _ _ _ _ _ _ _ _ _ _ _ _ _ _ _ _ _ _ _
end Go.Proofs.Ytpmdfgoajffmeaa
