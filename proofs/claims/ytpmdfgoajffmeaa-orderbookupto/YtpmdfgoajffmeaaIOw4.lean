import Derived.Test.YtpmdfgoajffmeaaIOw2

namespace Go.Proofs.Ytpmdfgoajffmeaa
open Go.RowKit Go.Shelf
attribute [local go_sem ↓] Go.wp_at_zero Go.wp_at_succ

def mkMk (i k : Nat) : List Int := (List.range k).map fun k : Nat => -1 - 100 * (i : Int) - (k : Int)
theorem mkMk_succ (i k : Nat) : mkMk i (k + 1) = mkMk i k ++ [-1 - 100 * (i : Int) - (k : Int)] := by
  unfold mkMk
  rw [List.range_succ, List.map_append]
  rfl
theorem mkMk_len (i k : Nat) : (mkMk i k).length = k := by simp [mkMk]
theorem mkA_len (L i : Nat) : (mkA L i).length = L := by simp [mkA]
theorem ownsRow_mono {W : World} {bs bs' e size n : Nat} {v : Value} {xs : List Value} (h : W.ownsRow bs e size v n xs) (hb : bs' ≤ bs) : W.ownsRow bs' e size v n xs := by
  refine ⟨h.1, ?_⟩
  rcases h.2 with h1 | ⟨g', cap, cur, e, hb1, rest⟩
  · exact .inl h1
  · exact .inr ⟨g', cap, cur, e, Nat.le_trans hb hb1, rest⟩
/-- The longer lists. -/
structure Mo (B : Nat) (w : World) (v : Value) (L : Nat) (zs : List (Nat × Nat)) : Prop where
  row : w.ownsRow B 22 1 v zs.length (zs.map fun z => .slice (some ⟨z.1, 0, none⟩) (L + 96) z.2)
  each : ∀ i z, zs[i]? = some z → RowI 0 w z.1 (L + 96) z.2 (mkA L i ++ mkMk i 96)
theorem Mo.up {B : Nat} {w w' : World} {v : Value} {L : Nat} {zs : List (Nat × Nat)} (h : Mo B w v L zs) (hb : Below w.heap.size w w') : Mo B w' v L zs := ⟨ownsRow_up h.row hb, fun i z hz => (h.each i z hz).up' hb⟩
theorem Mo.push {B : Nat} {w w' : World} {v v' : Value} {L g c : Nat} {zs : List (Nat × Nat)} {ob : Obj} (h : Mo B w v L zs) (hg : RowI 0 w g (L + 96) c (mkA L zs.length ++ mkMk zs.length 96))
    (hgr : (w.alloc ob).grownBy w' v.ownBlock) (ho : w'.ownsRow B 22 1 v' (zs.length + 1) (zs.map (fun z => .slice (some ⟨z.1, 0, none⟩) (L + 96) z.2) ++ [.slice (some ⟨g, 0, none⟩) (L + 96) c])) : Mo B w' v' L (zs ++ [(g, c)]) := by
  have hgg : w.grownBy w' v.ownBlock := (World.grownBy_alloc w ob _).trans hgr
  have hne : ∀ {g n c : Nat} {xs : List Int}, RowI 0 w g n c xs → some g ≠ v.ownBlock := fun {g n c xs} hr e => by
    obtain ⟨c1, hc⟩ := ownsRow_type h.row e.symm
    obtain ⟨d, hd⟩ := ownsRow_type (v := .slice (some ⟨g, 0, none⟩) n c) hr rfl
    have := hc.symm.trans hd
    simp at this
  refine ⟨by simpa using ho, fun i x hx => ?_⟩
  by_cases hi : i < zs.length
  · rw [List.getElem?_append_left hi] at hx
    exact (h.each i x hx).kept hgg (hne (h.each i x hx))
  · rw [List.getElem?_append_right (by omega)] at hx
    have hl : i - zs.length < 1 := (List.getElem?_eq_some_iff.1 hx).1
    obtain rfl : i = zs.length := by omega
    simp at hx
    subst hx
    exact hg.kept hgg (hne hg)
theorem Mo.cell {B : Nat} {w : World} {L g5 n c5 : Nat} {zs : List (Nat × Nat)} (h : Mo B w (.slice (some ⟨g5, 0, none⟩) n c5) L zs) {i : Nat} {z : Nat × Nat} (hi : zs[i]? = some z) : w.cell? ⟨g5, i, none⟩ = some (.slice (some ⟨z.1, 0, none⟩) (L + 96) z.2) := by
  obtain ⟨a, c, e⟩ := row_form h.row
  simp at e
  have hr := h.row
  rw [e.2.1] at hr
  have hl : i < zs.length := (List.getElem?_eq_some_iff.1 hi).1
  rw [World.ownsRow.cellAt hr i (by omega)]
  simp [hi]

set_option maxRecDepth 100000 in
set_option maxHeartbeats 4000000 in
theorem ow4_any {W : World} {bm b3 B g5 c5 L : Nat} {v8 : Value} {gs : List Nat} (hO : Ow B W (.slice (some ⟨g5, 0, none⟩) 5 c5) L gs (mkA L)) (h5 : gs.length = 5) (hL : L ≤ 17592186044320) (s : Nat → Value) {Q : Exit → Act → World → Prop}
    (hQ : ∀ W' v11 zs, Mo W.heap.size W' v11 L zs → zs.length = 5 → Below W.heap.size W W' → ∀ tm : Array Value, tm.size = 159 → chk tm [(0, .pointer (some ⟨bm, 0, none⟩)), (3, .pointer (some ⟨b3, 0, none⟩)), (5, .slice (some ⟨g5, 0, none⟩) 5 c5), (8, v8), (11, v11)] → Q .normal { tmps := tm, defers := [] } W') :
    ow4.wp Try.prog Q { tmps := #[.pointer (some ⟨bm, 0, none⟩), s 1, s 2, .pointer (some ⟨b3, 0, none⟩), s 4, .slice (some ⟨g5, 0, none⟩) 5 c5, s 6, s 7, v8, s 9, s 10, .slice none 0 0, s 12, s 13, s 14, s 15, s 16, s 17, s 18, s 19, s 20, s 21, s 22, s 23, s 24, s 25, s 26, s 27, s 28, s 29, s 30, s 31, s 32, s 33, s 34, s 35, s 36, s 37, s 38, s 39, s 40, s 41, s 42, s 43, s 44, s 45, s 46, s 47, s 48, s 49, s 50, s 51, s 52, s 53, s 54, s 55, s 56, s 57, s 58, s 59, s 60, s 61, s 62, s 63, s 64, s 65, s 66, s 67, s 68, s 69, s 70, s 71, s 72, s 73, s 74, s 75, s 76, s 77, s 78, s 79, s 80, s 81, s 82, s 83, s 84, s 85, s 86, s 87, s 88, s 89, s 90, s 91, s 92, s 93, s 94, s 95, s 96, s 97, s 98, s 99, s 100, s 101, s 102, s 103, s 104, s 105, s 106, s 107, s 108, s 109, s 110, s 111, s 112, s 113, s 114, s 115, s 116, s 117, s 118, s 119, s 120, s 121, s 122, s 123, s 124, s 125, s 126, s 127, s 128, s 129, s 130, s 131, s 132, s 133, s 134, s 135, s 136, s 137, s 138, s 139, s 140, s 141, s 142, s 143, s 144, s 145, s 146, s 147, s 148, s 149, s 150, s 151, s 152, s 153, s 154, s 155, s 156, s 157, s 158], defers := [] } W := by
  obtain ⟨i0, hi0, hz0, hz1, hz2⟩ := info_parts Try.infoInt
  obtain ⟨i1, qi, qz0, qz1, qz2⟩ := info_parts Try.infoInts
  have HQ := hide hQ
  have HO := hide hO
  unfold ow4 owBody
  dsimp only [Try.f13]
  clear hQ hO
  go_wp2
  go_loopg [11, 12] 5 (fun gk v11 v12 wr => ∃ zs : List (Nat × Nat), v12 = .int .i64 (zs.length : Int) ∧ gk = 5 - zs.length ∧ zs.length ≤ 5 ∧ Mo W.heap.size wr v11 L zs ∧ Below W.heap.size W wr)
  case atStart => exact ⟨[], rfl, rfl, by simp, ⟨World.ownsRow_nil _ _ _ _, fun i g h => by simp at h⟩, Below.refl _ _⟩
  case round =>
    obtain ⟨zs, rfl, hgk, hi, hMo, hB⟩ := hrel
    have Hgk := hide hgk
    have HMo := hide hMo
    have HB := hide hB
    clear hgk hMo hB
    by_cases hlt : zs.length < 5
    · have hd : decide ((zs.length : Int) < 5) = true := by simp; omega
      obtain ⟨g, hg⟩ : ∃ g, gs[zs.length]? = some g := ⟨_, List.getElem?_eq_getElem (by omega)⟩
      have hi00 : (0 : Int) ≤ (zs.length : Int) := Int.natCast_nonneg _
      have hi5 : (zs.length : Int) < 5 := by omega
      have hOr := (unhide HO).up (unhide HB)
      have c5' := hOr.cell hg
      have Hri := hide (hOr.each _ g hg)
      have hgl := (unhide Hri).lt.2
      have hlz : ∀ z : Nat × Nat, (zs ++ [z]).length = zs.length + 1 := fun z => by simp
      have Hlz := hide hlz
      obtain ⟨wo, hwo⟩ : ∃ x, x = wr := ⟨_, rfl⟩
      subst hwo
      clear hg hOr hlz
      go_wp2
      go_loopg [13, 14] 96 (fun gk2 v13 v14 wr => ∃ k : Nat, v14 = .int .i64 (k : Int) ∧ gk2 = 96 - k ∧ k ≤ 96 ∧ ((k = 0 ∧ v13 = .slice (some ⟨g, 0, none⟩) L L) ∨ (0 < k ∧ wr.ownsRow wo.heap.size 3 1 v13 (L + k) ((mkA L zs.length ++ mkMk zs.length k).map fun x => .int .i64 x))) ∧ Below wo.heap.size wo wr)
      case atStart => exact ⟨0, rfl, rfl, by omega, .inl ⟨rfl, rfl⟩, Below.refl _ _⟩
      case round =>
        obtain ⟨k, rfl, hgk2, hk, hcase, hb⟩ := hrel
        have Hgk2 := hide hgk2
        have Hb := hide hb
        have sb := hb.size
        have hk0 : (0 : Int) ≤ (k : Int) := Int.natCast_nonneg _
        clear hgk2 hb
        by_cases hlt2 : k < 96
        · have hd2 : decide ((k : Int) < 96) = true := by simp; omega
          have hk1 : (k : Int) < 96 := by omega
          rcases hcase with ⟨hkz, rfl⟩ | ⟨hkp, hR⟩
          · have Hrw := hide ((unhide Hri).up' (unhide Hb))
            have Hkz := hide hkz
            clear hkz
            go_wp2_with (at_builtin; refine wpList_append_grows _ rfl _ _ 22 rfl 3 i0 (.int .i64 0) 1 8 Try.underlying22 hi0 hz0 hz1 hz2 rfl (by decide) (some ⟨g, 0, none⟩) L L ((mkA L zs.length).map fun x => .int .i64 x) rfl (fun e => by cases e) (by simp [mkA_len]) (RowI.news' (World.ownsRow.alloc (unhide Hrw) _)) ⟨wr.heap.size, 0, none⟩ 1 1 [.int .i64 (-1 - 100 * (zs.length : Int) - (k : Int))] rfl rfl (cell_one_new _ _ _) (by simp [Value.oneCell']) (by omega) (by unfold maxLen; omega) (by omega) ?_; intro v' w4 hown' hgrow; have Hown := hide hown'; have HB4 : Hid (Below wo.heap.size wo w4) := ((unhide Hb).alloc sb _).trans (below_of_grown hgrow (by rw [World.size_alloc]; omega)); have hw4 := (unhide HB4).size; obtain ⟨a4, c4, rfl⟩ := row_form hown'; clear hown' hgrow)
            go_roundg (96 - (k + 1))
            case measure => have := unhide Hgk2; omega
            case rel =>
              refine ⟨k + 1, by go_num, rfl, by omega, .inr ⟨by omega, ?_⟩, unhide HB4⟩
              obtain rfl : k = 0 := unhide Hkz
              have := ownsRow_mono (unhide Hown) (show wo.heap.size ≤ _ by rw [World.size_alloc]; omega)
              rw [mkMk_succ, List.map_append, List.map_append]
              simpa [mkMk] using this
          · have HR := hide hR
            obtain ⟨a13, c13, rfl⟩ := row_form hR
            clear hR
            go_wp2_with (at_builtin; refine wpList_append_own_at _ rfl _ _ 22 rfl wo.heap.size 3 i0 (.int .i64 0) 1 8 Try.underlying22 hi0 hz0 hz1 hz2 rfl (by decide) _ _ _ rfl ((unhide HR).alloc _) ⟨wr.heap.size, 0, none⟩ 1 1 [.int .i64 (-1 - 100 * (zs.length : Int) - (k : Int))] rfl rfl (cell_one_new _ _ _) (by simp [Value.oneCell']) (by unfold maxLen; omega) (by omega) (by rw [World.size_alloc]; omega) ?_; intro v' w4 hown' hgrow _ _; have Hown := hide hown'; have HB4 : Hid (Below wo.heap.size wo w4) := ((unhide Hb).alloc sb _).grown hgrow (by rw [World.size_alloc]; omega) (fun k e => ((unhide HR).lt k e).1); obtain ⟨a4, c4, rfl⟩ := row_form hown'; clear hown' hgrow)
            go_roundg (96 - (k + 1))
            case measure => have := unhide Hgk2; omega
            case rel =>
              refine ⟨k + 1, by go_num, rfl, by omega, .inr ⟨by omega, ?_⟩, unhide HB4⟩
              have := unhide Hown
              rw [mkMk_succ, ← List.append_assoc, List.map_append]
              exact this
        · obtain rfl : k = 96 := by omega
          rcases hcase with ⟨hkz, _⟩ | ⟨_, hR⟩
          · omega
          · obtain ⟨g', c', rfl⟩ := ownsRow_succ (k := L + 95) hR
            have Hr : Hid (RowI 0 wr g' (L + 96) c' (mkA L zs.length ++ mkMk zs.length 96)) := ownsRow_mono hR (Nat.zero_le _)
            have HMr := hide ((unhide HMo).up (unhide Hb))
            have HBr : Hid (Below W.heap.size W wr) := (unhide HB).trans ((unhide Hb).mono (unhide HB).size)
            have sB := (unhide HBr).size
            have hlz := unhide Hlz (g', c')
            clear hR
            go_wp2_with (at_builtin; refine wpList_append_own_at _ rfl _ _ 32 rfl W.heap.size 22 i1 (.slice none 0 0) 1 24 Try.underlying32 qi qz0 qz1 qz2 rfl (by decide) _ _ _ rfl ((unhide HMr).row.alloc _) ⟨wr.heap.size, 0, none⟩ 1 1 [.slice (some ⟨g', 0, none⟩) (L + 96) c'] rfl rfl (cell_one_new _ _ _) (by simp [Value.oneCell']) (by unfold maxLen; omega) (by omega) (by rw [World.size_alloc]; omega) ?_; intro v' w4 hown' hgrow _ _; have HM4 := hide ((unhide HMr).push (unhide Hr) hgrow hown'); have HB4 : Hid (Below W.heap.size W w4) := ((unhide HBr).alloc sB _).grown hgrow (by rw [World.size_alloc]; omega) (fun k e => ((unhide HMr).row.lt k e).1); obtain ⟨a4, c4, rfl⟩ := row_form hown'; clear hown' hgrow)
            go_roundg (5 - (zs.length + 1))
            case measure => have := unhide Hgk; omega
            case rel => exact ⟨zs ++ [(g', c')], by rw [hlz]; go_num, by rw [hlz], by omega, unhide HM4, unhide HB4⟩
    · have hg5 : zs.length = 5 := by omega
      have Hg5 := hide hg5
      have hd : decide ((zs.length : Int) < 5) = false := by simp; omega
      clear hg5
      go_wp2
      exact unhide HQ _ _ zs (unhide HMo) (unhide Hg5) (unhide HB) _ rfl ⟨rfl, rfl, rfl, rfl, rfl, trivial⟩
end Go.Proofs.Ytpmdfgoajffmeaa
