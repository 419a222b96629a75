import Derived.Test.YtpmdfgoajffmeaaIOw4

namespace Go.Proofs.Ytpmdfgoajffmeaa
open Go.RowKit Go.Shelf
attribute [local go_sem ↓] Go.wp_at_zero Go.wp_at_succ

set_option maxRecDepth 100000 in
set_option maxHeartbeats 4000000 in
theorem ow6_any {W : World} {bm b3 B B' g5 c5 g11 c11 L : Nat} {v8 : Value} {gs : List Nat} {zs : List (Nat × Nat)} (hO : Ow B W (.slice (some ⟨g5, 0, none⟩) 5 c5) L gs (mkA L)) (h5 : gs.length = 5) (hMo : Mo B' W (.slice (some ⟨g11, 0, none⟩) 5 c11) L zs) (hz5 : zs.length = 5) (hL : L ≤ 17592186044320) (s : Nat → Value) {Q : Exit → Act → World → Prop}
    (hQ : ∀ tm : Array Value, tm.size = 159 → chk tm [(0, .pointer (some ⟨bm, 0, none⟩)), (3, .pointer (some ⟨b3, 0, none⟩)), (5, .slice (some ⟨g5, 0, none⟩) 5 c5), (8, v8), (11, .slice (some ⟨g11, 0, none⟩) 5 c11)] → Q .normal { tmps := tm, defers := [] } W) :
    ow6.wp Try.prog Q { tmps := #[.pointer (some ⟨bm, 0, none⟩), s 1, s 2, .pointer (some ⟨b3, 0, none⟩), s 4, .slice (some ⟨g5, 0, none⟩) 5 c5, s 6, s 7, v8, s 9, s 10, .slice (some ⟨g11, 0, none⟩) 5 c11, s 12, s 13, s 14, s 15, s 16, s 17, s 18, s 19, s 20, s 21, s 22, s 23, s 24, s 25, s 26, s 27, s 28, s 29, s 30, s 31, s 32, s 33, s 34, s 35, s 36, s 37, s 38, s 39, s 40, s 41, s 42, s 43, s 44, s 45, s 46, s 47, s 48, s 49, s 50, s 51, s 52, s 53, s 54, s 55, s 56, s 57, s 58, s 59, s 60, s 61, s 62, s 63, s 64, s 65, s 66, s 67, s 68, s 69, s 70, s 71, s 72, s 73, s 74, s 75, s 76, s 77, s 78, s 79, s 80, s 81, s 82, s 83, s 84, s 85, s 86, s 87, s 88, s 89, s 90, s 91, s 92, s 93, s 94, s 95, s 96, s 97, s 98, s 99, s 100, s 101, s 102, s 103, s 104, s 105, s 106, s 107, s 108, s 109, s 110, s 111, s 112, s 113, s 114, s 115, s 116, s 117, s 118, s 119, s 120, s 121, s 122, s 123, s 124, s 125, s 126, s 127, s 128, s 129, s 130, s 131, s 132, s 133, s 134, s 135, s 136, s 137, s 138, s 139, s 140, s 141, s 142, s 143, s 144, s 145, s 146, s 147, s 148, s 149, s 150, s 151, s 152, s 153, s 154, s 155, s 156, s 157, s 158], defers := [] } W := by
  have HQ := hide hQ
  have HO := hide hO
  have HM := hide hMo
  unfold ow6 owBody
  dsimp only [Try.f13]
  clear hQ hO hMo
  go_wp2
  go_loopg [15] 5 (fun gk v15 wr => ∃ i : Nat, v15 = .int .i64 (i : Int) ∧ gk = 5 - i ∧ i ≤ 5 ∧ wr = W)
  case atStart => exact ⟨0, rfl, rfl, by omega, rfl⟩
  case round =>
    obtain ⟨i, rfl, hgk, hi, hwr⟩ := hrel
    subst hwr
    have Hgk := hide hgk
    clear hgk
    by_cases hlt : i < 5
    · have hd : decide ((i : Int) < 5) = true := by simp; omega
      obtain ⟨g, hg⟩ : ∃ g, gs[i]? = some g := ⟨_, List.getElem?_eq_getElem (by omega)⟩
      obtain ⟨z, hz⟩ : ∃ z, zs[i]? = some z := ⟨_, List.getElem?_eq_getElem (by omega)⟩
      have hi0 : (0 : Int) ≤ (i : Int) := Int.natCast_nonneg _
      have hi5 : (i : Int) < 5 := by omega
      have e5 := (unhide HO).cell hg
      have e11 := (unhide HM).cell hz
      have Ha := hide ((unhide HO).each i g hg)
      have Hm := hide ((unhide HM).each i z hz)
      obtain ⟨wo, hwo⟩ : ∃ x, x = wr := ⟨_, rfl⟩
      subst hwo
      clear hg hz
      go_wp2
      go_loopg [17] L (fun gk2 v17 wr => ∃ k : Nat, v17 = .int .i64 (k : Int) ∧ gk2 = L - k ∧ k ≤ L ∧ wr = wo)
      case atStart => exact ⟨0, rfl, rfl, Nat.zero_le _, rfl⟩
      case round =>
        obtain ⟨k, rfl, hgk2, hk, hwr⟩ := hrel
        subst hwr
        have Hgk2 := hide hgk2
        have hk0 : (0 : Int) ≤ (k : Int) := Int.natCast_nonneg _
        clear hgk2
        by_cases hlt2 : k < L
        · have hd2 : decide ((k : Int) < (L : Int)) = true := by simp; omega
          have hk1 : (k : Int) < (L : Int) := by omega
          have hk2 : (k : Int) < ((L + 96 : Nat) : Int) := by omega
          have hk3 : (k : Int) < (L : Int) + 96 := by omega
          have x1 := (unhide Ha).cellAt (j := k) (x := 100000 * (i : Int) + (k : Int)) (by unfold mkA; simp [hlt2])
          have x2 := (unhide Hm).cellAt (j := k) (x := 100000 * (i : Int) + (k : Int)) (by rw [List.getElem?_append_left (by rw [mkA_len]; omega)]; unfold mkA; simp [hlt2])
          have hn : ((100000 * (i : Int) + (k : Int)) != (100000 * (i : Int) + (k : Int))) = false := by simp
          go_wp2
          go_roundg (L - (k + 1))
          case measure => have := unhide Hgk2; omega
          case rel => exact ⟨k + 1, by go_num, rfl, by omega, rfl⟩
        · obtain rfl : k = L := by omega
          have hd2 : decide ((k : Int) < (k : Int)) = false := by simp
          obtain ⟨wo, hwo⟩ : ∃ x, x = wr := ⟨_, rfl⟩
          subst hwo
          go_wp2
          go_loopg [18] 96 (fun gk3 v18 wr => ∃ m : Nat, v18 = .int .i64 (m : Int) ∧ gk3 = 96 - m ∧ m ≤ 96 ∧ wr = wo)
          case atStart => exact ⟨0, rfl, rfl, Nat.zero_le _, rfl⟩
          case round =>
            obtain ⟨m, rfl, hgk3, hm, hwr⟩ := hrel
            subst hwr
            have Hgk3 := hide hgk3
            have hm0 : (0 : Int) ≤ (m : Int) := Int.natCast_nonneg _
            clear hgk3
            by_cases hlt3 : m < 96
            · have hd3 : decide ((m : Int) < 96) = true := by simp; omega
              have hm1 : (m : Int) < 96 := by omega
              have y1 : (0 : Int) ≤ (k : Int) + (m : Int) := by omega
              have y2 : (k : Int) + (m : Int) < (k : Int) + 96 := by omega
              have y3 : (k : Int) + (m : Int) < ((k + 96 : Nat) : Int) := by omega
              have x3 := (unhide Hm).cellAt (j := k + m) (x := -1 - 100 * (i : Int) - (m : Int)) (by rw [List.getElem?_append_right (by rw [mkA_len]; omega), mkA_len]; unfold mkMk; simp [hlt3])
              have hn : ((-1 - 100 * (i : Int) - (m : Int)) != (-1 - 100 * (i : Int) - (m : Int))) = false := by simp
              have y4 : ((k : Int) + (m : Int)).toNat = k + m := by omega
              go_wp2
              go_roundg (96 - (m + 1))
              case measure => have := unhide Hgk3; omega
              case rel => exact ⟨m + 1, by go_num, rfl, by omega, rfl⟩
            · obtain rfl : m = 96 := by omega
              go_wp2
              go_roundg (5 - (i + 1))
              case measure => have := unhide Hgk; omega
              case rel => exact ⟨i + 1, by go_num, rfl, by omega, rfl⟩
    · obtain rfl : i = 5 := by omega
      go_wp2
      exact unhide HQ _ rfl ⟨rfl, rfl, rfl, rfl, rfl, trivial⟩
end Go.Proofs.Ytpmdfgoajffmeaa
