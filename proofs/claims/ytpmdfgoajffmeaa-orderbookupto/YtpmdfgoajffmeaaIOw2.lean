import Derived.Test.YtpmdfgoajffmeaaIOw1

namespace Go.Proofs.Ytpmdfgoajffmeaa
open Go.RowKit Go.Shelf
attribute [local go_sem ↓] Go.wp_at_zero Go.wp_at_succ

def mkA (L i : Nat) : List Int := (List.range L).map fun k : Nat => 100000 * (i : Int) + (k : Int)

set_option maxRecDepth 100000 in
set_option maxHeartbeats 4000000 in
theorem ow2_any {W : World} {bm b3 B g5 c5 L : Nat} {v8 : Value} {ks : List Int} {gs : List Nat} (hO : Ow B W (.slice (some ⟨g5, 0, none⟩) 5 c5) L gs (fun _ => ks)) (h5 : gs.length = 5) (hL : L ≤ 17592186044320) (s : Nat → Value) {Q : Exit → Act → World → Prop}
    (hQ : ∀ W', Ow B W' (.slice (some ⟨g5, 0, none⟩) 5 c5) L gs (mkA L) → Far gs W W' → ∀ tm : Array Value, tm.size = 159 → chk tm [(0, .pointer (some ⟨bm, 0, none⟩)), (3, .pointer (some ⟨b3, 0, none⟩)), (5, .slice (some ⟨g5, 0, none⟩) 5 c5), (8, v8)] → Q .normal { tmps := tm, defers := [] } W') :
    ow2.wp Try.prog Q { tmps := #[.pointer (some ⟨bm, 0, none⟩), s 1, s 2, .pointer (some ⟨b3, 0, none⟩), s 4, .slice (some ⟨g5, 0, none⟩) 5 c5, s 6, s 7, v8, s 9, s 10, s 11, s 12, s 13, s 14, s 15, s 16, s 17, s 18, s 19, s 20, s 21, s 22, s 23, s 24, s 25, s 26, s 27, s 28, s 29, s 30, s 31, s 32, s 33, s 34, s 35, s 36, s 37, s 38, s 39, s 40, s 41, s 42, s 43, s 44, s 45, s 46, s 47, s 48, s 49, s 50, s 51, s 52, s 53, s 54, s 55, s 56, s 57, s 58, s 59, s 60, s 61, s 62, s 63, s 64, s 65, s 66, s 67, s 68, s 69, s 70, s 71, s 72, s 73, s 74, s 75, s 76, s 77, s 78, s 79, s 80, s 81, s 82, s 83, s 84, s 85, s 86, s 87, s 88, s 89, s 90, s 91, s 92, s 93, s 94, s 95, s 96, s 97, s 98, s 99, s 100, s 101, s 102, s 103, s 104, s 105, s 106, s 107, s 108, s 109, s 110, s 111, s 112, s 113, s 114, s 115, s 116, s 117, s 118, s 119, s 120, s 121, s 122, s 123, s 124, s 125, s 126, s 127, s 128, s 129, s 130, s 131, s 132, s 133, s 134, s 135, s 136, s 137, s 138, s 139, s 140, s 141, s 142, s 143, s 144, s 145, s 146, s 147, s 148, s 149, s 150, s 151, s 152, s 153, s 154, s 155, s 156, s 157, s 158], defers := [] } W := by
  have HQ := hide hQ
  have HO := hide hO
  unfold ow2 owBody
  dsimp only [Try.f13]
  clear hQ hO
  go_wp2
  go_loopg [9] 5 (fun gk v9 wr => ∃ i : Nat, v9 = .int .i64 (i : Int) ∧ gk = 5 - i ∧ i ≤ 5 ∧ Ow B wr (.slice (some ⟨g5, 0, none⟩) 5 c5) L gs (fun j => if j < i then mkA L j else ks) ∧ Far gs W wr)
  case atStart => exact ⟨0, rfl, rfl, by omega, by simpa using unhide HO, Far.refl _ _⟩
  case round =>
    obtain ⟨i, rfl, hgk, hi, hOi, hF⟩ := hrel
    have Hgk := hide hgk
    have HOi := hide hOi
    have HF := hide hF
    clear hgk hOi hF
    by_cases hlt : i < 5
    · have hd : decide ((i : Int) < 5) = true := by simp; omega
      obtain ⟨g, hg⟩ : ∃ g, gs[i]? = some g := ⟨_, List.getElem?_eq_getElem (by omega)⟩
      have Hg := hide hg
      have hi0 : (0 : Int) ≤ (i : Int) := Int.natCast_nonneg _
      have hi5 : (i : Int) < 5 := by omega
      have hri := (unhide HOi).each i g hg
      simp only [Nat.lt_irrefl, if_false] at hri
      have Hri := hide hri
      have hkl := hri.len
      obtain ⟨wo, hwo⟩ : ∃ x, x = wr := ⟨_, rfl⟩
      subst hwo
      clear hg hri
      go_wp2
      go_loopg [10] L (fun gk2 v10 wr => ∃ k : Nat, v10 = .int .i64 (k : Int) ∧ gk2 = L - k ∧ k ≤ L ∧ RowI B wr g L L ((List.range k).map (fun k : Nat => 100000 * (i : Int) + (k : Int)) ++ ks.drop k) ∧ wo.grownBy wr (some g))
      case atStart => exact ⟨0, rfl, rfl, Nat.zero_le _, by simpa using unhide Hri, World.grownBy.refl _ _⟩
      case round =>
        obtain ⟨k, rfl, hgk2, hk, hR, hG⟩ := hrel
        have Hgk2 := hide hgk2
        have c5' := kept_far hG ((unhide HOi).cell (unhide Hg)) (fun e => (unhide HOi).ne (List.mem_of_getElem? (unhide Hg)) (by simpa [Value.ownBlock] using e.symm))
        clear hgk2
        by_cases hlt2 : k < L
        · have hd2 : decide ((k : Int) < (L : Int)) = true := by simp; omega
          obtain ⟨z, hz⟩ := hR.cellSome hlt2
          have hf := hR.frozenAt k
          have hk0 : (0 : Int) ≤ (k : Int) := Int.natCast_nonneg _
          have hk1 : (k : Int) < (L : Int) := by omega
          obtain ⟨h1, h2⟩ := hR.set k (100000 * (i : Int) + (k : Int))
          have H1 := hide h1
          have H2 := hide (hG.trans h2)
          clear h1 h2 hR hG
          go_wp2
          go_roundg (L - (k + 1))
          case measure => have := unhide Hgk2; omega
          case rel =>
            refine ⟨k + 1, by go_num, rfl, by omega, ?_, unhide H2⟩
            have := unhide H1
            rw [frame_step (xs := ks) (k := k) (h := fun k : Nat => 100000 * (i : Int) + (k : Int)) (by omega)] at this
            exact this
        · obtain rfl : k = L := by omega
          have hd2 : decide ((k : Int) < (k : Int)) = false := by simp
          have Hx : Hid (RowI B wr g k k (mkA k i)) := by
            have := hR
            rw [List.drop_eq_nil_of_le (by omega), List.append_nil] at this
            exact this
          have HG := hide hG
          clear hR hG
          go_wp2
          go_roundg (5 - (i + 1))
          case measure => have := unhide Hgk; omega
          case rel =>
            refine ⟨i + 1, by go_num, rfl, by omega, (unhide HOi).set (unhide Hg) (unhide HG) ?_ ?_, (unhide HF).step (List.mem_of_getElem? (unhide Hg)) (unhide HG)⟩
            · rw [if_pos (by omega)]; exact unhide Hx
            · intro j hj
              by_cases h : j < i
              · rw [if_pos h, if_pos (by omega)]
              · rw [if_neg h, if_neg (by omega)]
    · obtain rfl : i = 5 := by omega
      have Hx : Hid (Ow B wr (.slice (some ⟨g5, 0, none⟩) 5 c5) L gs (mkA L)) := by
        have h := unhide HOi
        refine ⟨h.row, fun j g hj => ?_, h.nd⟩
        have := h.each j g hj
        rw [if_pos (by have := (List.getElem?_eq_some_iff.1 hj).1; omega)] at this
        exact this
      go_wp2
      exact unhide HQ _ (unhide Hx) (unhide HF) _ rfl ⟨rfl, rfl, rfl, rfl, trivial⟩
end Go.Proofs.Ytpmdfgoajffmeaa
