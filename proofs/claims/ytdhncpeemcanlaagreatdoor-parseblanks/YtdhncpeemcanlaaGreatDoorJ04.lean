import Derived.Test.YtdhncpeemcanlaaGreatDoorJ00
import Derived.Test.YtdhncpeemcanlaaGreatDoorJ03
import Derived.Test.YtdhncpeemcanlaaGreatDoorJ03
import Derived.Test.YtdhncpeemcanlaaGreatDoorJ02

namespace Go.Proofs.YtdhncpeemcanlaaGreatDoor
open Go.RowKit
attribute [local go_sem ↓] Go.wp_at_zero Go.wp_at_succ

set_option maxRecDepth 100000 in
set_option maxHeartbeats 1000000 in
theorem classOf_any (W : World) (c : Nat) (hc : c < 256) :
    Calls Tryz.prog 18 #[.int .u8 (c : Int)] W fun e w => e = .returned (.int .i64 (cls c : Int)) ∧ w = W := by
  have hi := sgn_idx hc
  generalize hg : firstIdx ⟨#[123, 125, 91, 93, 40, 41, 60, 62, 59, 44, 61, 46, 45]⟩ (Nat.toUInt8 c) = ix at hi
  have Hg := hide hg
  have Hi := hide hi
  clear hg hi
  by_cases h1 : (9 ≤ c ∧ c ≤ 13) ∨ c = 32
  · have hk : cls c = 1 := by unfold cls; rw [if_pos h1]
    rw [hk]
    rcases h1 with ⟨h1, h2⟩ | rfl
    · go_enter Tryz.func18, Tryz.ntmps18; go_wp2; go_ret; exact ⟨rfl, rfl⟩
    · go_enter Tryz.func18, Tryz.ntmps18; go_wp2; go_ret; exact ⟨rfl, rfl⟩
  · obtain ⟨n32, hb⟩ : ¬ ((c : Int) = 32) ∧ (c < 9 ∨ 13 < c) := by omega
    by_cases h2 : isLet c
    · have hk : cls c = 2 := cls_let.2 h2
      rw [hk]
      unfold isLet at h2
      clear h1
      rcases h2 with ⟨h1, h2⟩ | ⟨h1, h2⟩ | rfl
      · have b1 := geT (c := c) (k := 9) (by omega); have b2 := leF (c := c) (k := 13) (by omega); have b3 := eqF n32; have b4 := geT (c := c) (k := 65) (by omega); have b5 := leT (c := c) (k := 90) (by omega)
        go_enter Tryz.func18, Tryz.ntmps18; go_wp2; go_ret; exact ⟨rfl, rfl⟩
      · have b1 := geT (c := c) (k := 9) (by omega); have b2 := leF (c := c) (k := 13) (by omega); have b3 := eqF n32; have b4 := geT (c := c) (k := 65) (by omega); have b5 := leF (c := c) (k := 90) (by omega); have b6 := geT (c := c) (k := 97) (by omega); have b7 := leT (c := c) (k := 122) (by omega)
        go_enter Tryz.func18, Tryz.ntmps18; go_wp2; go_ret; exact ⟨rfl, rfl⟩
      · go_enter Tryz.func18, Tryz.ntmps18; go_wp2; go_ret; exact ⟨rfl, rfl⟩
    · by_cases h3 : isDig c
      · have hk : cls c = 3 := cls_dig.2 h3
        rw [hk]
        unfold isDig at h3
        obtain ⟨h4, h5⟩ := h3
        clear h1 h2
        have b1 := geT (c := c) (k := 9) (by omega); have b2 := leF (c := c) (k := 13) (by omega); have b3 := eqF n32; have b4 := geF (c := c) (k := 65) (by omega); have b5 := geF (c := c) (k := 97) (by omega); have b6 := eqF (c := c) (k := 95) (by omega); have b7 := geT (c := c) (k := 48) (by omega); have b8 := leT (c := c) (k := 57) (by omega)
        go_enter Tryz.func18, Tryz.ntmps18; go_wp2; go_ret; exact ⟨rfl, rfl⟩
      · by_cases h4 : c = 39 ∨ c = 34
        · have hk : cls c = 4 := by unfold cls; rw [if_neg h1, if_neg h2, if_neg h3, if_pos h4]
          rw [hk]
          rcases h4 with rfl | rfl
          · go_enter Tryz.func18, Tryz.ntmps18; go_wp2; go_ret; exact ⟨rfl, rfl⟩
          · go_enter Tryz.func18, Tryz.ntmps18; go_wp2; go_ret; exact ⟨rfl, rfl⟩
        · obtain ⟨n39, n34⟩ : ¬ ((c : Int) = 39) ∧ ¬ ((c : Int) = 34) := by omega
          have hk : cls c = if isSgn c then 5 else if c = 47 then 6 else 0 := by unfold cls; rw [if_neg h1, if_neg h2, if_neg h3, if_neg h4]
          rw [hk]
          obtain ⟨n95, hl⟩ : ¬ ((c : Int) = 95) ∧ (c < 9 ∨ (13 < c ∧ c < 48) ∨ (57 < c ∧ c < 65) ∨ (90 < c ∧ c < 97) ∨ 122 < c) := by unfold isLet at h2; unfold isDig at h3; omega
          clear h1 h2 h3 h4 hb hk
          have q1 := eqF n32; have q2 := eqF n95; have q3 := eqF n39; have q4 := eqF n34
          by_cases h5 : isSgn c
          · rw [if_pos h5]
            have hix : 0 ≤ ix := (unhide Hi).2 h5
            have q5 : decide (0 ≤ ix) = true := by simp; omega
            rcases hl with hl | ⟨hl, hm⟩ | ⟨hl, hm⟩ | ⟨hl, hm⟩ | hl
            · have r0 := geF (c := c) (k := 9) (by omega); have r1 := geF (c := c) (k := 65) (by omega); have r2 := geF (c := c) (k := 97) (by omega); have r3 := geF (c := c) (k := 48) (by omega)
              go_enter Tryz.func18, Tryz.ntmps18; go_wp2_with fail; refine (idx_any W _ _).mono ?_; rintro e w' ⟨rfl, he⟩; obtain rfl : W = w' := he.symm; have Hg' := unhide Hg; simp only [Int.toNat_natCast]; rw [Hg']; clear Hg'; go_wp2; go_ret; exact ⟨rfl, rfl⟩
            · have r0 := geT (c := c) (k := 9) (by omega); have r1 := leF (c := c) (k := 13) (by omega); have r2 := geF (c := c) (k := 65) (by omega); have r3 := geF (c := c) (k := 97) (by omega); have r4 := geF (c := c) (k := 48) (by omega)
              go_enter Tryz.func18, Tryz.ntmps18; go_wp2_with fail; refine (idx_any W _ _).mono ?_; rintro e w' ⟨rfl, he⟩; obtain rfl : W = w' := he.symm; have Hg' := unhide Hg; simp only [Int.toNat_natCast]; rw [Hg']; clear Hg'; go_wp2; go_ret; exact ⟨rfl, rfl⟩
            · have r0 := geT (c := c) (k := 9) (by omega); have r1 := leF (c := c) (k := 13) (by omega); have r2 := geF (c := c) (k := 65) (by omega); have r3 := geF (c := c) (k := 97) (by omega); have r4 := geT (c := c) (k := 48) (by omega); have r5 := leF (c := c) (k := 57) (by omega)
              go_enter Tryz.func18, Tryz.ntmps18; go_wp2_with fail; refine (idx_any W _ _).mono ?_; rintro e w' ⟨rfl, he⟩; obtain rfl : W = w' := he.symm; have Hg' := unhide Hg; simp only [Int.toNat_natCast]; rw [Hg']; clear Hg'; go_wp2; go_ret; exact ⟨rfl, rfl⟩
            · have r0 := geT (c := c) (k := 9) (by omega); have r1 := leF (c := c) (k := 13) (by omega); have r2 := geT (c := c) (k := 65) (by omega); have r3 := leF (c := c) (k := 90) (by omega); have r4 := geF (c := c) (k := 97) (by omega); have r5 := geT (c := c) (k := 48) (by omega); have r6 := leF (c := c) (k := 57) (by omega)
              go_enter Tryz.func18, Tryz.ntmps18; go_wp2_with fail; refine (idx_any W _ _).mono ?_; rintro e w' ⟨rfl, he⟩; obtain rfl : W = w' := he.symm; have Hg' := unhide Hg; simp only [Int.toNat_natCast]; rw [Hg']; clear Hg'; go_wp2; go_ret; exact ⟨rfl, rfl⟩
            · have r0 := geT (c := c) (k := 9) (by omega); have r1 := leF (c := c) (k := 13) (by omega); have r2 := geT (c := c) (k := 65) (by omega); have r3 := leF (c := c) (k := 90) (by omega); have r4 := geT (c := c) (k := 97) (by omega); have r5 := leF (c := c) (k := 122) (by omega); have r6 := geT (c := c) (k := 48) (by omega); have r7 := leF (c := c) (k := 57) (by omega)
              go_enter Tryz.func18, Tryz.ntmps18; go_wp2_with fail; refine (idx_any W _ _).mono ?_; rintro e w' ⟨rfl, he⟩; obtain rfl : W = w' := he.symm; have Hg' := unhide Hg; simp only [Int.toNat_natCast]; rw [Hg']; clear Hg'; go_wp2; go_ret; exact ⟨rfl, rfl⟩
          · rw [if_neg h5]
            have hix : ix < 0 := by have := mt (unhide Hi).1 h5; omega
            have q5 : decide (0 ≤ ix) = false := by simp; omega
            by_cases h6 : c = 47
            · rw [if_pos h6]
              have n47 : ((c : Int) == 47) = true := by simp; omega
              have r0 := geT (c := c) (k := 9) (by omega); have r1 := leF (c := c) (k := 13) (by omega); have r2 := geF (c := c) (k := 65) (by omega); have r3 := geF (c := c) (k := 97) (by omega); have r4 := geF (c := c) (k := 48) (by omega)
              clear hl h6
              go_enter Tryz.func18, Tryz.ntmps18; go_wp2_with fail; refine (idx_any W _ _).mono ?_; rintro e w' ⟨rfl, he⟩; obtain rfl : W = w' := he.symm; have Hg' := unhide Hg; simp only [Int.toNat_natCast]; rw [Hg']; clear Hg'; go_wp2; go_ret; exact ⟨rfl, rfl⟩
            · rw [if_neg h6]
              have n47 := eqF (c := c) (k := 47) (by omega)
              clear h6
              rcases hl with hl | ⟨hl, hm⟩ | ⟨hl, hm⟩ | ⟨hl, hm⟩ | hl
              · have r0 := geF (c := c) (k := 9) (by omega); have r1 := geF (c := c) (k := 65) (by omega); have r2 := geF (c := c) (k := 97) (by omega); have r3 := geF (c := c) (k := 48) (by omega)
                go_enter Tryz.func18, Tryz.ntmps18; go_wp2_with fail; refine (idx_any W _ _).mono ?_; rintro e w' ⟨rfl, he⟩; obtain rfl : W = w' := he.symm; have Hg' := unhide Hg; simp only [Int.toNat_natCast]; rw [Hg']; clear Hg'; go_wp2; go_ret; exact ⟨rfl, rfl⟩
              · have r0 := geT (c := c) (k := 9) (by omega); have r1 := leF (c := c) (k := 13) (by omega); have r2 := geF (c := c) (k := 65) (by omega); have r3 := geF (c := c) (k := 97) (by omega); have r4 := geF (c := c) (k := 48) (by omega)
                go_enter Tryz.func18, Tryz.ntmps18; go_wp2_with fail; refine (idx_any W _ _).mono ?_; rintro e w' ⟨rfl, he⟩; obtain rfl : W = w' := he.symm; have Hg' := unhide Hg; simp only [Int.toNat_natCast]; rw [Hg']; clear Hg'; go_wp2; go_ret; exact ⟨rfl, rfl⟩
              · have r0 := geT (c := c) (k := 9) (by omega); have r1 := leF (c := c) (k := 13) (by omega); have r2 := geF (c := c) (k := 65) (by omega); have r3 := geF (c := c) (k := 97) (by omega); have r4 := geT (c := c) (k := 48) (by omega); have r5 := leF (c := c) (k := 57) (by omega)
                go_enter Tryz.func18, Tryz.ntmps18; go_wp2_with fail; refine (idx_any W _ _).mono ?_; rintro e w' ⟨rfl, he⟩; obtain rfl : W = w' := he.symm; have Hg' := unhide Hg; simp only [Int.toNat_natCast]; rw [Hg']; clear Hg'; go_wp2; go_ret; exact ⟨rfl, rfl⟩
              · have r0 := geT (c := c) (k := 9) (by omega); have r1 := leF (c := c) (k := 13) (by omega); have r2 := geT (c := c) (k := 65) (by omega); have r3 := leF (c := c) (k := 90) (by omega); have r4 := geF (c := c) (k := 97) (by omega); have r5 := geT (c := c) (k := 48) (by omega); have r6 := leF (c := c) (k := 57) (by omega)
                go_enter Tryz.func18, Tryz.ntmps18; go_wp2_with fail; refine (idx_any W _ _).mono ?_; rintro e w' ⟨rfl, he⟩; obtain rfl : W = w' := he.symm; have Hg' := unhide Hg; simp only [Int.toNat_natCast]; rw [Hg']; clear Hg'; go_wp2; go_ret; exact ⟨rfl, rfl⟩
              · have r0 := geT (c := c) (k := 9) (by omega); have r1 := leF (c := c) (k := 13) (by omega); have r2 := geT (c := c) (k := 65) (by omega); have r3 := leF (c := c) (k := 90) (by omega); have r4 := geT (c := c) (k := 97) (by omega); have r5 := leF (c := c) (k := 122) (by omega); have r6 := geT (c := c) (k := 48) (by omega); have r7 := leF (c := c) (k := 57) (by omega)
                go_enter Tryz.func18, Tryz.ntmps18; go_wp2_with fail; refine (idx_any W _ _).mono ?_; rintro e w' ⟨rfl, he⟩; obtain rfl : W = w' := he.symm; have Hg' := unhide Hg; simp only [Int.toNat_natCast]; rw [Hg']; clear Hg'; go_wp2; go_ret; exact ⟨rfl, rfl⟩

theorem ne23 {k : Nat} (h2 : ¬ k = 2) (h3 : ¬ k = 3) : ((k : Int) != 2) = true ∧ ((k : Int) != 3) = true := by
  constructor <;> simp <;> omega
set_option maxRecDepth 100000 in
set_option maxHeartbeats 1000000 in
/-- How many letters and digits stand in front. -/
theorem row_any (W : World) (s : ByteArray) (hs : s.size ≤ 140737488351232) :
    Calls Tryz.prog 26 #[.string s] W fun e w => ∃ n : Nat, e = .returned (.int .i64 (n : Int)) ∧ w = W ∧ n ≤ s.size ∧ (∀ j x, j < n → (strN s)[j]? = some x → isLet x ∨ isDig x) ∧ (∀ x, (strN s)[n]? = some x → ¬ (isLet x ∨ isDig x)) := by
  go_enter Tryz.func26, Tryz.ntmps26
  go_wp2
  go_loopg [3, 4, 7] s.size (fun gk _ _ v7 wr => ∃ (k : Nat), v7 = .int .i64 (k : Int) ∧ gk = s.size - k ∧ k ≤ s.size ∧ wr = W ∧ ∀ j x, j < k → (strN s)[j]? = some x → isLet x ∨ isDig x)
  case atStart => exact ⟨0, rfl, rfl, by omega, rfl, fun j x hj => by omega⟩
  case round =>
    obtain ⟨k, rfl, hgk, hk, rfl, hall⟩ := hrel
    have Hgk := hide hgk
    have Hall := hide hall
    clear hgk hall
    by_cases hlt : k < s.size
    · obtain ⟨x, hx, hx2, gx⟩ := strN_ex s k hlt
      have Hx := hide hx
      clear hx
      go_wp2_with fail
      refine (classOf_any wr x hx2).mono ?_
      rintro e w' ⟨rfl, he⟩
      obtain rfl : wr = w' := he.symm
      by_cases h2 : isLet x ∨ isDig x
      · have hcl : cls x = 2 ∨ cls x = 3 := h2.imp cls_let.2 cls_dig.2
        have hnext : ∀ j y, j < k + 1 → (strN s)[j]? = some y → isLet y ∨ isDig y := by
          intro j y hj hy
          by_cases hjk : j < k
          · exact unhide Hall j y hjk hy
          · obtain rfl : j = k := by omega
            rw [unhide Hx] at hy
            obtain rfl := Option.some.inj hy
            exact h2
        have Hnext := hide hnext
        clear hnext h2 gx
        rcases hcl with hc | hc
        · rw [hc]
          go_wp2
          go_roundg (s.size - (k + 1))
          case measure => have := unhide Hgk; omega
          case rel => exact ⟨k + 1, by go_num, rfl, by omega, rfl, unhide Hnext⟩
        · rw [hc]
          go_wp2
          go_roundg (s.size - (k + 1))
          case measure => have := unhide Hgk; omega
          case rel => exact ⟨k + 1, by go_num, rfl, by omega, rfl, unhide Hnext⟩
      · obtain ⟨e2, e3⟩ := ne23 (mt cls_let.1 (fun h => h2 (.inl h))) (mt cls_dig.1 (fun h => h2 (.inr h)))
        have H2 := hide h2
        clear h2 gx
        generalize cls x = kx at *
        go_wp2
        go_ret
        refine ⟨k, rfl, rfl, by omega, unhide Hall, fun y hy => ?_⟩
        rw [unhide Hx] at hy
        obtain rfl := Option.some.inj hy
        exact unhide H2
    · obtain rfl : k = s.size := by omega
      go_wp2
      go_ret
      refine ⟨_, rfl, rfl, Nat.le_refl _, unhide Hall, fun y hy => ?_⟩
      have := (List.getElem?_eq_some_iff.1 hy).1
      rw [strN_len] at this
      omega
end Go.Proofs.YtdhncpeemcanlaaGreatDoor

namespace Go.Proofs.YtdhncpeemcanlaaGreatDoor
open Go.RowKit
attribute [local go_sem ↓] Go.wp_at_zero Go.wp_at_succ

theorem endRow_is (s : ByteArray) : ∀ (n k : Nat), (∀ j, j < n → k + j < s.size ∧ (isLet (byteAt s (k + j)) ∨ isDig (byteAt s (k + j)))) → (k + n < s.size → ¬ (isLet (byteAt s (k + n)) ∨ isDig (byteAt s (k + n)))) → endRow s k = k + n
  | 0, k, _, h2 => by
    rw [endRow, dif_neg (fun q => h2 q.1 q.2)]
    rfl
  | n + 1, k, h1, h2 => by
    have h0 := h1 0 (by omega)
    rw [Nat.add_zero] at h0
    rw [endRow, dif_pos h0, endRow_is s n (k + 1) (fun j hj => ?_) (fun h => ?_)]
    · omega
    · have := h1 (j + 1) (by omega)
      rwa [show k + (j + 1) = k + 1 + j by omega] at this
    · rw [show k + 1 + n = k + (n + 1) by omega] at h ⊢
      exact h2 h
theorem strN_at (s : ByteArray) (k : Nat) (h : k < s.size) : (strN s)[k]? = some (byteAt s k) := by
  unfold strN byteAt
  rw [dif_pos h, List.getElem?_map, Array.getElem?_toList, Array.getElem?_eq_getElem (by show k < s.size; exact h)]
  rfl
/-- What row says of the rest of a text. -/
theorem endRow_row {s : ByteArray} {k n : Nat} (hk : k ≤ s.size) (hn : n ≤ (s.extract k s.size).size) (h1 : ∀ j x, j < n → (strN (s.extract k s.size))[j]? = some x → isLet x ∨ isDig x) (h2 : ∀ x, (strN (s.extract k s.size))[n]? = some x → ¬ (isLet x ∨ isDig x)) : endRow s k = k + n ∧ k + n ≤ s.size := by
  have hsz : (s.extract k s.size).size = s.size - k := by rw [ByteArray.size_extract]; omega
  have he : ∀ j, k + j < s.size → (strN (s.extract k s.size))[j]? = some (byteAt s (k + j)) := fun j hj => by
    rw [strN_extract, List.getElem?_take, if_pos (by omega), List.getElem?_drop]
    exact strN_at s (k + j) hj
  refine ⟨endRow_is s n k (fun j hj => ⟨by omega, h1 j _ hj (he j (by omega))⟩) (fun h => h2 _ (he n h)), by omega⟩
set_option maxRecDepth 100000 in
/-- The step at a letter. -/
theorem step_letter {W : World} {B b : Nat} {s : ByteArray} {k m : Nat} {v : Value} {xs : List Value} (h : ScanAt W b s k v) (hB : b < B) (hBW : B ≤ W.heap.size) (hrow : W.ownsRow B 29 3 v m xs) (hk : k < s.size) (hs : s.size ≤ 65536) (hm : m < 16383) :
    Calls Tryz.prog 25 #[.pointer (some ⟨b, 0, none⟩)] W fun e w => e = .returned (.int .i64 0) ∧ ∃ v', ScanAt w b s (endRow s k) v' ∧ w.ownsRow B 29 3 v' (m + 1) (xs ++ [.int .i64 1, .int .i64 (k : Int), .string (s.extract k (endRow s k))]) ∧ BX B b W w := by
  have hr := rest_any h (by omega)
  have Hh := hide h
  have Hrow := hide hrow
  clear h hrow
  go_enter Tryz.func25, Tryz.ntmps25
  go_wp2_with fail
  refine hr.mono ?_
  rintro e w1 ⟨rfl, n1, rfl⟩
  clear hr
  have hro := row_any (W.drewN n1) (s.extract k s.size) (by rw [ByteArray.size_extract]; omega)
  go_wp2_with fail
  refine hro.mono ?_
  rintro e w2 ⟨n, rfl, hw2, hn, h1, h2⟩
  obtain rfl : W.drewN n1 = w2 := hw2.symm
  clear hw2 hro
  obtain ⟨eE, hle⟩ := endRow_row (by omega) hn h1 h2
  have ht := take_any (W := W.drewN n1) (n := n) (kind := 1) (unhide Hh) hB hBW (unhide Hrow) hle hs hm
  rw [← eE] at ht
  have Ht := hide ht
  clear ht hn h1 h2 hle eE
  go_wp2_with fail
  refine (unhide Ht).mono ?_
  rintro e w3 ⟨rfl, v', g1, g2, g4⟩
  have Hx : Hid (∃ v', ScanAt w3 b s (endRow s k) v' ∧ w3.ownsRow B 29 3 v' (m + 1) (xs ++ [.int .i64 1, .int .i64 (k : Int), .string (s.extract k (endRow s k))]) ∧ BX B b W w3) := ⟨v', g1, g2, (BX.of (below_drewN (Below.refl B _) n1) (Nat.le_refl _)).trans g4⟩
  clear g1 g2 g4
  go_wp2
  go_ret
  exact ⟨rfl, unhide Hx⟩
end Go.Proofs.YtdhncpeemcanlaaGreatDoor

namespace Go.Proofs.YtdhncpeemcanlaaGreatDoor
open Go.RowKit

def Top : Nat := 9223372036854775807
/-- The worth of a text that is just a number. -/
def wv (l : List Nat) : Option Nat :=
  if l.take 2 = [48, 120] ∨ l.take 2 = [48, 88] then (if l.length = 2 then none else nval 16 9223372036854775807 (l.drop 2) 0)
  else if l.take 1 = [48] then nval 8 9223372036854775807 l 0 else if l = [] then none else nval 10 9223372036854775807 l 0
theorem nval_le {B M : Nat} : ∀ (l : List Nat) (n u : Nat), n ≤ M → nval B M l n = some u → u ≤ M
  | [], n, u, hn, h => by
    have : n = u := by simpa [nval] using h
    omega
  | c :: r, n, u, hn, h => by
    simp only [nval] at h
    split at h
    · cases h
    · split at h
      · rename_i hc
        exact nval_le r _ u hc.2 h
      · cases h
theorem wv_le {l : List Nat} {u : Nat} (h : wv l = some u) : u ≤ 9223372036854775807 := by
  unfold wv at h
  split at h
  · split at h
    · cases h
    · exact nval_le _ 0 u (by decide) h
  · split at h
    · exact nval_le _ 0 u (by decide) h
    · split at h
      · cases h
      · exact nval_le _ 0 u (by decide) h
end Go.Proofs.YtdhncpeemcanlaaGreatDoor

namespace Go.Proofs.YtdhncpeemcanlaaGreatDoor
open Go.RowKit

/-- The token that begins at k: its kind, the place behind it; or the error. -/
def oneF (s : ByteArray) (k : Nat) : Nat × Nat × Nat :=
  if isLet (byteAt s k) then (1, endRow s k, 0)
  else if isDig (byteAt s k) then (if wv (strN (s.extract k (endRow s k))) = none then (0, 0, 41) else (2, endRow s k, 0))
  else if byteAt s k = 39 ∨ byteAt s k = 34 then (match uqAt s (byteAt s k) (k + 1) with | none => (0, 0, 42) | some (_, e) => (3, e, 0))
  else if isSgn (byteAt s k) then (4, k + 1, 0) else (0, 0, 40)
/-- A token: kind, place, text. -/
structure Tok where
  kind : Nat
  place : Nat
  text : ByteArray
def consT (t : Tok) : List Tok ⊕ (Nat × Nat) → List Tok ⊕ (Nat × Nat)
  | .inl l => .inl (t :: l)
  | .inr e => .inr e
def frontT (p : List Tok) : List Tok ⊕ (Nat × Nat) → List Tok ⊕ (Nat × Nat)
  | .inl l => .inl (p ++ l)
  | .inr e => .inr e
theorem frontT_nil (x : List Tok ⊕ (Nat × Nat)) : frontT [] x = x := by cases x <;> rfl
theorem frontT_cons (p : List Tok) (t : Tok) (x : List Tok ⊕ (Nat × Nat)) : frontT p (consT t x) = frontT (p ++ [t]) x := by
  cases x with
  | inl l => simp [frontT, consT]
  | inr e => rfl
/-- The tokens from k on, n being there; or the place of the first fault, and the error. -/
def tokF (s : ByteArray) : Nat → Nat → Nat → (List Tok ⊕ (Nat × Nat))
  | 0, _, _ => .inr (0, 0)
  | f + 1, k, n => if (passF s s.size k).2 = false then .inr ((passF s s.size k).1, 43)
    else if (passF s s.size k).1 = s.size then .inl [⟨5, (passF s s.size k).1, ⟨#[]⟩⟩]
    else if n = 16383 then .inr ((passF s s.size k).1, 45)
    else if (oneF s (passF s s.size k).1).2.2 = 0 then
      consT ⟨(oneF s (passF s s.size k).1).1, (passF s s.size k).1, s.extract (passF s s.size k).1 (oneF s (passF s s.size k).1).2.1⟩ (tokF s f (oneF s (passF s s.size k).1).2.1 (n + 1))
    else .inr ((passF s s.size k).1, (oneF s (passF s s.size k).1).2.2)
theorem starAt_le (s : ByteArray) (k : Nat) (h : k ≤ s.size) : starAt s k ≤ s.size := by
  rw [starAt]
  split
  · exact starAt_le s (k + 1) (by omega)
  · exact h
termination_by s.size - k
decreasing_by omega
theorem passF_le (s : ByteArray) : ∀ (f k : Nat), k ≤ s.size → k ≤ (passF s f k).1 ∧ (passF s f k).1 ≤ s.size := by
  intro f
  induction f with
  | zero => intro k hk; exact ⟨Nat.le_refl _, hk⟩
  | succ f ih =>
    intro k hk
    rw [passF]
    split
    · split
      · have := ih (k + 1) (by omega); omega
      · split
        · rename_i h h1 h2
          have a := nlAt_ge s k
          have b := nlAt_le s k hk
          have := ih _ b; omega
        · split
          · split
            · rename_i h5
              have a := starAt_ge s (k + 2)
              have := ih _ h5; omega
            · exact ⟨Nat.le_refl _, hk⟩
          · exact ⟨Nat.le_refl _, hk⟩
    · exact ⟨Nat.le_refl _, hk⟩
theorem endRow_gt {s : ByteArray} {k : Nat} (hk : k < s.size) (h : isLet (byteAt s k) ∨ isDig (byteAt s k)) : k < endRow s k := by
  rw [endRow, dif_pos ⟨hk, h⟩]
  have := endRow_ge s (k + 1)
  omega
theorem oneF_le {s : ByteArray} {k : Nat} (hk : k < s.size) (h : (oneF s k).2.2 = 0) : k < (oneF s k).2.1 ∧ (oneF s k).2.1 ≤ s.size := by
  unfold oneF at h ⊢
  by_cases h1 : isLet (byteAt s k)
  · rw [if_pos h1]
    exact ⟨endRow_gt hk (.inl h1), endRow_le s k (by omega)⟩
  · rw [if_neg h1] at h ⊢
    by_cases h2 : isDig (byteAt s k)
    · rw [if_pos h2] at h ⊢
      split at h
      · cases h
      · rename_i h3
        rw [if_neg h3]
        exact ⟨endRow_gt hk (.inr h2), endRow_le s k (by omega)⟩
    · rw [if_neg h2] at h ⊢
      by_cases h3 : byteAt s k = 39 ∨ byteAt s k = 34
      · rw [if_pos h3] at h ⊢
        split at h
        · cases h
        · rename_i l e he
          have := uq_le _ (k + 1) l e (Nat.le_refl _) he
          show k < e ∧ e ≤ s.size
          omega
      · rw [if_neg h3] at h ⊢
        split at h
        · rename_i h4
          rw [if_pos h4]
          show k < k + 1 ∧ k + 1 ≤ s.size
          omega
        · cases h
/-- The fuel does not matter, if it is enough. -/
theorem tokF_fuel (s : ByteArray) : ∀ (f f' k n : Nat), k ≤ s.size → s.size - k < f → s.size - k < f' → tokF s f k n = tokF s f' k n := by
  intro f
  induction f with
  | zero => intro f' k n _ hf; omega
  | succ f ih =>
    intro f' k n hk hf hf'
    cases f' with
    | zero => omega
    | succ f' =>
      rw [tokF, tokF]
      have hp := passF_le s s.size k hk
      split
      · rfl
      · split
        · rfl
        · split
          · rfl
          · split
            · rename_i h1 h2 h3 h4
              have := oneF_le (by omega) h4
              rw [ih f' _ (n + 1) this.2 (by omega) (by omega)]
            · rfl
def tk (s : ByteArray) (k n : Nat) : List Tok ⊕ (Nat × Nat) := tokF s (s.size + 1) k n
theorem tk_pass {s : ByteArray} {k k' : Nat} (n : Nat) (h : passF s s.size k = passF s s.size k') : tk s k n = tk s k' n := by
  unfold tk
  rw [tokF, tokF, h]
theorem pass_end (s : ByteArray) : passF s s.size s.size = (s.size, true) := by
  cases hz : s.size with
  | zero => rfl
  | succ n => rw [passF, if_neg (by omega)]
theorem tk_end (s : ByteArray) (n : Nat) : tk s s.size n = .inl [⟨5, s.size, ⟨#[]⟩⟩] := by
  unfold tk
  rw [tokF, pass_end, if_neg (by simp), if_pos rfl]
theorem tk_noend {s : ByteArray} {k n : Nat} (h : passF s s.size k = (k, false)) : tk s k n = .inr (k, 43) := by
  unfold tk
  rw [tokF, h, if_pos rfl]
theorem tk_full {s : ByteArray} {k : Nat} (hk : k < s.size) (h : passF s s.size k = (k, true)) : tk s k 16383 = .inr (k, 45) := by
  unfold tk
  rw [tokF, h, if_neg (by simp), if_neg (by show ¬ k = s.size; omega), if_pos rfl]
theorem tk_err {s : ByteArray} {k n c : Nat} (hk : k < s.size) (h : passF s s.size k = (k, true)) (hn : n < 16383) (h1 : (oneF s k).2.2 = c) (hc : c ≠ 0) : tk s k n = .inr (k, c) := by
  unfold tk
  rw [tokF, h, if_neg (by simp), if_neg (by show ¬ k = s.size; omega), if_neg (by omega)]
  show (if (oneF s k).2.2 = 0 then _ else Sum.inr (k, (oneF s k).2.2)) = _
  rw [h1, if_neg hc]
theorem tk_tok {s : ByteArray} {k n t e : Nat} (hk : k < s.size) (h : passF s s.size k = (k, true)) (hn : n < 16383) (h1 : oneF s k = (t, e, 0)) : tk s k n = consT ⟨t, k, s.extract k e⟩ (tk s e (n + 1)) := by
  have hle := oneF_le hk (by rw [h1])
  rw [h1] at hle
  unfold tk
  rw [tokF, h, if_neg (by simp), if_neg (by show ¬ k = s.size; omega), if_neg (by omega)]
  show (if (oneF s k).2.2 = 0 then consT ⟨(oneF s k).1, k, s.extract k (oneF s k).2.1⟩ (tokF s s.size (oneF s k).2.1 (n + 1)) else _) = _
  rw [h1, if_pos rfl]
  rw [tokF_fuel s s.size (s.size + 1) e (n + 1) hle.2 (by have := hle.1; simp at this; omega) (by omega)]
theorem pass_step {s : ByteArray} {k : Nat} (hk : k < s.size) : passF s s.size k = passF s (s.size - k - 1 + 1) k := passF_fuel s _ _ k (by omega) (by omega)
theorem pass_blank {s : ByteArray} {k : Nat} (hk : k < s.size) (h : isBlk (byteAt s k)) : passF s s.size k = passF s s.size (k + 1) := by
  rw [pass_step hk, passF, if_pos hk, if_pos h]
  exact passF_fuel s _ _ _ (by omega) (by omega)
theorem pass_line {s : ByteArray} {k : Nat} (h : k + 2 ≤ s.size) (h1 : byteAt s k = 47) (h2 : byteAt s (k + 1) = 47) : passF s s.size k = passF s s.size (nlAt s k) := by
  have hk : k < s.size := by omega
  have hnl := nlAt_lt hk h1
  rw [pass_step hk, passF, if_pos hk, if_neg (by rw [h1]; decide), if_pos ⟨h, h1, h2⟩]
  exact passF_fuel s _ _ _ (by omega) (by omega)
theorem pass_star {s : ByteArray} {k : Nat} (h : k + 2 ≤ s.size) (h1 : byteAt s k = 47) (h2 : byteAt s (k + 1) = 42) (h3 : starAt s (k + 2) + 2 ≤ s.size) : passF s s.size k = passF s s.size (starAt s (k + 2) + 2) := by
  have hk : k < s.size := by omega
  have := starAt_ge s (k + 2)
  rw [pass_step hk, passF, if_pos hk, if_neg (by rw [h1]; decide), if_neg (by omega), if_pos ⟨h, h1, h2⟩, if_pos h3]
  exact passF_fuel s _ _ _ (by omega) (by omega)
theorem pass_noend {s : ByteArray} {k : Nat} (h : k + 2 ≤ s.size) (h1 : byteAt s k = 47) (h2 : byteAt s (k + 1) = 42) (h3 : ¬ starAt s (k + 2) + 2 ≤ s.size) : passF s s.size k = (k, false) := by
  have hk : k < s.size := by omega
  rw [pass_step hk, passF, if_pos hk, if_neg (by rw [h1]; decide), if_neg (by omega), if_pos ⟨h, h1, h2⟩, if_neg h3]
theorem pass_stop {s : ByteArray} {k : Nat} (hk : k < s.size) (h : ¬ isBlk (byteAt s k)) (h1 : ¬ (k + 2 ≤ s.size ∧ byteAt s k = 47 ∧ byteAt s (k + 1) = 47)) (h2 : ¬ (k + 2 ≤ s.size ∧ byteAt s k = 47 ∧ byteAt s (k + 1) = 42)) : passF s s.size k = (k, true) := by
  rw [pass_step hk, passF, if_pos hk, if_neg h, if_neg h1, if_neg h2]
theorem pass_other {s : ByteArray} {k : Nat} (hk : k < s.size) (h : ¬ isBlk (byteAt s k)) (h1 : ¬ byteAt s k = 47) : passF s s.size k = (k, true) := pass_stop hk h (fun q => h1 q.2.1) (fun q => h1 q.2.1)
/-- What Tokens answers. -/
noncomputable def tokR (s : ByteArray) : List Tok ⊕ (Nat × Nat) := if 65536 < s.size then .inr (0, 2) else if 0 ≤ utfAt s 0 then .inr ((utfAt s 0).toNat, 44) else tk s 0 0
end Go.Proofs.YtdhncpeemcanlaaGreatDoor
