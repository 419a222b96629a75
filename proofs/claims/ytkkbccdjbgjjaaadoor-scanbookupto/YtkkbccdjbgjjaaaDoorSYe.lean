import Derived.Test.YtkkbccdjbgjjaaaDoorSYJ
import Derived.Test.YtkkbccdjbgjjaaaDoorSRa
import Derived.Test.YtkkbccdjbgjjaaaDoorSC1

namespace Go.Proofs.YtkkbccdjbgjjaaaDoor
open Go.RowKit
attribute [local go_sem ↓] Go.wp_at_zero Go.wp_at_succ

theorem endRow_is (s : ByteArray) : ∀ (n k : Nat), (∀ j, j < n → k + j < s.size ∧ (isLet (byteAt s (k + j)) ∨ isDig (byteAt s (k + j)))) → (k + n < s.size → ¬ (isLet (byteAt s (k + n)) ∨ isDig (byteAt s (k + n)))) → endRow s k = k + n
  | 0, k, _, h2 => by
    rw [endRow, dif_neg (fun q => h2 q.1 q.2)]
    rfl
  | n + 1, k, h1, h2 => by
    have h0 := h1 0 (by omega)
    rw [Nat.add_zero] at h0
    rw [endRow, dif_pos h0, endRow_is s n (k + 1) (fun j hj => ?_) (fun h => ?_)]
    · omega
    · have := h1 (j + 1) (by omega)
      rwa [show k + (j + 1) = k + 1 + j by omega] at this
    · rw [show k + 1 + n = k + (n + 1) by omega] at h ⊢
      exact h2 h
theorem strN_at (s : ByteArray) (k : Nat) (h : k < s.size) : (strN s)[k]? = some (byteAt s k) := by
  unfold strN byteAt
  rw [dif_pos h, List.getElem?_map, Array.getElem?_toList, Array.getElem?_eq_getElem (by show k < s.size; exact h)]
  rfl
/-- What row says of the rest of a text. -/
theorem endRow_row {s : ByteArray} {k n : Nat} (hk : k ≤ s.size) (hn : n ≤ (s.extract k s.size).size) (h1 : ∀ j x, j < n → (strN (s.extract k s.size))[j]? = some x → isLet x ∨ isDig x) (h2 : ∀ x, (strN (s.extract k s.size))[n]? = some x → ¬ (isLet x ∨ isDig x)) : endRow s k = k + n ∧ k + n ≤ s.size := by
  have hsz : (s.extract k s.size).size = s.size - k := by rw [ByteArray.size_extract]; omega
  have he : ∀ j, k + j < s.size → (strN (s.extract k s.size))[j]? = some (byteAt s (k + j)) := fun j hj => by
    rw [strN_extract, List.getElem?_take, if_pos (by omega), List.getElem?_drop]
    exact strN_at s (k + j) hj
  refine ⟨endRow_is s n k (fun j hj => ⟨by omega, h1 j _ hj (he j (by omega))⟩) (fun h => h2 _ (he n h)), by omega⟩
set_option maxRecDepth 100000 in
/-- The step at a letter. -/
theorem step_letter {W : World} {B b : Nat} {s : ByteArray} {k m : Nat} {v : Value} {xs : List Value} (h : ScanAt W b s k v) (hB : b < B) (hBW : B ≤ W.heap.size) (hrow : W.ownsRow B 31 3 v m xs) (hk : k < s.size) (hs : s.size ≤ 65536) (hm : m < 16383) :
    Calls Tryd.prog 20 #[.pointer (some ⟨b, 0, none⟩)] W fun e w => e = .returned (.int .i64 0) ∧ ∃ v', ScanAt w b s (endRow s k) v' ∧ w.ownsRow B 31 3 v' (m + 1) (xs ++ [.int .i64 1, .int .i64 (k : Int), .string (s.extract k (endRow s k))]) ∧ BX B b W w := by
  have hr := rest_any h (by omega)
  have Hh := hide h
  have Hrow := hide hrow
  clear h hrow
  go_enter Tryd.func20, Tryd.ntmps20
  go_wp2_with fail
  refine hr.mono ?_
  rintro e w1 ⟨rfl, n1, rfl⟩
  clear hr
  have hro := row_any (W.drewN n1) (s.extract k s.size) (by rw [ByteArray.size_extract]; omega)
  go_wp2_with fail
  refine hro.mono ?_
  rintro e w2 ⟨n, rfl, hw2, hn, h1, h2⟩
  obtain rfl : W.drewN n1 = w2 := hw2.symm
  clear hw2 hro
  obtain ⟨eE, hle⟩ := endRow_row (by omega) hn h1 h2
  have ht := take_any (W := W.drewN n1) (n := n) (kind := 1) (unhide Hh) hB hBW (unhide Hrow) hle hs hm
  rw [← eE] at ht
  have Ht := hide ht
  clear ht hn h1 h2 hle eE
  go_wp2_with fail
  refine (unhide Ht).mono ?_
  rintro e w3 ⟨rfl, v', g1, g2, g4⟩
  have Hx : Hid (∃ v', ScanAt w3 b s (endRow s k) v' ∧ w3.ownsRow B 31 3 v' (m + 1) (xs ++ [.int .i64 1, .int .i64 (k : Int), .string (s.extract k (endRow s k))]) ∧ BX B b W w3) := ⟨v', g1, g2, (BX.of (below_drewN (Below.refl B _) n1) (Nat.le_refl _)).trans g4⟩
  clear g1 g2 g4
  go_wp2
  go_ret
  exact ⟨rfl, unhide Hx⟩
end Go.Proofs.YtkkbccdjbgjjaaaDoor
