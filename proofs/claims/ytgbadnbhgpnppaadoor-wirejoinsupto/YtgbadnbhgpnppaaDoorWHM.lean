import Derived.Test.YtgbadnbhgpnppaaDoorWGK
namespace Go.Proofs.YtgbadnbhgpnppaaDoor
open Go.RowKit

theorem mem_sum_le : ∀ {l : List Nat} {a : Nat}, a ∈ l → a ≤ l.sum
  | [], a, h => by simp at h
  | b :: l, a, h => by
    rw [List.sum_cons]
    rcases List.mem_cons.1 h with rfl | h
    · omega
    · have := mem_sum_le h; omega
theorem sm_of : ∀ (N : Nat) (ts : List Rt), SizeOf.sizeOf ts ≤ N → cntL ts ≤ 1048576 → SmT ts := by
  intro N
  induction N with
  | zero =>
    intro ts hN
    cases ts with
    | nil => simp at hN
    | cons a b => simp at hN
  | succ N ih =>
    intro ts hN hc
    have hs := cnt_split ts
    refine .mk _ (by omega) fun i t ht => ?_
    have hi := (List.getElem?_eq_some_iff.1 ht).1
    have hlt : SizeOf.sizeOf t.inner ≤ N := by
      have h1 : SizeOf.sizeOf t < SizeOf.sizeOf ts := by
        have := List.sizeOf_lt_of_mem (List.mem_of_getElem? ht)
        exact this
      obtain ⟨nb, kd, x, tt, li⟩ := t
      show SizeOf.sizeOf li ≤ N
      simp at h1
      omega
    refine ih _ hlt ?_
    have hI : cntL t.inner ≤ cntI ts := by
      unfold cntI
      exact mem_sum_le (List.mem_map.2 ⟨t, List.mem_of_getElem? ht, rfl⟩)
    omega
end Go.Proofs.YtgbadnbhgpnppaaDoor
namespace Go.Proofs.YtgbadnbhgpnppaaDoor
open Go.RowKit

mutual
/-- No fewer than the bytes. -/
def lgR : Rt → Nat
  | .mk _ _ _ t li => 20 + t.size + lgL li
def lgL : List Rt → Nat
  | [] => 0
  | t :: ts => lgR t + lgL ts
end
theorem lgL_append : ∀ a b : List Rt, lgL (a ++ b) = lgL a + lgL b
  | [], b => by simp [lgL]
  | t :: a, b => by
    show lgR t + lgL (a ++ b) = (lgR t + lgL a) + lgL b
    rw [lgL_append a b]
    omega
theorem tag_five {u : Nat} (h : u < 34359738368) : (vN u).length ≤ 5 := by
  have := (vint_len 4 u (by omega)).2
  rw [vint_vN] at this
  exact this
theorem enc_lg : ∀ (N : Nat) (ts : List Rt), SizeOf.sizeOf ts ≤ N → WfL ts → lgL ts < 18446744073709551616 → (encL ts).length ≤ lgL ts := by
  intro N
  induction N with
  | zero =>
    intro ts hN
    cases ts with
    | nil => simp at hN
    | cons a b => simp at hN
  | succ N ih =>
    intro ts hN hw hl
    cases ts with
    | nil => exact Nat.le_refl _
    | cons r ts =>
      obtain ⟨nb, kd, x, t, li⟩ := r
      have hN1 : SizeOf.sizeOf li ≤ N := by simp at hN; omega
      have hN2 : SizeOf.sizeOf ts ≤ N := by simp at hN; omega
      obtain ⟨hT, hLi⟩ := hw.at' (i := 0) rfl
      rw [lgL, lgR] at hl ⊢
      have h2 := ih ts hN2 hw.tail (by omega)
      have h1 := ih li hN1 hLi (by omega)
      have hnum := hT.rg.num
      have hkk := hT.rg.kind
      have hv : (vN (8 * nb + kd)).length ≤ 5 := tag_five (by omega)
      rw [encL, encR, List.length_append, List.length_append]
      have hb : (bodyN nb kd x t (encL li)).length ≤ 15 + t.size + lgL li := by
        unfold bodyN
        split
        · have := (vN_len (un_lt x)).2; omega
        · split
          · rw [fN_len]; omega
          · split
            · rw [List.length_append, tN_len]
              have := (vN_len (u := t.size) (by omega)).2
              omega
            · split
              · rw [List.length_append]
                have : (vN (8 * nb + 4)).length ≤ 5 := tag_five (by omega)
                omega
              · rw [fN_len]; omega
      omega
end Go.Proofs.YtgbadnbhgpnppaaDoor
