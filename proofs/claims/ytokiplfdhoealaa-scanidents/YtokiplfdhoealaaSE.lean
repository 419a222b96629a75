import Derived.Test.YtokiplfdhoealaaSD
import Derived.Test.YtokiplfdhoealaaSO
namespace Go.Proofs.Ytokiplfdhoealaa
open Go.RowKit
attribute [local go_sem ↓] Go.wp_at_zero Go.wp_at_succ

open Classical in
noncomputable def identB (s : ByteArray) : Bool := decide (IdentP s)
theorem identB_of {s : ByteArray} {b : Bool} (h : b = true ↔ IdentP s) : b = identB s := by
  unfold identB
  by_cases hp : IdentP s
  · simp [hp, h.2 hp]
  · simp [hp]; cases b <;> simp_all
theorem ident_same (W : World) (s : ByteArray) : Calls Try.prog 5 #[.string s] W fun e w => e = .returned (.bool (identB s)) ∧ w = W :=
  (ident_any W s).mono fun e w ⟨b, h1, h2, h3⟩ => ⟨by rw [h1, identB_of h3], h2⟩
theorem xident_same (W : World) (s : ByteArray) : Calls Try.prog 6 #[.string s] W fun e w => e = .returned (.bool (identB s)) ∧ w = W :=
  (xident_any W s).mono fun e w ⟨b, h1, h2, h3⟩ => ⟨by rw [h1, identB_of h3], h2⟩
theorem ident_a : identB ⟨#[97, 95, 49]⟩ = true := by
  refine (identB_of (b := true) ⟨fun _ => ⟨by decide, fun x hx => ?_, fun j x hx => ?_⟩, fun _ => rfl⟩).symm
  · have : x = 97 := by simpa [strN] using hx.symm
    subst this; decide
  · have hx' : [97, 95, 49][j]? = some x := hx
    have := List.mem_of_getElem? hx'
    simp at this
    rcases this with rfl | rfl | rfl <;> decide
theorem ident_1 : identB ⟨#[49, 97]⟩ = false := by
  refine (identB_of (b := false) ⟨fun h => by simp at h, fun h => ?_⟩).symm
  have := h.2.1 49 rfl
  exact absurd this (by decide)
set_option maxRecDepth 100000 in
set_option maxHeartbeats 1000000 in
theorem idents_any {W : World} {v : Value} {l : List ByteArray} (h : HasS W v l) (hl : l.length ≤ 140737488351232) :
    Calls Try.prog 3 #[v] W fun e W' => e = .returned (.bool true) ∧ Below W.heap.size W W' := by
  obtain ⟨a, c, rfl, hm, h3⟩ := id h
  have Hh := hide h
  have H3 := hide h3
  clear hm h3 h
  have hb := Below.refl W.heap.size W
  go_enter Try.func3, Try.ntmps3
  go_wp2_with fail
  refine (ident_same W _).mono ?_
  rintro e w' ⟨rfl, he⟩
  obtain rfl : W = w' := he.symm
  rw [ident_a]
  go_wp2_with fail
  refine (ident_same W _).mono ?_
  rintro e w' ⟨rfl, he⟩
  obtain rfl : W = w' := he.symm
  rw [ident_1]
  go_wp2
  go_loopg [3] l.length (fun gk v3 wr => ∃ (k : Nat), v3 = .int .i64 (k : Int) ∧ gk = l.length - k ∧ k ≤ l.length ∧ Below W.heap.size W wr)
  case atStart => exact ⟨0, rfl, rfl, by omega, hb⟩
  case round =>
    obtain ⟨k, rfl, hgk, hk, hB⟩ := hrel
    have Hgk := hide hgk
    clear hgk
    by_cases hlt : k < l.length
    · obtain ⟨g, off, rfl, hg, hc⟩ := unhide H3 (by omega)
      obtain ⟨s, hs⟩ : ∃ s, l[k]? = some s := ⟨_, List.getElem?_eq_getElem hlt⟩
      have hcell : wr.cell? ⟨g, off + k, none⟩ = some (.string s) := (hB.cell (p := ⟨g, off + k, none⟩) hg).trans (hc k s hs)
      have hne : (identB s != identB s) = false := by simp
      clear hc hs
      go_wp2_with fail
      go_quiet (first
        | (go_at_call 5; exact Calls.quiet_of_same (ident_same _ s))
        | (go_at_call 6; exact Calls.quiet_of_same (xident_same _ s)))
      go_wp2
      go_roundg (l.length - (k + 1))
      case measure => have := unhide Hgk; omega
      case rel => exact ⟨k + 1, by go_num, rfl, by omega, ⟨hB.os, hB.tape, hB.output, hB.size, hB.block⟩⟩
    · obtain rfl : k = l.length := by omega
      go_wp2
      go_ret
      exact ⟨rfl, hB⟩
end Go.Proofs.Ytokiplfdhoealaa
