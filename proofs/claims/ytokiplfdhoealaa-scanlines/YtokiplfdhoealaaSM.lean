import Derived.Test.YtokiplfdhoealaaSL
namespace Go.Proofs.Ytokiplfdhoealaa
open Go.RowKit
attribute [local go_sem ↓] Go.wp_at_zero Go.wp_at_succ

theorem line_ex {a b c : Int} (h : LineU ⟨#[97, 10, 98, 99]⟩ 3 a b c) : a = 2 ∧ b = 2 ∧ c = 0 := by
  have k : LineU ⟨#[97, 10, 98, 99]⟩ 3 2 2 0 := LineU.ok (s := ⟨#[97, 10, 98, 99]⟩) (p := 3) (by decide) 3 (by decide) rfl
  exact h.same k
set_option maxRecDepth 100000 in
set_option maxHeartbeats 1000000 in
theorem lines_any {W : World} {s : ByteArray} {v : Value} {l : List Int} (_hs : s.size ≤ 140737488351232) (h : HasI W v l) (hb : ∀ z ∈ l, -9223372036854775808 ≤ z ∧ z ≤ 9223372036854775807) (hl : l.length ≤ 140737488351232) :
    Calls Try.prog 4 #[.string s, v] W fun e W' => e = .returned (.bool true) ∧ Below W.heap.size W W' := by
  obtain ⟨a, c, rfl, hm, h3⟩ := id h
  have H3 := hide h3
  have Hb := hide hb
  clear hm h3 h hb
  have hbel := Below.refl W.heap.size W
  go_enter Try.func4, Try.ntmps4
  go_wp2_with fail
  refine (line_any W _ 3 (by omega) (by omega)).mono ?_
  rintro e w' ⟨p, q, r, rfl, he, hu⟩
  obtain rfl : W = w' := he.symm
  obtain ⟨rfl, rfl, rfl⟩ := line_ex hu
  clear hu
  go_wp2
  go_loopg [8, 9, 10, 11, 12, 13, 14] l.length (fun gk v8 _ _ _ _ _ _ wr => ∃ (k : Nat), v8 = .int .i64 (k : Int) ∧ gk = l.length - k ∧ k ≤ l.length ∧ wr = W)
  case atStart => exact ⟨0, rfl, rfl, by omega, rfl⟩
  case round =>
    obtain ⟨k, rfl, hgk, hk, rfl⟩ := hrel
    have Hgk := hide hgk
    clear hgk
    by_cases hlt : k < l.length
    · obtain ⟨g, off, rfl, hg, hc⟩ := unhide H3 (by omega)
      obtain ⟨z, hz⟩ : ∃ z, l[k]? = some z := ⟨_, List.getElem?_eq_getElem hlt⟩
      have hcell := hc k z hz
      obtain ⟨z1, z2⟩ := unhide Hb z (List.mem_of_getElem? hz)
      clear hc hz
      go_wp2_with fail
      refine (line_any wr s z z1 z2).mono ?_
      rintro e w' ⟨p, q, r, rfl, he, hu⟩
      obtain rfl : wr = w' := he.symm
      have Hu := hide hu
      clear hu
      go_wp2_with fail
      refine (xline_any wr s z z1 z2).mono ?_
      rintro e w' ⟨p', q', r', rfl, he, hu⟩
      obtain rfl : wr = w' := he.symm
      obtain ⟨rfl, rfl, rfl⟩ := (unhide Hu).same hu
      have n1 : (p != p) = false := by simp
      have n2 : (q != q) = false := by simp
      have n3 : (r != r) = false := by simp
      clear hu Hu
      go_wp2
      go_roundg (l.length - (k + 1))
      case measure => have := unhide Hgk; omega
      case rel => exact ⟨k + 1, by go_num, rfl, by omega, rfl⟩
    · obtain rfl : k = l.length := by omega
      go_wp2
      go_ret
      exact ⟨rfl, hbel⟩
end Go.Proofs.Ytokiplfdhoealaa
