import Derived.Test.YtoclbmdnndaccaaDX2
namespace Go.Proofs.Ytoclbmdnndaccaa
open Go.RowKit
attribute [local go_sem ↓] Go.wp_at_zero Go.wp_at_succ

theorem num_any (W : World) (x : Int) : Calls Try.prog 8 #[.int .i64 x] W fun e W' => e = .returned (.int .i64 x) ∧ W' = W := by
  go_enter Try.func8, Try.ntmps8
  go_wp2
  go_ret
  exact ⟨rfl, rfl⟩
theorem hasB_171 (w : World) : HasB (w.alloc (.cells #[.int .u8 171] 5)) (.slice (some ⟨w.heap.size, 0, none⟩) 1 1) [171] := hasB_lit (l := [171]) (heap_new _ _) 1 1 rfl (by decide)
theorem ab_eq : ((ofN (hexL [171])).toList == [97, 98]) = true := by rw [ByteArray.toList_eq]; rfl
set_option maxRecDepth 100000 in
set_option maxHeartbeats 600000 in
theorem twoWay_any {W : World} {v : Value} {l : List Nat} {s : ByteArray} (h : HasB W v l) (hl : Byt l) (hn : l.length ≤ 140737488351232) (hs : s.size ≤ 140737488351232) :
    Calls Try.prog 3 #[v, .string s] W fun e W' => e = .returned (.bool true) ∧ Below W.heap.size W W' := by
  have hsz : (ofN (hexL l)).size = 2 * l.length := by rw [ofN_size, hexL_len]
  have hst : strN (ofN (hexL l)) = hexL l := strN_ofN (hexL_byt hl)
  obtain ⟨a, c, rfl, hm, h3⟩ := id h
  clear hm h3
  have Hh := hide h
  clear h
  go_enter Try.func3, Try.ntmps3
  go_wp2_with fail
  refine (hex_any (unhide Hh) hl hn).mono ?_
  rintro e w1 ⟨rfl, hb1⟩
  generalize hS : ofN (hexL l) = S at *
  go_wp2_with fail
  refine (unhex_any w1 S (by omega)).mono ?_
  rintro e w2 ⟨v2, c2, l2, rfl, hH2, hcs, hb2⟩
  rw [hst, unh_hex l hl] at hcs
  obtain ⟨rfl, rfl⟩ : l = l2 ∧ c2 = 0 := by
    rcases hcs with ⟨q, rfl⟩ | ⟨q, _⟩
    · exact ⟨Option.some.inj q, rfl⟩
    · cases q
  clear hcs
  have hb02 : Below W.heap.size W w2 := hb1.trans (hb2.mono hb1.size)
  go_wp2_with fail
  refine (num_any w2 0).mono ?_
  rintro e w' ⟨rfl, he⟩
  obtain rfl : w2 = w' := he.symm
  go_wp2_with fail
  refine (same_any hH2 ((unhide Hh).up hb02) hl hl).mono ?_
  rintro e w' ⟨rfl, he⟩
  obtain rfl : w2 = w' := he.symm
  have e1 : (2 * (l.length : Int) != 2 * (l.length : Int)) = false := by simp
  clear hH2 hb1 hb2
  go_wp2_with fail
  refine (unhex_any w2 s (by omega)).mono ?_
  rintro e w3 ⟨v3, c3, l3, rfl, hH3, hcs, hb3⟩
  have hb03 : Below W.heap.size W w3 := hb02.trans (hb3.mono hb02.size)
  rcases hcs with ⟨q, rfl⟩ | ⟨q, rfl, rfl⟩
  · obtain ⟨b3, n3⟩ := unh_byt _ _ q
    rw [strN_len] at n3
    have hes : (ofN (hexL l3)) = s := by rw [hex_unh _ _ q, ofN_strN]
    go_wp2_with fail
    refine (num_any w3 0).mono ?_
    rintro e w' ⟨rfl, he⟩
    obtain rfl : w3 = w' := he.symm
    go_wp2_with fail
    refine (hex_any hH3 b3 (by omega)).mono ?_
    rintro e w4 ⟨rfl, hb4⟩
    rw [hes]
    have e5 : (s.toList == s.toList) = true := by simp
    go_wp2
    go_ret
    exact ⟨rfl, hb03.trans (hb4.mono hb03.size)⟩
  · obtain ⟨a3, c3, rfl, _, _⟩ := id hH3
    go_wp2_with fail
    refine (num_any w3 31).mono ?_
    rintro e w' ⟨rfl, he⟩
    obtain rfl : w3 = w' := he.symm
    go_wp2_with fail
    refine (hex_any (hasB_171 w3) (by intro x hx; simp at hx; omega) (by decide)).mono ?_
    rintro e w4 ⟨rfl, hb4⟩
    have hb5 : Below w3.heap.size w3 w4 := ((Below.refl _ _).alloc (Nat.le_refl _) _).trans (hb4.mono (by rw [World.size_alloc]; omega))
    have e6 := ab_eq
    go_wp2_with fail
    refine (num_any w4 31).mono ?_
    rintro e w' ⟨rfl, he⟩
    obtain rfl : w4 = w' := he.symm
    go_wp2
    go_ret
    exact ⟨rfl, hb03.trans (hb5.mono hb03.size)⟩
end Go.Proofs.Ytoclbmdnndaccaa
