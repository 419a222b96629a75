import Derived.Test.YtoojchjfmnbdpabDoorDGa
namespace Go.Proofs.YtoojchjfmnbdpabDoor
open Go.RowKit
attribute [local go_sem ↓] Go.wp_at_zero Go.wp_at_succ

set_option maxRecDepth 100000 in
set_option maxHeartbeats 4000000 in
theorem kept_same {W : World} {g : Nat} {u : Value} {l : List Nat} (h : Room W g l) (h' : HasB W u l) (hl : Byt l) (hn : l.length ≤ 140737488351232) :
    Calls Tryd.prog 14 #[.slice (some ⟨g, 0, none⟩) l.length (l.length + 6), u] W fun e W' => e = .returned (.bool true) ∧ W' = W := by
  have hu := h'
  obtain ⟨a, c, rfl, hm, h3⟩ := h'
  clear hm h3
  have Hu := hide hu
  have H := hide h
  clear hu h
  go_enter Tryd.func14, Tryd.ntmps14
  go_wp2
  go_loopg [6] 6 (fun gk v4 wr => ∃ (k : Nat), v4 = .int .i64 ((l.length + k : Nat) : Int) ∧ gk = 6 - k ∧ k ≤ 6 ∧ wr = W)
  case atStart => exact ⟨0, rfl, rfl, by omega, rfl⟩
  case round =>
    obtain ⟨k, rfl, hgk, hk, hwr⟩ := hrel
    obtain rfl : W = wr := hwr.symm
    clear hwr
    have Hgk := hide hgk
    clear hgk
    by_cases hlt : k < 6
    · have hcell : W.cell? ⟨g, l.length + k, none⟩ = some (.int .u8 ((171 : Nat) : Int)) := (unhide H).cell (by
        rw [List.getElem?_append_right (by omega), show l.length + k - l.length = k by omega]
        exact (show ∀ k < 6, m6[k]? = some 171 by decide) k hlt)
      have hlt' : ((l.length + k : Nat) : Int) < ((l.length + 6 : Nat) : Int) := by omega
      obtain ⟨j, hj⟩ : ∃ j : Nat, j = l.length + k := ⟨_, rfl⟩
      rw [← hj] at hcell hlt' ⊢
      have hj0 : (0 : Int) ≤ (j : Int) := Int.natCast_nonneg _
      have hj1 : j < 140737488351238 := by omega
      have Hj := hide hj
      clear hj
      go_wp2
      go_roundg (6 - (k + 1))
      case measure => have := unhide Hgk; omega
      case rel =>
        have e := unhide Hj
        exact ⟨k + 1, by subst e; go_num, rfl, by omega, rfl⟩
    · obtain rfl : k = 6 := by omega
      go_wp2_with fail
      refine (same_any ((unhide H).has (by omega)) (unhide Hu) hl hl).mono ?_
      rintro e w' ⟨rfl, he⟩
      obtain rfl : W = w' := he.symm
      go_wp2
      go_ret
      exact ⟨by simp, rfl⟩
theorem HasB.drew {W : World} {v : Value} {l : List Nat} (h : HasB W v l) (m : Nat) : HasB (W.drewN m) v l := h
theorem lists_dec {a b : List (List Nat)} (hn : a.length = b.length) {i : Nat} (ha : ∀ j < i, a[j]? = b[j]?) (hi : a.length ≤ i) : a = b := by
  apply List.ext_getElem?
  intro j
  by_cases hj : j < a.length
  · exact ha j (by omega)
  · rw [List.getElem?_eq_none (by omega), List.getElem?_eq_none (by omega)]
set_option maxRecDepth 100000 in
set_option maxHeartbeats 4000000 in
theorem sameAll_any {W : World} {v u : Value} {ls ls' : List (List Nat)} (h : HasBB W v ls) (h' : HasBB W u ls') (hl : ∀ l ∈ ls, Byt l) (hl' : ∀ l ∈ ls', Byt l) :
    Calls Tryd.prog 31 #[v, u] W fun e W' => e = .returned (.bool (decide (ls = ls'))) ∧ ∃ m, W' = W.drewN m := by
  obtain ⟨a, c, rfl, hm, h3⟩ := h
  obtain ⟨a', c', rfl, hm', h3'⟩ := h'
  have hc1 : c ≤ 9223372036854775807 := by have := hm.2.1; unfold maxLen at this; omega
  have hc2 := hm.1
  have hc1' : c' ≤ 9223372036854775807 := by have := hm'.2.1; unfold maxLen at this; omega
  have hc2' := hm'.1
  have H3 := hide h3
  have H3' := hide h3'
  have Hl := hide hl
  have Hl' := hide hl'
  clear h3 h3' hm hm' hl hl'
  by_cases hlen : ls.length = ls'.length
  · have q0 : ((ls.length : Int) != (ls'.length : Int)) = false := by rw [hlen]; simp
    have Hlen := hide hlen
    clear hlen
    go_enter Tryd.func31, Tryd.ntmps31
    go_wp2
    go_loopg [5] ls.length (fun gk v5 wr => ∃ (i m : Nat), v5 = .int .i64 (i : Int) ∧ gk = ls.length - i ∧ i ≤ ls.length ∧ Hid (∀ j < i, ls[j]? = ls'[j]?) ∧ wr = W.drewN m)
    case atStart => exact ⟨0, 0, rfl, rfl, by omega, fun j hj => by omega, rfl⟩
    case round =>
      obtain ⟨i, m, rfl, hgk, hk, Hall, rfl⟩ := hrel
      have Hgk := hide hgk
      clear hgk
      by_cases hlt : i < ls.length
      · obtain ⟨g, off, rfl, hg, hc⟩ := unhide H3 (by omega)
        obtain ⟨g', off', rfl, hg', hc'⟩ := unhide H3' (by have := unhide Hlen; omega)
        obtain ⟨l, hx⟩ : ∃ x, ls[i]? = some x := ⟨_, List.getElem?_eq_getElem hlt⟩
        obtain ⟨l', hx'⟩ : ∃ x, ls'[i]? = some x := ⟨_, List.getElem?_eq_getElem (by have := unhide Hlen; omega)⟩
        obtain ⟨z, hz, hB⟩ := hc i l hx
        obtain ⟨z', hz', hB'⟩ := hc' i l' hx'
        have bl := unhide Hl l (List.mem_of_getElem? hx)
        have bl' := unhide Hl' l' (List.mem_of_getElem? hx')
        have hs : ∀ n, Calls Tryd.prog 16 #[z, z'] ((W.drewN m).drewN n) fun o W' => o = .returned (.bool (decide (l = l'))) ∧ W' = (W.drewN m).drewN n := fun n => same_any ((hB.drew m).drew n) ((hB'.drew m).drew n) bl bl'
        have Hs := hide hs
        have cz : (W.drewN m).cell? ⟨g, off + i, none⟩ = some z := hz
        have cz' : (W.drewN m).cell? ⟨g', off' + i, none⟩ = some z' := hz'
        obtain ⟨za, zc, rfl, _, _⟩ := hB
        obtain ⟨za', zc', rfl, _, _⟩ := hB'
        have i1 : (i : Int) < (ls.length : Int) := by omega
        have i2 : (i : Int) < (ls'.length : Int) := by have := unhide Hlen; omega
        have i0' : (0 : Int) ≤ (i : Int) := Int.natCast_nonneg _
        have Hx := hide (And.intro hx hx')
        clear hc hc' hx hx' hs bl bl' hz hz'
        obtain ⟨w1, hw1⟩ : ∃ w1, W.drewN m = w1 := ⟨_, rfl⟩
        rw [hw1] at cz cz' Hs ⊢
        have Hw := hide hw1
        clear hw1
        by_cases hd : l = l'
        · subst hd
          rw [show decide (l = l) = true by simp] at Hs
          go_wp2_with fail
          go_quiet (first | (go_at_call 16; exact Calls.quiet_of_same (unhide Hs _)))
          go_wp2
          go_roundg (ls.length - (i + 1))
          case measure => have := unhide Hgk; omega
          case rel =>
            refine ⟨i + 1, m + nq, by go_num, rfl, by omega, fun j hj => ?_, by rw [← unhide Hw, World.drewN_drewN]⟩
            by_cases e : j = i
            · subst e
              obtain ⟨e1, e2⟩ := unhide Hx
              rw [e1, e2]
            · exact unhide Hall j (by omega)
        · have hd1 : decide (l = l') = false := by simpa using hd
          rw [hd1] at Hs
          have Hd := hide hd
          clear hd hd1
          go_wp2_with fail
          go_quiet (first | (go_at_call 16; exact Calls.quiet_of_same (unhide Hs _)))
          go_wp2
          go_ret
          have hne : decide (ls = ls') = false := by
            apply decide_eq_false
            rintro rfl
            obtain ⟨e1, e2⟩ := unhide Hx
            rw [e1] at e2
            exact unhide Hd (Option.some.inj e2)
          exact ⟨by rw [hne]; rfl, m + nq, by rw [← unhide Hw, World.drewN_drewN]⟩
      · obtain rfl : i = ls.length := by omega
        have he : decide (ls = ls') = true := by
          apply decide_eq_true
          exact lists_dec (unhide Hlen) (unhide Hall) (Nat.le_refl _)
        go_wp2
        go_ret
        exact ⟨by rw [he]; rfl, m, rfl⟩
  · have q0 : ((ls.length : Int) != (ls'.length : Int)) = true := by simp; omega
    have he : decide (ls = ls') = false := by
      apply decide_eq_false
      rintro rfl
      exact hlen rfl
    go_enter Tryd.func31, Tryd.ntmps31
    go_wp2
    go_ret
    exact ⟨by rw [he]; rfl, 0, rfl⟩
end Go.Proofs.YtoojchjfmnbdpabDoor
