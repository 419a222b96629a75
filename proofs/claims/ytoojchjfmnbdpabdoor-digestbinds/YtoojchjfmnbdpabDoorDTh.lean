import Derived.Test.YtoojchjfmnbdpabDoorDTf
namespace Go.Proofs.YtoojchjfmnbdpabDoor
open Go.RowKit
attribute [local go_sem ↓] Go.wp_at_zero Go.wp_at_succ

/-- How many digests a way has. -/
def stepsF : Nat → Nat → Nat → Nat
  | 0, _, _ => 0
  | f + 1, a, c => if c < 2 then 0 else if a < cutN c then 1 + stepsF f a (cutN c) else 1 + stepsF f (a - cutN c) (c - cutN c)
theorem stepsF_le : ∀ (f a c : Nat), stepsF f a c ≤ f
  | 0, _, _ => Nat.le_refl _
  | f + 1, a, c => by
    unfold stepsF
    split
    · omega
    · split
      · have := stepsF_le f a (cutN c); omega
      · have := stepsF_le f (a - cutN c) (c - cutN c); omega
set_option maxRecDepth 100000 in
theorem xsteps_any : ∀ (f : Nat) {W : World} {a c : Nat}, c ≤ f → f ≤ 65536 → a ≤ 65536 →
    Calls Tryd.prog 23 #[.int .i64 (a : Int), .int .i64 (c : Int)] W fun e W' => e = .returned (.int .i64 ((stepsF f a c : Nat) : Int)) ∧ W' = W := by
  intro f
  induction f with
  | zero =>
    intro W a c hc hf ha
    obtain rfl : c = 0 := by omega
    go_enter Tryd.func23, Tryd.ntmps23
    go_wp2
    go_ret
    exact ⟨rfl, rfl⟩
  | succ f ih =>
    intro W a c hc hf ha
    by_cases h2 : c < 2
    · have e0 : stepsF (f + 1) a c = 0 := by rw [stepsF, if_pos h2]
      rw [e0]
      have q1 : decide ((c : Int) < 2) = true := decide_eq_true (by omega)
      clear ih
      go_enter Tryd.func23, Tryd.ntmps23
      go_wp2
      go_ret
      exact ⟨rfl, rfl⟩
    · have q1 : decide ((c : Int) < 2) = false := decide_eq_false (by omega)
      have hcut := xcut_any c W (by omega) (by omega)
      obtain ⟨k, hk⟩ : ∃ k, cutN c = k := ⟨_, rfl⟩
      have k0 : 0 < k := by rw [← hk]; exact cutN_pos _
      have k1 : k < c := by rw [← hk]; exact cutN_lt (by omega)
      rw [hk] at hcut
      have Hcut := hide hcut
      clear hcut
      by_cases hlt : a < k
      · have e0 : stepsF (f + 1) a c = 1 + stepsF f a k := by rw [stepsF, if_neg h2, hk, if_pos hlt]
        rw [e0]
        have q2 : decide ((a : Int) < (k : Int)) = true := decide_eq_true (by omega)
        have i1 := ih (W := W) (a := a) (c := k) (by omega) (by omega) ha
        have hsl := stepsF_le f a k
        have I1 := hide i1
        clear i1 hk e0 ih
        generalize stepsF f a k = s at *
        go_enter Tryd.func23, Tryd.ntmps23
        go_wp2_with fail
        refine (unhide Hcut).mono ?_
        rintro e w' ⟨rfl, he⟩
        obtain rfl : W = w' := he.symm
        clear he
        go_wp2_with fail
        refine (unhide I1).mono ?_
        rintro e w' ⟨rfl, he⟩
        obtain rfl : W = w' := he.symm
        clear he
        go_wp2
        go_ret
        exact ⟨retI (by omega), rfl⟩
      · obtain ⟨aa, haa⟩ : ∃ aa, a - k = aa := ⟨_, rfl⟩
        obtain ⟨cc, hcc⟩ : ∃ cc, c - k = cc := ⟨_, rfl⟩
        have e0 : stepsF (f + 1) a c = 1 + stepsF f aa cc := by rw [stepsF, if_neg h2, hk, if_neg hlt, haa, hcc]
        rw [e0]
        have q2 : decide ((a : Int) < (k : Int)) = false := decide_eq_false (by omega)
        have eaa : (a : Int) - (k : Int) = (aa : Int) := by omega
        have ecc : (c : Int) - (k : Int) = (cc : Int) := by omega
        have i1 := ih (W := W) (a := aa) (c := cc) (by omega) (by omega) (by omega)
        have hsl := stepsF_le f aa cc
        have I1 := hide i1
        have haa2 : aa ≤ 65536 := by omega
        have hcc2 : cc ≤ 65536 := by omega
        clear i1 hk e0 haa hcc ih
        generalize stepsF f aa cc = s at *
        go_enter Tryd.func23, Tryd.ntmps23
        go_wp2_with fail
        refine (unhide Hcut).mono ?_
        rintro e w' ⟨rfl, he⟩
        obtain rfl : W = w' := he.symm
        clear he
        go_wp2_with fail
        refine (unhide I1).mono ?_
        rintro e w' ⟨rfl, he⟩
        obtain rfl : W = w' := he.symm
        clear he
        go_wp2
        go_ret
        exact ⟨retI (by omega), rfl⟩
set_option maxRecDepth 100000 in
theorem areDigests_any {W : World} {v : Value} {ls : List (List Nat)} (h : HasBB W v ls) :
    Calls Tryd.prog 46 #[v] W fun e W' => e = .returned (.bool (decide (∀ l ∈ ls, l.length = 32))) ∧ W' = W := by
  obtain ⟨va, vc, rfl, hm, h3⟩ := h
  have hvc : vc ≤ 9223372036854775807 := by have := hm.2.1; unfold maxLen at this; omega
  have hvc2 := hm.1
  have H3 := hide h3
  obtain ⟨D, hD⟩ : ∃ D, decide (∀ l ∈ ls, l.length = 32) = D := ⟨_, rfl⟩
  rw [hD]
  have HD := hide hD
  clear h3 hm hD
  go_enter Tryd.func46, Tryd.ntmps46
  go_wp2
  go_loopg [7] ls.length (fun gk v7 wr => ∃ (i : Nat), v7 = .int .i64 (i : Int) ∧ gk = ls.length - i ∧ i ≤ ls.length ∧ Hid (∀ l ∈ ls.take i, l.length = 32) ∧ wr = W)
  case atStart => exact ⟨0, rfl, rfl, by omega, fun l hl => by simp at hl, rfl⟩
  case round =>
    obtain ⟨i, rfl, hgk, hk, Hall, hwr⟩ := hrel
    obtain rfl : W = wr := hwr.symm
    have Hgk := hide hgk
    clear hgk hwr
    by_cases hlt : i < ls.length
    · obtain ⟨g, off, rfl, hg, hc⟩ := unhide H3 (by omega)
      obtain ⟨l, hl⟩ : ∃ x, ls[i]? = some x := ⟨_, List.getElem?_eq_getElem hlt⟩
      obtain ⟨u, hu, hBu⟩ := hc i l hl
      obtain ⟨ua, uc, rfl, hum, _⟩ := hBu
      have i0' : (0 : Int) ≤ (i : Int) := Int.natCast_nonneg _
      have i1' : (i : Int) < (ls.length : Int) := by omega
      have Hl := hide hl
      clear hc hl hum
      by_cases h32 : l.length = 32
      · have q1 : ((l.length : Int) != 32) = false := by rw [h32]; decide
        have H32 := hide h32
        clear h32
        go_wp2
        go_roundg (ls.length - (i + 1))
        case measure => have := unhide Hgk; omega
        case rel =>
          refine ⟨i + 1, by go_num, rfl, by omega, fun x hx => ?_, rfl⟩
          rw [List.take_add_one, unhide Hl] at hx
          rcases List.mem_append.1 hx with hx | hx
          · exact unhide Hall x hx
          · simp at hx; rw [hx]; exact unhide H32
      · have q1 : ((l.length : Int) != 32) = true := by simp; omega
        have eD : D = false := by
          rw [← unhide HD]
          exact decide_eq_false fun q => h32 (q l (List.mem_of_getElem? (unhide Hl)))
        subst eD
        clear h32
        go_wp2
        go_ret
        exact ⟨rfl, rfl⟩
    · obtain rfl : i = ls.length := by omega
      have eD : D = true := by
        rw [← unhide HD]
        have := unhide Hall
        rw [List.take_length] at this
        exact decide_eq_true this
      subst eD
      go_wp2
      go_ret
      exact ⟨rfl, rfl⟩
set_option maxRecDepth 100000 in
theorem wayLen_any {W : World} {a c : Nat} (hc : c ≤ 65536) (ha : a ≤ 65536) :
    Calls Tryd.prog 45 #[.int .i64 (a : Int), .int .i64 (c : Int)] W fun e W' => e = .returned (.int .i64 ((stepsF c a c : Nat) : Int)) ∧ W' = W := by
  obtain ⟨T, hT⟩ : ∃ T, stepsF c a c = T := ⟨_, rfl⟩
  have hTl := stepsF_le c a c
  rw [hT] at hTl ⊢
  have HT0 : Hid (0 + stepsF c a c = T) := by show _ = _; omega
  clear hT
  go_enter Tryd.func45, Tryd.ntmps45
  go_wp2
  go_loopg [0, 1, 5] c (fun gk v0 v1 v5 wr => ∃ (aa cc n : Nat), v0 = .int .i64 (aa : Int) ∧ v1 = .int .i64 (cc : Int) ∧ v5 = .int .i64 (n : Int) ∧ cc ≤ gk ∧ gk ≤ c ∧ aa ≤ 65536 ∧ n ≤ T ∧ Hid (n + stepsF gk aa cc = T) ∧ wr = W)
  case atStart => exact ⟨a, c, 0, rfl, rfl, rfl, Nat.le_refl _, Nat.le_refl _, ha, by omega, HT0, rfl⟩
  case round =>
    clear HT0
    obtain ⟨aa, cc, n, rfl, rfl, rfl, hcc, hgc, haa, hnT, HN, hwr⟩ := hrel
    obtain rfl : W = wr := hwr.symm
    clear hwr
    by_cases h2 : cc < 2
    · have q1 : decide (1 < (cc : Int)) = false := decide_eq_false (by omega)
      have eN : n = T := by
        have := unhide HN
        cases hg : gk with
        | zero => rw [hg, stepsF] at this; omega
        | succ gg => rw [hg, stepsF, if_pos h2] at this; omega
      subst eN
      go_wp2
      go_ret
      exact ⟨rfl, rfl⟩
    · have q1 : decide (1 < (cc : Int)) = true := decide_eq_true (by omega)
      have hcut := cut_any cc W (by omega) (by omega)
      obtain ⟨k, hk⟩ : ∃ k, cutN cc = k := ⟨_, rfl⟩
      have k0 : 0 < k := by rw [← hk]; exact cutN_pos _
      have k1 : k < cc := by rw [← hk]; exact cutN_lt (by omega)
      rw [hk] at hcut
      have Hcut := hide hcut
      obtain ⟨gg, hg⟩ : ∃ gg, gk = gg + 1 := ⟨gk - 1, by omega⟩
      subst hg
      have hN := unhide HN
      rw [stepsF, if_neg h2, hk] at hN
      have hnb : n ≤ 65536 := by omega
      clear hcut HN hk
      by_cases hlt : aa < k
      · have q2 : decide ((aa : Int) < (k : Int)) = true := decide_eq_true (by omega)
        rw [if_pos hlt] at hN
        have HN := hide hN
        clear hN
        go_wp2_with fail
        refine (unhide Hcut).mono ?_
        rintro e w' ⟨rfl, he⟩
        obtain rfl : W = w' := he.symm
        clear he
        go_wp2
        go_roundg gg
        case measure => omega
        case rel => exact ⟨aa, k, n + 1, rfl, rfl, by go_num, by omega, by omega, haa, by have := unhide HN; omega, by have := unhide HN; show _ = _; omega, rfl⟩
      · have q2 : decide ((aa : Int) < (k : Int)) = false := decide_eq_false (by omega)
        rw [if_neg hlt] at hN
        obtain ⟨a2, ha2⟩ : ∃ x, aa - k = x := ⟨_, rfl⟩
        obtain ⟨c2, hc2⟩ : ∃ x, cc - k = x := ⟨_, rfl⟩
        rw [ha2, hc2] at hN
        have ea : (aa : Int) - (k : Int) = (a2 : Int) := by omega
        have ec : (cc : Int) - (k : Int) = (c2 : Int) := by omega
        have hb1 : a2 ≤ 65536 := by omega
        have hb2 : c2 ≤ gg := by omega
        have HN := hide hN
        clear hN ha2 hc2
        go_wp2_with fail
        refine (unhide Hcut).mono ?_
        rintro e w' ⟨rfl, he⟩
        obtain rfl : W = w' := he.symm
        clear he
        go_wp2
        go_roundg gg
        case measure => omega
        case rel => exact ⟨a2, c2, n + 1, by go_num, by go_num, by go_num, hb2, by omega, hb1, by have := unhide HN; omega, by have := unhide HN; show _ = _; omega, rfl⟩
end Go.Proofs.YtoojchjfmnbdpabDoor
