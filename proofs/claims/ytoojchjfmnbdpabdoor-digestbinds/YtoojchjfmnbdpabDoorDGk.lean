import Derived.Test.YtoojchjfmnbdpabDoorDGJ
import Derived.Test.YtoojchjfmnbdpabDoorDGJ
namespace Go.Proofs.YtoojchjfmnbdpabDoor
open Go.RowKit
attribute [local go_sem ↓] Go.wp_at_zero Go.wp_at_succ

theorem hasB_one1 (W : World) (x : Nat) : HasB (W.alloc (.cells #[.int .u8 (x : Int)] 5)) (.slice (some ⟨W.heap.size, 0, none⟩) 1 1) [x] :=
  hasB_lit (l := [x]) (t := 5) (fr := (0, 0)) (heap_new _ _) 1 1 rfl (by decide)
set_option maxRecDepth 100000 in
set_option maxHeartbeats 4000000 in
theorem keptAll_any {W : World} {g : Nat} {ps : List (Nat × List Nat)} {m1 m2 u : Value} (h : RoomA W g ps [m1, m2]) (h1 : HasB W m1 [1]) (h2 : HasB W m2 [2]) (h' : HasBB W u (ps.map Prod.snd)) (hl : ∀ p ∈ ps, Byt p.2 ∧ p.2.length ≤ 140737488351232) (hn : ps.length ≤ 5864062014634) :
    Calls Tryd.prog 29 #[.slice (some ⟨g, 0, none⟩) ps.length (ps.length + 2), u] W fun e W' => e = .returned (.bool true) ∧ Below W.heap.size W W' := by
  obtain ⟨a', c', hu, hm', h3'⟩ := h'
  rw [List.length_map] at hu hm' h3'
  subst hu
  have hc1' : c' ≤ 9223372036854775807 := by have := hm'.2.1; unfold maxLen at this; omega
  have hc2' := hm'.1
  have bA : Below W.heap.size W (W.alloc (.cells #[.int .u8 1] 5)) := (Below.refl _ _).alloc (Nat.le_refl _) _
  have bB : Below W.heap.size W ((W.alloc (.cells #[.int .u8 1] 5)).alloc (.cells #[.int .u8 2] 5)) := bA.alloc (by rw [World.size_alloc]; omega) _
  have s1 := same_any (h1.up bA) (hasB_one1 W 1) (by unfold Byt; decide) (by unfold Byt; decide)
  have s2 := same_any (h2.up bB) (hasB_one1 (W.alloc (.cells #[.int .u8 1] 5)) 2) (by unfold Byt; decide) (by unfold Byt; decide)
  rw [World.size_alloc] at s2
  have c1 := h.cell2 (i := 0) rfl
  have c2 := h.cell2 (i := 1) rfl
  rw [Nat.add_zero] at c1
  have hgw := h.lt
  obtain ⟨a1, k1, rfl, _, _⟩ := h1
  obtain ⟨a2, k2, rfl, _, _⟩ := h2
  obtain ⟨M, hM⟩ : ∃ M, M = ps.length + 1 := ⟨_, rfl⟩
  rw [← hM] at c2
  have eM : (ps.length : Int) + 1 = (M : Int) := by omega
  have m0 : (0 : Int) ≤ (M : Int) := Int.natCast_nonneg _
  have m1 : (M : Int) < ((ps.length + 2 : Nat) : Int) := by omega
  have n0 : (0 : Int) ≤ (ps.length : Int) := Int.natCast_nonneg _
  have n1 : (ps.length : Int) < ((ps.length + 2 : Nat) : Int) := by omega
  have H := hide h
  have H3' := hide h3'
  have Hl := hide hl
  have S1 := hide s1
  have S2 := hide s2
  have BB := hide bB
  clear h h3' hm' hl s1 s2 bA bB hM
  go_enter Tryd.func29, Tryd.ntmps29
  go_wp2_with fail
  refine (unhide S1).mono ?_
  rintro e w' ⟨rfl, he⟩
  obtain rfl : W.alloc (.cells #[.int .u8 1] 5) = w' := he.symm
  clear he
  go_wp2_with fail
  refine (unhide S2).mono ?_
  rintro e w' ⟨rfl, he⟩
  obtain rfl : (W.alloc (.cells #[.int .u8 1] 5)).alloc (.cells #[.int .u8 2] 5) = w' := he.symm
  clear he S1 S2 c1 c2
  generalize (W.alloc (.cells #[.int .u8 1] 5)).alloc (.cells #[.int .u8 2] 5) = w2 at *
  go_wp2
  go_loopg [6] ps.length (fun gk v6 wr => ∃ (i m : Nat), v6 = .int .i64 (i : Int) ∧ gk = ps.length - i ∧ i ≤ ps.length ∧ wr = w2.drewN m)
  case atStart => exact ⟨0, 0, rfl, rfl, by omega, rfl⟩
  case round =>
    obtain ⟨i, m, rfl, hgk, hk, rfl⟩ := hrel
    have Hgk := hide hgk
    clear hgk
    by_cases hlt : i < ps.length
    · obtain ⟨g', off', rfl, hg', hc'⟩ := unhide H3' (by omega)
      obtain ⟨p, hx⟩ : ∃ x, ps[i]? = some x := ⟨_, List.getElem?_eq_getElem hlt⟩
      have hpm := List.mem_of_getElem? hx
      obtain ⟨z', hz', hB'⟩ := hc' i p.2 (by rw [List.getElem?_map, hx]; rfl)
      have hH2 := (unhide H).up (unhide BB)
      have cz : (w2.drewN m).cell? ⟨g, i, none⟩ = some (slP p) := hH2.cell hx
      have cz' : (w2.drewN m).cell? ⟨g', off' + i, none⟩ = some z' := ((unhide BB).cell (p := ⟨g', off' + i, none⟩) hg').trans hz'
      have hs : ∀ n, Calls Tryd.prog 14 #[.slice (some ⟨p.1, 0, none⟩) p.2.length (p.2.length + 6), z'] ((w2.drewN m).drewN n) fun o W' => o = .returned (.bool true) ∧ W' = (w2.drewN m).drewN n := fun n => kept_same (W := (w2.drewN m).drewN n) (hH2.each p hpm) (((hB'.up (unhide BB)).drew m).drew n) (unhide Hl p hpm).1 (by have := (unhide Hl p hpm).2; omega)
      have Hs := hide hs
      have hpl := (unhide Hl p hpm).2
      unfold slP at cz
      obtain ⟨za', zc', rfl, _, _⟩ := hB'
      have i2 : (i : Int) < (ps.length : Int) := by omega
      have i1 : (i : Int) < ((ps.length + 2 : Nat) : Int) := by omega
      have i0' : (0 : Int) ≤ (i : Int) := Int.natCast_nonneg _
      have q1 : ((p.2.length : Int) != (p.2.length : Int)) = false := by simp
      clear hc' hx hs hH2 hz'
      obtain ⟨w1, hw1⟩ : ∃ w1, w2.drewN m = w1 := ⟨_, rfl⟩
      rw [hw1] at cz cz' Hs ⊢
      have Hw := hide hw1
      clear hw1 hpm
      generalize p.2.length = L at *
      generalize p.1 = pg at *
      go_wp2_with fail
      go_quiet (first | (go_at_call 14; exact Calls.quiet_of_same (unhide Hs _)))
      go_wp2
      go_roundg (ps.length - (i + 1))
      case measure => have := unhide Hgk; omega
      case rel => exact ⟨i + 1, m + nq, by go_num, rfl, by omega, by rw [← unhide Hw, World.drewN_drewN]⟩
    · obtain rfl : i = ps.length := by omega
      go_wp2
      go_ret
      exact ⟨rfl, below_drewN (unhide BB) m⟩
end Go.Proofs.YtoojchjfmnbdpabDoor
