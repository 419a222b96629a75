import Derived.Test.YtobomdokdajbaaaDoorJ18
import Derived.Test.YtobomdokdajbaaaDoorJ26
import Derived.Test.YtobomdokdajbaaaDoorJ07
import Derived.Deep.RegionHeld3

namespace Go.Proofs.YtobomdokdajbaaaDoor
open Go.RowKit
attribute [local go_sem ↓] Go.wp_at_zero Go.wp_at_succ

theorem HasBN.low {W : World} {v : Value} {l : List Nat} (h : HasBN W v l) : Low W v (sOf l) := by
  intro a' l' cp e hp
  obtain ⟨a, c, rfl, hm, h3⟩ := h
  rw [sOf_size] at hp
  obtain ⟨g, off, rfl, hg, _⟩ := h3 hp
  injection e with e1 e2 e3
  injection e1 with e1
  subst e1
  exact ⟨hg, by unfold maxLen at hm; omega⟩
theorem byB_get {l : List Nat} {i : Nat} {b : Int} (h : (byB l)[i]? = some b) : ∃ x : Nat, l[i]? = some x ∧ b = (x : Int) := by
  unfold byB at h
  rw [List.getElem?_map] at h
  obtain ⟨x, hx, rfl⟩ := Option.map_eq_some_iff.1 h
  exact ⟨x, hx, rfl⟩
theorem byB_length (l : List Nat) : (byB l).length = l.length := by simp [byB]
theorem HdAt.cells {W : World} {g : Nat} {l : List Int} {j : Nat} (h : HdAt W g l j) : ∀ (i : Nat) (b : Int), l[i]? = some b → W.cell? ⟨g, 0 + i, none⟩ = some (.int .u8 b) := by
  intro i b hb
  obtain ⟨cur, h1, _, h3, _⟩ := h
  rw [Nat.zero_add, cell_of_row W g i cur _ _ h1]
  exact h3 i b hb
theorem Bytes.cellsB {base : Nat} {W : World} {g n c : Nat} {l : List Int} (h : Bytes base W (.slice (some ⟨g, 0, none⟩) n c) l) : ∀ (i : Nat) (b : Int), l[i]? = some b → W.cell? ⟨g, 0 + i, none⟩ = some (.int .u8 b) := by
  intro i b hb
  rw [Nat.zero_add]
  exact (bytes_cell h hb).1
set_option maxRecDepth 100000 in
set_option maxHeartbeats 16000000 in
theorem wireReads_short (hadd : AddNil) {W : World} {v0 v1 v2 v3 : Value} {l0 l1 : List Nat} {os : List OpR} {ts : List Int} (hF : HasF W) (h0 : HasBN W v0 l0) (b0 : ∀ x ∈ l0, x < 256) (n0 : l0.length ≤ 1048576) (h1 : HasBN W v1 l1) (b1 : ∀ x ∈ l1, x < 256) (n1 : l1.length ≤ 1048576) (h2 : HasOp W v2 os) (h3 : HasI W v3 ts) :
    Calls Tryd.prog 5 #[v0, v1, v2, v3] W fun e W' => e = .returned (.bool true) ∧ Below W.heap.size W W' := by
  have Hkn := hide (known_any hadd hF)
  have HH0 := hide h0.has
  have HH1 := hide h1.has
  have HBs0 := hide (h0.bs b0)
  have HBs1 := hide (h1.bs b1)
  have Hb0 := hide b0
  have Hb1 := hide b1
  have H2 := hide h2
  have H3 := hide h3
  have L0 := h0.low
  have L1 := h1.low
  obtain ⟨a0, q0, rfl, m0, r0⟩ := h0
  obtain ⟨a1, q1, rfl, m1, r1⟩ := h1
  obtain ⟨a2, q2, rfl, m2, r2⟩ := h2
  obtain ⟨a3, q3, rfl, m3, r3⟩ := h3
  have R2 := hide r2
  have R3 := hide r3
  have M2 := hide m2
  have M3 := hide m3
  have HL0 := hide L0
  have HL1 := hide L1
  have d0 : decide ((1048576 : Int) < (l0.length : Int)) = false := by simp; omega
  have d1 : decide ((1048576 : Int) < (l1.length : Int)) = false := by simp; omega
  obtain ⟨sb, hsb⟩ : ∃ sb, ((l0.length : Int) % 2 == 0) = sb := ⟨_, rfl⟩
  clear hF b0 b1 m0 r0 m1 r1 m2 r2 m3 r3 L0 L1
  go_enter Tryd.func5, Tryd.ntmps5
  go_wp2_with fail
  refine (unhide Hkn).mono ?_
  rintro e W1 ⟨rfl, hb1⟩
  have hz1 := hb1.size
  have Hbe1 := hide hb1
  clear hb1 Hkn
  go_wp2_with fail
  refine (hand_any ((unhide HH0).up (unhide Hbe1)) (by rw [byB_length]; omega)).mono ?_
  rintro e W2 ⟨he, hd2, hb2⟩
  rw [byB_length] at he
  subst he
  have hz2 : W1.heap.size < W2.heap.size := by
    obtain ⟨cur, e1, _⟩ := id hd2
    exact (Array.getElem?_eq_some_iff.1 e1).1
  have Hd2 := hide hd2
  have Hbe2 := hide ((unhide Hbe1).trans (hb2.mono hz1))
  clear hd2 hb2
  go_wp2_with fail
  refine (read_at (W := W2) (l := l0) (g := W1.heap.size) (off := 0) (c := l0.length + 3) (st := true) (unhide Hd2).cells (unhide Hb0) n0).mono ?_
  rintro e W3 ⟨rfl, hp3, hb3, hy3⟩
  have hz3 : W2.heap.size < W3.heap.size := by omega
  clear hy3
  have Hp3 := hide hp3
  have Hd3 := hide ((unhide Hd2).block (hb3.block _ hz2))
  have Hbe3 := hide ((unhide Hbe2).trans (hb3.mono (by omega)))
  clear hp3 hb3 Hd2
  go_wp2_with fail
  refine (read_at (W := W3) (l := l0) (g := W1.heap.size) (off := 0) (c := l0.length + 3) (st := false) (unhide Hd3).cells (unhide Hb0) n0).mono ?_
  rintro e W4 ⟨rfl, hq4, hb4, hy4⟩
  have hz4 : W3.heap.size < W4.heap.size := by omega
  clear hy4
  have Hq4 := hide hq4
  have Hp4 := hide ((hb4.block _ (by omega)).trans (unhide Hp3))
  have Hd4 := hide ((unhide Hd3).block (hb4.block _ (by omega)))
  have Hbe4 := hide ((unhide Hbe3).trans (hb4.mono (by omega)))
  clear hq4 hb4 Hd3 Hp3
  go_wp2_with fail
  refine (twin_any ((unhide HH1).up (unhide Hbe4)) (by rw [byB_length]; omega)).mono ?_
  rintro e W5 ⟨he, hy5, hb5⟩
  rw [byB_length] at he hy5
  subst he
  have hz5 : W4.heap.size ≤ W5.heap.size := hb5.size
  have Hy5 := hide hy5
  have Hq5 := hide ((hb5.block _ (by omega)).trans (unhide Hq4))
  have Hp5 := hide ((hb5.block _ (by omega)).trans (unhide Hp4))
  have Hd5 := hide ((unhide Hd4).block (hb5.block _ (by omega)))
  have Hbe5 := hide ((unhide Hbe4).trans (hb5.mono (by omega)))
  clear hy5 hb5 Hd4 Hp4 Hq4
  go_wp2_with fail
  refine (read_at (W := W5) (l := l1) (g := W4.heap.size) (off := 0) (c := l1.length) (st := sb) (unhide Hy5).cellsB (unhide Hb1) n1).mono ?_
  rintro e W6 ⟨rfl, hr6, hb6, hy6⟩
  have hz6 : W5.heap.size < W6.heap.size := by omega
  clear hy6
  have Hr6 := hide hr6
  have Hq6 := hide ((hb6.block _ (by omega)).trans (unhide Hq5))
  have Hp6 := hide ((hb6.block _ (by omega)).trans (unhide Hp5))
  have Hd6 := hide ((unhide Hd5).block (hb6.block _ (by omega)))
  have Hbe6 := hide ((unhide Hbe5).trans (hb6.mono (by omega)))
  clear hr6 hb6 Hd5 Hp5 Hq5 Hy5
  have hbk := back_any (unhide Hd6) ((unhide HH0).up (unhide Hbe6)) (by rw [byB_length]; omega)
  rw [byB_length] at hbk
  have Hbk := hide hbk
  clear hbk Hd6
  go_wp2_with fail
  refine (unhide Hbk).mono ?_
  rintro e W7 ⟨rfl, cur, hU7⟩
  have hz7 := hU7.size
  have Hr7 := hide ((hU7.far _ (by omega) (by omega)).trans (unhide Hr6))
  have Hq7 := hide ((hU7.far _ (by omega) (by omega)).trans (unhide Hq6))
  have Hp7 := hide ((hU7.far _ (by omega) (by omega)).trans (unhide Hp6))
  have Hbe7 := hide ((unhide Hbe6).trans (hU7.below (n := W.heap.size) (by omega) (by omega)))
  clear hU7 Hbk Hr6 Hq6 Hp6
  obtain ⟨p, hp⟩ : ∃ p, W2.heap.size = p := ⟨_, rfl⟩
  obtain ⟨q, hq⟩ : ∃ q, W3.heap.size = q := ⟨_, rfl⟩
  obtain ⟨r, hr⟩ : ∃ r, W5.heap.size = r := ⟨_, rfl⟩
  rw [hp] at Hp7
  rw [hq] at Hq7
  rw [hr] at Hr7
  have hod1 : W.heap.size ≤ p ∧ p < q ∧ q < r ∧ r < W7.heap.size := by omega
  have Hod1 := hide hod1
  have hw7 := heap_alloc_new W7 (.cells #[.pointer (some ⟨p, 0, none⟩), .pointer (some ⟨q, 0, none⟩), .pointer (some ⟨r, 0, none⟩)] 49)
  have hb8 : Below W7.heap.size W7 (W7.alloc (.cells #[.pointer (some ⟨p, 0, none⟩), .pointer (some ⟨q, 0, none⟩), .pointer (some ⟨r, 0, none⟩)] 49)) := (Below.refl _ _).alloc (Nat.le_refl _) _
  have hz8 : W7.heap.size < (W7.alloc (.cells #[.pointer (some ⟨p, 0, none⟩), .pointer (some ⟨q, 0, none⟩), .pointer (some ⟨r, 0, none⟩)] 49)).heap.size := by rw [World.size_alloc]; omega
  have Hw7 := hide hw7
  have Hb8 := hide hb8
  have Hz8 := hide hz8
  clear hw7 hb8 hz8 hod1
  go_wp2_with fail
  generalize W7.alloc (.cells #[.pointer (some ⟨p, 0, none⟩), .pointer (some ⟨q, 0, none⟩), .pointer (some ⟨r, 0, none⟩)] 49) = W8 at *
  have Hr8 := hide (((unhide Hb8).block _ (by have := unhide Hod1; omega)).trans (unhide Hr7))
  have Hq8 := hide (((unhide Hb8).block _ (by have := unhide Hod1; omega)).trans (unhide Hq7))
  have Hp8 := hide (((unhide Hb8).block _ (by have := unhide Hod1; omega)).trans (unhide Hp7))
  have Hbe8 := hide ((unhide Hbe7).trans ((unhide Hb8).mono (by omega)))
  have hz8 := unhide Hz8
  obtain ⟨R0, hR0⟩ : ∃ R0, W7.heap.size = R0 := ⟨_, rfl⟩
  rw [hR0] at Hw7 Hod1 hz8 ⊢
  clear Hr7 Hq7 Hp7 Hb8 Hz8 hz1 hz2 hz3 hz4 hz5 hz6 hz7 hp hq hr hR0
  refine open_any.mono ?_
  rintro e W9 ⟨rfl, hc9, hb9, hy9⟩
  have hz9 : W8.heap.size < W9.heap.size := by omega
  have Hc9 := hide hc9
  have Hb9 := hide hb9
  clear hc9 hb9 hy9
  go_wp2_with fail
  refine open_any.mono ?_
  rintro e W10 ⟨rfl, hc10, hb10, hy10⟩
  have hz10 : W9.heap.size < W10.heap.size := by omega
  have Hc10 := hide hc10
  have Hb10 := hide hb10
  clear hc10 hb10 hy10
  go_wp2_with fail
  refine open_any.mono ?_
  rintro e W11 ⟨rfl, hc11, hb11, hy11⟩
  have hz11 : W10.heap.size < W11.heap.size := by omega
  have Hc11 := hide hc11
  have Hb11 := hide hb11
  clear hc11 hb11 hy11
  obtain ⟨c0, e0⟩ : ∃ c0, W8.heap.size = c0 := ⟨_, rfl⟩
  obtain ⟨c1, e1⟩ : ∃ c1, W9.heap.size = c1 := ⟨_, rfl⟩
  obtain ⟨c2, e2⟩ : ∃ c2, W10.heap.size = c2 := ⟨_, rfl⟩
  obtain ⟨C0, eC⟩ : ∃ C0, W11.heap.size = C0 := ⟨_, rfl⟩
  have hLS : LS W (.slice a0 l0.length q0) (.slice a1 l1.length q1) (sOf l0) (sOf l1) sb p q r c0 c1 c2 R0 C0 (W11.alloc (.cells #[.pointer (some ⟨c0, 0, none⟩), .pointer (some ⟨c1, 0, none⟩), .pointer (some ⟨c2, 0, none⟩)] 54)) := by
    have od := unhide Hod1
    have b9 := unhide Hb9
    have b10 := unhide Hb10
    have b11 := unhide Hb11
    have b12 : Below W11.heap.size W11 (W11.alloc (.cells #[.pointer (some ⟨c0, 0, none⟩), .pointer (some ⟨c1, 0, none⟩), .pointer (some ⟨c2, 0, none⟩)] 54)) := (Below.refl _ _).alloc (Nat.le_refl _) _
    have b812 : Below W8.heap.size W8 (W11.alloc (.cells #[.pointer (some ⟨c0, 0, none⟩), .pointer (some ⟨c1, 0, none⟩), .pointer (some ⟨c2, 0, none⟩)] 54)) := b9.trans ((b10.mono (by omega)).trans ((b11.mono (by omega)).trans (b12.mono (by omega))))
    have z8 := (unhide Hbe8).size
    have g9 := unhide Hc9
    have g10 := unhide Hc10
    have g11 := unhide Hc11
    rw [e0] at g9
    rw [e1] at g10
    rw [e2] at g11
    refine ⟨(unhide Hbe8).trans (b812.mono z8), (b812.block R0 hz8).trans (unhide Hw7), ?_, ⟨0, Nat.zero_le _, (b812.block p (by omega)).trans (unhide Hp8), ?_⟩, ⟨0, Nat.zero_le _, (b812.block q (by omega)).trans (unhide Hq8), ?_⟩, ⟨0, Nat.zero_le _, (b812.block r (by omega)).trans (unhide Hr8), ?_⟩⟩
    · rw [← eC]
      exact heap_alloc_new _ _
    · unfold CuAt
      rw [sOf_size]
      exact (b12.block _ (by omega)).trans ((b11.block _ (by omega)).trans ((b10.block _ (by omega)).trans g9))
    · unfold CuAt
      rw [sOf_size]
      exact (b12.block _ (by omega)).trans ((b11.block _ (by omega)).trans g10)
    · unfold CuAt
      rw [sOf_size]
      exact (b12.block _ (by omega)).trans g11
  have hod : Odr W.heap.size p q r c0 c1 c2 R0 C0 := by
    have od := unhide Hod1
    exact ⟨by omega, by omega, by omega, by omega, by omega, by omega, by omega, by omega⟩
  have Hod := hide hod
  have HLS := hide hLS
  rw [e0, e1, e2]
  clear hod hLS Hc9 Hc10 Hc11 Hb9 Hb10 Hb11 Hod1 Hr8 Hq8 Hp8 Hbe8 Hw7 hz8 hz9 hz10 hz11 e0 e1 e2
  go_wp2_with fail
  clear eC
  go_loopg [18] os.length (fun gk v18 wr => ∃ i : Nat, v18 = .int .i64 (i : Int) ∧ gk = os.length - i ∧ i ≤ os.length ∧ Hid (LS W (.slice a0 l0.length q0) (.slice a1 l1.length q1) (sOf l0) (sOf l1) sb p q r c0 c1 c2 R0 C0 wr))
  case atStart => exact ⟨0, rfl, rfl, by omega, HLS⟩
  case round =>
    obtain ⟨i, rfl, hgk, hi, HL⟩ := hrel
    have Hgk := hide hgk
    clear hgk HLS
    by_cases hlt : i < os.length
    · obtain ⟨g2, off, rfl, hg2, hc2⟩ := unhide R2 (by omega)
      obtain ⟨o, ho⟩ : ∃ o, os[i]? = some o := ⟨_, List.getElem?_eq_getElem hlt⟩
      have HO : Hid (∀ w : World, Below W.heap.size W w → w.cell? ⟨g2, off + i * 4, none⟩ = some (.int .i64 o.kind) ∧ w.cell? ⟨g2, off + i * 4 + 1, none⟩ = some (.int .i64 o.a) ∧ w.cell? ⟨g2, off + i * 4 + 2, none⟩ = some (.int .i64 o.b) ∧ w.cell? ⟨g2, off + i * 4 + 3, none⟩ = some (.int .i64 o.c)) := by
        intro w hb
        obtain ⟨y0, y1, y2, y3⟩ := hc2 i o ho
        exact ⟨(hb.cell (p := ⟨g2, off + i * 4, none⟩) hg2).trans y0, (hb.cell (p := ⟨g2, off + i * 4 + 1, none⟩) hg2).trans y1, (hb.cell (p := ⟨g2, off + i * 4 + 2, none⟩) hg2).trans y2, (hb.cell (p := ⟨g2, off + i * 4 + 3, none⟩) hg2).trans y3⟩
      have hm2 : os.length ≤ 9223372036854775807 := by have := unhide M2; unfold maxLen at this; omega
      clear hc2 ho
      by_cases ht : ts = []
      · subst ht
        obtain ⟨kk, hkk0⟩ : ∃ kk, i % 3 = kk := ⟨_, rfl⟩
        have hkk : kk < 3 := by omega
        have em : (i : Int) % 3 = (kk : Int) := by omega
        have dk : decide ((kk : Int) < 0) = false := by simp
        clear hkk0
        have hP := (unhide HL).pick (unhide Hod) (unhide HBs0) (unhide HBs1) (unhide HL0) (unhide HL1) (by rw [sOf_size]; exact n0) (by rw [sOf_size]; exact n1) (kk := kk) hkk
        obtain ⟨b, c, v, s, st, k, x1, x2, hr, hc, hbc, hB, hk, hs, hne, hnb, hnext⟩ := hP
        have Hst : Hid (∀ n, Calls Tryd.prog 26 #[.pointer (some ⟨b, 0, none⟩), .pointer (some ⟨c, 0, none⟩), .agg #[.int .i64 o.kind, .int .i64 o.a, .int .i64 o.b, .int .i64 o.c]] (wr.drewN n) fun e w' => e = .returned (.bool true) ∧ LS W (.slice a0 l0.length q0) (.slice a1 l1.length q1) (sOf l0) (sOf l1) sb p q r c0 c1 c2 R0 C0 w') := fun n => (step_any (W := wr.drewN n) hr hc hbc (hB.up (fun _ _ => rfl) (Nat.le_refl _)) hk hs hne hnb).mono fun e w' hq => by
          obtain ⟨he, k', hk', hS⟩ := hq
          exact ⟨he, hnext _ w' ⟨k', hk', hS.os, hS.tape, hS.output, hS.size, hS.rb, hS.rc, hS.box, hS.far⟩⟩
        obtain ⟨s0, s1, s2, s3⟩ := unhide HO wr (unhide HL).below
        have HS2 : ∀ w' : World, LS W (.slice a0 l0.length q0) (.slice a1 l1.length q1) (sOf l0) (sOf l1) sb p q r c0 c1 c2 R0 C0 w' → (w'.cell? ⟨R0, kk, none⟩ = some (.pointer (some ⟨b, 0, none⟩)) ∧ w'.cell? ⟨C0, kk, none⟩ = some (.pointer (some ⟨c, 0, none⟩)) ∧ w'.cell? ⟨g2, off + i * 4, none⟩ = some (.int .i64 o.kind) ∧ w'.cell? ⟨g2, off + i * 4 + 1, none⟩ = some (.int .i64 o.a) ∧ w'.cell? ⟨g2, off + i * 4 + 2, none⟩ = some (.int .i64 o.b) ∧ w'.cell? ⟨g2, off + i * 4 + 3, none⟩ = some (.int .i64 o.c)) := fun w' hL => ⟨((unhide HL).cells hL kk).1.trans x1, ((unhide HL).cells hL kk).2.trans x2, unhide HO w' hL.below⟩
        have k0 : (0 : Int) ≤ (kk : Int) := Int.natCast_nonneg _
        have k1 : (kk : Int) < 3 := by omega
        have i0 : (0 : Int) ≤ (i : Int) := Int.natCast_nonneg _
        have i1 : (i : Int) < (os.length : Int) := by omega
        clear hr hc hbc hB hk hs hne hnb hnext hkk
        go_wp2_with fail
        go_region_held3 (fun w' => w'.cell? ⟨R0, kk, none⟩ = some (.pointer (some ⟨b, 0, none⟩)) ∧ w'.cell? ⟨C0, kk, none⟩ = some (.pointer (some ⟨c, 0, none⟩)) ∧ w'.cell? ⟨g2, off + i * 4, none⟩ = some (.int .i64 o.kind) ∧ w'.cell? ⟨g2, off + i * 4 + 1, none⟩ = some (.int .i64 o.a) ∧ w'.cell? ⟨g2, off + i * 4 + 2, none⟩ = some (.int .i64 o.b) ∧ w'.cell? ⟨g2, off + i * 4 + 3, none⟩ = some (.int .i64 o.c)) (first | exact HS2 _ hL9 | exact HS2 _ (unhide HL) | exact HS2 _ ((unhide HL).drewN 1))
          (first
            | (go_at_call 26; refine (unhide Hst 1).mono ?_; rintro e w9 ⟨rfl, hL9⟩))
        go_wp2
        go_roundg (os.length - (i + 1))
        case measure => have := unhide Hgk; omega
        case rel => exact ⟨i + 1, by go_num, rfl, by omega, hL9⟩
      · have hp : 0 < ts.length := List.length_pos_iff.2 ht
        obtain ⟨g3, off3, rfl, hg3, hc3⟩ := unhide R3 hp
        obtain ⟨j, hj⟩ : ∃ j, i % ts.length = j := ⟨_, rfl⟩
        have hjl : j < ts.length := by rw [← hj]; exact Nat.mod_lt _ hp
        obtain ⟨z, hz⟩ : ∃ z, ts[j]? = some z := ⟨_, List.getElem?_eq_getElem hjl⟩
        have x3 := ((unhide HL).below.cell (p := ⟨g3, off3 + j, none⟩) hg3).trans (hc3 j z hz)
        have ej : (i : Int) % (ts.length : Int) = (j : Int) := by rw [← hj]; rfl
        have d3 : decide ((0 : Int) < (ts.length : Int)) = true := decide_eq_true (by omega)
        have t0 : ¬ (ts.length : Int) = 0 := by omega
        have t1 : ((ts.length : Int) == 0) = false := beq_eq_false_iff_ne.2 t0
        have j0 : (0 : Int) ≤ (j : Int) := Int.natCast_nonneg _
        have j1 : (j : Int) < (ts.length : Int) := by omega
        obtain ⟨y, hy⟩ : ∃ y, z.tmod 3 = y := ⟨_, rfl⟩
        have hy3 : y < 3 := by
          rw [← hy]
          exact Int.tmod_lt_of_pos z (by decide)
        clear hc3 hz hj ht hp
        by_cases hyn : y < 0
        · have dk : decide (y < 0) = true := decide_eq_true hyn
          clear hyn hy3
          have hP := (unhide HL).pick (unhide Hod) (unhide HBs0) (unhide HBs1) (unhide HL0) (unhide HL1) (by rw [sOf_size]; exact n0) (by rw [sOf_size]; exact n1) (kk := 0) (by decide)
          obtain ⟨b, c, v, s, st, k, x1, x2, hr, hc, hbc, hB, hk, hs, hne, hnb, hnext⟩ := hP
          have Hst : Hid (∀ n, Calls Tryd.prog 26 #[.pointer (some ⟨b, 0, none⟩), .pointer (some ⟨c, 0, none⟩), .agg #[.int .i64 o.kind, .int .i64 o.a, .int .i64 o.b, .int .i64 o.c]] (wr.drewN n) fun e w' => e = .returned (.bool true) ∧ LS W (.slice a0 l0.length q0) (.slice a1 l1.length q1) (sOf l0) (sOf l1) sb p q r c0 c1 c2 R0 C0 w') := fun n => (step_any (W := wr.drewN n) hr hc hbc (hB.up (fun _ _ => rfl) (Nat.le_refl _)) hk hs hne hnb).mono fun e w' hq => by
            obtain ⟨he, k', hk', hS⟩ := hq
            exact ⟨he, hnext _ w' ⟨k', hk', hS.os, hS.tape, hS.output, hS.size, hS.rb, hS.rc, hS.box, hS.far⟩⟩
          obtain ⟨s0, s1, s2, s3⟩ := unhide HO wr (unhide HL).below
          have HS2 : ∀ w' : World, LS W (.slice a0 l0.length q0) (.slice a1 l1.length q1) (sOf l0) (sOf l1) sb p q r c0 c1 c2 R0 C0 w' → (w'.cell? ⟨R0, 0, none⟩ = some (.pointer (some ⟨b, 0, none⟩)) ∧ w'.cell? ⟨C0, 0, none⟩ = some (.pointer (some ⟨c, 0, none⟩)) ∧ w'.cell? ⟨g2, off + i * 4, none⟩ = some (.int .i64 o.kind) ∧ w'.cell? ⟨g2, off + i * 4 + 1, none⟩ = some (.int .i64 o.a) ∧ w'.cell? ⟨g2, off + i * 4 + 2, none⟩ = some (.int .i64 o.b) ∧ w'.cell? ⟨g2, off + i * 4 + 3, none⟩ = some (.int .i64 o.c)) := fun w' hL => ⟨((unhide HL).cells hL 0).1.trans x1, ((unhide HL).cells hL 0).2.trans x2, unhide HO w' hL.below⟩
          have i0 : (0 : Int) ≤ (i : Int) := Int.natCast_nonneg _
          have i1 : (i : Int) < (os.length : Int) := by omega
          clear hr hc hbc hB hk hs hne hnb hnext
          go_wp2_with fail
          go_region_held3 (fun w' => w'.cell? ⟨R0, 0, none⟩ = some (.pointer (some ⟨b, 0, none⟩)) ∧ w'.cell? ⟨C0, 0, none⟩ = some (.pointer (some ⟨c, 0, none⟩)) ∧ w'.cell? ⟨g2, off + i * 4, none⟩ = some (.int .i64 o.kind) ∧ w'.cell? ⟨g2, off + i * 4 + 1, none⟩ = some (.int .i64 o.a) ∧ w'.cell? ⟨g2, off + i * 4 + 2, none⟩ = some (.int .i64 o.b) ∧ w'.cell? ⟨g2, off + i * 4 + 3, none⟩ = some (.int .i64 o.c)) (first | exact HS2 _ hL9 | exact HS2 _ (unhide HL) | exact HS2 _ ((unhide HL).drewN 1))
            (first
              | (go_at_call 26; refine (unhide Hst 1).mono ?_; rintro e w9 ⟨rfl, hL9⟩))
          go_wp2
          go_roundg (os.length - (i + 1))
          case measure => have := unhide Hgk; omega
          case rel => exact ⟨i + 1, by go_num, rfl, by omega, hL9⟩
        · obtain ⟨kk, hkk0⟩ : ∃ kk : Nat, y = (kk : Int) := ⟨y.toNat, by omega⟩
          have hkk : kk < 3 := by omega
          rw [hkk0] at hy
          have dk : decide ((kk : Int) < 0) = false := by simp
          clear hyn hy3 hkk0
          have hP := (unhide HL).pick (unhide Hod) (unhide HBs0) (unhide HBs1) (unhide HL0) (unhide HL1) (by rw [sOf_size]; exact n0) (by rw [sOf_size]; exact n1) (kk := kk) hkk
          obtain ⟨b, c, v, s, st, k, x1, x2, hr, hc, hbc, hB, hk, hs, hne, hnb, hnext⟩ := hP
          have Hst : Hid (∀ n, Calls Tryd.prog 26 #[.pointer (some ⟨b, 0, none⟩), .pointer (some ⟨c, 0, none⟩), .agg #[.int .i64 o.kind, .int .i64 o.a, .int .i64 o.b, .int .i64 o.c]] (wr.drewN n) fun e w' => e = .returned (.bool true) ∧ LS W (.slice a0 l0.length q0) (.slice a1 l1.length q1) (sOf l0) (sOf l1) sb p q r c0 c1 c2 R0 C0 w') := fun n => (step_any (W := wr.drewN n) hr hc hbc (hB.up (fun _ _ => rfl) (Nat.le_refl _)) hk hs hne hnb).mono fun e w' hq => by
            obtain ⟨he, k', hk', hS⟩ := hq
            exact ⟨he, hnext _ w' ⟨k', hk', hS.os, hS.tape, hS.output, hS.size, hS.rb, hS.rc, hS.box, hS.far⟩⟩
          obtain ⟨s0, s1, s2, s3⟩ := unhide HO wr (unhide HL).below
          have HS2 : ∀ w' : World, LS W (.slice a0 l0.length q0) (.slice a1 l1.length q1) (sOf l0) (sOf l1) sb p q r c0 c1 c2 R0 C0 w' → (w'.cell? ⟨R0, kk, none⟩ = some (.pointer (some ⟨b, 0, none⟩)) ∧ w'.cell? ⟨C0, kk, none⟩ = some (.pointer (some ⟨c, 0, none⟩)) ∧ w'.cell? ⟨g2, off + i * 4, none⟩ = some (.int .i64 o.kind) ∧ w'.cell? ⟨g2, off + i * 4 + 1, none⟩ = some (.int .i64 o.a) ∧ w'.cell? ⟨g2, off + i * 4 + 2, none⟩ = some (.int .i64 o.b) ∧ w'.cell? ⟨g2, off + i * 4 + 3, none⟩ = some (.int .i64 o.c)) := fun w' hL => ⟨((unhide HL).cells hL kk).1.trans x1, ((unhide HL).cells hL kk).2.trans x2, unhide HO w' hL.below⟩
          have k0 : (0 : Int) ≤ (kk : Int) := Int.natCast_nonneg _
          have k1 : (kk : Int) < 3 := by omega
          have i0 : (0 : Int) ≤ (i : Int) := Int.natCast_nonneg _
          have i1 : (i : Int) < (os.length : Int) := by omega
          clear hr hc hbc hB hk hs hne hnb hnext hkk
          go_wp2_with fail
          go_region_held3 (fun w' => w'.cell? ⟨R0, kk, none⟩ = some (.pointer (some ⟨b, 0, none⟩)) ∧ w'.cell? ⟨C0, kk, none⟩ = some (.pointer (some ⟨c, 0, none⟩)) ∧ w'.cell? ⟨g2, off + i * 4, none⟩ = some (.int .i64 o.kind) ∧ w'.cell? ⟨g2, off + i * 4 + 1, none⟩ = some (.int .i64 o.a) ∧ w'.cell? ⟨g2, off + i * 4 + 2, none⟩ = some (.int .i64 o.b) ∧ w'.cell? ⟨g2, off + i * 4 + 3, none⟩ = some (.int .i64 o.c)) (first | exact HS2 _ hL9 | exact HS2 _ (unhide HL) | exact HS2 _ ((unhide HL).drewN 1))
            (first
              | (go_at_call 26; refine (unhide Hst 1).mono ?_; rintro e w9 ⟨rfl, hL9⟩))
          go_wp2
          go_roundg (os.length - (i + 1))
          case measure => have := unhide Hgk; omega
          case rel => exact ⟨i + 1, by go_num, rfl, by omega, hL9⟩
    · obtain rfl : i = os.length := by omega
      go_wp2
      go_ret
      exact ⟨rfl, (unhide HL).below⟩
end Go.Proofs.YtobomdokdajbaaaDoor
