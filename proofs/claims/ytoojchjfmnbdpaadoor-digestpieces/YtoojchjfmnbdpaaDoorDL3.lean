import Derived.Test.YtoojchjfmnbdpaaDoorDL2
namespace Go.Proofs.YtoojchjfmnbdpaaDoor
open Go.RowKit
attribute [local go_sem ↓] Go.wp_at_zero Go.wp_at_succ

theorem HasB.front {W : World} {a : Option Addr} {n c : Nat} {l : List Nat} (h : HasB W (.slice a n c) l) (m : Nat) (hm : m ≤ l.length) : HasB W (.slice a m c) (l.take m) := by
  obtain ⟨a2, c2, e, h2⟩ := h.take m hm
  injection e with e1 e2 e3
  subst e1 e3
  exact h2
theorem HasB.rest {W : World} {a : Option Addr} {n c : Nat} {l : List Nat} (h : HasB W (.slice a n c) l) (i : Nat) (hi : i ≤ l.length) (a' : Option Addr) (c' : Nat) (hc : l.length - i ≤ c' ∧ c' ≤ maxLen ∧ (a' = none → c' = 0)) (ha : 0 < l.length - i → ∀ g off, a = some ⟨g, off, none⟩ → a' = some ⟨g, off + i, none⟩) : HasB W (.slice a' (l.length - i) c') (l.drop i) := by
  have := h.mid i (l.length - i) (by omega) a' c' hc ha
  rwa [List.take_of_length_le (by rw [List.length_drop]; omega)] at this
theorem take_step (l : List Nat) {i p : Nat} (h : i ≤ p) : l.take i ++ (l.drop i).take (p - i) = l.take p := by
  rw [← List.take_add, show i + (p - i) = p by omega]
theorem take_byt {l : List Nat} (h : Byt l) (n : Nat) : Byt (l.take n) := fun x hx => h x (List.mem_of_mem_take hx)
theorem drop_byt {l : List Nat} (h : Byt l) (n : Nat) : Byt (l.drop n) := fun x hx => h x (List.mem_of_mem_drop hx)
theorem take_le (l : List Nat) (n : Nat) : (l.take n).length ≤ l.length := by rw [List.length_take]; omega
def l123 : List Nat := [1, 2, 3]
theorem b123 : Byt l123 := by unfold Byt l123; decide
theorem bytes32 {base : Nat} {W : World} {v : Value} {l : List Nat} (h : Bytes base W v (sha l)) : ∃ a c, v = .slice a 32 c := by
  obtain ⟨a, c, rfl, _⟩ := h.has
  exact ⟨a, c, by rw [sha_len]⟩
theorem same_true {W : World} {v u : Value} {l : List Nat} (h : HasB W v l) (h' : HasB W u l) (hl : Byt l) : Calls Tryd.prog 14 #[v, u] W fun o W' => o = .returned (.bool true) ∧ W' = W :=
  (same_any h h' hl hl).mono fun e w ⟨h1, h2⟩ => ⟨by rw [h1, decide_eq_true rfl], h2⟩
theorem hasB_empty (W : World) (a : Option Addr) (c : Nat) (hc : c ≤ maxLen) (ha : a = none → c = 0) : HasB W (.slice a 0 c) [] := ⟨a, c, rfl, ⟨Nat.zero_le _, hc, ha⟩, fun h => by simp at h⟩
/-- A hash that is far from what was written. -/
theorem HashAt.far {A B : World} {h g : Nat} {L : List Nat} (hH : HashAt A h L) (hO : Only A g B) (hne : h ≠ g) : HashAt B h L := hH.same (hO.far h hH.lt hne)
set_option maxRecDepth 100000 in
set_option maxHeartbeats 8000000 in
theorem pieces_any {W : World} (hS : HasS W) (hK : HasK W) {v : Value} {l : List Nat} (h : HasB W v l) (hl : Byt l) (hn : l.length ≤ 140737488351232) {u : Value} {cs : List Int} (hi : HasI W u cs) (_hib : ∀ z ∈ cs, -9223372036854775808 ≤ z ∧ z ≤ 9223372036854775807) (hin : cs.length ≤ 140737488351232) :
    Calls Tryd.prog 4 #[v, u] W fun e W' => e = .returned (.bool true) ∧ Below W.heap.size W W' := by
  obtain ⟨a, c, rfl, hm, h3⟩ := id h
  obtain ⟨ai, ci, rfl, hmi, h3i⟩ := id hi
  have hc1 := hm.1
  have hc2 : c ≤ 9223372036854775807 := by have := hm.2.1; unfold maxLen at this; omega
  have Hh := hide h
  have Hm := hide hm
  have H3 := hide h3
  have H3i := hide h3i
  have Hl := hide hl
  clear h hi h3 h3i hm hmi hl
  go_enter Tryd.func4, Tryd.ntmps4
  go_wp2_with fail
  refine (new_any hS).mono ?_
  rintro e w1 ⟨rfl, hH, hb1⟩
  have hhead := head_any (hK.up hb1) (hS.up hb1)
  have Hhead := hide hhead
  have HH := hide hH
  have Hb1 := hide hb1
  clear hhead hH hb1
  go_wp2_with fail
  refine (unhide Hhead).mono ?_
  rintro e w2 ⟨rfl, hb2⟩
  have HH2 : Hid (HashAt w2 W.heap.size (l.take 0)) := (unhide HH).up hb2
  have Hb2 : Hid (Below W.heap.size W w2) := (unhide Hb1).trans (hb2.mono (unhide Hb1).size)
  clear hb2 Hb1 HH Hhead
  go_wp2
  go_loopg [5, 6, 7, 8, 9, 10, 11] cs.length (fun gk v5 v6 v7 _ _ _ _ wr => ∃ (k at0 hb : Nat), v5 = .pointer (some ⟨hb, 0, none⟩) ∧ v6 = .int .i64 (at0 : Int) ∧ v7 = .int .i64 (k : Int) ∧ gk = cs.length - k ∧ k ≤ cs.length ∧ at0 ≤ l.length ∧ W.heap.size ≤ hb ∧ Hid (HashAt wr hb (l.take at0)) ∧ Hid (Below W.heap.size W wr))
  case atStart => exact ⟨0, 0, W.heap.size, rfl, rfl, rfl, rfl, by omega, by omega, Nat.le_refl _, HH2, Hb2⟩
  case round =>
    obtain ⟨k, at0, hb, rfl, rfl, rfl, hgk, hk, hat, hhb, HHk, HB⟩ := hrel
    have Hgk := hide hgk
    clear hgk HH2 Hb2
    by_cases hlt : k < cs.length ∧ at0 < l.length
    · obtain ⟨hlt, hla⟩ := hlt
      obtain ⟨g, off, rfl, hg, hcb⟩ := unhide H3 (by omega)
      obtain ⟨gi, offi, rfl, hgi, hci⟩ := unhide H3i (by omega)
      obtain ⟨z, hz⟩ : ∃ z, cs[k]? = some z := ⟨_, List.getElem?_eq_getElem hlt⟩
      have Hcl : Hid (∀ w, Below W.heap.size W w → w.cell? ⟨gi, offi + k, none⟩ = some (.int .i64 z)) := fun w hw => (hw.cell (p := ⟨gi, offi + k, none⟩) hgi).trans (hci k z hz)
      have hcell := unhide Hcl wr (unhide HB)
      obtain ⟨r, hr⟩ : ∃ r, r = l.length - at0 := ⟨_, rfl⟩
      have hsub : (l.length : Int) - (at0 : Int) = (r : Int) := by omega
      have hr0 : 0 < r := by omega
      obtain ⟨n, hnz, hn130⟩ := cut_abs z
      obtain ⟨t, ht⟩ : ∃ t, t = z.tmod 130 := ⟨_, rfl⟩
      rw [← ht] at hnz
      have Hr := hide hr
      have k0 : (0 : Int) ≤ (k : Int) := Int.natCast_nonneg _
      have k1 : (k : Int) < (cs.length : Int) := by omega
      have a0 : (0 : Int) ≤ (at0 : Int) := Int.natCast_nonneg _
      have a1 : (at0 : Int) < (l.length : Int) := by omega
      have htr : z.tmod 130 = t := ht.symm
      obtain ⟨q3, hq3⟩ : ∃ q3, z.tmod 3 = q3 := ⟨_, rfl⟩
      have Hmid : Hid (∀ p, at0 ≤ p → p ≤ l.length → HasB W (.slice (some ⟨g, off + at0, none⟩) (p - at0) (c - at0)) ((l.drop at0).take (p - at0))) := fun p p1 p2 => (unhide Hh).mid at0 (p - at0) (by omega) _ _ ⟨by omega, by unfold maxLen; omega, nofun⟩ (fun _ g' off' e => by cases e; rfl)
      clear hci hr ht hz hcb
      rcases hnz with rfl | ⟨hneg, hneq⟩
      · have d0 : decide ((n : Int) < 0) = false := by simp
        by_cases hrn : r < n
        · have d1 : decide (r < n) = true := by simp; omega
          obtain ⟨p, hp⟩ : ∃ p, p = at0 + r := ⟨_, rfl⟩
          have hpp : (at0 : Int) + (r : Int) = (p : Int) := by omega
          have p0 : (at0 : Int) ≤ (p : Int) := by omega
          have p2 : p ≤ l.length := by have := unhide Hr; omega
          have p1 : (p : Int) ≤ (c : Int) := by omega
          have p3 : at0 ≤ p := by omega
          have p4 : (0 : Int) ≤ (p : Int) := Int.natCast_nonneg _
          have hpc := unhide Hmid p p3 p2
          have hadd := add_any (hK.up (unhide HB)) (unhide HHk) (by have := hK.1; omega) (hpc.up (unhide HB)) (hpc.apart hhb) (take_byt (drop_byt (unhide Hl) _) _) (by have := take_le l at0; have := take_le (l.drop at0) (p - at0); rw [List.length_drop] at this; omega)
          rw [take_step l p3] at hadd
          have Hadd := hide hadd
          clear hp hpc hadd
          go_wp2_with fail
          refine (unhide Hadd).mono ?_
          rintro e w3 ⟨rfl, hH3, hO3⟩
          have HB3 : Hid (Below W.heap.size W w3) := (unhide HB).trans (hO3.below (unhide HB).size hhb)
          have hsum := hsum_any (hK.up (unhide HB3)) hH3 (by have := take_le l p; omega)
          have Hsum := hide hsum
          have HH3 := hide hH3
          clear hH3 hO3 Hadd hcell hsum HB HHk
          go_wp2_with fail
          refine (unhide Hsum).mono ?_
          rintro e w4 ⟨v4, rfl, hB4, hb4⟩
          obtain ⟨va4, vc4, rfl⟩ := bytes32 hB4
          have HB4 : Hid (Below W.heap.size W w4) := (unhide HB3).trans (hb4.mono (unhide HB3).size)
          have HH4 : Hid (HashAt w4 hb (l.take p)) := (unhide HH3).up hb4
          have HY4 := hide hB4.has
          have hsum2 := sum_any (hK.up (unhide HB4)) (hS.up (unhide HB4)) (((unhide Hh).front p p2).up (unhide HB4)) (take_byt (unhide Hl) p) (by have := take_le l p; omega)
          have Hsum2 := hide hsum2
          clear hB4 hb4 Hsum HH3 HB3 hsum2
          go_wp2_with fail
          refine (unhide Hsum2).mono ?_
          rintro e w5 ⟨v5, rfl, hB5, hb5⟩
          obtain ⟨va5, vc5, rfl⟩ := bytes32 hB5
          have HB5 : Hid (Below W.heap.size W w5) := (unhide HB4).trans (hb5.mono (unhide HB4).size)
          have HH5 : Hid (HashAt w5 hb (l.take p)) := (unhide HH4).up hb5
          have hsame := same_true ((unhide HY4).up hb5) hB5.has (sha_byt _)
          have Hsame := hide hsame
          clear hB5 hb5 Hsum2 HH4 HB4 HY4 hsame
          go_wp2_with fail
          refine (unhide Hsame).mono ?_
          rintro e w' ⟨rfl, he⟩
          obtain rfl : w5 = w' := he.symm
          have hfork := fork_any (unhide HH5)
          have Hfork := hide hfork
          clear Hsame hfork
          go_wp2_with fail
          refine (unhide Hfork).mono ?_
          rintro e w6 ⟨rfl, hH6, hb6⟩
          have hlt6 := hH6.lt
          have hlt5 := (unhide HH5).lt
          have hB6a : Below w6.heap.size w6 (w6.alloc (.cells #[.int .u8 1, .int .u8 2, .int .u8 3] 5)) := (Below.refl _ _).alloc (Nat.le_refl _) _
          have HB6 : Hid (Below W.heap.size W w6) := (unhide HB5).trans (hb6.mono (unhide HB5).size)
          have HB6a : Hid (Below W.heap.size W (w6.alloc (.cells #[.int .u8 1, .int .u8 2, .int .u8 3] 5))) := (unhide HB6).trans (hB6a.mono (unhide HB6).size)
          have HH6 : Hid (HashAt (w6.alloc (.cells #[.int .u8 1, .int .u8 2, .int .u8 3] 5)) hb (l.take p)) := ((unhide HH5).up hb6).up hB6a
          have hadd2 := add_any (hK.up (unhide HB6a)) (hH6.up hB6a) (by have := hK.1; have := (unhide HB5).size; omega) (hasB_lit (l := l123) (heap_new w6 (.cells #[.int .u8 1, .int .u8 2, .int .u8 3] 5)) 3 3 rfl (by decide)) (fun g' off' n' c' e _ => by injection e with e1; injection e1 with e1; injection e1 with e1; omega) b123 (by have := take_le l p; rw [show l123.length = 3 from rfl]; omega)
          have Hadd2 := hide hadd2
          have hs56 : W.heap.size ≤ w5.heap.size := (unhide HB5).size
          clear hH6 hb6 hB6a hadd2 Hfork HB6 HH5 HB5 hlt6
          go_wp2_with fail
          refine (unhide Hadd2).mono ?_
          rintro e w7 ⟨rfl, _, hO7⟩
          have HH7 : Hid (HashAt w7 hb (l.take p)) := (unhide HH6).far hO7 (by omega)
          have HB7 : Hid (Below W.heap.size W w7) := (unhide HB6a).trans (hO7.below (unhide HB6a).size hs56)
          have hcell7 := unhide Hcl w7 (unhide HB7)
          clear hO7 Hadd2 HB6a HH6 hlt5 hs56
          by_cases hz3 : q3 = 0
          · have e3 : (q3 == 0) = true := by simp [hz3]
            have hfork := fork_any (unhide HH7)
            have Hfork := hide hfork
            clear hz3 hfork
            go_wp2_with fail
            refine (unhide Hfork).mono ?_
            rintro e w8 ⟨rfl, hH8, hb8⟩
            have HH8 := hide hH8
            have HB8 : Hid (Below W.heap.size W w8) := (unhide HB7).trans (hb8.mono (unhide HB7).size)
            have hs7 : W.heap.size ≤ w7.heap.size := (unhide HB7).size
            clear hH8 hb8 Hfork hcell7
            go_wp2
            go_roundg (cs.length - (k + 1))
            case measure => have := unhide Hgk; omega
            case rel => exact ⟨k + 1, p, w7.heap.size, rfl, rfl, by go_num, rfl, by omega, p2, hs7, HH8, HB8⟩
          · have e3 : (q3 == 0) = false := by simp [hz3]
            clear hz3
            go_wp2
            go_roundg (cs.length - (k + 1))
            case measure => have := unhide Hgk; omega
            case rel => exact ⟨k + 1, p, hb, rfl, rfl, by go_num, rfl, by omega, p2, hhb, HH7, HB7⟩
        · have d1 : decide (r < n) = false := by simp; omega
          obtain ⟨p, hp⟩ : ∃ p, p = at0 + n := ⟨_, rfl⟩
          have hpp : (at0 : Int) + (n : Int) = (p : Int) := by omega
          have p0 : (at0 : Int) ≤ (p : Int) := by omega
          have p2 : p ≤ l.length := by have := unhide Hr; omega
          have p1 : (p : Int) ≤ (c : Int) := by omega
          have p3 : at0 ≤ p := by omega
          have p4 : (0 : Int) ≤ (p : Int) := Int.natCast_nonneg _
          have hpc := unhide Hmid p p3 p2
          have hadd := add_any (hK.up (unhide HB)) (unhide HHk) (by have := hK.1; omega) (hpc.up (unhide HB)) (hpc.apart hhb) (take_byt (drop_byt (unhide Hl) _) _) (by have := take_le l at0; have := take_le (l.drop at0) (p - at0); rw [List.length_drop] at this; omega)
          rw [take_step l p3] at hadd
          have Hadd := hide hadd
          clear hp hpc hadd
          go_wp2_with fail
          refine (unhide Hadd).mono ?_
          rintro e w3 ⟨rfl, hH3, hO3⟩
          have HB3 : Hid (Below W.heap.size W w3) := (unhide HB).trans (hO3.below (unhide HB).size hhb)
          have hsum := hsum_any (hK.up (unhide HB3)) hH3 (by have := take_le l p; omega)
          have Hsum := hide hsum
          have HH3 := hide hH3
          clear hH3 hO3 Hadd hcell hsum HB HHk
          go_wp2_with fail
          refine (unhide Hsum).mono ?_
          rintro e w4 ⟨v4, rfl, hB4, hb4⟩
          obtain ⟨va4, vc4, rfl⟩ := bytes32 hB4
          have HB4 : Hid (Below W.heap.size W w4) := (unhide HB3).trans (hb4.mono (unhide HB3).size)
          have HH4 : Hid (HashAt w4 hb (l.take p)) := (unhide HH3).up hb4
          have HY4 := hide hB4.has
          have hsum2 := sum_any (hK.up (unhide HB4)) (hS.up (unhide HB4)) (((unhide Hh).front p p2).up (unhide HB4)) (take_byt (unhide Hl) p) (by have := take_le l p; omega)
          have Hsum2 := hide hsum2
          clear hB4 hb4 Hsum HH3 HB3 hsum2
          go_wp2_with fail
          refine (unhide Hsum2).mono ?_
          rintro e w5 ⟨v5, rfl, hB5, hb5⟩
          obtain ⟨va5, vc5, rfl⟩ := bytes32 hB5
          have HB5 : Hid (Below W.heap.size W w5) := (unhide HB4).trans (hb5.mono (unhide HB4).size)
          have HH5 : Hid (HashAt w5 hb (l.take p)) := (unhide HH4).up hb5
          have hsame := same_true ((unhide HY4).up hb5) hB5.has (sha_byt _)
          have Hsame := hide hsame
          clear hB5 hb5 Hsum2 HH4 HB4 HY4 hsame
          go_wp2_with fail
          refine (unhide Hsame).mono ?_
          rintro e w' ⟨rfl, he⟩
          obtain rfl : w5 = w' := he.symm
          have hfork := fork_any (unhide HH5)
          have Hfork := hide hfork
          clear Hsame hfork
          go_wp2_with fail
          refine (unhide Hfork).mono ?_
          rintro e w6 ⟨rfl, hH6, hb6⟩
          have hlt6 := hH6.lt
          have hlt5 := (unhide HH5).lt
          have hB6a : Below w6.heap.size w6 (w6.alloc (.cells #[.int .u8 1, .int .u8 2, .int .u8 3] 5)) := (Below.refl _ _).alloc (Nat.le_refl _) _
          have HB6 : Hid (Below W.heap.size W w6) := (unhide HB5).trans (hb6.mono (unhide HB5).size)
          have HB6a : Hid (Below W.heap.size W (w6.alloc (.cells #[.int .u8 1, .int .u8 2, .int .u8 3] 5))) := (unhide HB6).trans (hB6a.mono (unhide HB6).size)
          have HH6 : Hid (HashAt (w6.alloc (.cells #[.int .u8 1, .int .u8 2, .int .u8 3] 5)) hb (l.take p)) := ((unhide HH5).up hb6).up hB6a
          have hadd2 := add_any (hK.up (unhide HB6a)) (hH6.up hB6a) (by have := hK.1; have := (unhide HB5).size; omega) (hasB_lit (l := l123) (heap_new w6 (.cells #[.int .u8 1, .int .u8 2, .int .u8 3] 5)) 3 3 rfl (by decide)) (fun g' off' n' c' e _ => by injection e with e1; injection e1 with e1; injection e1 with e1; omega) b123 (by have := take_le l p; rw [show l123.length = 3 from rfl]; omega)
          have Hadd2 := hide hadd2
          have hs56 : W.heap.size ≤ w5.heap.size := (unhide HB5).size
          clear hH6 hb6 hB6a hadd2 Hfork HB6 HH5 HB5 hlt6
          go_wp2_with fail
          refine (unhide Hadd2).mono ?_
          rintro e w7 ⟨rfl, _, hO7⟩
          have HH7 : Hid (HashAt w7 hb (l.take p)) := (unhide HH6).far hO7 (by omega)
          have HB7 : Hid (Below W.heap.size W w7) := (unhide HB6a).trans (hO7.below (unhide HB6a).size hs56)
          have hcell7 := unhide Hcl w7 (unhide HB7)
          clear hO7 Hadd2 HB6a HH6 hlt5 hs56
          by_cases hz3 : q3 = 0
          · have e3 : (q3 == 0) = true := by simp [hz3]
            have hfork := fork_any (unhide HH7)
            have Hfork := hide hfork
            clear hz3 hfork
            go_wp2_with fail
            refine (unhide Hfork).mono ?_
            rintro e w8 ⟨rfl, hH8, hb8⟩
            have HH8 := hide hH8
            have HB8 : Hid (Below W.heap.size W w8) := (unhide HB7).trans (hb8.mono (unhide HB7).size)
            have hs7 : W.heap.size ≤ w7.heap.size := (unhide HB7).size
            clear hH8 hb8 Hfork hcell7
            go_wp2
            go_roundg (cs.length - (k + 1))
            case measure => have := unhide Hgk; omega
            case rel => exact ⟨k + 1, p, w7.heap.size, rfl, rfl, by go_num, rfl, by omega, p2, hs7, HH8, HB8⟩
          · have e3 : (q3 == 0) = false := by simp [hz3]
            clear hz3
            go_wp2
            go_roundg (cs.length - (k + 1))
            case measure => have := unhide Hgk; omega
            case rel => exact ⟨k + 1, p, hb, rfl, rfl, by go_num, rfl, by omega, p2, hhb, HH7, HB7⟩
      · have d0 : decide (t < 0) = true := by simp; omega
        by_cases hrn : r < n
        · have d1 : decide (r < n) = true := by simp; omega
          have t1 : -130 < t := by omega
          obtain ⟨p, hp⟩ : ∃ p, p = at0 + r := ⟨_, rfl⟩
          have hpp : (at0 : Int) + (r : Int) = (p : Int) := by omega
          have p0 : (at0 : Int) ≤ (p : Int) := by omega
          have p2 : p ≤ l.length := by have := unhide Hr; omega
          have p1 : (p : Int) ≤ (c : Int) := by omega
          have p3 : at0 ≤ p := by omega
          have p4 : (0 : Int) ≤ (p : Int) := Int.natCast_nonneg _
          have hpc := unhide Hmid p p3 p2
          have hadd := add_any (hK.up (unhide HB)) (unhide HHk) (by have := hK.1; omega) (hpc.up (unhide HB)) (hpc.apart hhb) (take_byt (drop_byt (unhide Hl) _) _) (by have := take_le l at0; have := take_le (l.drop at0) (p - at0); rw [List.length_drop] at this; omega)
          rw [take_step l p3] at hadd
          have Hadd := hide hadd
          clear hp hpc hadd
          go_wp2_with fail
          refine (unhide Hadd).mono ?_
          rintro e w3 ⟨rfl, hH3, hO3⟩
          have HB3 : Hid (Below W.heap.size W w3) := (unhide HB).trans (hO3.below (unhide HB).size hhb)
          have hsum := hsum_any (hK.up (unhide HB3)) hH3 (by have := take_le l p; omega)
          have Hsum := hide hsum
          have HH3 := hide hH3
          clear hH3 hO3 Hadd hcell hsum HB HHk
          go_wp2_with fail
          refine (unhide Hsum).mono ?_
          rintro e w4 ⟨v4, rfl, hB4, hb4⟩
          obtain ⟨va4, vc4, rfl⟩ := bytes32 hB4
          have HB4 : Hid (Below W.heap.size W w4) := (unhide HB3).trans (hb4.mono (unhide HB3).size)
          have HH4 : Hid (HashAt w4 hb (l.take p)) := (unhide HH3).up hb4
          have HY4 := hide hB4.has
          have hsum2 := sum_any (hK.up (unhide HB4)) (hS.up (unhide HB4)) (((unhide Hh).front p p2).up (unhide HB4)) (take_byt (unhide Hl) p) (by have := take_le l p; omega)
          have Hsum2 := hide hsum2
          clear hB4 hb4 Hsum HH3 HB3 hsum2
          go_wp2_with fail
          refine (unhide Hsum2).mono ?_
          rintro e w5 ⟨v5, rfl, hB5, hb5⟩
          obtain ⟨va5, vc5, rfl⟩ := bytes32 hB5
          have HB5 : Hid (Below W.heap.size W w5) := (unhide HB4).trans (hb5.mono (unhide HB4).size)
          have HH5 : Hid (HashAt w5 hb (l.take p)) := (unhide HH4).up hb5
          have hsame := same_true ((unhide HY4).up hb5) hB5.has (sha_byt _)
          have Hsame := hide hsame
          clear hB5 hb5 Hsum2 HH4 HB4 HY4 hsame
          go_wp2_with fail
          refine (unhide Hsame).mono ?_
          rintro e w' ⟨rfl, he⟩
          obtain rfl : w5 = w' := he.symm
          have hfork := fork_any (unhide HH5)
          have Hfork := hide hfork
          clear Hsame hfork
          go_wp2_with fail
          refine (unhide Hfork).mono ?_
          rintro e w6 ⟨rfl, hH6, hb6⟩
          have hlt6 := hH6.lt
          have hlt5 := (unhide HH5).lt
          have hB6a : Below w6.heap.size w6 (w6.alloc (.cells #[.int .u8 1, .int .u8 2, .int .u8 3] 5)) := (Below.refl _ _).alloc (Nat.le_refl _) _
          have HB6 : Hid (Below W.heap.size W w6) := (unhide HB5).trans (hb6.mono (unhide HB5).size)
          have HB6a : Hid (Below W.heap.size W (w6.alloc (.cells #[.int .u8 1, .int .u8 2, .int .u8 3] 5))) := (unhide HB6).trans (hB6a.mono (unhide HB6).size)
          have HH6 : Hid (HashAt (w6.alloc (.cells #[.int .u8 1, .int .u8 2, .int .u8 3] 5)) hb (l.take p)) := ((unhide HH5).up hb6).up hB6a
          have hadd2 := add_any (hK.up (unhide HB6a)) (hH6.up hB6a) (by have := hK.1; have := (unhide HB5).size; omega) (hasB_lit (l := l123) (heap_new w6 (.cells #[.int .u8 1, .int .u8 2, .int .u8 3] 5)) 3 3 rfl (by decide)) (fun g' off' n' c' e _ => by injection e with e1; injection e1 with e1; injection e1 with e1; omega) b123 (by have := take_le l p; rw [show l123.length = 3 from rfl]; omega)
          have Hadd2 := hide hadd2
          have hs56 : W.heap.size ≤ w5.heap.size := (unhide HB5).size
          clear hH6 hb6 hB6a hadd2 Hfork HB6 HH5 HB5 hlt6
          go_wp2_with fail
          refine (unhide Hadd2).mono ?_
          rintro e w7 ⟨rfl, _, hO7⟩
          have HH7 : Hid (HashAt w7 hb (l.take p)) := (unhide HH6).far hO7 (by omega)
          have HB7 : Hid (Below W.heap.size W w7) := (unhide HB6a).trans (hO7.below (unhide HB6a).size hs56)
          have hcell7 := unhide Hcl w7 (unhide HB7)
          clear hO7 Hadd2 HB6a HH6 hlt5 hs56
          by_cases hz3 : q3 = 0
          · have e3 : (q3 == 0) = true := by simp [hz3]
            have hfork := fork_any (unhide HH7)
            have Hfork := hide hfork
            clear hz3 hfork
            go_wp2_with fail
            refine (unhide Hfork).mono ?_
            rintro e w8 ⟨rfl, hH8, hb8⟩
            have HH8 := hide hH8
            have HB8 : Hid (Below W.heap.size W w8) := (unhide HB7).trans (hb8.mono (unhide HB7).size)
            have hs7 : W.heap.size ≤ w7.heap.size := (unhide HB7).size
            clear hH8 hb8 Hfork hcell7
            go_wp2
            go_roundg (cs.length - (k + 1))
            case measure => have := unhide Hgk; omega
            case rel => exact ⟨k + 1, p, w7.heap.size, rfl, rfl, by go_num, rfl, by omega, p2, hs7, HH8, HB8⟩
          · have e3 : (q3 == 0) = false := by simp [hz3]
            clear hz3
            go_wp2
            go_roundg (cs.length - (k + 1))
            case measure => have := unhide Hgk; omega
            case rel => exact ⟨k + 1, p, hb, rfl, rfl, by go_num, rfl, by omega, p2, hhb, HH7, HB7⟩
        · have d1 : decide (r < n) = false := by simp; omega
          have t1 : -130 < t := by omega
          obtain ⟨p, hp⟩ : ∃ p, p = at0 + n := ⟨_, rfl⟩
          have hpp : (at0 : Int) + (n : Int) = (p : Int) := by omega
          have p0 : (at0 : Int) ≤ (p : Int) := by omega
          have p2 : p ≤ l.length := by have := unhide Hr; omega
          have p1 : (p : Int) ≤ (c : Int) := by omega
          have p3 : at0 ≤ p := by omega
          have p4 : (0 : Int) ≤ (p : Int) := Int.natCast_nonneg _
          have hpc := unhide Hmid p p3 p2
          have hadd := add_any (hK.up (unhide HB)) (unhide HHk) (by have := hK.1; omega) (hpc.up (unhide HB)) (hpc.apart hhb) (take_byt (drop_byt (unhide Hl) _) _) (by have := take_le l at0; have := take_le (l.drop at0) (p - at0); rw [List.length_drop] at this; omega)
          rw [take_step l p3] at hadd
          have Hadd := hide hadd
          clear hp hpc hadd
          go_wp2_with fail
          refine (unhide Hadd).mono ?_
          rintro e w3 ⟨rfl, hH3, hO3⟩
          have HB3 : Hid (Below W.heap.size W w3) := (unhide HB).trans (hO3.below (unhide HB).size hhb)
          have hsum := hsum_any (hK.up (unhide HB3)) hH3 (by have := take_le l p; omega)
          have Hsum := hide hsum
          have HH3 := hide hH3
          clear hH3 hO3 Hadd hcell hsum HB HHk
          go_wp2_with fail
          refine (unhide Hsum).mono ?_
          rintro e w4 ⟨v4, rfl, hB4, hb4⟩
          obtain ⟨va4, vc4, rfl⟩ := bytes32 hB4
          have HB4 : Hid (Below W.heap.size W w4) := (unhide HB3).trans (hb4.mono (unhide HB3).size)
          have HH4 : Hid (HashAt w4 hb (l.take p)) := (unhide HH3).up hb4
          have HY4 := hide hB4.has
          have hsum2 := sum_any (hK.up (unhide HB4)) (hS.up (unhide HB4)) (((unhide Hh).front p p2).up (unhide HB4)) (take_byt (unhide Hl) p) (by have := take_le l p; omega)
          have Hsum2 := hide hsum2
          clear hB4 hb4 Hsum HH3 HB3 hsum2
          go_wp2_with fail
          refine (unhide Hsum2).mono ?_
          rintro e w5 ⟨v5, rfl, hB5, hb5⟩
          obtain ⟨va5, vc5, rfl⟩ := bytes32 hB5
          have HB5 : Hid (Below W.heap.size W w5) := (unhide HB4).trans (hb5.mono (unhide HB4).size)
          have HH5 : Hid (HashAt w5 hb (l.take p)) := (unhide HH4).up hb5
          have hsame := same_true ((unhide HY4).up hb5) hB5.has (sha_byt _)
          have Hsame := hide hsame
          clear hB5 hb5 Hsum2 HH4 HB4 HY4 hsame
          go_wp2_with fail
          refine (unhide Hsame).mono ?_
          rintro e w' ⟨rfl, he⟩
          obtain rfl : w5 = w' := he.symm
          have hfork := fork_any (unhide HH5)
          have Hfork := hide hfork
          clear Hsame hfork
          go_wp2_with fail
          refine (unhide Hfork).mono ?_
          rintro e w6 ⟨rfl, hH6, hb6⟩
          have hlt6 := hH6.lt
          have hlt5 := (unhide HH5).lt
          have hB6a : Below w6.heap.size w6 (w6.alloc (.cells #[.int .u8 1, .int .u8 2, .int .u8 3] 5)) := (Below.refl _ _).alloc (Nat.le_refl _) _
          have HB6 : Hid (Below W.heap.size W w6) := (unhide HB5).trans (hb6.mono (unhide HB5).size)
          have HB6a : Hid (Below W.heap.size W (w6.alloc (.cells #[.int .u8 1, .int .u8 2, .int .u8 3] 5))) := (unhide HB6).trans (hB6a.mono (unhide HB6).size)
          have HH6 : Hid (HashAt (w6.alloc (.cells #[.int .u8 1, .int .u8 2, .int .u8 3] 5)) hb (l.take p)) := ((unhide HH5).up hb6).up hB6a
          have hadd2 := add_any (hK.up (unhide HB6a)) (hH6.up hB6a) (by have := hK.1; have := (unhide HB5).size; omega) (hasB_lit (l := l123) (heap_new w6 (.cells #[.int .u8 1, .int .u8 2, .int .u8 3] 5)) 3 3 rfl (by decide)) (fun g' off' n' c' e _ => by injection e with e1; injection e1 with e1; injection e1 with e1; omega) b123 (by have := take_le l p; rw [show l123.length = 3 from rfl]; omega)
          have Hadd2 := hide hadd2
          have hs56 : W.heap.size ≤ w5.heap.size := (unhide HB5).size
          clear hH6 hb6 hB6a hadd2 Hfork HB6 HH5 HB5 hlt6
          go_wp2_with fail
          refine (unhide Hadd2).mono ?_
          rintro e w7 ⟨rfl, _, hO7⟩
          have HH7 : Hid (HashAt w7 hb (l.take p)) := (unhide HH6).far hO7 (by omega)
          have HB7 : Hid (Below W.heap.size W w7) := (unhide HB6a).trans (hO7.below (unhide HB6a).size hs56)
          have hcell7 := unhide Hcl w7 (unhide HB7)
          clear hO7 Hadd2 HB6a HH6 hlt5 hs56
          by_cases hz3 : q3 = 0
          · have e3 : (q3 == 0) = true := by simp [hz3]
            have hfork := fork_any (unhide HH7)
            have Hfork := hide hfork
            clear hz3 hfork
            go_wp2_with fail
            refine (unhide Hfork).mono ?_
            rintro e w8 ⟨rfl, hH8, hb8⟩
            have HH8 := hide hH8
            have HB8 : Hid (Below W.heap.size W w8) := (unhide HB7).trans (hb8.mono (unhide HB7).size)
            have hs7 : W.heap.size ≤ w7.heap.size := (unhide HB7).size
            clear hH8 hb8 Hfork hcell7
            go_wp2
            go_roundg (cs.length - (k + 1))
            case measure => have := unhide Hgk; omega
            case rel => exact ⟨k + 1, p, w7.heap.size, rfl, rfl, by go_num, rfl, by omega, p2, hs7, HH8, HB8⟩
          · have e3 : (q3 == 0) = false := by simp [hz3]
            clear hz3
            go_wp2
            go_roundg (cs.length - (k + 1))
            case measure => have := unhide Hgk; omega
            case rel => exact ⟨k + 1, p, hb, rfl, rfl, by go_num, rfl, by omega, p2, hhb, HH7, HB7⟩
    · by_cases hla : at0 < l.length
      · have hkk : ¬ k < cs.length := fun q => hlt ⟨q, hla⟩
        obtain rfl : k = cs.length := by omega
        obtain ⟨g, off, rfl, hg, hcb⟩ := unhide H3 (by omega)
        have Hrest : Hid (HasB W (.slice (some ⟨g, off + at0, none⟩) (l.length - at0) (c - at0)) (l.drop at0)) := (unhide Hh).rest at0 hat _ _ ⟨by omega, by unfold maxLen; omega, nofun⟩ (fun _ g' off' e => by cases e; rfl)
        have a0 : (0 : Int) ≤ (at0 : Int) := Int.natCast_nonneg _
        have a1 : (at0 : Int) < (l.length : Int) := by omega
        have a2 : (at0 : Int) < (c : Int) := by omega
        clear hlt hkk hcb
        have hadd := add_any (hK.up (unhide HB)) (unhide HHk) (by have := hK.1; omega) ((unhide Hrest).up (unhide HB)) ((unhide Hrest).apart hhb) (drop_byt (unhide Hl) _) (by have := take_le l at0; rw [List.length_drop]; omega)
        rw [List.take_append_drop] at hadd
        have Hadd := hide hadd
        clear hadd
        go_wp2_with fail
        refine (unhide Hadd).mono ?_
        rintro e w3 ⟨rfl, hH3, hO3⟩
        have HB3 : Hid (Below W.heap.size W w3) := (unhide HB).trans (hO3.below (unhide HB).size hhb)
        have hsum := hsum_any (hK.up (unhide HB3)) hH3 (by omega)
        have Hsum := hide hsum
        clear hH3 hO3 Hadd hsum HB HHk
        go_wp2_with fail
        refine (unhide Hsum).mono ?_
        rintro e w4 ⟨v4, rfl, hB4, hb4⟩
        obtain ⟨va4, vc4, rfl⟩ := bytes32 hB4
        have HB4 : Hid (Below W.heap.size W w4) := (unhide HB3).trans (hb4.mono (unhide HB3).size)
        have HY4 := hide hB4.has
        have hsum2 := sum_any (hK.up (unhide HB4)) (hS.up (unhide HB4)) ((unhide Hh).up (unhide HB4)) (unhide Hl) (by omega)
        have Hsum2 := hide hsum2
        clear hB4 hb4 Hsum HB3 hsum2
        go_wp2_with fail
        refine (unhide Hsum2).mono ?_
        rintro e w5 ⟨v5, rfl, hB5, hb5⟩
        obtain ⟨va5, vc5, rfl⟩ := bytes32 hB5
        have HB5 : Hid (Below W.heap.size W w5) := (unhide HB4).trans (hb5.mono (unhide HB4).size)
        have hsame := same_true ((unhide HY4).up hb5) hB5.has (sha_byt _)
        have Hsame := hide hsame
        clear hB5 hb5 Hsum2 HB4 HY4 hsame
        go_wp2_with fail
        refine (unhide Hsame).mono ?_
        rintro e w' ⟨rfl, he⟩
        obtain rfl : w5 = w' := he.symm
        clear Hsame
        go_wp2
        go_ret
        exact ⟨rfl, unhide HB5⟩
      · obtain rfl : at0 = l.length := by omega
        have d9 : decide (l.length < l.length) = false := by simp
        clear hla hlt hat
        cases a with
        | none =>
          have hc0 : c = 0 := (unhide Hm).2.2 rfl
          subst hc0
          obtain rfl : l = [] := List.eq_nil_of_length_eq_zero (by omega)
          clear d9
          by_cases hkk : k < cs.length
          · have k1 : (k : Int) < (cs.length : Int) := by omega
            go_wp2_with fail
            refine (add_any (v := .slice none 0 0) (hK.up (unhide HB)) (unhide HHk) (by have := hK.1; omega) ((hasB_empty W (none) (0) (by unfold maxLen; omega) (fun _ => rfl)).up (unhide HB)) (fun _ _ _ _ _ q => by simp at q) (fun x hx => by simp at hx) (by have := take_le [] 0; rw [List.length_nil]; omega)).mono ?_
            rintro e w3 ⟨rfl, hH3, hO3⟩
            rw [List.append_nil, List.take_length] at hH3
            have HB3 : Hid (Below W.heap.size W w3) := (unhide HB).trans (hO3.below (unhide HB).size hhb)
            have hsum := hsum_any (hK.up (unhide HB3)) hH3 (by omega)
            have Hsum := hide hsum
            clear hH3 hO3 hsum HB HHk
            go_wp2_with fail
            refine (unhide Hsum).mono ?_
            rintro e w4 ⟨v4, rfl, hB4, hb4⟩
            obtain ⟨va4, vc4, rfl⟩ := bytes32 hB4
            have HB4 : Hid (Below W.heap.size W w4) := (unhide HB3).trans (hb4.mono (unhide HB3).size)
            have HY4 := hide hB4.has
            have hsum2 := sum_any (hK.up (unhide HB4)) (hS.up (unhide HB4)) ((unhide Hh).up (unhide HB4)) (unhide Hl) (by omega)
            have Hsum2 := hide hsum2
            clear hB4 hb4 Hsum HB3 hsum2
            go_wp2_with fail
            refine (unhide Hsum2).mono ?_
            rintro e w5 ⟨v5, rfl, hB5, hb5⟩
            obtain ⟨va5, vc5, rfl⟩ := bytes32 hB5
            have HB5 : Hid (Below W.heap.size W w5) := (unhide HB4).trans (hb5.mono (unhide HB4).size)
            have hsame := same_true ((unhide HY4).up hb5) hB5.has (sha_byt _)
            have Hsame := hide hsame
            clear hB5 hb5 Hsum2 HB4 HY4 hsame
            go_wp2_with fail
            refine (unhide Hsame).mono ?_
            rintro e w' ⟨rfl, he⟩
            obtain rfl : w5 = w' := he.symm
            clear Hsame
            go_wp2
            go_ret
            exact ⟨rfl, unhide HB5⟩
          · obtain rfl : k = cs.length := by omega
            go_wp2_with fail
            refine (add_any (v := .slice none 0 0) (hK.up (unhide HB)) (unhide HHk) (by have := hK.1; omega) ((hasB_empty W (none) (0) (by unfold maxLen; omega) (fun _ => rfl)).up (unhide HB)) (fun _ _ _ _ _ q => by simp at q) (fun x hx => by simp at hx) (by have := take_le [] 0; rw [List.length_nil]; omega)).mono ?_
            rintro e w3 ⟨rfl, hH3, hO3⟩
            rw [List.append_nil, List.take_length] at hH3
            have HB3 : Hid (Below W.heap.size W w3) := (unhide HB).trans (hO3.below (unhide HB).size hhb)
            have hsum := hsum_any (hK.up (unhide HB3)) hH3 (by omega)
            have Hsum := hide hsum
            clear hH3 hO3 hsum HB HHk
            go_wp2_with fail
            refine (unhide Hsum).mono ?_
            rintro e w4 ⟨v4, rfl, hB4, hb4⟩
            obtain ⟨va4, vc4, rfl⟩ := bytes32 hB4
            have HB4 : Hid (Below W.heap.size W w4) := (unhide HB3).trans (hb4.mono (unhide HB3).size)
            have HY4 := hide hB4.has
            have hsum2 := sum_any (hK.up (unhide HB4)) (hS.up (unhide HB4)) ((unhide Hh).up (unhide HB4)) (unhide Hl) (by omega)
            have Hsum2 := hide hsum2
            clear hB4 hb4 Hsum HB3 hsum2
            go_wp2_with fail
            refine (unhide Hsum2).mono ?_
            rintro e w5 ⟨v5, rfl, hB5, hb5⟩
            obtain ⟨va5, vc5, rfl⟩ := bytes32 hB5
            have HB5 : Hid (Below W.heap.size W w5) := (unhide HB4).trans (hb5.mono (unhide HB4).size)
            have hsame := same_true ((unhide HY4).up hb5) hB5.has (sha_byt _)
            have Hsame := hide hsame
            clear hB5 hb5 Hsum2 HB4 HY4 hsame
            go_wp2_with fail
            refine (unhide Hsame).mono ?_
            rintro e w' ⟨rfl, he⟩
            obtain rfl : w5 = w' := he.symm
            clear Hsame
            go_wp2
            go_ret
            exact ⟨rfl, unhide HB5⟩
        | some ad =>
          by_cases hkk : k < cs.length
          · have k1 : (k : Int) < (cs.length : Int) := by omega
            by_cases hcap : c = l.length
            · subst hcap
              go_wp2_with fail
              refine (add_any (v := .slice (some ad) 0 0) (hK.up (unhide HB)) (unhide HHk) (by have := hK.1; omega) ((hasB_empty W (some ad) (0) (by unfold maxLen; omega) nofun).up (unhide HB)) (fun _ _ _ _ _ q => by simp at q) (fun x hx => by simp at hx) (by have := take_le l l.length; rw [List.length_nil]; omega)).mono ?_
              rintro e w3 ⟨rfl, hH3, hO3⟩
              rw [List.append_nil, List.take_length] at hH3
              have HB3 : Hid (Below W.heap.size W w3) := (unhide HB).trans (hO3.below (unhide HB).size hhb)
              have hsum := hsum_any (hK.up (unhide HB3)) hH3 (by omega)
              have Hsum := hide hsum
              clear hH3 hO3 hsum HB HHk
              go_wp2_with fail
              refine (unhide Hsum).mono ?_
              rintro e w4 ⟨v4, rfl, hB4, hb4⟩
              obtain ⟨va4, vc4, rfl⟩ := bytes32 hB4
              have HB4 : Hid (Below W.heap.size W w4) := (unhide HB3).trans (hb4.mono (unhide HB3).size)
              have HY4 := hide hB4.has
              have hsum2 := sum_any (hK.up (unhide HB4)) (hS.up (unhide HB4)) ((unhide Hh).up (unhide HB4)) (unhide Hl) (by omega)
              have Hsum2 := hide hsum2
              clear hB4 hb4 Hsum HB3 hsum2
              go_wp2_with fail
              refine (unhide Hsum2).mono ?_
              rintro e w5 ⟨v5, rfl, hB5, hb5⟩
              obtain ⟨va5, vc5, rfl⟩ := bytes32 hB5
              have HB5 : Hid (Below W.heap.size W w5) := (unhide HB4).trans (hb5.mono (unhide HB4).size)
              have hsame := same_true ((unhide HY4).up hb5) hB5.has (sha_byt _)
              have Hsame := hide hsame
              clear hB5 hb5 Hsum2 HB4 HY4 hsame
              go_wp2_with fail
              refine (unhide Hsame).mono ?_
              rintro e w' ⟨rfl, he⟩
              obtain rfl : w5 = w' := he.symm
              clear Hsame
              go_wp2
              go_ret
              exact ⟨rfl, unhide HB5⟩
            · have hcap' : (l.length : Int) < (c : Int) := by omega
              clear hcap
              go_wp2_with fail
              refine (add_any (v := .slice (some (ad.add l.length)) 0 (c - l.length)) (hK.up (unhide HB)) (unhide HHk) (by have := hK.1; omega) ((hasB_empty W (some (ad.add l.length)) (c - l.length) (by unfold maxLen; omega) nofun).up (unhide HB)) (fun _ _ _ _ _ q => by simp at q) (fun x hx => by simp at hx) (by have := take_le l l.length; rw [List.length_nil]; omega)).mono ?_
              rintro e w3 ⟨rfl, hH3, hO3⟩
              rw [List.append_nil, List.take_length] at hH3
              have HB3 : Hid (Below W.heap.size W w3) := (unhide HB).trans (hO3.below (unhide HB).size hhb)
              have hsum := hsum_any (hK.up (unhide HB3)) hH3 (by omega)
              have Hsum := hide hsum
              clear hH3 hO3 hsum HB HHk
              go_wp2_with fail
              refine (unhide Hsum).mono ?_
              rintro e w4 ⟨v4, rfl, hB4, hb4⟩
              obtain ⟨va4, vc4, rfl⟩ := bytes32 hB4
              have HB4 : Hid (Below W.heap.size W w4) := (unhide HB3).trans (hb4.mono (unhide HB3).size)
              have HY4 := hide hB4.has
              have hsum2 := sum_any (hK.up (unhide HB4)) (hS.up (unhide HB4)) ((unhide Hh).up (unhide HB4)) (unhide Hl) (by omega)
              have Hsum2 := hide hsum2
              clear hB4 hb4 Hsum HB3 hsum2
              go_wp2_with fail
              refine (unhide Hsum2).mono ?_
              rintro e w5 ⟨v5, rfl, hB5, hb5⟩
              obtain ⟨va5, vc5, rfl⟩ := bytes32 hB5
              have HB5 : Hid (Below W.heap.size W w5) := (unhide HB4).trans (hb5.mono (unhide HB4).size)
              have hsame := same_true ((unhide HY4).up hb5) hB5.has (sha_byt _)
              have Hsame := hide hsame
              clear hB5 hb5 Hsum2 HB4 HY4 hsame
              go_wp2_with fail
              refine (unhide Hsame).mono ?_
              rintro e w' ⟨rfl, he⟩
              obtain rfl : w5 = w' := he.symm
              clear Hsame
              go_wp2
              go_ret
              exact ⟨rfl, unhide HB5⟩
          · obtain rfl : k = cs.length := by omega
            by_cases hcap : c = l.length
            · subst hcap
              go_wp2_with fail
              refine (add_any (v := .slice (some ad) 0 0) (hK.up (unhide HB)) (unhide HHk) (by have := hK.1; omega) ((hasB_empty W (some ad) (0) (by unfold maxLen; omega) nofun).up (unhide HB)) (fun _ _ _ _ _ q => by simp at q) (fun x hx => by simp at hx) (by have := take_le l l.length; rw [List.length_nil]; omega)).mono ?_
              rintro e w3 ⟨rfl, hH3, hO3⟩
              rw [List.append_nil, List.take_length] at hH3
              have HB3 : Hid (Below W.heap.size W w3) := (unhide HB).trans (hO3.below (unhide HB).size hhb)
              have hsum := hsum_any (hK.up (unhide HB3)) hH3 (by omega)
              have Hsum := hide hsum
              clear hH3 hO3 hsum HB HHk
              go_wp2_with fail
              refine (unhide Hsum).mono ?_
              rintro e w4 ⟨v4, rfl, hB4, hb4⟩
              obtain ⟨va4, vc4, rfl⟩ := bytes32 hB4
              have HB4 : Hid (Below W.heap.size W w4) := (unhide HB3).trans (hb4.mono (unhide HB3).size)
              have HY4 := hide hB4.has
              have hsum2 := sum_any (hK.up (unhide HB4)) (hS.up (unhide HB4)) ((unhide Hh).up (unhide HB4)) (unhide Hl) (by omega)
              have Hsum2 := hide hsum2
              clear hB4 hb4 Hsum HB3 hsum2
              go_wp2_with fail
              refine (unhide Hsum2).mono ?_
              rintro e w5 ⟨v5, rfl, hB5, hb5⟩
              obtain ⟨va5, vc5, rfl⟩ := bytes32 hB5
              have HB5 : Hid (Below W.heap.size W w5) := (unhide HB4).trans (hb5.mono (unhide HB4).size)
              have hsame := same_true ((unhide HY4).up hb5) hB5.has (sha_byt _)
              have Hsame := hide hsame
              clear hB5 hb5 Hsum2 HB4 HY4 hsame
              go_wp2_with fail
              refine (unhide Hsame).mono ?_
              rintro e w' ⟨rfl, he⟩
              obtain rfl : w5 = w' := he.symm
              clear Hsame
              go_wp2
              go_ret
              exact ⟨rfl, unhide HB5⟩
            · have hcap' : (l.length : Int) < (c : Int) := by omega
              clear hcap
              go_wp2_with fail
              refine (add_any (v := .slice (some (ad.add l.length)) 0 (c - l.length)) (hK.up (unhide HB)) (unhide HHk) (by have := hK.1; omega) ((hasB_empty W (some (ad.add l.length)) (c - l.length) (by unfold maxLen; omega) nofun).up (unhide HB)) (fun _ _ _ _ _ q => by simp at q) (fun x hx => by simp at hx) (by have := take_le l l.length; rw [List.length_nil]; omega)).mono ?_
              rintro e w3 ⟨rfl, hH3, hO3⟩
              rw [List.append_nil, List.take_length] at hH3
              have HB3 : Hid (Below W.heap.size W w3) := (unhide HB).trans (hO3.below (unhide HB).size hhb)
              have hsum := hsum_any (hK.up (unhide HB3)) hH3 (by omega)
              have Hsum := hide hsum
              clear hH3 hO3 hsum HB HHk
              go_wp2_with fail
              refine (unhide Hsum).mono ?_
              rintro e w4 ⟨v4, rfl, hB4, hb4⟩
              obtain ⟨va4, vc4, rfl⟩ := bytes32 hB4
              have HB4 : Hid (Below W.heap.size W w4) := (unhide HB3).trans (hb4.mono (unhide HB3).size)
              have HY4 := hide hB4.has
              have hsum2 := sum_any (hK.up (unhide HB4)) (hS.up (unhide HB4)) ((unhide Hh).up (unhide HB4)) (unhide Hl) (by omega)
              have Hsum2 := hide hsum2
              clear hB4 hb4 Hsum HB3 hsum2
              go_wp2_with fail
              refine (unhide Hsum2).mono ?_
              rintro e w5 ⟨v5, rfl, hB5, hb5⟩
              obtain ⟨va5, vc5, rfl⟩ := bytes32 hB5
              have HB5 : Hid (Below W.heap.size W w5) := (unhide HB4).trans (hb5.mono (unhide HB4).size)
              have hsame := same_true ((unhide HY4).up hb5) hB5.has (sha_byt _)
              have Hsame := hide hsame
              clear hB5 hb5 Hsum2 HB4 HY4 hsame
              go_wp2_with fail
              refine (unhide Hsame).mono ?_
              rintro e w' ⟨rfl, he⟩
              obtain rfl : w5 = w' := he.symm
              clear Hsame
              go_wp2
              go_ret
              exact ⟨rfl, unhide HB5⟩
end Go.Proofs.YtoojchjfmnbdpaaDoor
