import Derived.Test.YtoojchjfmnbdpabDoorDGa
namespace Go.Proofs.YtoojchjfmnbdpabDoor
open Go.RowKit
attribute [local go_sem ↓] Go.wp_at_zero Go.wp_at_succ

theorem made_rowB {W : World} {base g n : Nat} (h : W.ownsRow base 28 1 (.slice (some ⟨g, 0, none⟩) n n) n (madeCells (Value.cells (.slice none 0 0)) (n * 1)).toList) : W.heap[g]? = some (.cells (List.replicate n (.slice none 0 0)).toArray 28 (0, 0)) := by
  obtain ⟨_, ⟨h0, _⟩ | ⟨g', c, cur, e, _, hg, _, _, hs, ht⟩⟩ := h
  · simp at h0
  · simp only [Value.slice.injEq, Option.some.injEq, Addr.mk.injEq] at e
    obtain ⟨⟨rfl, _⟩, _, rfl⟩ := e
    rw [hg]
    have e1 : (madeCells (Value.cells (.slice none 0 0)) (n * 1)).toList = List.replicate n (.slice none 0 0) := by
      rw [show Value.cells (.slice none 0 0) = #[.slice none 0 0] from rfl, toList_madeCells_one]
      simp
    rw [e1, List.take_of_length_le (by simp; omega)] at ht
    rw [← ht]
theorem set_rowV {W : World} {g i : Nat} {l : List Value} {t : TypeId} (h : W.heap[g]? = some (.cells l.toArray t (0, 0))) (b : Value) : (W.setCell ⟨g, i, none⟩ b).heap[g]? = some (.cells (l.set i b).toArray t (0, 0)) := by
  rw [heap_setCell_same _ g i _ t _ h]
  congr 2
  simp
theorem Room.set {W : World} {g k i : Nat} {l : List Nat} {v : Value} (h : Room W k l) (hk : k ≠ g) : Room (W.setCell ⟨g, i, none⟩ v) k l := (heap_setCell_other W ⟨g, i, none⟩ k v (by simpa using hk)).trans h
theorem RoomA.push {W w : World} {g : Nat} {ps : List (Nat × List Nat)} {t : List Value} {z : Value} {l : List Nat} (h : RoomA W g ps (z :: t)) (hb : Below W.heap.size W w) (hr : Room w W.heap.size l) : RoomA (w.setCell ⟨g, ps.length, none⟩ (slP (W.heap.size, l))) g (ps ++ [(W.heap.size, l)]) t := by
  have hg := h.lt
  refine ⟨?_, fun p hp => ?_, ?_, fun p hp => ?_⟩
  · rw [set_rowV ((hb.block g hg).trans h.row)]
    congr 3
    rw [List.set_append, if_neg (by rw [List.length_map]; omega), List.length_map, Nat.sub_self]
    simp
  · rcases List.mem_append.1 hp with hp | hp
    · exact ((h.each p hp).up hb).set (by have := h.off p hp; omega)
    · obtain rfl := List.mem_singleton.1 hp
      exact hr.set (by show W.heap.size ≠ g; omega)
  · rw [List.map_append, List.nodup_append]
    refine ⟨h.nodup, by simp, fun a ha b hb' => ?_⟩
    obtain ⟨p, hp, rfl⟩ := List.mem_map.1 ha
    have := (h.each p hp).lt
    simp at hb'
    omega
  · rcases List.mem_append.1 hp with hp | hp
    · exact h.off p hp
    · obtain rfl := List.mem_singleton.1 hp
      exact hg
theorem RoomA.setT {W : World} {g : Nat} {ps : List (Nat × List Nat)} {t : List Value} (h : RoomA W g ps t) (i : Nat) (v : Value) : RoomA (W.setCell ⟨g, ps.length + i, none⟩ v) g ps (t.set i v) := by
  refine ⟨?_, fun p hp => (h.each p hp).set (by have := h.off p hp; omega), h.nodup, h.off⟩
  rw [set_rowV h.row]
  congr 3
  rw [List.set_append, if_neg (by rw [List.length_map]; omega), List.length_map, Nat.add_sub_cancel_left]
theorem RoomA.frozen {W : World} {g : Nat} {ps : List (Nat × List Nat)} {t : List Value} (h : RoomA W g ps t) (i : Nat) : W.frozen? ⟨g, i, none⟩ = false := row_frozen i h.row

set_option maxRecDepth 100000 in
set_option maxHeartbeats 4000000 in
theorem roomyAll_any {W : World} {v : Value} {ls : List (List Nat)} (h : HasBB W v ls) (hn : ls.length ≤ 5864062014634) (hl : ∀ l ∈ ls, l.length ≤ 140737488351232) :
    Calls Tryd.prog 26 #[v] W fun e W' => e = .returned (.slice (some ⟨W.heap.size, 0, none⟩) ls.length (ls.length + 2)) ∧ Below W.heap.size W W' ∧ ∃ ps m1 m2, ps.map Prod.snd = ls ∧ RoomA W' W.heap.size ps [m1, m2] ∧ HasB W' m1 [1] ∧ HasB W' m2 [2] := by
  obtain ⟨i0, hi, hz0, hz1, hz2⟩ := info_parts Tryd.infoBytes
  obtain ⟨a, c, rfl, hm, h3⟩ := h
  have H3 := hide h3
  have Hl := hide hl
  have hc1 : c ≤ 9223372036854775807 := by have := hm.2.1; unfold maxLen at this; omega
  have hc2 := hm.1
  clear h3 hm hl
  go_enter Tryd.func26, Tryd.ntmps26
  go_wp2_with (at_make; refine wpList_make_full _ rfl _ _ 27 rfl W.heap.size 28 i0 (.slice none 0 0) 1 Tryd.underlying27 hi hz0 hz1 .i64 .i64 _ _ (ls.length + 2) rfl rfl (by first | rfl | simp) (by first | rfl | simp) (by rw [hz2]; omega) (by unfold maxLen; omega) (Nat.le_refl _) ?_; intro w5 hown5 hgrow5; have Hr := hide (made_rowB hown5); have Hb : Hid (Below W.heap.size W w5) := ⟨hgrow5.os, hgrow5.tape, hgrow5.output, hgrow5.size, fun b hb => hgrow5.block b hb (by simp)⟩; clear hown5 hgrow5)
  have HR0 : Hid (RoomA w5 W.heap.size [] (List.replicate (ls.length + 2 - 0) (.slice none 0 0))) := by
    refine ⟨?_, fun p hp => by simp at hp, by simp, fun p hp => by simp at hp⟩
    exact unhide Hr
  clear Hr
  go_loopg [4] ls.length (fun gk v4 wr => ∃ (i : Nat) (ps : List (Nat × List Nat)), v4 = .int .i64 (i : Int) ∧ gk = ls.length - i ∧ i ≤ ls.length ∧ Hid (ps.map Prod.snd = ls.take i) ∧ Hid (RoomA wr W.heap.size ps (List.replicate (ls.length + 2 - i) (.slice none 0 0))) ∧ Hid (Below W.heap.size W wr))
  case atStart => exact ⟨0, [], rfl, rfl, by omega, rfl, HR0, Hb⟩
  case round =>
    clear HR0 Hb
    obtain ⟨i, ps, rfl, hgk, hk, Hps, HR, HB⟩ := hrel
    have Hgk := hide hgk
    clear hgk
    have hpl : ps.length = i := by have := congrArg List.length (unhide Hps); rw [List.length_map, List.length_take] at this; omega
    by_cases hlt : i < ls.length
    · obtain ⟨g, off, rfl, hg, hc⟩ := unhide H3 (by omega)
      obtain ⟨l, hl⟩ : ∃ x, ls[i]? = some x := ⟨_, List.getElem?_eq_getElem hlt⟩
      obtain ⟨u, hu, hBu⟩ := hc i l hl
      have hcell := ((unhide HB).cell (p := ⟨g, off + i, none⟩) hg).trans hu
      have hll := unhide Hl l (List.mem_of_getElem? hl)
      have hro := roomy_any (hBu.up (unhide HB)) (by omega)
      have Hro := hide hro
      have Hnx : Hid (ls.take (i + 1) = ls.take i ++ [l]) := by show _ = _; rw [List.take_add_one, hl]; rfl
      obtain ⟨ua, uc, rfl, _, _⟩ := hBu
      have hi' : (i : Int) < (ls.length : Int) := by omega
      have hiN : (i : Int) < ((ls.length + 2 : Nat) : Int) := by omega
      have hi0' : (0 : Int) ≤ (i : Int) := Int.natCast_nonneg _
      clear hc hl hu hro
      go_wp2_with fail
      refine (unhide Hro).mono ?_
      rintro o w7 ⟨rfl, hR7, hb7⟩
      have HB7 : Hid (Below W.heap.size W w7) := (unhide HB).trans (hb7.mono (unhide HB).size)
      have hrep : List.replicate (ls.length + 2 - i) (Value.slice none 0 0) = .slice none 0 0 :: List.replicate (ls.length + 2 - (i + 1)) (.slice none 0 0) := by
        rw [show ls.length + 2 - i = (ls.length + 2 - (i + 1)) + 1 by omega]
        rfl
      have hRw := unhide HR
      rw [hrep] at hRw
      have hc7 := (hRw.up hb7).cell2 (i := 0) rfl
      have hf7 := (hRw.up hb7).frozen i
      rw [Nat.add_zero, hpl] at hc7
      have hP := hRw.push hb7 hR7
      rw [hpl] at hP
      have HP := hide hP
      clear hR7 hb7 hRw hP HR HB Hro hcell
      go_wp2
      go_roundg (ls.length - (i + 1))
      case measure => have := unhide Hgk; omega
      case rel =>
        refine ⟨i + 1, _, by go_num, rfl, by omega, ?_, HP, below_set (unhide HB7) (Nat.le_refl _) _ _⟩
        show _ = _
        rw [List.map_append, unhide Hps, unhide Hnx]
        rfl
    · obtain rfl : i = ls.length := by omega
      have hRw := unhide HR
      rw [show ls.length + 2 - ls.length = 2 by omega] at hRw
      have hR2 : RoomA wr W.heap.size ps [.slice none 0 0, .slice none 0 0] := hRw
      clear hRw
      obtain ⟨w1, hw1⟩ : ∃ w1, w1 = wr.alloc (.cells #[.int .u8 1] 5) := ⟨_, rfl⟩
      have b1 : Below wr.heap.size wr w1 := by rw [hw1]; exact (Below.refl _ _).alloc (Nat.le_refl _) _
      have h1 := hR2.up b1
      have c1 := h1.cell2 (i := 0) rfl
      have f1 := h1.frozen ls.length
      have h2 := h1.setT 0 (.slice (some ⟨wr.heap.size, 0, none⟩) 1 1)
      rw [Nat.add_zero, hpl] at c1 h2
      obtain ⟨w2, hw2⟩ : ∃ w2, w2 = w1.setCell ⟨W.heap.size, ls.length, none⟩ (.slice (some ⟨wr.heap.size, 0, none⟩) 1 1) := ⟨_, rfl⟩
      rw [← hw2] at h2
      obtain ⟨w3, hw3⟩ : ∃ w3, w3 = w2.alloc (.cells #[.int .u8 2] 5) := ⟨_, rfl⟩
      have b3 : Below w2.heap.size w2 w3 := by rw [hw3]; exact (Below.refl _ _).alloc (Nat.le_refl _) _
      have h3 := h2.up b3
      have c3 := h3.cell2 (i := 1) rfl
      have f3 := h3.frozen (ls.length + 1)
      have h4 := h3.setT 1 (.slice (some ⟨w2.heap.size, 0, none⟩) 1 1)
      rw [hpl] at c3 h4
      have hs1 : w1.heap.size = wr.heap.size + 1 := by rw [hw1, World.size_alloc]
      have hs2 : w2.heap.size = wr.heap.size + 1 := by rw [hw2, World.size_setCell, hs1]
      have hgw := hR2.lt
      have B1 : Below W.heap.size W w2 := by rw [hw2]; exact below_set ((unhide HB).trans (b1.mono (unhide HB).size)) (Nat.le_refl _) _ _
      have B3 : Below W.heap.size W w3 := B1.trans (b3.mono B1.size)
      have o1 : HasB (w3.setCell ⟨W.heap.size, ls.length + 1, none⟩ (.slice (some ⟨w2.heap.size, 0, none⟩) 1 1)) (.slice (some ⟨wr.heap.size, 0, none⟩) 1 1) [1] := by
        refine hasB_lit (l := [1]) (t := 5) (fr := (0, 0)) ?_ 1 1 rfl (by decide)
        rw [heap_setCell_other _ _ _ _ (by show wr.heap.size ≠ W.heap.size; omega), b3.block _ (by omega), hw2, heap_setCell_other _ _ _ _ (by show wr.heap.size ≠ W.heap.size; omega), hw1]
        exact heap_new _ _
      have o2 : HasB (w3.setCell ⟨W.heap.size, ls.length + 1, none⟩ (.slice (some ⟨w2.heap.size, 0, none⟩) 1 1)) (.slice (some ⟨w2.heap.size, 0, none⟩) 1 1) [2] := by
        refine hasB_lit (l := [2]) (t := 5) (fr := (0, 0)) ?_ 1 1 rfl (by decide)
        rw [heap_setCell_other _ _ _ _ (by show w2.heap.size ≠ W.heap.size; omega), hw3]
        exact heap_new _ _
      have HE := hide (And.intro h4 (And.intro o1 o2))
      have HB4 : Hid (Below W.heap.size W (w3.setCell ⟨W.heap.size, ls.length + 1, none⟩ (.slice (some ⟨w2.heap.size, 0, none⟩) 1 1))) := below_set B3 (Nat.le_refl _) _ _
      have HpsF : Hid (ps.map Prod.snd = ls) := by show _ = _; have := unhide Hps; rwa [List.take_length] at this
      have n0 : (0 : Int) ≤ (ls.length : Int) := Int.natCast_nonneg _
      have n1 : (ls.length : Int) < ((ls.length + 2 : Nat) : Int) := by omega
      obtain ⟨M, hM⟩ : ∃ M, M = ls.length + 1 := ⟨_, rfl⟩
      have eM : (ls.length : Int) + 1 = (M : Int) := by omega
      have m0 : (0 : Int) ≤ (M : Int) := Int.natCast_nonneg _
      have m1 : (M : Int) < ((ls.length + 2 : Nat) : Int) := by omega
      have m2 : (ls.length : Int) ≤ ((ls.length + 2 : Nat) : Int) := by omega
      rw [hw1, World.setCell_alloc_past _ _ _ _ hgw] at hw2
      have hgw2 : W.heap.size < (wr.setCell ⟨W.heap.size, ls.length, none⟩ (.slice (some ⟨wr.heap.size, 0, none⟩) 1 1)).heap.size := by rw [World.size_setCell]; exact hgw
      have hgw3 : W.heap.size < w2.heap.size := by omega
      have hw4 : w3.setCell ⟨W.heap.size, ls.length + 1, none⟩ (.slice (some ⟨w2.heap.size, 0, none⟩) 1 1) = (((wr.setCell ⟨W.heap.size, ls.length, none⟩ (.slice (some ⟨wr.heap.size, 0, none⟩) 1 1)).setCell ⟨W.heap.size, ls.length + 1, none⟩ (.slice (some ⟨wr.heap.size + 1, 0, none⟩) 1 1)).alloc (.cells #[.int .u8 1] 5)).alloc (.cells #[.int .u8 2] 5) := by
        rw [hw3, World.setCell_alloc_past _ _ _ _ hgw3, hs2, hw2, World.setCell_alloc_past _ _ _ _ hgw2]
      rw [hw4, hs2] at HE
      rw [hw4] at HB4
      rw [← hM] at c3 f3 HE HB4
      rw [hw1] at c1 f1
      rw [hw3, hw2] at c3 f3
      have c0 := hR2.cell2 (i := 0) rfl
      have f0 := hR2.frozen ls.length
      rw [Nat.add_zero, hpl] at c0
      have HM := hide hM
      clear h1 h2 h3 h4 o1 o2 B1 B3 b1 b3 hR2 HR HB hs1 hs2 hM hw1 hw2 hw3 hw4 hgw2 hgw3
      go_wp2
      go_ret
      exact ⟨rfl, unhide HB4, ps, _, _, unhide HpsF, unhide HE⟩
end Go.Proofs.YtoojchjfmnbdpabDoor
