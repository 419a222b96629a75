import Derived.Test.YtlblllghgdfpoaaDoorJ01
import Derived.Test.YtlblllghgdfpoaaDoorJ18
import Derived.Test.YtlblllghgdfpoaaDoorDFx
import Derived.Test.YtlblllghgdfpoaaDoorJ21
import Derived.Test.YtlblllghgdfpoaaDoorDTe

namespace Go.Proofs.YtlblllghgdfpoaaDoor
open Go.RowKit
attribute [local go_sem ↓] Go.wp_at_zero Go.wp_at_succ

theorem made_rowB {W : World} {base g n : Nat} (h : W.ownsRow base 29 1 (.slice (some ⟨g, 0, none⟩) n n) n (madeCells (Value.cells (.slice none 0 0)) (n * 1)).toList) : W.heap[g]? = some (.cells (List.replicate n (.slice none 0 0)).toArray 29 (0, 0)) := by
  obtain ⟨_, ⟨h0, _⟩ | ⟨g', c, cur, e, _, hg, _, _, hs, ht⟩⟩ := h
  · simp at h0
  · simp only [Value.slice.injEq, Option.some.injEq, Addr.mk.injEq] at e
    obtain ⟨⟨rfl, _⟩, _, rfl⟩ := e
    rw [hg]
    have e1 : (madeCells (Value.cells (.slice none 0 0)) (n * 1)).toList = List.replicate n (.slice none 0 0) := by
      rw [show Value.cells (.slice none 0 0) = #[.slice none 0 0] from rfl, toList_madeCells_one]
      simp
    rw [e1, List.take_of_length_le (by simp; omega)] at ht
    rw [← ht]
theorem set_rowV {W : World} {g i : Nat} {l : List Value} {t : TypeId} (h : W.heap[g]? = some (.cells l.toArray t (0, 0))) (b : Value) : (W.setCell ⟨g, i, none⟩ b).heap[g]? = some (.cells (l.set i b).toArray t (0, 0)) := by
  rw [heap_setCell_same _ g i _ t _ h]
  congr 2
  simp
theorem Room.set {W : World} {g k i : Nat} {l : List Nat} {v : Value} (h : Room W k l) (hk : k ≠ g) : Room (W.setCell ⟨g, i, none⟩ v) k l := (heap_setCell_other W ⟨g, i, none⟩ k v (by simpa using hk)).trans h
theorem RoomA.push {W w : World} {g : Nat} {ps : List (Nat × List Nat)} {t : List Value} {z : Value} {l : List Nat} (h : RoomA W g ps (z :: t)) (hb : Below W.heap.size W w) (hr : Room w W.heap.size l) : RoomA (w.setCell ⟨g, ps.length, none⟩ (slP (W.heap.size, l))) g (ps ++ [(W.heap.size, l)]) t := by
  have hg := h.lt
  refine ⟨?_, fun p hp => ?_, ?_, fun p hp => ?_⟩
  · rw [set_rowV ((hb.block g hg).trans h.row)]
    congr 3
    rw [List.set_append, if_neg (by rw [List.length_map]; omega), List.length_map, Nat.sub_self]
    simp
  · rcases List.mem_append.1 hp with hp | hp
    · exact ((h.each p hp).up hb).set (by have := h.off p hp; omega)
    · obtain rfl := List.mem_singleton.1 hp
      exact hr.set (by show W.heap.size ≠ g; omega)
  · rw [List.map_append, List.nodup_append]
    refine ⟨h.nodup, by simp, fun a ha b hb' => ?_⟩
    obtain ⟨p, hp, rfl⟩ := List.mem_map.1 ha
    have := (h.each p hp).lt
    simp at hb'
    omega
  · rcases List.mem_append.1 hp with hp | hp
    · exact h.off p hp
    · obtain rfl := List.mem_singleton.1 hp
      exact hg
theorem RoomA.setT {W : World} {g : Nat} {ps : List (Nat × List Nat)} {t : List Value} (h : RoomA W g ps t) (i : Nat) (v : Value) : RoomA (W.setCell ⟨g, ps.length + i, none⟩ v) g ps (t.set i v) := by
  refine ⟨?_, fun p hp => (h.each p hp).set (by have := h.off p hp; omega), h.nodup, h.off⟩
  rw [set_rowV h.row]
  congr 3
  rw [List.set_append, if_neg (by rw [List.length_map]; omega), List.length_map, Nat.add_sub_cancel_left]
theorem RoomA.frozen {W : World} {g : Nat} {ps : List (Nat × List Nat)} {t : List Value} (h : RoomA W g ps t) (i : Nat) : W.frozen? ⟨g, i, none⟩ = false := row_frozen i h.row

end Go.Proofs.YtlblllghgdfpoaaDoor

namespace Go.Proofs.YtlblllghgdfpoaaDoor
open Go.RowKit
attribute [local go_sem ↓] Go.wp_at_zero Go.wp_at_succ

theorem hasB_one1 (W : World) (x : Nat) : HasB (W.alloc (.cells #[.int .u8 (x : Int)] 5)) (.slice (some ⟨W.heap.size, 0, none⟩) 1 1) [x] :=
  hasB_lit (l := [x]) (t := 5) (fr := (0, 0)) (heap_new _ _) 1 1 rfl (by decide)
end Go.Proofs.YtlblllghgdfpoaaDoor

namespace Go.Proofs.YtlblllghgdfpoaaDoor
open Go.RowKit
attribute [local go_sem ↓] Go.wp_at_zero Go.wp_at_succ

def flipP (p : Nat × List Nat) : Nat × List Nat := (p.1, flip p.2)
theorem slP_flip (p : Nat × List Nat) : slP (flipP p) = slP p := by unfold slP flipP; simp only [flip_len]
/-- The first i and the last i have changed their places. -/
def Swapped (i : Nat) (ps qs : List (Nat × List Nat)) : Prop := qs.length = ps.length ∧ ∀ j < ps.length, qs[j]? = if j < i ∨ ps.length - i ≤ j then ps[ps.length - 1 - j]? else ps[j]?
theorem swapped_zero (ps : List (Nat × List Nat)) : Swapped 0 ps ps := ⟨rfl, fun j hj => by rw [if_neg (by omega)]⟩
theorem Swapped.step {i : Nat} {ps qs : List (Nat × List Nat)} {a b : Nat × List Nat} (h : Swapped i ps qs) (hi : i < ps.length / 2) (ha : qs[i]? = some a) (hb : qs[ps.length - 1 - i]? = some b) : Swapped (i + 1) ps ((qs.set i b).set (ps.length - 1 - i) a) := by
  obtain ⟨h1, h2⟩ := h
  refine ⟨by simp [h1], fun j hj => ?_⟩
  rw [List.getElem?_set, List.getElem?_set]
  have e1 := h2 i (by omega)
  have e2 := h2 (ps.length - 1 - i) (by omega)
  rw [if_neg (by omega)] at e1 e2
  simp only [List.length_set, h1]
  by_cases c1 : ps.length - 1 - i = j
  · rw [if_pos c1, if_pos (by omega), if_pos (by omega), ← ha, e1]
    congr 1
    omega
  · rw [if_neg c1]
    by_cases c2 : i = j
    · rw [if_pos c2, if_pos (by omega), if_pos (by omega), ← hb, e2, c2]
    · rw [if_neg c2, h2 j hj]
      by_cases c3 : j < i ∨ ps.length - i ≤ j
      · rw [if_pos c3, if_pos (by omega)]
      · rw [if_neg c3, if_neg (by omega)]
theorem Swapped.done {i : Nat} {ps qs : List (Nat × List Nat)} (h : Swapped i ps qs) (hi : i = ps.length / 2) : qs = ps.reverse := by
  obtain ⟨h1, h2⟩ := h
  apply List.ext_getElem?
  intro j
  by_cases hj : j < ps.length
  · rw [h2 j hj, List.getElem?_reverse hj]
    split
    · rfl
    · congr 1
      omega
  · rw [List.getElem?_eq_none (by omega), List.getElem?_eq_none (by rw [List.length_reverse]; omega)]
theorem RoomA.reverse {W w : World} {g : Nat} {ps : List (Nat × List Nat)} {t : List Value} (h : RoomA W g ps t) (hb : But g W w) (hr : w.heap[g]? = some (.cells (ps.reverse.map slP ++ t).toArray 29 (0, 0))) : RoomA w g ps.reverse t :=
  ⟨hr, fun p hp => (h.each p (List.mem_reverse.1 hp)).but hb (by have := h.off p (List.mem_reverse.1 hp); omega), by rw [List.map_reverse]; exact (List.reverse_perm _).symm.nodup h.nodup, fun p hp => h.off p (List.mem_reverse.1 hp)⟩
theorem RoomA.flip {W w : World} {g : Nat} {xs ys : List (Nat × List Nat)} {p : Nat × List Nat} {t : List Value} (h : RoomA W g (xs ++ p :: ys) t) (hb : But p.1 W w) (hr : Room w p.1 (flip p.2)) : RoomA w g (xs ++ flipP p :: ys) t := by
  have hpm : p ∈ xs ++ p :: ys := by simp
  have hnd := h.nodup
  rw [List.map_append, List.map_cons, List.nodup_append] at hnd
  obtain ⟨n1, n2, n3⟩ := hnd
  obtain ⟨n4, n5⟩ := List.nodup_cons.1 n2
  have hmap : (xs ++ flipP p :: ys).map Prod.fst = (xs ++ p :: ys).map Prod.fst := by simp [flipP]
  have hsl : (xs ++ flipP p :: ys).map slP = (xs ++ p :: ys).map slP := by simp [slP_flip]
  refine ⟨?_, fun q hq => ?_, by rw [hmap]; exact h.nodup, fun q hq => ?_⟩
  · rw [hsl]
    exact (hb.far g h.lt (by have := h.off p hpm; omega)).trans h.row
  · rcases List.mem_append.1 hq with hq | hq
    · refine (h.each q (List.mem_append_left _ hq)).but hb fun e => ?_
      exact n3 q.1 (List.mem_map_of_mem hq) p.1 (by simp) e
    · rcases List.mem_cons.1 hq with rfl | hq
      · exact hr
      · refine (h.each q (List.mem_append_right _ (List.mem_cons_of_mem _ hq))).but hb fun e => ?_
        exact n4 (by rw [← e]; exact List.mem_map_of_mem hq)
  · rcases List.mem_append.1 hq with hq | hq
    · exact h.off q (List.mem_append_left _ hq)
    · rcases List.mem_cons.1 hq with rfl | hq
      · exact h.off p hpm
      · exact h.off q (List.mem_append_right _ (List.mem_cons_of_mem _ hq))
theorem RoomA.but {W w : World} {g x : Nat} {ps : List (Nat × List Nat)} {t : List Value} (h : RoomA W g ps t) (hb : But x W w) (hg : g < x) (hp : ∀ p ∈ ps, p.1 < x) : RoomA w g ps t :=
  ⟨(hb.far g h.lt (by omega)).trans h.row, fun p hq => (h.each p hq).but hb (by have := hp p hq; omega), h.nodup, h.off⟩
theorem Bytes.slc {base : Nat} {W : World} {v : Value} {l : List Nat} (h : Bytes base W v l) : ∃ a c, v = .slice a l.length c := by
  obtain ⟨a, c, e, _⟩ := h.has
  exact ⟨a, c, e⟩
theorem row_cellV {W : World} {g i : Nat} {l : List Value} {t : TypeId} {fr : Nat × Nat} (h : W.heap[g]? = some (.cells l.toArray t fr)) {b : Value} (hb : l[i]? = some b) : W.cell? ⟨g, i, none⟩ = some b := by
  rw [cell_of_row _ _ _ _ _ _ h, List.getElem?_toArray, hb]
end Go.Proofs.YtlblllghgdfpoaaDoor

namespace Go.Proofs.YtlblllghgdfpoaaDoor
open Go.RowKit
attribute [local go_sem ↓] Go.wp_at_zero Go.wp_at_succ

theorem xframe_all {W : World} {v : Value} {ls : List (List Nat)} (h : HasBB W v ls) (hn : ls.length ≤ 65536 → fsize ls ≤ 9223372036854775000) :
    Calls Tryd.prog 39 #[v] W fun e W' => ∃ v' n c, e = .returned (.tuple #[v', .int .i64 (frameA ls).1]) ∧ HasB W' v' (frameA ls).2 ∧ v' = .slice n (frameA ls).2.length c ∧ Below W.heap.size W W' := by
  refine (xframe_any h hn).mono fun e W' ⟨v', z, he, hb, hor⟩ => ?_
  unfold frameA
  rcases hor with ⟨hok, rfl, hB⟩ | ⟨hno, rfl, rfl⟩
  · rw [if_pos hok]
    obtain ⟨a, c, hv, _⟩ := id hB.has
    exact ⟨v', a, c, he, hB.has, hv, hb⟩
  · rw [if_neg (by omega)]
    exact ⟨_, none, 0, he, hasB_nil _, rfl, hb⟩
theorem fsize_flip (ps : List (Nat × List Nat)) : fsize ((ps.reverse.map flipP).map Prod.snd) = fsize (ps.map Prod.snd) := by
  unfold fsize
  rw [List.map_map, List.map_map, List.map_map, List.map_reverse]
  have : (((fun l : List Nat => 4 + l.length) ∘ Prod.snd) ∘ flipP) = ((fun l : List Nat => 4 + l.length) ∘ Prod.snd : Nat × List Nat → Nat) := by
    funext p
    simp [flipP, flip_len]
  rw [this, List.sum_reverse]
def lit9 : List Nat := [1, 0, 0, 0, 1, 0, 0, 0, 7]
end Go.Proofs.YtlblllghgdfpoaaDoor

namespace Go.Proofs.YtlblllghgdfpoaaDoor
open Go.RowKit
attribute [local go_sem ↓] Go.wp_at_zero Go.wp_at_succ

/-- What Root tells. -/
def rootA (ls : List (List Nat)) : Int × List Nat := if 65536 < ls.length then (2, []) else (0, rootF 65536 ls)
/-- What Prove tells. -/
def proveA (ls : List (List Nat)) (z : Int) : Int × List (List Nat) := if 65536 < ls.length then (2, []) else if z < 0 ∨ (ls.length : Int) ≤ z then (32, []) else (0, wayF 65536 ls z.toNat)
theorem rootA_byt (ls : List (List Nat)) : Byt (rootA ls).2 := by
  unfold rootA
  split
  · intro x hx; cases hx
  · exact rootF_byt _ _
theorem proveA_byt (ls : List (List Nat)) (z : Int) : ∀ l ∈ (proveA ls z).2, Byt l := by
  unfold proveA
  split
  · intro l hl; cases hl
  · split
    · intro l hl; cases hl
    · intro l hl; exact (wayF_byt _ _ _ l hl).1
set_option maxRecDepth 100000 in
theorem root_own {W : World} (hK : HasK W) (hS : HasS W) {v : Value} {ls : List (List Nat)} (h : HasBB W v ls) (hb : ∀ l ∈ ls, Byt l ∧ l.length ≤ 140737488351232) :
    Calls Tryd.prog 10 #[v] W fun e W' => ∃ v', e = .returned (.tuple #[v', .int .i64 (rootA ls).1]) ∧ (Bytes W.heap.size W' v' (rootA ls).2 ∧ ∃ n c, v' = .slice n (rootA ls).2.length c) ∧ Below W.heap.size W W' := by
  unfold rootA
  by_cases hn : 65536 < ls.length
  · rw [if_pos hn]
    obtain ⟨va, vc, rfl, _, _⟩ := h
    have q0 : decide (65536 < (ls.length : Int)) = true := decide_eq_true (by omega)
    go_enter Tryd.func10, Tryd.ntmps10
    go_wp2
    go_ret2
    exact ⟨_, rfl, ⟨bytes_nil _ _, _, _, rfl⟩, Below.refl _ _⟩
  · rw [if_neg hn]
    have hr := rootOver_any 65536 hK hS h hb (by omega) (by omega)
    have Hr := hide hr
    obtain ⟨va, vc, rfl, _, _⟩ := h
    have q0 : decide (65536 < (ls.length : Int)) = false := decide_eq_false (by omega)
    clear hr
    go_enter Tryd.func10, Tryd.ntmps10
    go_wp2_with fail
    refine (unhide Hr).mono ?_
    rintro e w2 ⟨v2, rfl, hB2, hb2⟩
    obtain ⟨x, y, hv⟩ : ∃ x y, v2 = .slice x (rootF 65536 ls).length y := by obtain ⟨x, y, e, _⟩ := id hB2.has; exact ⟨_, _, e⟩
    subst hv
    have HB := hide hB2
    have Hb := hide hb2
    clear hB2 hb2 Hr
    go_wp2
    go_ret2
    exact ⟨_, rfl, ⟨unhide HB, _, _, rfl⟩, unhide Hb⟩
theorem root_any {W : World} (hK : HasK W) (hS : HasS W) {v : Value} {ls : List (List Nat)} (h : HasBB W v ls) (hb : ∀ l ∈ ls, Byt l ∧ l.length ≤ 140737488351232) :
    Calls Tryd.prog 10 #[v] W fun e W' => ∃ v', e = .returned (.tuple #[v', .int .i64 (rootA ls).1]) ∧ (HasB W' v' (rootA ls).2 ∧ ∃ n c, v' = .slice n (rootA ls).2.length c) ∧ Below W.heap.size W W' := (root_own hK hS h hb).mono fun _ _ ⟨v, h1, ⟨h2, h3⟩, h4⟩ => ⟨v, h1, ⟨h2.has, h3⟩, h4⟩
set_option maxRecDepth 100000 in
theorem xroot_any {W : World} (hX : HasX W) {v : Value} {ls : List (List Nat)} (h : HasBB W v ls) (hb : ∀ l ∈ ls, Byt l ∧ l.length ≤ 140737488351232) :
    Calls Tryd.prog 41 #[v] W fun e W' => ∃ v', e = .returned (.tuple #[v', .int .i64 (rootA ls).1]) ∧ (HasB W' v' (rootA ls).2 ∧ ∃ n c, v' = .slice n (rootA ls).2.length c) ∧ Below W.heap.size W W' := by
  unfold rootA
  by_cases hn : 65536 < ls.length
  · rw [if_pos hn]
    obtain ⟨va, vc, rfl, _, _⟩ := h
    have q0 : decide (65536 < (ls.length : Int)) = true := decide_eq_true (by omega)
    go_enter Tryd.func41, Tryd.ntmps41
    go_wp2
    go_ret2
    exact ⟨_, rfl, ⟨hasB_nil _, _, _, rfl⟩, Below.refl _ _⟩
  · rw [if_neg hn]
    have hr := xover_any 65536 hX h hb (by omega) (by omega)
    have Hr := hide hr
    obtain ⟨va, vc, rfl, _, _⟩ := h
    have q0 : decide (65536 < (ls.length : Int)) = false := decide_eq_false (by omega)
    clear hr
    go_enter Tryd.func41, Tryd.ntmps41
    go_wp2_with fail
    refine (unhide Hr).mono ?_
    rintro e w2 ⟨v2, rfl, hB2, hb2⟩
    obtain ⟨x, y, hv⟩ : ∃ x y, v2 = .slice x (rootF 65536 ls).length y := by obtain ⟨x, y, e, _⟩ := id hB2.has; exact ⟨_, _, e⟩
    subst hv
    have HB := hide hB2.has
    have Hb := hide hb2
    clear hB2 hb2 Hr
    go_wp2
    go_ret2
    exact ⟨_, rfl, ⟨unhide HB, _, _, rfl⟩, unhide Hb⟩
set_option maxRecDepth 100000 in
theorem prove_any {W : World} (hK : HasK W) (hS : HasS W) {v : Value} {ls : List (List Nat)} {z : Int} (h : HasBB W v ls) (hb : ∀ l ∈ ls, Byt l ∧ l.length ≤ 140737488351232) :
    Calls Tryd.prog 16 #[v, .int .i64 z] W fun e W' => ∃ v', e = .returned (.tuple #[v', .int .i64 (proveA ls z).1]) ∧ (HasBB W' v' (proveA ls z).2 ∧ ∃ n m c, v' = .slice n m c) ∧ Below W.heap.size W W' := by
  unfold proveA
  by_cases hn : 65536 < ls.length
  · rw [if_pos hn]
    obtain ⟨va, vc, rfl, _, _⟩ := h
    have q0 : decide (65536 < (ls.length : Int)) = true := decide_eq_true (by omega)
    go_enter Tryd.func16, Tryd.ntmps16
    go_wp2
    go_ret2
    exact ⟨_, rfl, ⟨hasBB_nil _, _, _, _, rfl⟩, Below.refl _ _⟩
  · rw [if_neg hn]
    have q0 : decide (65536 < (ls.length : Int)) = false := decide_eq_false (by omega)
    by_cases hz : z < 0
    · rw [if_pos (.inl hz)]
      obtain ⟨va, vc, rfl, _, _⟩ := h
      have q1 : decide (z < 0) = true := decide_eq_true hz
      go_enter Tryd.func16, Tryd.ntmps16
      go_wp2
      go_ret2
      exact ⟨_, rfl, ⟨hasBB_nil _, _, _, _, rfl⟩, Below.refl _ _⟩
    · have q1 : decide (z < 0) = false := decide_eq_false hz
      by_cases hz2 : (ls.length : Int) ≤ z
      · rw [if_pos (.inr hz2)]
        obtain ⟨va, vc, rfl, _, _⟩ := h
        have q2 : decide ((ls.length : Int) ≤ z) = true := decide_eq_true hz2
        go_enter Tryd.func16, Tryd.ntmps16
        go_wp2
        go_ret2
        exact ⟨_, rfl, ⟨hasBB_nil _, _, _, _, rfl⟩, Below.refl _ _⟩
      · rw [if_neg (by omega)]
        have q2 : decide ((ls.length : Int) ≤ z) = false := decide_eq_false hz2
        obtain ⟨at', hat⟩ : ∃ at' : Nat, z = (at' : Int) := ⟨z.toNat, by omega⟩
        subst hat
        rw [Int.toNat_natCast]
        have hr := wayOf_any 65536 (at' := at') hK hS h hb (by omega) (by omega) (by omega) (by omega) (by omega)
        have Hr := hide hr
        obtain ⟨va, vc, rfl, _, _⟩ := h
        clear hr
        go_enter Tryd.func16, Tryd.ntmps16
        go_wp2_with fail
        refine (unhide Hr).mono ?_
        rintro e w2 ⟨v2, rfl, ⟨us2, hO2⟩, hb2⟩
        obtain ⟨x, y, c, hv⟩ : ∃ x y z, v2 = .slice x y z := by obtain ⟨x, y, e, _⟩ := id hO2.has; exact ⟨_, _, _, e⟩
        subst hv
        have HB := hide hO2.has
        have Hb := hide hb2
        clear hO2 hb2 Hr
        go_wp2
        go_ret2
        exact ⟨_, rfl, ⟨unhide HB, _, _, _, rfl⟩, unhide Hb⟩
set_option maxRecDepth 100000 in
theorem xprove_any {W : World} (hX : HasX W) {v : Value} {ls : List (List Nat)} {z : Int} (h : HasBB W v ls) (hb : ∀ l ∈ ls, Byt l ∧ l.length ≤ 140737488351232) :
    Calls Tryd.prog 44 #[v, .int .i64 z] W fun e W' => ∃ v', e = .returned (.tuple #[v', .int .i64 (proveA ls z).1]) ∧ (HasBB W' v' (proveA ls z).2 ∧ ∃ n m c, v' = .slice n m c) ∧ Below W.heap.size W W' := by
  unfold proveA
  by_cases hn : 65536 < ls.length
  · rw [if_pos hn]
    obtain ⟨va, vc, rfl, _, _⟩ := h
    have q0 : decide (65536 < (ls.length : Int)) = true := decide_eq_true (by omega)
    go_enter Tryd.func44, Tryd.ntmps44
    go_wp2
    go_ret2
    exact ⟨_, rfl, ⟨hasBB_nil _, _, _, _, rfl⟩, Below.refl _ _⟩
  · rw [if_neg hn]
    have q0 : decide (65536 < (ls.length : Int)) = false := decide_eq_false (by omega)
    by_cases hz : z < 0
    · rw [if_pos (.inl hz)]
      obtain ⟨va, vc, rfl, _, _⟩ := h
      have q1 : decide (z < 0) = true := decide_eq_true hz
      go_enter Tryd.func44, Tryd.ntmps44
      go_wp2
      go_ret2
      exact ⟨_, rfl, ⟨hasBB_nil _, _, _, _, rfl⟩, Below.refl _ _⟩
    · have q1 : decide (z < 0) = false := decide_eq_false hz
      by_cases hz2 : (ls.length : Int) ≤ z
      · rw [if_pos (.inr hz2)]
        obtain ⟨va, vc, rfl, _, _⟩ := h
        have q2 : decide ((ls.length : Int) ≤ z) = true := decide_eq_true hz2
        go_enter Tryd.func44, Tryd.ntmps44
        go_wp2
        go_ret2
        exact ⟨_, rfl, ⟨hasBB_nil _, _, _, _, rfl⟩, Below.refl _ _⟩
      · rw [if_neg (by omega)]
        have q2 : decide ((ls.length : Int) ≤ z) = false := decide_eq_false hz2
        obtain ⟨at', hat⟩ : ∃ at' : Nat, z = (at' : Int) := ⟨z.toNat, by omega⟩
        subst hat
        rw [Int.toNat_natCast]
        have hr := xway_any 65536 (at' := at') hX h hb (by omega) (by omega) (by omega) (by omega)
        have Hr := hide hr
        obtain ⟨va, vc, rfl, _, _⟩ := h
        clear hr
        go_enter Tryd.func44, Tryd.ntmps44
        go_wp2_with fail
        refine (unhide Hr).mono ?_
        rintro e w2 ⟨v2, rfl, ⟨us2, hO2⟩, hb2⟩
        obtain ⟨x, y, c, hv⟩ : ∃ x y z, v2 = .slice x y z := by obtain ⟨x, y, e, _⟩ := id hO2.has; exact ⟨_, _, _, e⟩
        subst hv
        have HB := hide hO2.has
        have Hb := hide hb2
        clear hO2 hb2 Hr
        go_wp2
        go_ret2
        exact ⟨_, rfl, ⟨unhide HB, _, _, _, rfl⟩, unhide Hb⟩
end Go.Proofs.YtlblllghgdfpoaaDoor

namespace Go.Proofs.YtlblllghgdfpoaaDoor
open Go.RowKit
attribute [local go_sem ↓] Go.wp_at_zero Go.wp_at_succ

/-- How many digests a way has. -/
def stepsF : Nat → Nat → Nat → Nat
  | 0, _, _ => 0
  | f + 1, a, c => if c < 2 then 0 else if a < cutN c then 1 + stepsF f a (cutN c) else 1 + stepsF f (a - cutN c) (c - cutN c)
theorem stepsF_le : ∀ (f a c : Nat), stepsF f a c ≤ f
  | 0, _, _ => Nat.le_refl _
  | f + 1, a, c => by
    unfold stepsF
    split
    · omega
    · split
      · have := stepsF_le f a (cutN c); omega
      · have := stepsF_le f (a - cutN c) (c - cutN c); omega
set_option maxRecDepth 100000 in
theorem areDigests_any {W : World} {v : Value} {ls : List (List Nat)} (h : HasBB W v ls) :
    Calls Tryd.prog 34 #[v] W fun e W' => e = .returned (.bool (decide (∀ l ∈ ls, l.length = 32))) ∧ W' = W := by
  obtain ⟨va, vc, rfl, hm, h3⟩ := h
  have hvc : vc ≤ 9223372036854775807 := by have := hm.2.1; unfold maxLen at this; omega
  have hvc2 := hm.1
  have H3 := hide h3
  obtain ⟨D, hD⟩ : ∃ D, decide (∀ l ∈ ls, l.length = 32) = D := ⟨_, rfl⟩
  rw [hD]
  have HD := hide hD
  clear h3 hm hD
  go_enter Tryd.func34, Tryd.ntmps34
  go_wp2
  go_loopg [7] ls.length (fun gk v7 wr => ∃ (i : Nat), v7 = .int .i64 (i : Int) ∧ gk = ls.length - i ∧ i ≤ ls.length ∧ Hid (∀ l ∈ ls.take i, l.length = 32) ∧ wr = W)
  case atStart => exact ⟨0, rfl, rfl, by omega, fun l hl => by simp at hl, rfl⟩
  case round =>
    obtain ⟨i, rfl, hgk, hk, Hall, hwr⟩ := hrel
    obtain rfl : W = wr := hwr.symm
    have Hgk := hide hgk
    clear hgk hwr
    by_cases hlt : i < ls.length
    · obtain ⟨g, off, rfl, hg, hc⟩ := unhide H3 (by omega)
      obtain ⟨l, hl⟩ : ∃ x, ls[i]? = some x := ⟨_, List.getElem?_eq_getElem hlt⟩
      obtain ⟨u, hu, hBu⟩ := hc i l hl
      obtain ⟨ua, uc, rfl, hum, _⟩ := hBu
      have i0' : (0 : Int) ≤ (i : Int) := Int.natCast_nonneg _
      have i1' : (i : Int) < (ls.length : Int) := by omega
      have Hl := hide hl
      clear hc hl hum
      by_cases h32 : l.length = 32
      · have q1 : ((l.length : Int) != 32) = false := by rw [h32]; decide
        have H32 := hide h32
        clear h32
        go_wp2
        go_roundg (ls.length - (i + 1))
        case measure => have := unhide Hgk; omega
        case rel =>
          refine ⟨i + 1, by go_num, rfl, by omega, fun x hx => ?_, rfl⟩
          rw [List.take_add_one, unhide Hl] at hx
          rcases List.mem_append.1 hx with hx | hx
          · exact unhide Hall x hx
          · simp at hx; rw [hx]; exact unhide H32
      · have q1 : ((l.length : Int) != 32) = true := by simp; omega
        have eD : D = false := by
          rw [← unhide HD]
          exact decide_eq_false fun q => h32 (q l (List.mem_of_getElem? (unhide Hl)))
        subst eD
        clear h32
        go_wp2
        go_ret
        exact ⟨rfl, rfl⟩
    · obtain rfl : i = ls.length := by omega
      have eD : D = true := by
        rw [← unhide HD]
        have := unhide Hall
        rw [List.take_length] at this
        exact decide_eq_true this
      subst eD
      go_wp2
      go_ret
      exact ⟨rfl, rfl⟩
set_option maxRecDepth 100000 in
theorem wayLen_any {W : World} {a c : Nat} (hc : c ≤ 65536) (ha : a ≤ 65536) :
    Calls Tryd.prog 33 #[.int .i64 (a : Int), .int .i64 (c : Int)] W fun e W' => e = .returned (.int .i64 ((stepsF c a c : Nat) : Int)) ∧ W' = W := by
  obtain ⟨T, hT⟩ : ∃ T, stepsF c a c = T := ⟨_, rfl⟩
  have hTl := stepsF_le c a c
  rw [hT] at hTl ⊢
  have HT0 : Hid (0 + stepsF c a c = T) := by show _ = _; omega
  clear hT
  go_enter Tryd.func33, Tryd.ntmps33
  go_wp2
  go_loopg [0, 1, 5] c (fun gk v0 v1 v5 wr => ∃ (aa cc n : Nat), v0 = .int .i64 (aa : Int) ∧ v1 = .int .i64 (cc : Int) ∧ v5 = .int .i64 (n : Int) ∧ cc ≤ gk ∧ gk ≤ c ∧ aa ≤ 65536 ∧ n ≤ T ∧ Hid (n + stepsF gk aa cc = T) ∧ wr = W)
  case atStart => exact ⟨a, c, 0, rfl, rfl, rfl, Nat.le_refl _, Nat.le_refl _, ha, by omega, HT0, rfl⟩
  case round =>
    clear HT0
    obtain ⟨aa, cc, n, rfl, rfl, rfl, hcc, hgc, haa, hnT, HN, hwr⟩ := hrel
    obtain rfl : W = wr := hwr.symm
    clear hwr
    by_cases h2 : cc < 2
    · have q1 : decide (1 < (cc : Int)) = false := decide_eq_false (by omega)
      have eN : n = T := by
        have := unhide HN
        cases hg : gk with
        | zero => rw [hg, stepsF] at this; omega
        | succ gg => rw [hg, stepsF, if_pos h2] at this; omega
      subst eN
      go_wp2
      go_ret
      exact ⟨rfl, rfl⟩
    · have q1 : decide (1 < (cc : Int)) = true := decide_eq_true (by omega)
      have hcut := cut_any cc W (by omega) (by omega)
      obtain ⟨k, hk⟩ : ∃ k, cutN cc = k := ⟨_, rfl⟩
      have k0 : 0 < k := by rw [← hk]; exact cutN_pos _
      have k1 : k < cc := by rw [← hk]; exact cutN_lt (by omega)
      rw [hk] at hcut
      have Hcut := hide hcut
      obtain ⟨gg, hg⟩ : ∃ gg, gk = gg + 1 := ⟨gk - 1, by omega⟩
      subst hg
      have hN := unhide HN
      rw [stepsF, if_neg h2, hk] at hN
      have hnb : n ≤ 65536 := by omega
      clear hcut HN hk
      by_cases hlt : aa < k
      · have q2 : decide ((aa : Int) < (k : Int)) = true := decide_eq_true (by omega)
        rw [if_pos hlt] at hN
        have HN := hide hN
        clear hN
        go_wp2_with fail
        refine (unhide Hcut).mono ?_
        rintro e w' ⟨rfl, he⟩
        obtain rfl : W = w' := he.symm
        clear he
        go_wp2
        go_roundg gg
        case measure => omega
        case rel => exact ⟨aa, k, n + 1, rfl, rfl, by go_num, by omega, by omega, haa, by have := unhide HN; omega, by have := unhide HN; show _ = _; omega, rfl⟩
      · have q2 : decide ((aa : Int) < (k : Int)) = false := decide_eq_false (by omega)
        rw [if_neg hlt] at hN
        obtain ⟨a2, ha2⟩ : ∃ x, aa - k = x := ⟨_, rfl⟩
        obtain ⟨c2, hc2⟩ : ∃ x, cc - k = x := ⟨_, rfl⟩
        rw [ha2, hc2] at hN
        have ea : (aa : Int) - (k : Int) = (a2 : Int) := by omega
        have ec : (cc : Int) - (k : Int) = (c2 : Int) := by omega
        have hb1 : a2 ≤ 65536 := by omega
        have hb2 : c2 ≤ gg := by omega
        have HN := hide hN
        clear hN ha2 hc2
        go_wp2_with fail
        refine (unhide Hcut).mono ?_
        rintro e w' ⟨rfl, he⟩
        obtain rfl : W = w' := he.symm
        clear he
        go_wp2
        go_roundg gg
        case measure => omega
        case rel => exact ⟨a2, c2, n + 1, by go_num, by go_num, by go_num, hb2, by omega, hb1, by have := unhide HN; omega, by have := unhide HN; show _ = _; omega, rfl⟩
end Go.Proofs.YtlblllghgdfpoaaDoor

namespace Go.Proofs.YtlblllghgdfpoaaDoor
open Go.RowKit
attribute [local go_sem ↓] Go.wp_at_zero Go.wp_at_succ

/-- To which root a leaf comes. -/
def comeF : Nat → List Nat → Nat → Nat → List (List Nat) → List Nat
  | 0, leaf, _, _, _ => sha (0 :: leaf)
  | f + 1, leaf, a, c, pf => if c < 2 then sha (0 :: leaf) else if a < cutN c then sha (1 :: (comeF f leaf a (cutN c) (pf.take (pf.length - 1)) ++ pf.getD (pf.length - 1) [])) else sha (1 :: (pf.getD (pf.length - 1) [] ++ comeF f leaf (a - cutN c) (c - cutN c) (pf.take (pf.length - 1))))
theorem comeF_byt (f : Nat) (leaf : List Nat) (a c : Nat) (pf : List (List Nat)) : Byt (comeF f leaf a c pf) := by
  cases f with
  | zero => exact sha_byt _
  | succ f => unfold comeF; split; · exact sha_byt _
              split <;> exact sha_byt _
theorem comeF_len (f : Nat) (leaf : List Nat) (a c : Nat) (pf : List (List Nat)) : (comeF f leaf a c pf).length = 32 := by
  cases f with
  | zero => exact sha_len _
  | succ f => unfold comeF; split; · exact sha_len _
              split <;> exact sha_len _
end Go.Proofs.YtlblllghgdfpoaaDoor
