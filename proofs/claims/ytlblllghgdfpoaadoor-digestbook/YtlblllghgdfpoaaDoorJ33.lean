import Derived.Test.YtlblllghgdfpoaaDoorJ32
import Derived.Test.YtlblllghgdfpoaaDoorJ32
import Derived.Test.YtlblllghgdfpoaaDoorJ32
import Derived.Test.YtlblllghgdfpoaaDoorJ17

namespace Go.Proofs.YtlblllghgdfpoaaDoor
open Go.RowKit
attribute [local go_sem ↓] Go.wp_at_zero Go.wp_at_succ

theorem proveA_in {ks : List (List Nat)} {i : Nat} (hi : i < ks.length) (hn : ks.length ≤ 65536) : proveA ks (i : Int) = (0, wayF 65536 ks i) := by
  unfold proveA
  rw [if_neg (by omega), if_neg (by omega), Int.toNat_natCast]
theorem proveA_end (ks : List (List Nat)) (hn : ks.length ≤ 65536) : proveA ks (ks.length : Int) = (32, []) := by
  unfold proveA
  rw [if_neg (by omega), if_pos (by omega)]
theorem rootA_in {ks : List (List Nat)} (hn : ks.length ≤ 65536) : rootA ks = (0, rootF 65536 ks) := by
  unfold rootA
  rw [if_neg (by omega)]
theorem rebuildA_way {ks : List (List Nat)} {i : Nat} {leaf : List Nat} (hi : ks[i]? = some leaf) (hn : ks.length ≤ 65536) : rebuildA leaf (i : Int) (ks.length : Int) (wayF 65536 ks i) = (0, rootF 65536 ks) := by
  have hil := (List.getElem?_eq_some_iff.1 hi).1
  unfold rebuildA
  rw [if_neg (by omega)]
  simp only [Int.toNat_natCast]
  rw [if_neg (by
    rintro (q | q)
    · exact q (way_steps 65536 ks.length ks i hn (Nat.le_refl _))
    · exact q (fun l hl => (wayF_byt _ _ _ l hl).2)), come_way 65536 ks.length ks i leaf hn (Nat.le_refl _) hi]
end Go.Proofs.YtlblllghgdfpoaaDoor

namespace Go.Proofs.YtlblllghgdfpoaaDoor
open Go.RowKit
attribute [local go_sem ↓] Go.wp_at_zero Go.wp_at_succ

set_option maxRecDepth 100000 in
/-- Prove of a leaf that there is: lists of its own in a row of its own. -/
theorem prove_ba {W : World} (hK : HasK W) (hS : HasS W) {v : Value} {ls : List (List Nat)} {at' : Nat} (h : HasBB W v ls) (hb : ∀ l ∈ ls, Byt l ∧ l.length ≤ 140737488351232) (ha : at' < ls.length) (hn : ls.length ≤ 65536) :
    Calls Tryd.prog 16 #[v, .int .i64 (at' : Int)] W fun e W' => ∃ v', e = .returned (.tuple #[v', .int .i64 0]) ∧ (∃ us, OwnBA W.heap.size W' v' us (wayF 65536 ls at')) ∧ Below W.heap.size W W' := by
  have q0 : decide (65536 < (ls.length : Int)) = false := decide_eq_false (by omega)
  have q1 : decide ((at' : Int) < 0) = false := decide_eq_false (by omega)
  have q2 : decide ((ls.length : Int) ≤ (at' : Int)) = false := decide_eq_false (by omega)
  have hr := wayOf_own 65536 (at' := at') hK hS h hb (by omega) (by omega) (by omega) (by omega) (by omega)
  have Hr := hide hr
  obtain ⟨va, vc, rfl, _, _⟩ := h
  clear hr
  go_enter Tryd.func16, Tryd.ntmps16
  go_wp2_with fail
  refine (unhide Hr).mono ?_
  rintro e w2 ⟨v2, rfl, ⟨us2, hO2⟩, hb2⟩
  obtain ⟨x, y, c, hv⟩ : ∃ x y z, v2 = .slice x y z := by obtain ⟨x, y, e, _⟩ := id hO2.has; exact ⟨_, _, _, e⟩
  subst hv
  have HB := hide hO2
  have Hb := hide hb2
  clear hO2 hb2 Hr
  go_wp2
  go_ret2
  exact ⟨_, rfl, ⟨_, unhide HB⟩, unhide Hb⟩
/-- Prove of a leaf that there is: a row of its own. -/
theorem prove_own {W : World} (hK : HasK W) (hS : HasS W) {v : Value} {ls : List (List Nat)} {at' : Nat} (h : HasBB W v ls) (hb : ∀ l ∈ ls, Byt l ∧ l.length ≤ 140737488351232) (ha : at' < ls.length) (hn : ls.length ≤ 65536) :
    Calls Tryd.prog 16 #[v, .int .i64 (at' : Int)] W fun e W' => ∃ v', e = .returned (.tuple #[v', .int .i64 0]) ∧ (∃ us, OwnBB W.heap.size W.heap.size W' v' us (wayF 65536 ls at')) ∧ Below W.heap.size W W' := (prove_ba hK hS h hb ha hn).mono fun _ _ ⟨v, q1, ⟨us, q2⟩, q3⟩ => ⟨v, q1, ⟨us, q2.bb⟩, q3⟩
/-- Lists in a row that may be written. -/
def WBB (S : Nat) (W : World) (v : Value) (ls : List (List Nat)) : Prop := HasBB W v ls ∧ (0 < ls.length → ∃ (g c : Nat) (us rest : List Value), v = .slice (some ⟨g, 0, none⟩) ls.length c ∧ ls.length ≤ c ∧ c ≤ maxLen ∧ S ≤ g ∧ us.length = ls.length ∧ W.heap[g]? = some (.cells (us ++ rest).toArray 29 (0, 0)) ∧ ∀ (j : Nat) (u : Value) (l : List Nat), us[j]? = some u → ls[j]? = some l → HasB W u l ∧ u.ownBlock ≠ some g)
theorem OwnBB.wbb {S : Nat} {W : World} {v : Value} {us : List Value} {ls : List (List Nat)} (h : OwnBB S S W v us ls) : WBB S W v ls := by
  refine ⟨h.has, fun hp => ?_⟩
  have hl := h.len
  obtain ⟨h1, ⟨_, h0⟩ | ⟨g, c, cur, rfl, h2, h3, h4, h5, h6, h7⟩⟩ := id h.row
  · omega
  · refine ⟨g, c, us, cur.toList.drop (ls.length * 1), rfl, h4, h5, h2, hl, ?_, fun j u l hu hl' => ?_⟩
    · rw [h3, ← h7, List.take_append_drop]
    · obtain ⟨g1, g2⟩ := h.each j u l hu hl'
      exact ⟨g1, fun e => (g2 g e).2.2 rfl⟩
theorem WBB.set {S : Nat} {W : World} {v u : Value} {ls : List (List Nat)} {i : Nat} {l : List Nat} (h : WBB S W v ls) (hi : i < ls.length) (hu : HasB W u l) (hub : ∀ b, u.ownBlock = some b → b < S) :
    ∃ g c, v = .slice (some ⟨g, 0, none⟩) ls.length c ∧ S ≤ g ∧ c ≤ 9223372036854775807 ∧ W.frozen? ⟨g, i, none⟩ = false ∧ (∃ z, W.cell? ⟨g, i, none⟩ = some z) ∧ WBB S (W.setCell ⟨g, i, none⟩ u) v (ls.set i l) := by
  obtain ⟨h1, h2⟩ := h
  obtain ⟨g, c, us, rest, rfl, hc1, hc2, hS, hl, hrow, heach⟩ := h2 (by omega)
  have hgl : g < W.heap.size := (Array.getElem?_eq_some_iff.1 hrow).1
  have hrow2 := set_rowV (i := i) hrow u
  rw [List.set_append, if_pos (by omega)] at hrow2
  have hst : ∀ (z : Value) (m : List Nat), HasB W z m → z.ownBlock ≠ some g → HasB (W.setCell ⟨g, i, none⟩ u) z m := fun z m hz hn => hz.stays (by rw [World.size_setCell]; exact Nat.le_refl _) (fun b hb _ => heap_setCell_other W ⟨g, i, none⟩ b u (by intro e; exact hn (by rw [hb]; exact congrArg some e)))
  have hev : ∀ (j : Nat) (z : Value) (m : List Nat), (us.set i u)[j]? = some z → (ls.set i l)[j]? = some m → HasB (W.setCell ⟨g, i, none⟩ u) z m ∧ z.ownBlock ≠ some g := fun j z m hz hm => by
    rw [List.getElem?_set] at hz hm
    by_cases e : i = j
    · rw [if_pos e, if_pos (by omega)] at hz hm
      obtain rfl := Option.some.inj hz
      obtain rfl := Option.some.inj hm
      have hn : u.ownBlock ≠ some g := fun e => by have := hub g e; omega
      exact ⟨hst _ _ hu hn, hn⟩
    · rw [if_neg e] at hz hm
      obtain ⟨g1, g2⟩ := heach j z m hz hm
      exact ⟨hst _ _ g1 g2, g2⟩
  refine ⟨g, c, rfl, hS, by unfold maxLen at hc2; omega, row_frozen i hrow, ⟨us[i], row_cellV hrow (by rw [List.getElem?_append_left (by omega)]; exact List.getElem?_eq_getElem (by omega))⟩, ⟨some ⟨g, 0, none⟩, c, by rw [List.length_set], by rw [List.length_set]; exact ⟨hc1, hc2, nofun⟩, fun _ => ⟨g, 0, rfl, by rw [World.size_setCell]; exact hgl, fun j m hm => ?_⟩⟩, fun _ => ⟨g, c, us.set i u, rest, by rw [List.length_set], by rw [List.length_set]; exact hc1, hc2, hS, by rw [List.length_set, List.length_set]; exact hl, hrow2, hev⟩⟩
  have hj : j < (us.set i u).length := by
    have := (List.getElem?_eq_some_iff.1 hm).1
    rw [List.length_set] at this ⊢
    omega
  refine ⟨(us.set i u)[j], ?_, (hev j _ m (List.getElem?_eq_getElem hj) hm).1⟩
  rw [Nat.zero_add]
  exact row_cellV hrow2 (by rw [List.getElem?_append_left hj]; exact List.getElem?_eq_getElem hj)
end Go.Proofs.YtlblllghgdfpoaaDoor

namespace Go.Proofs.YtlblllghgdfpoaaDoor
open Go.RowKit
attribute [local go_sem ↓] Go.wp_at_zero Go.wp_at_succ

set_option maxRecDepth 100000 in
set_option maxHeartbeats 4000000 in
theorem hex_any {W : World} {v : Value} {l : List Nat} (h : HasB W v l) (hl : Byt l) (hn : l.length ≤ 140737488351232) :
    Calls Tryd.prog 15 #[v] W fun e W' => e = .returned (.string (ofN (hexL l))) ∧ Below W.heap.size W W' := by
  obtain ⟨i0, hi, hz0, hz1, hz2⟩ := info_parts Tryd.infoByte
  obtain ⟨a, c, rfl, hm, h3⟩ := h
  have H3 := hide h3
  clear h3 hm
  go_enter Tryd.func15, Tryd.ntmps15
  go_wp2_with (at_make; refine wpList_make_own _ rfl _ _ 29 rfl W.heap.size 5 i0 (.int .u8 0) 1 Tryd.underlying29 hi hz0 hz1 .i64 .i64 _ (2 * l.length) rfl rfl (by first | rfl | simp) (by rw [hz2]; omega) (by unfold maxLen; omega) (Nat.le_refl _) ?_; intro w5 hown5 hgrow5; have Hr := hide hown5; have Hb : Hid (Below W.heap.size W w5) := ⟨hgrow5.os, hgrow5.tape, hgrow5.output, hgrow5.size, fun b hb => hgrow5.block b hb (by simp)⟩; clear hown5 hgrow5)
  go_loopg [3, 12] l.length (fun gk v3 v12 wr => ∃ (i : Nat), v12 = .int .i64 (i : Int) ∧ v3 = .slice (some ⟨W.heap.size, 0, none⟩) (2 * i) (2 * l.length) ∧ gk = l.length - i ∧ i ≤ l.length ∧ wr.ownsRow W.heap.size 5 1 (.slice (some ⟨W.heap.size, 0, none⟩) (2 * i) (2 * l.length)) (2 * i) (nb (hexL (l.take i))) ∧ Below W.heap.size W wr)
  case atStart => exact ⟨0, rfl, rfl, rfl, by omega, unhide Hr, unhide Hb⟩
  case round =>
    clear Hr Hb
    obtain ⟨i, rfl, rfl, hgk, hk, hY, hB⟩ := hrel
    have Hgk := hide hgk
    clear hgk
    by_cases hlt : i < l.length
    · obtain ⟨g, off, rfl, hg, hc⟩ := unhide H3 (by omega)
      obtain ⟨x, hx⟩ : ∃ x, l[i]? = some x := ⟨_, List.getElem?_eq_getElem hlt⟩
      have hxb := hl.at hx
      have c0 := (hB.cell (p := ⟨g, off + i, none⟩) hg).trans (hc i x hx)
      have Hx := hide hx
      have HY := hide hY
      have hand : bits .and .u8 (x : Int) 15 = ((x % 16 : Nat) : Int) := by rw [show (15 : Int) = ((15 : Nat) : Int) from rfl, u8_and_nat x 15 hxb (by decide), nat_mask4]
      have hlt' : (i : Int) < (l.length : Int) := by omega
      have hi0' : (0 : Int) ≤ (i : Int) := Int.natCast_nonneg _
      have ix1 : ∀ w, (Instr.index 9 (.string ⟨#[48, 49, 50, 51, 52, 53, 54, 55, 56, 57, 97, 98, 99, 100, 101, 102]⟩) (.int .u8 ((x : Int) / 16))).run Tryd.prog w = .ok (.int .u8 ((hexd (x / 16) : Nat) : Int)) w := fun w => dg_at w (x / 16) (by omega) _ (by omega)
      have ix2 : ∀ w, (Instr.index 9 (.string ⟨#[48, 49, 50, 51, 52, 53, 54, 55, 56, 57, 97, 98, 99, 100, 101, 102]⟩) (.int .u8 ((x % 16 : Nat) : Int))).run Tryd.prog w = .ok (.int .u8 ((hexd (x % 16) : Nat) : Int)) w := fun w => dg_at w (x % 16) (by omega) _ rfl
      have Hd : Hid (hexL (l.take (i + 1)) = hexL (l.take i) ++ [hexd (x / 16), hexd (x % 16)]) := by
        show hexL (l.take (i + 1)) = _
        rw [List.take_add_one, hx, hexL_append]
        rfl
      generalize hexd (x / 16) = d1 at *
      generalize hexd (x % 16) = d2 at *
      generalize x % 16 = x2 at *
      clear hc hx hY
      go_wp2
      go_region_law (refine step_append_fits rfl (.tmp 16) (.tmp 23) 29 rfl W.heap.size 5 i0 1 Tryd.underlying29 hi hz1 W.heap.size (2 * i) (2 * l.length) (nb (hexL (l.take i))) (by simp [Act.eval]) ((show (World.drewN wr _).ownsRow _ _ _ _ _ _ from unhide HY).alloc _) ⟨wr.heap.size, 0, none⟩ 2 2 [.int .u8 (d1 : Int), .int .u8 (d2 : Int)] (by simp [Act.eval]) (by rfl) (World.news_of_block (cs := #[.int .u8 (d1 : Int), .int .u8 (d2 : Int)]) (heap_new _ _)) (by simp [Value.oneCell']) (by omega) ?_; intro w3 hown3 hgrow)
      all_goals go_wp2
      all_goals go_roundg (l.length - (i + 1))
      all_goals first
        | (have := unhide Hgk; omega)
        | (refine ⟨i + 1, by go_num, rfl, rfl, by omega, ?_, below_grow (u := .slice (some ⟨W.heap.size, 0, none⟩) 0 0) hB hB.size hgrow (fun b hb => by have e : W.heap.size = b := Option.some.inj hb; omega)⟩
           rw [unhide Hd, nb_append]
           exact hown3)
    · have hi' : l.length = i := by omega
      subst hi'
      rw [List.take_length] at hY
      have hlen : (hexL l).length = 2 * l.length := hexL_len l
      have hb : Bytes W.heap.size wr (.slice (some ⟨W.heap.size, 0, none⟩) (2 * l.length) (2 * l.length)) (hexL l) := by unfold Bytes; rw [hlen]; exact hY
      have cv := conv_any hb.has (hexL_byt hl)
      clear hb hY hlen
      go_wp2
      go_ret
      exact ⟨rfl, hB⟩

def dig (c : Nat) : Option Nat := if 48 ≤ c ∧ c ≤ 57 then some (c - 48) else if 97 ≤ c ∧ c ≤ 102 then some (c - 87) else none
theorem dig_lt {c d : Nat} (h : dig c = some d) : d < 16 := by
  unfold dig at h
  split at h
  · have := Option.some.inj h; omega
  · split at h
    · have := Option.some.inj h; omega
    · cases h
theorem retD {a b : Int} {x y : Bool} (h : a = b) (k : x = y) : Ending.returned (.tuple #[.int .u8 a, .bool x]) = .returned (.tuple #[.int .u8 b, .bool y]) := by rw [h, k]
set_option maxHeartbeats 1000000 in
theorem digitOf_any (W : World) (c : Nat) (hc : c < 256) : Calls Tryd.prog 31 #[.int .u8 (c : Int)] W fun e W' => e = .returned (.tuple #[.int .u8 (((dig c).getD 0 : Nat) : Int), .bool (dig c).isSome]) ∧ W' = W := by
  by_cases h1 : 48 ≤ c ∧ c ≤ 57
  · have e : dig c = some (c - 48) := by unfold dig; rw [if_pos h1]
    obtain ⟨a, b⟩ := h1
    rw [e]
    clear e hc
    go_enter Tryd.func31, Tryd.ntmps31
    go_wp2
    go_ret2
    exact ⟨retD (show (c : Int) - 48 = ((c - 48 : Nat) : Int) by omega) rfl, rfl⟩
  · by_cases h2 : 97 ≤ c ∧ c ≤ 102
    · have e : dig c = some (c - 87) := by unfold dig; rw [if_neg h1, if_pos h2]
      obtain ⟨a, b⟩ := h2
      have a' : 48 ≤ c := by omega
      have b' : decide ((c : Int) ≤ 57) = false := by simp; omega
      rw [e]
      clear e hc h1
      go_enter Tryd.func31, Tryd.ntmps31
      go_wp2
      go_ret2
      exact ⟨retD (show (c : Int) - 97 + 10 = ((c - 87 : Nat) : Int) by omega) rfl, rfl⟩
    · have e : dig c = none := by unfold dig; rw [if_neg h1, if_neg h2]
      rw [e]
      have c1 : c < 48 ∨ (57 < c ∧ c < 97) ∨ 102 < c := by omega
      clear h1 h2 e hc
      rcases c1 with k | ⟨k, k'⟩ | k
      · have a1 : decide ((48 : Int) ≤ (c : Int)) = false := by simp; omega
        have a2 : decide ((97 : Int) ≤ (c : Int)) = false := by simp; omega
        clear k
        go_enter Tryd.func31, Tryd.ntmps31
        go_wp2
        go_ret2
        exact ⟨rfl, rfl⟩
      · have a1 : decide ((48 : Int) ≤ (c : Int)) = true := by simp; omega
        have a2 : decide ((c : Int) ≤ 57) = false := by simp; omega
        have a3 : decide ((97 : Int) ≤ (c : Int)) = false := by simp; omega
        clear k k'
        go_enter Tryd.func31, Tryd.ntmps31
        go_wp2
        go_ret2
        exact ⟨rfl, rfl⟩
      · have a1 : decide ((48 : Int) ≤ (c : Int)) = true := by simp; omega
        have a2 : decide ((c : Int) ≤ 57) = false := by simp; omega
        have a3 : decide ((97 : Int) ≤ (c : Int)) = true := by simp; omega
        have a4 : decide ((c : Int) ≤ 102) = false := by simp; omega
        clear k
        go_enter Tryd.func31, Tryd.ntmps31
        go_wp2
        go_ret2
        exact ⟨rfl, rfl⟩
end Go.Proofs.YtlblllghgdfpoaaDoor

namespace Go.Proofs.YtlblllghgdfpoaaDoor
open Go.RowKit
attribute [local go_sem ↓] Go.wp_at_zero Go.wp_at_succ

def unh : List Nat → Option (List Nat)
  | [] => some []
  | [_] => none
  | a :: b :: r => match dig a, dig b with
    | some x, some y => (unh r).map fun l => (16 * x + y) :: l
    | _, _ => none
theorem unh_odd : ∀ (l : List Nat), l.length % 2 = 1 → unh l = none
  | [], h => by simp at h
  | [_], _ => rfl
  | a :: b :: r, h => by
    have := unh_odd r (by simp at h; omega)
    simp only [unh, this]
    split <;> simp_all
theorem unh_byt : ∀ (l r : List Nat), unh l = some r → Byt r ∧ 2 * r.length = l.length
  | [], r, h => by
    obtain rfl : [] = r := by simpa [unh] using h
    exact ⟨fun x hx => by simp at hx, rfl⟩
  | [_], r, h => by simp [unh] at h
  | a :: b :: l, r, h => by
    simp only [unh] at h
    split at h
    · rename_i x y hx hy
      obtain ⟨t, ht, rfl⟩ := Option.map_eq_some_iff.1 h
      obtain ⟨h1, h2⟩ := unh_byt l t ht
      have := dig_lt hx
      have := dig_lt hy
      refine ⟨fun z hz => ?_, by simp; omega⟩
      rcases List.mem_cons.1 hz with rfl | hz
      · omega
      · exact h1 z hz
    · cases h
theorem dig_hexd {n : Nat} (h : n < 16) : dig (hexd n) = some n := by
  have key : ∀ k : Fin 16, dig (hexd k.val) = some k.val := by decide
  exact key ⟨n, h⟩
theorem hexd_dig {c d : Nat} (h : dig c = some d) : hexd d = c := by
  unfold dig at h
  split at h
  · have := Option.some.inj h; unfold hexd; split <;> omega
  · split at h
    · have := Option.some.inj h; unfold hexd; split <;> omega
    · cases h
theorem unh_hex : ∀ (l : List Nat), Byt l → unh (hexL l) = some l
  | [], _ => rfl
  | b :: l, h => by
    have hb := h b (List.mem_cons_self)
    have ih := unh_hex l (fun x hx => h x (List.mem_cons_of_mem _ hx))
    have e : hexL (b :: l) = hexd (b / 16) :: hexd (b % 16) :: hexL l := rfl
    rw [e]
    simp only [unh, dig_hexd (show b / 16 < 16 by omega), dig_hexd (show b % 16 < 16 by omega), ih, Option.map_some]
    congr 2
    omega
theorem hex_unh : ∀ (l r : List Nat), unh l = some r → hexL r = l
  | [], r, h => by
    obtain rfl : [] = r := by simpa [unh] using h
    rfl
  | [_], r, h => by simp [unh] at h
  | a :: b :: l, r, h => by
    simp only [unh] at h
    split at h
    · rename_i x y hx hy
      obtain ⟨t, ht, rfl⟩ := Option.map_eq_some_iff.1 h
      have ih := hex_unh l t ht
      have l1 := dig_lt hx
      have l2 := dig_lt hy
      have e : hexL ((16 * x + y) :: t) = hexd ((16 * x + y) / 16) :: hexd ((16 * x + y) % 16) :: hexL t := rfl
      rw [e, ih, show (16 * x + y) / 16 = x by omega, show (16 * x + y) % 16 = y by omega, hexd_dig hx, hexd_dig hy]
    · cases h

theorem str_get (s : ByteArray) (n x : Nat) (h : (strN s)[n]? = some x) (hn : n < s.size) : (s[n]'hn).toNat = x := by
  unfold strN at h
  rw [List.getElem?_map] at h
  obtain ⟨b, hb, rfl⟩ := Option.map_eq_some_iff.1 h
  have hd : n < s.data.toList.length := by simpa using hn
  rw [List.getElem?_eq_getElem hd] at hb
  rw [← Option.some.inj hb]
  simp
  rfl
/-- What Unhex answers. -/
def UnhO (W : World) (s : ByteArray) (e : Ending) (W' : World) : Prop := ∃ v' c l, e = .returned (.tuple #[v', .int .i64 c]) ∧ Bytes W.heap.size W' v' l ∧ (unh (strN s) = some l ∧ c = 0 ∨ unh (strN s) = none ∧ c = 31 ∧ l = []) ∧ Below W.heap.size W W'
def UnhU (W : World) (s : ByteArray) (e : Ending) (W' : World) : Prop := ∃ v' c l, e = .returned (.tuple #[v', .int .i64 c]) ∧ HasB W' v' l ∧ (unh (strN s) = some l ∧ c = 0 ∨ unh (strN s) = none ∧ c = 31 ∧ l = []) ∧ Below W.heap.size W W'

set_option maxRecDepth 100000 in
set_option maxHeartbeats 4000000 in
theorem unhex_own (W : World) (s : ByteArray) (hn : s.size ≤ 281474976702464) : Calls Tryd.prog 14 #[.string s] W (UnhO W s) := by
  obtain ⟨i0, hi, hz0, hz1, hz2⟩ := info_parts Tryd.infoByte
  by_cases hpar : s.size % 2 = 1
  · have ht : (s.size : Int).tmod 2 = 1 := by rw [Int.tmod_eq_emod_of_nonneg (by omega)]; omega
    have hu := unh_odd (strN s) (by rw [strN_len]; exact hpar)
    have Hu := hide hu
    clear hu hpar
    go_enter Tryd.func14, Tryd.ntmps14
    go_wp2
    go_ret2
    exact ⟨_, _, [], rfl, bytes_nil _ _, .inr ⟨unhide Hu, rfl, rfl⟩, Below.refl _ _⟩
  · obtain ⟨n, hsn⟩ : ∃ n, s.size = 2 * n := ⟨s.size / 2, by omega⟩
    have ht : (s.size : Int).tmod 2 = 0 := by rw [Int.tmod_eq_emod_of_nonneg (by omega)]; omega
    have htd : (s.size : Int).tdiv 2 = (n : Int) := by rw [Int.tdiv_eq_ediv_of_nonneg (by omega)]; omega
    clear hpar
    go_enter Tryd.func14, Tryd.ntmps14
    go_wp2_with (at_make; refine wpList_make_own _ rfl _ _ 29 rfl W.heap.size 5 i0 (.int .u8 0) 1 Tryd.underlying29 hi hz0 hz1 .i64 .i64 _ n rfl rfl (by first | rfl | simp) (by rw [hz2]; omega) (by unfold maxLen; omega) (Nat.le_refl _) ?_; intro w5 hown5 hgrow5; have Hr := hide hown5; have Hb : Hid (Below W.heap.size W w5) := ⟨hgrow5.os, hgrow5.tape, hgrow5.output, hgrow5.size, fun b hb => hgrow5.block b hb (by simp)⟩; clear hown5 hgrow5)
    go_loopg [4, 5] n (fun gk v4 v5 wr => ∃ (k : Nat) (ys : List Nat), v5 = .int .i64 ((2 * k : Nat) : Int) ∧ v4 = .slice (some ⟨W.heap.size, 0, none⟩) k n ∧ gk = n - k ∧ k ≤ n ∧ ys.length = k ∧ unh (strN s) = (unh ((strN s).drop (2 * k))).map (ys ++ ·) ∧ wr.ownsRow W.heap.size 5 1 (.slice (some ⟨W.heap.size, 0, none⟩) k n) k (nb ys) ∧ Below W.heap.size W wr)
    case atStart => exact ⟨0, [], rfl, rfl, rfl, by omega, rfl, by simp, unhide Hr, unhide Hb⟩
    case round =>
      clear Hr Hb
      obtain ⟨k, ys, rfl, rfl, hgk, hk, hys, hun, hY, hB⟩ := hrel
      have Hgk := hide hgk
      clear hgk
      by_cases hlt : k < n
      · have hl1 : 2 * k < (strN s).length := by rw [strN_len]; omega
        have hl2 : 2 * k + 1 < (strN s).length := by rw [strN_len]; omega
        obtain ⟨x, hx⟩ : ∃ x, (strN s)[2 * k]? = some x := ⟨_, List.getElem?_eq_getElem hl1⟩
        obtain ⟨y, hy⟩ : ∃ x, (strN s)[2 * k + 1]? = some x := ⟨_, List.getElem?_eq_getElem hl2⟩
        have hdr : (strN s).drop (2 * k) = x :: y :: (strN s).drop (2 * (k + 1)) := by
          rw [List.drop_eq_getElem_cons hl1, List.drop_eq_getElem_cons hl2]
          rw [List.getElem?_eq_getElem hl1] at hx
          rw [List.getElem?_eq_getElem hl2] at hy
          rw [Option.some.inj hx, Option.some.inj hy]
          rfl
        have hxb := (strN_byt s).at hx
        have hyb := (strN_byt s).at hy
        have gx : (s[2 * k]'(by omega)).toNat = x := str_get s _ _ hx _
        have gy : (s[2 * k + 1]'(by omega)).toNat = y := str_get s _ _ hy _
        have hk2 : 2 * (k : Int) + 1 < 2 * (n : Int) := by omega
        have Hun := hide hun
        have Hdr := hide hdr
        have HY := hide hY
        clear hx hy hun hdr hY hl1 hl2
        go_wp2_with fail
        refine (digitOf_any wr x hxb).mono ?_
        rintro e w' ⟨rfl, he⟩
        obtain rfl : wr = w' := he.symm
        go_wp2_with fail
        refine (digitOf_any wr y hyb).mono ?_
        rintro e w' ⟨rfl, he⟩
        obtain rfl : wr = w' := he.symm
        have hcase : unh (x :: y :: (strN s).drop (2 * (k + 1))) = match dig x, dig y with
          | some a, some b => (unh ((strN s).drop (2 * (k + 1)))).map fun l => (16 * a + b) :: l
          | _, _ => none := rfl
        cases hdx : dig x with
        | none =>
          rw [hdx] at hcase
          have hnone : unh (strN s) = none := by rw [unhide Hun, unhide Hdr, hcase]; rfl
          have Hn := hide hnone
          clear hnone hcase hdx
          go_wp2
          go_ret2
          exact ⟨_, _, [], rfl, bytes_nil _ _, .inr ⟨unhide Hn, rfl, rfl⟩, hB⟩
        | some a =>
          cases hdy : dig y with
          | none =>
            rw [hdx, hdy] at hcase
            have hnone : unh (strN s) = none := by rw [unhide Hun, unhide Hdr, hcase]; rfl
            have Hn := hide hnone
            clear hnone hcase hdx hdy
            go_wp2
            go_ret2
            exact ⟨_, _, [], rfl, bytes_nil _ _, .inr ⟨unhide Hn, rfl, rfl⟩, hB⟩
          | some b =>
            rw [hdx, hdy] at hcase
            have la := dig_lt hdx
            have lb := dig_lt hdy
            have hnx : unh (strN s) = (unh ((strN s).drop (2 * (k + 1)))).map ((ys ++ [16 * a + b]) ++ ·) := by
              rw [unhide Hun, unhide Hdr, hcase]
              simp only [Option.map_map]
              congr 1
              funext l
              simp
            have Hn := hide hnx
            have hor : bits .or .u8 ((a : Int) * 16) (b : Int) = ((16 * a + b : Nat) : Int) := by
              rw [show (a : Int) * 16 = ((a * 16 : Nat) : Int) by omega, u8_or_nat _ _ (by omega) (by omega), nat_join 4 (a * 16) b (by omega) (by omega)]
              congr 1
              omega
            clear hnx hcase hdx hdy
            go_wp2_with (at_builtin; refine wpList_append_fits _ rfl _ _ 29 rfl W.heap.size 5 i0 1 Tryd.underlying29 hi hz1 W.heap.size k n (nb ys) rfl ((unhide HY).alloc _) ⟨wr.heap.size, 0, none⟩ 1 1 [.int .u8 ((16 * a + b : Nat) : Int)] rfl rfl (cell_one_new _ _ _) (by simp [Value.oneCell']) (by omega) ?_; intro w4 hown4 hgrow4; have Hown := hide hown4; have Hgrow := hide hgrow4; clear hown4 hgrow4)
            go_roundg (n - (k + 1))
            case measure => have := unhide Hgk; omega
            case rel =>
              refine ⟨k + 1, ys ++ [16 * a + b], by go_num, rfl, rfl, by omega, by simp [hys], unhide Hn, ?_, below_grow0 (u := .slice (some ⟨W.heap.size, 0, none⟩) 0 0) hB hB.size (unhide Hgrow) (fun b hb => by have e : W.heap.size = b := Option.some.inj hb; omega)⟩
              rw [nb_append]
              exact unhide Hown
      · have hi' : n = k := by omega
        subst hi'
        have hd0 : (strN s).drop (2 * n) = [] := List.drop_eq_nil_of_le (by rw [strN_len]; omega)
        rw [hd0] at hun
        have hun' : unh (strN s) = some ys := by rw [hun]; simp [unh]
        have Hn := hide hun'
        have hb : Bytes W.heap.size wr (.slice (some ⟨W.heap.size, 0, none⟩) n n) ys := by unfold Bytes; rw [hys]; exact hY
        have Hh := hide hb
        clear hun hun' hd0 hb hY
        go_wp2
        go_ret2
        exact ⟨_, _, ys, rfl, unhide Hh, .inl ⟨unhide Hn, rfl⟩, hB⟩
theorem unhex_any (W : World) (s : ByteArray) (hn : s.size ≤ 281474976702464) : Calls Tryd.prog 14 #[.string s] W (UnhU W s) := (unhex_own W s hn).mono fun _ _ ⟨v, c, l, h1, h2, h3, h4⟩ => ⟨v, c, l, h1, h2.has, h3, h4⟩
end Go.Proofs.YtlblllghgdfpoaaDoor
