import Derived.Test.YtcmjlpfofcaekaaDoorJX0

namespace Go.Proofs.YtcmjlpfofcaekaaDoor
open Go.RowKit
attribute [local go_sem ↓] Go.wp_at_zero Go.wp_at_succ

set_option maxRecDepth 100000 in
set_option maxHeartbeats 4000000 in
theorem hex_any {W : World} {v : Value} {l : List Nat} (h : HasB W v l) (hl : Byt l) (hn : l.length ≤ 140737488351232) :
    Calls Tryd.prog 22 #[v] W fun e W' => e = .returned (.string (ofN (hexL l))) ∧ Below W.heap.size W W' := by
  obtain ⟨i0, hi, hz0, hz1, hz2⟩ := info_parts Tryd.infoByte
  obtain ⟨a, c, rfl, hm, h3⟩ := h
  have H3 := hide h3
  clear h3 hm
  go_enter Tryd.func22, Tryd.ntmps22
  go_wp2_with (at_make; refine wpList_make_own _ rfl _ _ 31 rfl W.heap.size 5 i0 (.int .u8 0) 1 Tryd.underlying31 hi hz0 hz1 .i64 .i64 _ (2 * l.length) rfl rfl (by first | rfl | simp) (by rw [hz2]; omega) (by unfold maxLen; omega) (Nat.le_refl _) ?_; intro w5 hown5 hgrow5; have Hr := hide hown5; have Hb : Hid (Below W.heap.size W w5) := ⟨hgrow5.os, hgrow5.tape, hgrow5.output, hgrow5.size, fun b hb => hgrow5.block b hb (by simp)⟩; clear hown5 hgrow5)
  go_loopg [3, 12] l.length (fun gk v3 v12 wr => ∃ (i : Nat), v12 = .int .i64 (i : Int) ∧ v3 = .slice (some ⟨W.heap.size, 0, none⟩) (2 * i) (2 * l.length) ∧ gk = l.length - i ∧ i ≤ l.length ∧ wr.ownsRow W.heap.size 5 1 (.slice (some ⟨W.heap.size, 0, none⟩) (2 * i) (2 * l.length)) (2 * i) (nb (hexL (l.take i))) ∧ Below W.heap.size W wr)
  case atStart => exact ⟨0, rfl, rfl, rfl, by omega, unhide Hr, unhide Hb⟩
  case round =>
    clear Hr Hb
    obtain ⟨i, rfl, rfl, hgk, hk, hY, hB⟩ := hrel
    have Hgk := hide hgk
    clear hgk
    by_cases hlt : i < l.length
    · obtain ⟨g, off, rfl, hg, hc⟩ := unhide H3 (by omega)
      obtain ⟨x, hx⟩ : ∃ x, l[i]? = some x := ⟨_, List.getElem?_eq_getElem hlt⟩
      have hxb := hl.at hx
      have c0 := (hB.cell (p := ⟨g, off + i, none⟩) hg).trans (hc i x hx)
      have Hx := hide hx
      have HY := hide hY
      have hand : bits .and .u8 (x : Int) 15 = ((x % 16 : Nat) : Int) := by rw [show (15 : Int) = ((15 : Nat) : Int) from rfl, u8_and_nat x 15 hxb (by decide), nat_mask4]
      have hlt' : (i : Int) < (l.length : Int) := by omega
      have hi0' : (0 : Int) ≤ (i : Int) := Int.natCast_nonneg _
      have ix1 : ∀ w, (Instr.index 9 (.string ⟨#[48, 49, 50, 51, 52, 53, 54, 55, 56, 57, 97, 98, 99, 100, 101, 102]⟩) (.int .u8 ((x : Int) / 16))).run Tryd.prog w = .ok (.int .u8 ((hexd (x / 16) : Nat) : Int)) w := fun w => dg_at w (x / 16) (by omega) _ (by omega)
      have ix2 : ∀ w, (Instr.index 9 (.string ⟨#[48, 49, 50, 51, 52, 53, 54, 55, 56, 57, 97, 98, 99, 100, 101, 102]⟩) (.int .u8 ((x % 16 : Nat) : Int))).run Tryd.prog w = .ok (.int .u8 ((hexd (x % 16) : Nat) : Int)) w := fun w => dg_at w (x % 16) (by omega) _ rfl
      have Hd : Hid (hexL (l.take (i + 1)) = hexL (l.take i) ++ [hexd (x / 16), hexd (x % 16)]) := by
        show hexL (l.take (i + 1)) = _
        rw [List.take_add_one, hx, hexL_append]
        rfl
      generalize hexd (x / 16) = d1 at *
      generalize hexd (x % 16) = d2 at *
      generalize x % 16 = x2 at *
      clear hc hx hY
      go_wp2
      go_region_law (refine step_append_fits rfl (.tmp 16) (.tmp 23) 31 rfl W.heap.size 5 i0 1 Tryd.underlying31 hi hz1 W.heap.size (2 * i) (2 * l.length) (nb (hexL (l.take i))) (by simp [Act.eval]) ((show (World.drewN wr _).ownsRow _ _ _ _ _ _ from unhide HY).alloc _) ⟨wr.heap.size, 0, none⟩ 2 2 [.int .u8 (d1 : Int), .int .u8 (d2 : Int)] (by simp [Act.eval]) (by rfl) (World.news_of_block (cs := #[.int .u8 (d1 : Int), .int .u8 (d2 : Int)]) (heap_new _ _)) (by simp [Value.oneCell']) (by omega) ?_; intro w3 hown3 hgrow)
      all_goals go_wp2
      all_goals go_roundg (l.length - (i + 1))
      all_goals first
        | (have := unhide Hgk; omega)
        | (refine ⟨i + 1, by go_num, rfl, rfl, by omega, ?_, below_grow (u := .slice (some ⟨W.heap.size, 0, none⟩) 0 0) hB hB.size hgrow (fun b hb => by have e : W.heap.size = b := Option.some.inj hb; omega)⟩
           rw [unhide Hd, nb_append]
           exact hown3)
    · have hi' : l.length = i := by omega
      subst hi'
      rw [List.take_length] at hY
      have hlen : (hexL l).length = 2 * l.length := hexL_len l
      have hb : Bytes W.heap.size wr (.slice (some ⟨W.heap.size, 0, none⟩) (2 * l.length) (2 * l.length)) (hexL l) := by unfold Bytes; rw [hlen]; exact hY
      have cv := conv_any hb.has (hexL_byt hl)
      clear hb hY hlen
      go_wp2
      go_ret
      exact ⟨rfl, hB⟩

end Go.Proofs.YtcmjlpfofcaekaaDoor
