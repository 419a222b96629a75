import Derived.Test.YtoojchjfmnbdpabDoorDX0
namespace Go.Proofs.YtoojchjfmnbdpabDoor
open Go.RowKit
attribute [local go_sem ↓] Go.wp_at_zero Go.wp_at_succ

set_option maxRecDepth 100000 in
set_option maxHeartbeats 2000000 in
theorem xhex_any {W : World} {v : Value} {l : List Nat} (h : HasB W v l) (hl : Byt l) (hn : l.length ≤ 17592186044416) :
    Calls Tryd.prog 20 #[v] W fun e W' => e = .returned (.string (ofN (hexL l))) ∧ Below W.heap.size W W' := by
  obtain ⟨i0, hi, hz0, hz1, hz2⟩ := info_parts Tryd.infoByte
  obtain ⟨a, c, rfl, hm, h3⟩ := h
  have H3 := hide h3
  clear h3 hm
  go_enter Tryd.func20, Tryd.ntmps20
  go_wp2
  go_loopg [3, 4] l.length (fun gk v3 v4 wr => ∃ (i : Nat), v4 = .int .i64 (i : Int) ∧ gk = l.length - i ∧ i ≤ l.length ∧ wr.ownsRow W.heap.size 5 1 v3 (2 * i) (nb (hexL (l.take i))) ∧ Below W.heap.size W wr)
  case atStart => exact ⟨0, rfl, rfl, by omega, ⟨rfl, .inl ⟨rfl, rfl⟩⟩, Below.refl _ _⟩
  case round =>
    obtain ⟨i, rfl, hgk, hk, hY, hB⟩ := hrel
    have Hgk := hide hgk
    clear hgk
    by_cases hlt : i < l.length
    · obtain ⟨g, off, rfl, hg, hc⟩ := unhide H3 (by omega)
      obtain ⟨x, hx⟩ : ∃ x, l[i]? = some x := ⟨_, List.getElem?_eq_getElem hlt⟩
      have hxb := hl.at hx
      have c0 := (hB.cell (p := ⟨g, off + i, none⟩) hg).trans (hc i x hx)
      have Hx := hide hx
      have HY := hide hY
      have hlt' : (i : Int) < (l.length : Int) := by omega
      have hi0' : (0 : Int) ≤ (i : Int) := Int.natCast_nonneg _
      have q1 : (x : Int).tdiv 16 = ((x / 16 : Nat) : Int) := by rw [Int.tdiv_eq_ediv_of_nonneg (by omega)]; omega
      have q2 : (x : Int).tmod 16 = ((x % 16 : Nat) : Int) := by rw [Int.tmod_eq_emod_of_nonneg (by omega)]; omega
      have ix1 : ∀ w, (Instr.index 9 (.string ⟨#[48, 49, 50, 51, 52, 53, 54, 55, 56, 57, 97, 98, 99, 100, 101, 102]⟩) (.int .u8 ((x / 16 : Nat) : Int))).run Tryd.prog w = .ok (.int .u8 ((hexd (x / 16) : Nat) : Int)) w := fun w => dg_at w (x / 16) (by omega) _ rfl
      have ix2 : ∀ w, (Instr.index 9 (.string ⟨#[48, 49, 50, 51, 52, 53, 54, 55, 56, 57, 97, 98, 99, 100, 101, 102]⟩) (.int .u8 ((x % 16 : Nat) : Int))).run Tryd.prog w = .ok (.int .u8 ((hexd (x % 16) : Nat) : Int)) w := fun w => dg_at w (x % 16) (by omega) _ rfl
      have Hd : Hid (hexL (l.take (i + 1)) = hexL (l.take i) ++ [hexd (x / 16), hexd (x % 16)]) := by
        show hexL (l.take (i + 1)) = _
        rw [List.take_add_one, hx, hexL_append]
        rfl
      have hsz := hB.size
      generalize hexd (x / 16) = d1 at *
      generalize hexd (x % 16) = d2 at *
      obtain ⟨x1, hx1⟩ : ∃ y, y = x / 16 := ⟨_, rfl⟩
      obtain ⟨x2, hx2⟩ : ∃ y, y = x % 16 := ⟨_, rfl⟩
      rw [← hx1] at ix1 q1
      rw [← hx2] at ix2 q2
      have w1 : IntKind.u8.wrap (x1 : Int) = (x1 : Int) := by rw [IntKind.wrap_u8]; omega
      have w2 : IntKind.u8.wrap (x2 : Int) = (x2 : Int) := by rw [IntKind.wrap_u8]; omega
      have b1 : x1 < 16 := by omega
      have b2 : x2 < 16 := by omega
      clear hc hx hY hx1 hx2
      go_wp2
      go_region_law (refine step_append_lies _ rfl (.tmp 11) (.tmp 24) 28 rfl W.heap.size 5 i0 (.int .u8 0) 1 1 Tryd.underlying28 hi hz0 hz1 hz2 rfl (by decide) u3 (2 * i) (nb (hexL (l.take i))) (by simp [Act.eval]) ((show (World.drewN wr _).ownsRow _ _ _ _ _ _ from unhide HY).alloc _) ⟨wr.heap.size, 0, none⟩ 2 2 [.int .u8 (d1 : Int), .int .u8 (d2 : Int)] (by simp [Act.eval]) (by rfl) (World.news_of_block (cs := #[.int .u8 (d1 : Int), .int .u8 (d2 : Int)]) (heap_new _ _)) (by simp [Value.oneCell']) (by decide) (by unfold maxLen; omega) (by omega) (by simp; omega) (wr.heap.size + 1) (by simp) ?_; intro g3 cap w3 hown3 hgrow hat3 hlt3)
      all_goals go_wp2
      all_goals go_roundg (l.length - (i + 1))
      all_goals first
        | (have := unhide Hgk; omega)
        | (refine ⟨i + 1, by go_num, rfl, by omega, ?_, below_grow hB hsz hgrow (fun b hb => ((unhide HY).lt b hb).1)⟩
           rw [unhide Hd, nb_append]
           exact hown3)
    · have hi' : l.length = i := by omega
      subst hi'
      rw [List.take_length] at hY
      have hlen : (hexL l).length = 2 * l.length := hexL_len l
      have hb : Bytes W.heap.size wr u3 (hexL l) := by unfold Bytes; rw [hlen]; exact hY
      have cv := conv_any hb.has (hexL_byt hl)
      clear hb hY hlen
      go_wp2
      go_ret
      exact ⟨rfl, hB⟩
end Go.Proofs.YtoojchjfmnbdpabDoor
