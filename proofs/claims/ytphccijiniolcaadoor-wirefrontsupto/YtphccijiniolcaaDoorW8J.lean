import Derived.Test.YtphccijiniolcaaDoorWZ
namespace Go.Proofs.YtphccijiniolcaaDoor
open Go.RowKit
attribute [local go_sem ↓] Go.wp_at_zero Go.wp_at_succ

/-- The forms of the characters. -/
def forms : List (Int × Int × Int × Int × Int) := [(0, 127, 0, 0, 0), (194, 223, 1, 128, 191), (224, 224, 2, 160, 191), (225, 236, 2, 128, 191), (237, 237, 2, 128, 159), (238, 239, 2, 128, 191), (240, 240, 3, 144, 191), (241, 243, 3, 128, 191), (244, 244, 3, 128, 143)]
/-- The package's table lies in its block. -/
def HasF (W : World) : Prop := 0 < W.heap.size ∧ ∀ i a b c d e, forms[i]? = some (a, b, c, d, e) → W.cell? ⟨0, i * 5, none⟩ = some (.int .u8 a) ∧ W.cell? ⟨0, i * 5 + 1, none⟩ = some (.int .u8 b) ∧ W.cell? ⟨0, i * 5 + 2, none⟩ = some (.int .u8 c) ∧ W.cell? ⟨0, i * 5 + 3, none⟩ = some (.int .u8 d) ∧ W.cell? ⟨0, i * 5 + 4, none⟩ = some (.int .u8 e)
theorem HasF.up {W w : World} (h : HasF W) (hb : Below W.heap.size W w) : HasF w :=
  ⟨Nat.lt_of_lt_of_le h.1 hb.size, fun i a b c d e hf => by
    obtain ⟨q0, q1, q2, q3, q4⟩ := h.2 i a b c d e hf
    exact ⟨(hb.cell (p := ⟨0, i * 5, none⟩) h.1).trans q0, (hb.cell (p := ⟨0, i * 5 + 1, none⟩) h.1).trans q1, (hb.cell (p := ⟨0, i * 5 + 2, none⟩) h.1).trans q2, (hb.cell (p := ⟨0, i * 5 + 3, none⟩) h.1).trans q3, (hb.cell (p := ⟨0, i * 5 + 4, none⟩) h.1).trans q4⟩⟩
theorem forms_len : forms.length = 9 := rfl
theorem forms_last : ∀ (i : Nat) (a b c d e : Int), forms[i]? = some (a, b, c, d, e) → a ≤ 255 ∧ b < 255 := by
  intro i a b c d e h
  have key : ∀ x ∈ forms, x.1 ≤ 255 ∧ x.2.1 < 255 := by decide
  exact key _ (List.mem_of_getElem? h)

set_option maxRecDepth 100000 in
set_option maxHeartbeats 4000000 in
/-- No character begins with the byte 255. -/
theorem char255 {W : World} (h : HasF W) (s : ByteArray) (hs : 0 < s.size) (h0 : s[0].toNat = 255) :
    Calls Tryd.prog 68 #[.string s] W fun e W' => e = .returned (.int .i64 0) ∧ Below W.heap.size W W' := by
  go_enter Tryd.func68, Tryd.ntmps68
  go_wp2
  go_loopg [5] 9 (fun gk v5 wr => ∃ (i : Nat), v5 = .int .i64 (i : Int) ∧ gk = 9 - i ∧ i ≤ 9 ∧ Below W.heap.size W wr)
  case atStart => exact ⟨0, rfl, rfl, by decide, Below.refl _ _⟩
  case round =>
    obtain ⟨i, rfl, hgk, hin, hB⟩ := hrel
    have Hgk := hide hgk
    clear hgk
    by_cases hlt : i < 9
    · obtain ⟨⟨a, b, c, d, e⟩, hf⟩ : ∃ x, forms[i]? = some x := ⟨_, List.getElem?_eq_getElem (by rw [forms_len]; exact hlt)⟩
      obtain ⟨q0, q1, q2, q3, q4⟩ := (h.up hB).2 i a b c d e hf
      obtain ⟨l1, l2⟩ := forms_last i a b c d e hf
      have hi0 : (0 : Int) ≤ (i : Int) := Int.natCast_nonneg _
      have hi1 : (i : Int) < 9 := by omega
      have e1 : a ≤ 255 := l1
      have e2 : decide ((255 : Int) ≤ b) = false := by simp; omega
      have hs' : (0 : Int) < (s.size : Int) := by omega
      clear hf l1 l2
      go_wp2_with fail
      go_quiet (fail)
      go_wp2
      go_roundg (9 - (i + 1))
      case measure => have := unhide Hgk; omega
      case rel => exact ⟨i + 1, by go_num, rfl, by omega, ⟨hB.os, hB.tape, hB.output, by rw [World.heap_drewN]; exact (hB.alloc hB.size _).size, fun k hk => (hB.alloc hB.size _).block k hk⟩⟩
    · obtain rfl : i = 9 := by omega
      go_wp2
      go_ret
      exact ⟨rfl, hB⟩

set_option maxRecDepth 100000 in
set_option maxHeartbeats 4000000 in
theorem length0 (W : World) (s : ByteArray) (hs : 0 < s.size) :
    Calls Tryd.prog 76 #[.agg #[.int .u8 0, .int .u8 127, .int .u8 0, .int .u8 0, .int .u8 0], .string s] W fun e W' => e = .returned (.int .i64 1) ∧ Below W.heap.size W W' := by
  have hs' : decide ((s.size : Int) < 1) = false := by simp; omega
  have hs2 : s.size ≠ 0 := by omega
  go_enter Tryd.func76, Tryd.ntmps76
  go_wp2_with fail
  go_quiet (fail)
  go_wp2
  refine wp_loop_rounds 1 ?_
  rw [rounds_succ]
  go_wp2
  go_ret
  refine ⟨rfl, ?_⟩
  have hB : Below W.heap.size W (W.alloc (.cells #[.int .u8 0, .int .u8 127, .int .u8 0, .int .u8 0, .int .u8 0] 121)) := (Below.refl _ _).alloc (Nat.le_refl _) _
  exact ⟨hB.os, hB.tape, hB.output, hB.size, hB.block⟩

set_option maxRecDepth 100000 in
set_option maxHeartbeats 4000000 in
theorem char97 {W : World} (h : HasF W) (s : ByteArray) (hs : 0 < s.size) (h0 : s[0].toNat = 97) :
    Calls Tryd.prog 68 #[.string s] W fun e W' => e = .returned (.int .i64 1) ∧ Below W.heap.size W W' := by
  obtain ⟨q0, q1, q2, q3, q4⟩ := h.2 0 0 127 0 0 0 rfl
  have hs' : (0 : Int) < (s.size : Int) := by omega
  go_enter Tryd.func68, Tryd.ntmps68
  go_wp2
  refine wp_loop_rounds 1 ?_
  rw [rounds_succ]
  go_wp2_with fail
  go_quiet (fail)
  go_wp2_with fail
  refine (length0 _ s hs).mono ?_
  rintro e w2 ⟨rfl, hb2⟩
  have hB : Below W.heap.size W (W.alloc (.cells #[.int .u8 0, .int .u8 127, .int .u8 0, .int .u8 0, .int .u8 0] 121)) := (Below.refl _ _).alloc (Nat.le_refl _) _
  have hB2 : Below W.heap.size W w2 := ⟨hb2.os.trans hB.os, hb2.tape.trans hB.tape, hb2.output.trans hB.output, Nat.le_trans hB.size hb2.size, fun k hk => (hb2.block k (Nat.lt_of_lt_of_le hk hB.size)).trans (hB.block k hk)⟩
  go_wp2
  go_ret
  exact ⟨rfl, hB2⟩

set_option maxRecDepth 100000 in
set_option maxHeartbeats 4000000 in
theorem utf8_0 {W : World} (h : HasF W) : Calls Tryd.prog 35 #[.string ⟨#[97, 255]⟩] W fun e W' => e = .returned (.int .i64 1) ∧ Below W.heap.size W W' := by
  have hsz : (⟨#[97, 255]⟩ : ByteArray).size = 2 := rfl
  go_enter Tryd.func35, Tryd.ntmps35
  go_wp2
  refine wp_loop_rounds 2 ?_
  rw [rounds_succ]
  go_wp2_with fail
  refine (char97 h _ (by decide) (by decide)).mono ?_
  rintro e w1 ⟨rfl, hb1⟩
  go_wp2_with fail
  rw [rounds_succ]
  go_wp2_with fail
  refine (char255 (h.up hb1) _ (by decide) (by decide)).mono ?_
  rintro e w2 ⟨rfl, hb2⟩
  go_wp2
  go_ret
  exact ⟨rfl, hb1.trans (hb2.mono hb1.size)⟩
end Go.Proofs.YtphccijiniolcaaDoor
namespace Go.Proofs.YtphccijiniolcaaDoor
open Go.RowKit
attribute [local go_sem ↓] Go.wp_at_zero Go.wp_at_succ

set_option maxRecDepth 100000 in
set_option maxHeartbeats 2000000 in
theorem sameR_nil (W : World) (a a' : Option Addr) (c c' : Nat) :
    Calls Tryd.prog 12 #[.slice a 0 c, .slice a' 0 c'] W fun e W' => e = .returned (.bool true) ∧ Below W.heap.size W W' := by
  go_enter Tryd.func12, Tryd.ntmps12
  go_wp2
  refine wp_loop_rounds 1 ?_
  rw [rounds_succ]
  go_wp2
  go_ret
  exact ⟨rfl, Below.refl _ _⟩

set_option maxRecDepth 100000 in
set_option maxHeartbeats 4000000 in
theorem sameR_flat {W : World} {v u : Value} {rs : List Rec} (h : HasR W v rs) (h' : HasR W u rs) :
    Calls Tryd.prog 12 #[v, u] W fun e W' => e = .returned (.bool true) ∧ Below W.heap.size W W' := by
  obtain ⟨a, c, rfl, hm, h3⟩ := h
  obtain ⟨a', c', rfl, _, h3'⟩ := h'
  have H3 := hide h3
  have H3' := hide h3'
  clear h3 h3'
  have d0 : ((rs.length : Int) != (rs.length : Int)) = false := by simp
  go_enter Tryd.func12, Tryd.ntmps12
  go_wp2
  go_loopg [5] rs.length (fun gk v5 wr => ∃ (i : Nat), v5 = .int .i64 (i : Int) ∧ gk = rs.length - i ∧ i ≤ rs.length ∧ Below W.heap.size W wr)
  case atStart => exact ⟨0, rfl, rfl, Nat.zero_le _, Below.refl _ _⟩
  case round =>
    obtain ⟨i, rfl, hgk, hin, hB⟩ := hrel
    have Hgk := hide hgk
    clear hgk
    by_cases hlt : i < rs.length
    · obtain ⟨g, off, rfl, hg, hc⟩ := unhide H3 (by omega)
      obtain ⟨g', off', rfl, hg', hc'⟩ := unhide H3' (by omega)
      obtain ⟨r, hr⟩ : ∃ r, rs[i]? = some r := ⟨_, List.getElem?_eq_getElem hlt⟩
      obtain ⟨q0, q1, q2, q3, q4⟩ := hc i r hr
      obtain ⟨p0, p1, p2, p3, p4⟩ := hc' i r hr
      have d0 := (hB.cell (p := ⟨g, off + i * 5, none⟩) hg).trans q0
      have d1 := (hB.cell (p := ⟨g, off + i * 5 + 1, none⟩) hg).trans q1
      have d2 := (hB.cell (p := ⟨g, off + i * 5 + 2, none⟩) hg).trans q2
      have d3 := (hB.cell (p := ⟨g, off + i * 5 + 3, none⟩) hg).trans q3
      have d4 := (hB.cell (p := ⟨g, off + i * 5 + 4, none⟩) hg).trans q4
      have f0 := (hB.cell (p := ⟨g', off' + i * 5, none⟩) hg').trans p0
      have f1 := (hB.cell (p := ⟨g', off' + i * 5 + 1, none⟩) hg').trans p1
      have f2 := (hB.cell (p := ⟨g', off' + i * 5 + 2, none⟩) hg').trans p2
      have f3 := (hB.cell (p := ⟨g', off' + i * 5 + 3, none⟩) hg').trans p3
      have f4 := (hB.cell (p := ⟨g', off' + i * 5 + 4, none⟩) hg').trans p4
      have hi0 : (0 : Int) ≤ (i : Int) := Int.natCast_nonneg _
      have hi1 : (i : Int) < (rs.length : Int) := by omega
      have e0 : ((r.number : Int) != (r.number : Int)) = false := by simp
      have e1 : ((r.kind : Int) != (r.kind : Int)) = false := by simp
      have e2 : (r.num != r.num) = false := by simp
      have hgw : g' < wr.heap.size := by have := hB.size; omega
      have gf0 : ∀ o, (wr.alloc o).cell? ⟨g', off' + i * 5, none⟩ = _ := fun o => (World.cell?_alloc_lt _ _ _ hgw).trans f0
      have gf1 : ∀ o, (wr.alloc o).cell? ⟨g', off' + i * 5 + 1, none⟩ = _ := fun o => (World.cell?_alloc_lt _ _ _ hgw).trans f1
      have gf2 : ∀ o, (wr.alloc o).cell? ⟨g', off' + i * 5 + 2, none⟩ = _ := fun o => (World.cell?_alloc_lt _ _ _ hgw).trans f2
      have gf3 : ∀ o, (wr.alloc o).cell? ⟨g', off' + i * 5 + 3, none⟩ = _ := fun o => (World.cell?_alloc_lt _ _ _ hgw).trans f3
      have gf4 : ∀ o, (wr.alloc o).cell? ⟨g', off' + i * 5 + 4, none⟩ = _ := fun o => (World.cell?_alloc_lt _ _ _ hgw).trans f4
      clear q0 q1 q2 q3 q4 p0 p1 p2 p3 p4 hc hc' hr
      go_wp2_with fail
      have hB2 : Below W.heap.size W ((wr.alloc (.cells #[.int .i64 (r.number : Int), .int .i64 (r.kind : Int), .int .i64 r.num, .string r.text, .slice r.ia 0 r.ic] 45)).alloc (.cells #[.int .i64 (r.number : Int), .int .i64 (r.kind : Int), .int .i64 r.num, .string r.text, .slice r.ia 0 r.ic] 45)) := (hB.alloc hB.size _).alloc (by have := hB.size; rw [World.size_alloc]; omega) _
      refine (sameR_nil _ _ _ _ _).mono ?_
      rintro e w2 ⟨rfl, hb2⟩
      have hB3 := hB2.trans (hb2.mono hB2.size)
      clear d0 d1 d2 d3 d4 f0 f1 f2 f3 f4 gf0 gf1 gf2 gf3 gf4
      go_wp2
      go_roundg (rs.length - (i + 1))
      case measure => have := unhide Hgk; omega
      case rel => exact ⟨i + 1, by go_num, rfl, by omega, hB3⟩
    · obtain rfl : i = rs.length := by omega
      go_wp2
      go_ret
      exact ⟨rfl, hB⟩
end Go.Proofs.YtphccijiniolcaaDoor
namespace Go.Proofs.YtphccijiniolcaaDoor
open Go.RowKit
attribute [local go_sem ↓] Go.wp_at_zero Go.wp_at_succ

theorem hasB_lit {W : World} {g : Nat} {bs : List Int} {t : TypeId} {fr : Nat × Nat} (h : W.heap[g]? = some (.cells ((bs.map fun b => Value.int .u8 b).toArray) t fr)) (hl : bs.length ≤ 100) (n c : Nat) (hn : n = bs.length) : HasB W (.slice (some ⟨g, 0, none⟩) n c) bs := by
  subst hn
  refine ⟨_, _, rfl, by unfold maxLen; omega, fun _ => ⟨g, 0, rfl, (Array.getElem?_eq_some_iff.1 h).1, fun i b hb => ?_⟩⟩
  rw [Nat.zero_add, cell_of_row _ _ _ _ _ _ h]
  simp [hb]
theorem hasR_one {W : World} {g : Nat} {t : TypeId} {fr : Nat × Nat} (h : W.heap[g]? = some (.cells #[.int .i64 1, .int .i64 0, .int .i64 150, .string .empty, .slice none 0 0] t fr)) (c : Nat) : HasR W (.slice (some ⟨g, 0, none⟩) 1 c) [⟨1, 0, 150, .empty, none, 0⟩] := by
  refine ⟨_, _, rfl, by simp, fun _ => ⟨g, 0, rfl, (Array.getElem?_eq_some_iff.1 h).1, fun i r hr => ?_⟩⟩
  match i, hr with
  | 0, hr =>
    obtain rfl : _ = r := by simpa using hr
    refine ⟨?_, ?_, ?_, ?_, ?_⟩ <;> exact cell_of_row _ _ _ _ _ _ h
theorem hasR_two {W : World} {g : Nat} {t : TypeId} {fr : Nat × Nat} (h : W.heap[g]? = some (.cells #[.int .i64 1, .int .i64 0, .int .i64 150, .string .empty, .slice none 0 0, .int .i64 2, .int .i64 2, .int .i64 0, .string ⟨#[104, 105]⟩, .slice none 0 0] t fr)) (c : Nat) : HasR W (.slice (some ⟨g, 0, none⟩) 2 c) [r1, r2] := by
  refine ⟨_, _, rfl, by simp, fun _ => ⟨g, 0, rfl, (Array.getElem?_eq_some_iff.1 h).1, fun i r hr => ?_⟩⟩
  match i, hr with
  | 0, hr =>
    obtain rfl : _ = r := by simpa using hr
    refine ⟨?_, ?_, ?_, ?_, ?_⟩ <;> exact cell_of_row _ _ _ _ _ _ h
  | 1, hr =>
    obtain rfl : _ = r := by simpa using hr
    refine ⟨?_, ?_, ?_, ?_, ?_⟩ <;> exact cell_of_row _ _ _ _ _ _ h

def szOf (r : Rec) : Nat := if r.kind = 0 then 2 else 3
def bodyOf (r : Rec) : List Int := if r.kind = 0 then vint 150 else vint 2 ++ [104, 105]
theorem ok_both : ∀ r ∈ [r1, r2], RecOk r ((fun _ => 1) r) (szOf r) (bodyOf r) := by
  intro r hr
  simp at hr
  rcases hr with rfl | rfl
  · exact ok1
  · exact ok2
theorem v300 : vint 300 = [172, 2] := by rw [vint, if_neg (by decide), vint, if_pos (by decide)]; rfl
theorem v130 : vint (8 * 16 + 2) = [130, 1] := by rw [vint, if_neg (by decide), vint, if_pos (by decide)]; rfl
theorem v150 : vint 150 = [150, 1] := by rw [vint, if_neg (by decide), vint, if_pos (by decide)]; rfl
theorem v8 : vint 8 = [8] := by rw [vint, if_pos (by decide)]; rfl
theorem v18 : vint 18 = [18] := by rw [vint, if_pos (by decide)]; rfl
theorem v2 : vint 2 = [2] := by rw [vint, if_pos (by decide)]; rfl
theorem low1 : lows 1 4 = [1, 0, 0, 0] := by decide
theorem joined12 : joined bodyOf [r1, r2] = [8, 150, 1, 18, 2, 104, 105] := by
  simp [joined, bodyOf, r1, r2, v8, v18, v150, v2]
theorem sum12 : (([r1, r2].map fun r => (fun _ => 1) r + szOf r).sum) = 7 := by decide

set_option maxRecDepth 100000 in
set_option maxHeartbeats 2000000 in
theorem read1 {W : World} {g : Nat} {off cap : Nat} (h0 : W.cell? ⟨g, off, none⟩ = some (.int .u8 8)) :
    Calls Tryd.prog 29 #[.slice (some ⟨g, off, none⟩) 1 cap, .bool true] W fun e W' => e = .returned (.tuple #[.pointer (some ⟨W.heap.size, 0, none⟩), .int .i64 0]) ∧ Below W.heap.size W W' := by
  have hcv : (convert 24 9 (.slice (some ⟨g, off, none⟩) 1 cap)).run Tryd.prog W = .ok (.string ⟨#[8]⟩) W :=
    run_convert_bytes_back (P := Tryd.prog) W 24 9 5 ⟨g, off, none⟩ cap [8] Tryd.underlying24 Tryd.underlying5 Tryd.underlying9 (fun j hj => by
      rw [Go.WideShapes.add_plain]
      match j, hj with
      | 0, _ => exact h0)
  have hB : Below W.heap.size W (W.alloc (.cells #[.string ⟨#[8]⟩, .int .i64 0, .bool true] 70)) := (Below.refl _ _).alloc (Nat.le_refl _) _
  go_enter Tryd.func29, Tryd.ntmps29
  go_wp2
  go_ret2
  exact ⟨rfl, hB⟩
end Go.Proofs.YtphccijiniolcaaDoor
