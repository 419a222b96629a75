import Derived.Test.YtobomdokdajbaaaDoorJ06

namespace Go.Proofs.YtobomdokdajbaaaDoor
open Go.RowKit
attribute [local go_sem ↓] Go.wp_at_zero Go.wp_at_succ

set_option maxRecDepth 100000 in
set_option maxHeartbeats 2000000 in
theorem sameR_nil (W : World) (a a' : Option Addr) (c c' : Nat) :
    Calls Tryd.prog 17 #[.slice a 0 c, .slice a' 0 c'] W fun e W' => e = .returned (.bool true) ∧ Below W.heap.size W W' := by
  go_enter Tryd.func17, Tryd.ntmps17
  go_wp2
  refine wp_loop_rounds 1 ?_
  rw [rounds_succ]
  go_wp2
  go_ret
  exact ⟨rfl, Below.refl _ _⟩

set_option maxRecDepth 100000 in
set_option maxHeartbeats 4000000 in
theorem sameR_flat {W : World} {v u : Value} {rs : List Rec} (h : HasR W v rs) (h' : HasR W u rs) :
    Calls Tryd.prog 17 #[v, u] W fun e W' => e = .returned (.bool true) ∧ Below W.heap.size W W' := by
  obtain ⟨a, c, rfl, hm, h3⟩ := h
  obtain ⟨a', c', rfl, _, h3'⟩ := h'
  have H3 := hide h3
  have H3' := hide h3'
  clear h3 h3'
  have d0 : ((rs.length : Int) != (rs.length : Int)) = false := by simp
  go_enter Tryd.func17, Tryd.ntmps17
  go_wp2
  go_loopg [5] rs.length (fun gk v5 wr => ∃ (i : Nat), v5 = .int .i64 (i : Int) ∧ gk = rs.length - i ∧ i ≤ rs.length ∧ Below W.heap.size W wr)
  case atStart => exact ⟨0, rfl, rfl, Nat.zero_le _, Below.refl _ _⟩
  case round =>
    obtain ⟨i, rfl, hgk, hin, hB⟩ := hrel
    have Hgk := hide hgk
    clear hgk
    by_cases hlt : i < rs.length
    · obtain ⟨g, off, rfl, hg, hc⟩ := unhide H3 (by omega)
      obtain ⟨g', off', rfl, hg', hc'⟩ := unhide H3' (by omega)
      obtain ⟨r, hr⟩ : ∃ r, rs[i]? = some r := ⟨_, List.getElem?_eq_getElem hlt⟩
      obtain ⟨q0, q1, q2, q3, q4⟩ := hc i r hr
      obtain ⟨p0, p1, p2, p3, p4⟩ := hc' i r hr
      have d0 := (hB.cell (p := ⟨g, off + i * 5, none⟩) hg).trans q0
      have d1 := (hB.cell (p := ⟨g, off + i * 5 + 1, none⟩) hg).trans q1
      have d2 := (hB.cell (p := ⟨g, off + i * 5 + 2, none⟩) hg).trans q2
      have d3 := (hB.cell (p := ⟨g, off + i * 5 + 3, none⟩) hg).trans q3
      have d4 := (hB.cell (p := ⟨g, off + i * 5 + 4, none⟩) hg).trans q4
      have f0 := (hB.cell (p := ⟨g', off' + i * 5, none⟩) hg').trans p0
      have f1 := (hB.cell (p := ⟨g', off' + i * 5 + 1, none⟩) hg').trans p1
      have f2 := (hB.cell (p := ⟨g', off' + i * 5 + 2, none⟩) hg').trans p2
      have f3 := (hB.cell (p := ⟨g', off' + i * 5 + 3, none⟩) hg').trans p3
      have f4 := (hB.cell (p := ⟨g', off' + i * 5 + 4, none⟩) hg').trans p4
      have hi0 : (0 : Int) ≤ (i : Int) := Int.natCast_nonneg _
      have hi1 : (i : Int) < (rs.length : Int) := by omega
      have e0 : ((r.number : Int) != (r.number : Int)) = false := by simp
      have e1 : ((r.kind : Int) != (r.kind : Int)) = false := by simp
      have e2 : (r.num != r.num) = false := by simp
      have hgw : g' < wr.heap.size := by have := hB.size; omega
      have gf0 : ∀ o, (wr.alloc o).cell? ⟨g', off' + i * 5, none⟩ = _ := fun o => (World.cell?_alloc_lt _ _ _ hgw).trans f0
      have gf1 : ∀ o, (wr.alloc o).cell? ⟨g', off' + i * 5 + 1, none⟩ = _ := fun o => (World.cell?_alloc_lt _ _ _ hgw).trans f1
      have gf2 : ∀ o, (wr.alloc o).cell? ⟨g', off' + i * 5 + 2, none⟩ = _ := fun o => (World.cell?_alloc_lt _ _ _ hgw).trans f2
      have gf3 : ∀ o, (wr.alloc o).cell? ⟨g', off' + i * 5 + 3, none⟩ = _ := fun o => (World.cell?_alloc_lt _ _ _ hgw).trans f3
      have gf4 : ∀ o, (wr.alloc o).cell? ⟨g', off' + i * 5 + 4, none⟩ = _ := fun o => (World.cell?_alloc_lt _ _ _ hgw).trans f4
      clear q0 q1 q2 q3 q4 p0 p1 p2 p3 p4 hc hc' hr
      go_wp2_with fail
      have hB2 : Below W.heap.size W ((wr.alloc (.cells #[.int .i64 (r.number : Int), .int .i64 (r.kind : Int), .int .i64 r.num, .string r.text, .slice r.ia 0 r.ic] 35)).alloc (.cells #[.int .i64 (r.number : Int), .int .i64 (r.kind : Int), .int .i64 r.num, .string r.text, .slice r.ia 0 r.ic] 35)) := (hB.alloc hB.size _).alloc (by have := hB.size; rw [World.size_alloc]; omega) _
      refine (sameR_nil _ _ _ _ _).mono ?_
      rintro e w2 ⟨rfl, hb2⟩
      have hB3 := hB2.trans (hb2.mono hB2.size)
      clear d0 d1 d2 d3 d4 f0 f1 f2 f3 f4 gf0 gf1 gf2 gf3 gf4
      go_wp2
      go_roundg (rs.length - (i + 1))
      case measure => have := unhide Hgk; omega
      case rel => exact ⟨i + 1, by go_num, rfl, by omega, hB3⟩
    · obtain rfl : i = rs.length := by omega
      go_wp2
      go_ret
      exact ⟨rfl, hB⟩
end Go.Proofs.YtobomdokdajbaaaDoor

namespace Go.Proofs.YtobomdokdajbaaaDoor
open Go.RowKit
attribute [local go_sem ↓] Go.wp_at_zero Go.wp_at_succ

theorem hasB_lit {W : World} {g : Nat} {bs : List Int} {t : TypeId} {fr : Nat × Nat} (h : W.heap[g]? = some (.cells ((bs.map fun b => Value.int .u8 b).toArray) t fr)) (hl : bs.length ≤ 100) (n c : Nat) (hn : n = bs.length) : HasB W (.slice (some ⟨g, 0, none⟩) n c) bs := by
  subst hn
  refine ⟨_, _, rfl, by unfold maxLen; omega, fun _ => ⟨g, 0, rfl, (Array.getElem?_eq_some_iff.1 h).1, fun i b hb => ?_⟩⟩
  rw [Nat.zero_add, cell_of_row _ _ _ _ _ _ h]
  simp [hb]
theorem hasR_one {W : World} {g : Nat} {t : TypeId} {fr : Nat × Nat} (h : W.heap[g]? = some (.cells #[.int .i64 1, .int .i64 0, .int .i64 150, .string .empty, .slice none 0 0] t fr)) (c : Nat) : HasR W (.slice (some ⟨g, 0, none⟩) 1 c) [⟨1, 0, 150, .empty, none, 0⟩] := by
  refine ⟨_, _, rfl, by simp, fun _ => ⟨g, 0, rfl, (Array.getElem?_eq_some_iff.1 h).1, fun i r hr => ?_⟩⟩
  match i, hr with
  | 0, hr =>
    obtain rfl : _ = r := by simpa using hr
    refine ⟨?_, ?_, ?_, ?_, ?_⟩ <;> exact cell_of_row _ _ _ _ _ _ h
theorem hasR_two {W : World} {g : Nat} {t : TypeId} {fr : Nat × Nat} (h : W.heap[g]? = some (.cells #[.int .i64 1, .int .i64 0, .int .i64 150, .string .empty, .slice none 0 0, .int .i64 2, .int .i64 2, .int .i64 0, .string ⟨#[104, 105]⟩, .slice none 0 0] t fr)) (c : Nat) : HasR W (.slice (some ⟨g, 0, none⟩) 2 c) [r1, r2] := by
  refine ⟨_, _, rfl, by simp, fun _ => ⟨g, 0, rfl, (Array.getElem?_eq_some_iff.1 h).1, fun i r hr => ?_⟩⟩
  match i, hr with
  | 0, hr =>
    obtain rfl : _ = r := by simpa using hr
    refine ⟨?_, ?_, ?_, ?_, ?_⟩ <;> exact cell_of_row _ _ _ _ _ _ h
  | 1, hr =>
    obtain rfl : _ = r := by simpa using hr
    refine ⟨?_, ?_, ?_, ?_, ?_⟩ <;> exact cell_of_row _ _ _ _ _ _ h

def szOf (r : Rec) : Nat := if r.kind = 0 then 2 else 3
def bodyOf (r : Rec) : List Int := if r.kind = 0 then vint 150 else vint 2 ++ [104, 105]
theorem ok_both : ∀ r ∈ [r1, r2], RecOk r ((fun _ => 1) r) (szOf r) (bodyOf r) := by
  intro r hr
  simp at hr
  rcases hr with rfl | rfl
  · exact ok1
  · exact ok2
theorem v300 : vint 300 = [172, 2] := by rw [vint, if_neg (by decide), vint, if_pos (by decide)]; rfl
theorem v130 : vint (8 * 16 + 2) = [130, 1] := by rw [vint, if_neg (by decide), vint, if_pos (by decide)]; rfl
theorem v150 : vint 150 = [150, 1] := by rw [vint, if_neg (by decide), vint, if_pos (by decide)]; rfl
theorem v8 : vint 8 = [8] := by rw [vint, if_pos (by decide)]; rfl
theorem v18 : vint 18 = [18] := by rw [vint, if_pos (by decide)]; rfl
theorem v2 : vint 2 = [2] := by rw [vint, if_pos (by decide)]; rfl
theorem low1 : lows 1 4 = [1, 0, 0, 0] := by decide
theorem joined12 : joined bodyOf [r1, r2] = [8, 150, 1, 18, 2, 104, 105] := by
  simp [joined, bodyOf, r1, r2, v8, v18, v150, v2]
theorem sum12 : (([r1, r2].map fun r => (fun _ => 1) r + szOf r).sum) = 7 := by decide

set_option maxRecDepth 100000 in
set_option maxHeartbeats 2000000 in
theorem read1 {W : World} {g : Nat} {off cap : Nat} (h0 : W.cell? ⟨g, off, none⟩ = some (.int .u8 8)) :
    Calls Tryd.prog 23 #[.slice (some ⟨g, off, none⟩) 1 cap, .bool true] W fun e W' => e = .returned (.tuple #[.pointer (some ⟨W.heap.size, 0, none⟩), .int .i64 0]) ∧ Below W.heap.size W W' := by
  have hcv : (convert 24 9 (.slice (some ⟨g, off, none⟩) 1 cap)).run Tryd.prog W = .ok (.string ⟨#[8]⟩) W :=
    run_convert_bytes_back (P := Tryd.prog) W 24 9 5 ⟨g, off, none⟩ cap [8] Tryd.underlying24 Tryd.underlying5 Tryd.underlying9 (fun j hj => by
      rw [Go.WideShapes.add_plain]
      match j, hj with
      | 0, _ => exact h0)
  have hB : Below W.heap.size W (W.alloc (.cells #[.string ⟨#[8]⟩, .int .i64 0, .bool true] 78)) := (Below.refl _ _).alloc (Nat.le_refl _) _
  go_enter Tryd.func23, Tryd.ntmps23
  go_wp2
  go_ret2
  exact ⟨rfl, hB⟩
end Go.Proofs.YtobomdokdajbaaaDoor

namespace Go.Proofs.YtobomdokdajbaaaDoor
open Go.RowKit
attribute [local go_sem ↓] Go.wp_at_zero Go.wp_at_succ

set_option maxRecDepth 100000 in
set_option maxHeartbeats 8000000 in
/-- The document's examples. -/
theorem known_any (hadd : AddNil) {W : World} (hF : HasF W) : Calls Tryd.prog 6 #[] W fun e W' => e = .returned (.bool true) ∧ Below W.heap.size W W' := by
  go_enter Tryd.func6, Tryd.ntmps6
  go_wp2_with fail
  have a1 : Below W.heap.size W (W.alloc (.cells #[.int .u8 8] 5)) := (Below.refl _ _).alloc (Nat.le_refl _) _
  have b1 := cell_of_row _ _ 0 _ _ _ (heap_alloc_new W (.cells #[.int .u8 8] 5))
  generalize W.alloc (.cells #[.int .u8 8] 5) = x1 at *
  refine (read1 (off := 0) b1).mono ?_
  rintro e w1 ⟨rfl, hb⟩
  have h1 := a1.trans (hb.mono a1.size)
  clear hb b1 a1
  go_wp2_with fail
  refine (varint_any w1 300 300 (by decide +kernel) (by decide)).mono ?_
  rintro e w2 ⟨va, rfl, hva, hb⟩
  have h2 := h1.trans (hb.mono h1.size)
  have Ha := hide (v300 ▸ hva.has)
  clear hb hva h1
  go_wp2_with fail
  refine (fixed_any w2 1 4 (.inl ⟨rfl, by decide, by decide⟩)).mono ?_
  rintro e w3 ⟨vb, rfl, hvb, hb⟩
  have h3 := h2.trans (hb.mono h2.size)
  have Ha3 := hide ((unhide Ha).up hb)
  have Hb := hide (low1 ▸ hvb.has)
  clear hb hvb h2 Ha
  go_wp2_with fail
  refine (tagW_any w3 16 2 (by decide) (by decide)).mono ?_
  rintro e w4 ⟨vc, rfl, hvc, hb⟩
  have h4 := h3.trans (hb.mono h3.size)
  have Ha4 := hide ((unhide Ha3).up hb)
  have Hb4 := hide ((unhide Hb).up hb)
  have Hc := hide (v130 ▸ hvc.has)
  clear hb hvc h3 Ha3 Hb
  go_wp2_with fail
  have a0 : Below w4.heap.size w4 (w4.alloc (.cells #[.int .i64 1, .int .i64 0, .int .i64 150, .string ⟨#[]⟩, .slice none 0 0, .int .i64 2, .int .i64 2, .int .i64 0, .string ⟨#[104, 105]⟩, .slice none 0 0] 35)) := (Below.refl _ _).alloc (Nat.le_refl _) _
  have b0 := heap_alloc_new w4 (.cells #[.int .i64 1, .int .i64 0, .int .i64 150, .string ⟨#[]⟩, .slice none 0 0, .int .i64 2, .int .i64 2, .int .i64 0, .string ⟨#[104, 105]⟩, .slice none 0 0] 35)
  generalize w4.alloc (.cells #[.int .i64 1, .int .i64 0, .int .i64 150, .string ⟨#[]⟩, .slice none 0 0, .int .i64 2, .int .i64 2, .int .i64 0, .string ⟨#[104, 105]⟩, .slice none 0 0] 35) = x5 at *
  refine (join_flat (hasR_two b0 2) (fun _ => 1) szOf bodyOf ok_both 7 sum12 (by decide) (by rw [joined12]; decide)).mono ?_
  rintro e w5 ⟨vd, rfl, hvd, hb⟩
  have c5 := a0.trans (hb.mono a0.size)
  have h5 := h4.trans (c5.mono h4.size)
  have Ha5 := hide ((unhide Ha4).up c5)
  have Hb5 := hide ((unhide Hb4).up c5)
  have Hc5 := hide ((unhide Hc).up c5)
  have Hd5 := hide (joined12 ▸ hvd.has)
  clear hb hvd h4 Ha4 Hb4 Hc a0 b0 c5
  go_wp2_with fail
  have a0 : Below w5.heap.size w5 (w5.alloc (.cells #[.int .u8 8, .int .u8 150, .int .u8 1] 5)) := (Below.refl _ _).alloc (Nat.le_refl _) _
  have b0 := heap_alloc_new w5 (.cells #[.int .u8 8, .int .u8 150, .int .u8 1] 5)
  generalize w5.alloc (.cells #[.int .u8 8, .int .u8 150, .int .u8 1] 5) = x6 at *
  have y0 := cell_of_row _ _ 0 _ _ _ b0
  have y1 := cell_of_row _ _ 1 _ _ _ b0
  have y2 := cell_of_row _ _ 2 _ _ _ b0
  refine (split0 hadd (off := 0) y0 y1 y2).mono ?_
  rintro e w6 ⟨vl, rfl, hvl, hb⟩
  have c6 := a0.trans (hb.mono a0.size)
  have h6 := h5.trans (c6.mono h5.size)
  have Ha6 := hide ((unhide Ha5).up c6)
  have Hb6 := hide ((unhide Hb5).up c6)
  have Hc6 := hide ((unhide Hc5).up c6)
  have Hd6 := hide ((unhide Hd5).up c6)
  have Hl6 := hide hvl
  clear hb hvl h5 Ha5 Hb5 Hc5 Hd5 a0 b0 y0 y1 y2 c6
  go_wp2_with fail
  have a0 : Below w6.heap.size w6 (w6.alloc (.cells #[.int .u8 172, .int .u8 2] 5)) := (Below.refl _ _).alloc (Nat.le_refl _) _
  have b0 := heap_alloc_new w6 (.cells #[.int .u8 172, .int .u8 2] 5)
  generalize w6.alloc (.cells #[.int .u8 172, .int .u8 2] 5) = x7 at *
  refine (same_any ((unhide Ha6).up a0) (hasB_lit (bs := [172, 2]) b0 (by decide) 2 2 rfl)).mono ?_
  rintro e w7 ⟨rfl, hb⟩
  have c7 := a0.trans (hb.mono a0.size)
  have h7 := h6.trans (c7.mono h6.size)
  have Ha7 := hide ((unhide Ha6).up c7)
  have Hb7 := hide ((unhide Hb6).up c7)
  have Hc7 := hide ((unhide Hc6).up c7)
  have Hd7 := hide ((unhide Hd6).up c7)
  have Hl7 := hide ((unhide Hl6).up c7)
  clear hb h6 a0 b0 c7 Ha6 Hb6 Hc6 Hd6 Hl6
  go_wp2_with fail
  have a0 : Below w7.heap.size w7 (w7.alloc (.cells #[.int .u8 1, .int .u8 0, .int .u8 0, .int .u8 0] 5)) := (Below.refl _ _).alloc (Nat.le_refl _) _
  have b0 := heap_alloc_new w7 (.cells #[.int .u8 1, .int .u8 0, .int .u8 0, .int .u8 0] 5)
  generalize w7.alloc (.cells #[.int .u8 1, .int .u8 0, .int .u8 0, .int .u8 0] 5) = x8 at *
  refine (same_any ((unhide Hb7).up a0) (hasB_lit (bs := [1, 0, 0, 0]) b0 (by decide) 4 4 rfl)).mono ?_
  rintro e w8 ⟨rfl, hb⟩
  have c8 := a0.trans (hb.mono a0.size)
  have h8 := h7.trans (c8.mono h7.size)
  have Ha8 := hide ((unhide Ha7).up c8)
  have Hb8 := hide ((unhide Hb7).up c8)
  have Hc8 := hide ((unhide Hc7).up c8)
  have Hd8 := hide ((unhide Hd7).up c8)
  have Hl8 := hide ((unhide Hl7).up c8)
  clear hb h7 a0 b0 c8 Ha7 Hb7 Hc7 Hd7 Hl7
  go_wp2_with fail
  have a0 : Below w8.heap.size w8 (w8.alloc (.cells #[.int .u8 130, .int .u8 1] 5)) := (Below.refl _ _).alloc (Nat.le_refl _) _
  have b0 := heap_alloc_new w8 (.cells #[.int .u8 130, .int .u8 1] 5)
  generalize w8.alloc (.cells #[.int .u8 130, .int .u8 1] 5) = x9 at *
  refine (same_any ((unhide Hc8).up a0) (hasB_lit (bs := [130, 1]) b0 (by decide) 2 2 rfl)).mono ?_
  rintro e w9 ⟨rfl, hb⟩
  have c9 := a0.trans (hb.mono a0.size)
  have h9 := h8.trans (c9.mono h8.size)
  have Ha9 := hide ((unhide Ha8).up c9)
  have Hb9 := hide ((unhide Hb8).up c9)
  have Hc9 := hide ((unhide Hc8).up c9)
  have Hd9 := hide ((unhide Hd8).up c9)
  have Hl9 := hide ((unhide Hl8).up c9)
  clear hb h8 a0 b0 c9 Ha8 Hb8 Hc8 Hd8 Hl8
  go_wp2_with fail
  have a0 : Below w9.heap.size w9 (w9.alloc (.cells #[.int .u8 8, .int .u8 150, .int .u8 1, .int .u8 18, .int .u8 2, .int .u8 104, .int .u8 105] 5)) := (Below.refl _ _).alloc (Nat.le_refl _) _
  have b0 := heap_alloc_new w9 (.cells #[.int .u8 8, .int .u8 150, .int .u8 1, .int .u8 18, .int .u8 2, .int .u8 104, .int .u8 105] 5)
  generalize w9.alloc (.cells #[.int .u8 8, .int .u8 150, .int .u8 1, .int .u8 18, .int .u8 2, .int .u8 104, .int .u8 105] 5) = x10 at *
  refine (same_any ((unhide Hd9).up a0) (hasB_lit (bs := [8, 150, 1, 18, 2, 104, 105]) b0 (by decide) 7 7 rfl)).mono ?_
  rintro e w10 ⟨rfl, hb⟩
  have c10 := a0.trans (hb.mono a0.size)
  have h10 := h9.trans (c10.mono h9.size)
  have Ha10 := hide ((unhide Ha9).up c10)
  have Hb10 := hide ((unhide Hb9).up c10)
  have Hc10 := hide ((unhide Hc9).up c10)
  have Hd10 := hide ((unhide Hd9).up c10)
  have Hl10 := hide ((unhide Hl9).up c10)
  clear hb h9 a0 b0 c10 Ha9 Hb9 Hc9 Hd9 Hl9
  go_wp2_with fail
  have a0 : Below w10.heap.size w10 (w10.alloc (.cells #[.int .i64 1, .int .i64 0, .int .i64 150, .string ⟨#[]⟩, .slice none 0 0] 35)) := (Below.refl _ _).alloc (Nat.le_refl _) _
  have b0 := heap_alloc_new w10 (.cells #[.int .i64 1, .int .i64 0, .int .i64 150, .string ⟨#[]⟩, .slice none 0 0] 35)
  generalize w10.alloc (.cells #[.int .i64 1, .int .i64 0, .int .i64 150, .string ⟨#[]⟩, .slice none 0 0] 35) = x11 at *
  refine (sameR_flat ((unhide Hl10).up a0) (hasR_one b0 1)).mono ?_
  rintro e w11 ⟨rfl, hb⟩
  have h11 := h10.trans ((a0.trans (hb.mono a0.size)).mono h10.size)
  clear hb a0 b0 Ha10 Hb10 Hc10 Hd10 Hl10
  go_wp2_with fail
  refine (zig_any w11 (-1) ⟨by decide, by decide⟩).mono ?_
  rintro e w' ⟨rfl, he⟩
  obtain rfl : w11 = w' := he.symm
  rw [show zig (-1) = 1 by decide +kernel]
  go_wp2_with fail
  refine (zag_any w11 3).mono ?_
  rintro e w' ⟨rfl, he⟩
  obtain rfl : w11 = w' := he.symm
  rw [show zag 3 = -2 by decide +kernel]
  go_wp2_with fail
  refine (utf8_0 (hF.up h11)).mono ?_
  rintro e w12 ⟨rfl, hb⟩
  have h12 := h11.trans (hb.mono h11.size)
  go_wp2
  go_ret
  exact ⟨rfl, h12⟩
end Go.Proofs.YtobomdokdajbaaaDoor
