import Derived.Test.YtgbadnbhgpnppaaDoorWLX
import Derived.Deep.RegionLaw
namespace Go.Proofs.YtgbadnbhgpnppaaDoor
open Go.RowKit
attribute [local go_sem ↓] Go.wp_at_zero Go.wp_at_succ

theorem Tryd.infoRec : (Tryd.prog.info? 55).map (fun i => (i.zero, i.size, i.bytes)) = some (some (.agg #[.int .i64 0, .int .i64 0, .int .i64 0, .string .empty, .slice none 0 0]), 5, 64) := by kernel_rfl
/-- What a row of one record holds. -/
theorem row_one {W : World} {base g c : Nat} {x0 x1 x2 x3 x4 : Value} (h : W.ownsRow base 55 5 (.slice (some ⟨g, 0, none⟩) 1 c) 1 [x0, x1, x2, x3, x4]) :
    ∃ cur, W.heap[g]? = some (.cells cur 55 (0, 0)) ∧ 5 ≤ cur.size ∧ W.cell? ⟨g, 0, none⟩ = some x0 ∧ W.cell? ⟨g, 1, none⟩ = some x1 ∧ W.cell? ⟨g, 2, none⟩ = some x2 ∧ W.cell? ⟨g, 3, none⟩ = some x3 ∧ W.cell? ⟨g, 4, none⟩ = some x4 ∧ ∀ j, W.frozen? ⟨g, j, none⟩ = false := by
  have h' := h
  obtain ⟨_, ⟨e, _⟩ | ⟨g', c', cur, e, _, hg, h1, _, h3, _⟩⟩ := h
  · cases e
  · obtain ⟨rfl, rfl⟩ : g = g' ∧ c = c' := by simpa using e
    have hc : ∀ j x, [x0, x1, x2, x3, x4][j]? = some x → W.cell? ⟨g, j, none⟩ = some x := fun j x hx => by
      have := h'.cells (g := g) rfl j x hx
      rwa [Go.WideShapes.add_plain, Nat.zero_add] at this
    exact ⟨cur, hg, by omega, hc 0 x0 rfl, hc 1 x1 rfl, hc 2 x2 rfl, hc 3 x3 rfl, hc 4 x4 rfl, fun j => frozen_of_row _ _ _ _ _ hg⟩

set_option maxRecDepth 100000 in
set_option maxHeartbeats 8000000 in
theorem add_nil {W : World} {wb : Nat} {rp : Option Addr} {tag depth num0 : Int} {ag : Value} (r : Rec) (h : W.heap[wb]? = some (.cells #[.pointer rp, .int .i64 tag, .int .i64 depth, .bool true, .int .i64 num0, .slice none 0 0, ag] 100 (0, 0))) :
    Calls Tryd.prog 71 #[.pointer (some ⟨wb, 0, none⟩), .agg #[.int .i64 (r.number : Int), .int .i64 (r.kind : Int), .int .i64 r.num, .string r.text, .slice r.ia 0 r.ic], .int .i64 0] W fun e W' => e = .returned (.int .i64 0) ∧ ∃ v, Upd W wb (.cells #[.pointer rp, .int .i64 tag, .int .i64 depth, .bool true, .int .i64 num0, v, ag] 100 (0, 0)) W' ∧ HasR W' v [r] := by
  obtain ⟨i0, hi, hz0, hz1, hz2⟩ := info_parts Tryd.infoRec
  have hwb : wb < W.heap.size := (Array.getElem?_eq_some_iff.1 h).1
  have c3 := cell_of_row W wb 3 _ _ _ h
  have c5 := cell_of_row W wb 5 _ _ _ h
  have f5 := frozen_of_row W wb 5 _ _ h
  simp at c3 c5
  have hV : Below W.heap.size W (W.alloc (.cells #[.int .i64 (r.number : Int), .int .i64 (r.kind : Int), .int .i64 r.num, .string r.text, .slice r.ia 0 r.ic] 55)) := (Below.refl _ _).alloc (Nat.le_refl _) _
  have hbx := heap_alloc_new W (.cells #[.int .i64 (r.number : Int), .int .i64 (r.kind : Int), .int .i64 r.num, .string r.text, .slice r.ia 0 r.ic] 55)
  have hVs : (W.alloc (.cells #[.int .i64 (r.number : Int), .int .i64 (r.kind : Int), .int .i64 r.num, .string r.text, .slice r.ia 0 r.ic] 55)).heap.size = W.heap.size + 1 := World.size_alloc _ _
  go_enter Tryd.func71, Tryd.ntmps71
  go_wp2_with fail
  generalize W.alloc (.cells #[.int .i64 (r.number : Int), .int .i64 (r.kind : Int), .int .i64 r.num, .string r.text, .slice r.ia 0 r.ic] 55) = V at *
  have x0 := cell_of_row V W.heap.size 0 _ _ _ hbx
  have x1 := cell_of_row V W.heap.size 1 _ _ _ hbx
  have x2 := cell_of_row V W.heap.size 2 _ _ _ hbx
  have x3 := cell_of_row V W.heap.size 3 _ _ _ hbx
  have x4 := cell_of_row V W.heap.size 4 _ _ _ hbx
  simp at x0 x1 x2 x3 x4
  have hVw := (hV.block wb hwb).trans h
  have v5 := (hV.cell (p := ⟨wb, 5, none⟩) hwb).trans c5
  have g5 := frozen_of_row V wb 5 _ _ hVw
  have hA : ∀ (b j : Nat) (o : Obj), b < V.heap.size → (V.alloc o).cell? ⟨b, j, none⟩ = V.cell? ⟨b, j, none⟩ := fun b j o hb => World.cell?_alloc_lt _ _ _ hb
  have a5 : ∀ o, (V.alloc o).cell? ⟨wb, 5, none⟩ = some (.slice none 0 0) := fun o => (hA wb 5 o (by omega)).trans v5
  have a0 : ∀ o, (V.alloc o).cell? ⟨W.heap.size, 0, none⟩ = _ := fun o => (hA W.heap.size 0 o (by omega)).trans x0
  have a1 : ∀ o, (V.alloc o).cell? ⟨W.heap.size, 1, none⟩ = _ := fun o => (hA W.heap.size 1 o (by omega)).trans x1
  have a2 : ∀ o, (V.alloc o).cell? ⟨W.heap.size, 2, none⟩ = _ := fun o => (hA W.heap.size 2 o (by omega)).trans x2
  have a3 : ∀ o, (V.alloc o).cell? ⟨W.heap.size, 3, none⟩ = _ := fun o => (hA W.heap.size 3 o (by omega)).trans x3
  have a4 : ∀ o, (V.alloc o).cell? ⟨W.heap.size, 4, none⟩ = _ := fun o => (hA W.heap.size 4 o (by omega)).trans x4
  clear hA
  go_region_law (refine step_append_lies _ rfl (.tmp 19) (.tmp 22) 24 rfl W.heap.size 55 i0 (.agg #[.int .i64 0, .int .i64 0, .int .i64 0, .string .empty, .slice none 0 0]) 5 64 Tryd.underlying24 hi hz0 hz1 hz2 rfl (by decide) (.slice none 0 0) 0 [] (by first | rfl | simp [Act.eval, Act.put]) (World.ownsRow_nil _ _ _ _) ⟨V.heap.size, 0, none⟩ 1 1 [.int .i64 0, .int .i64 0, .int .i64 0, .string .empty, .slice none 0 0] (by first | rfl | simp [Act.eval, Act.put]) (by rfl) (World.news_of_block (cs := #[.int .i64 0, .int .i64 0, .int .i64 0, .string .empty, .slice none 0 0]) (t := 55) (fr := (0, 0)) (heap_alloc_new _ _)) (by simp [Value.oneCell']) (by decide) (by decide) (by decide) (by first | omega | (simp; omega)) (V.heap.size + 1) (by simp) ?_; intro g3 cap w3 hown3 hgrow hat3 hlt3; obtain ⟨cur, hcur, hcs, z0, z1, z2, z3, z4, zf⟩ := row_one hown3; have k5 : w3.cell? ⟨wb, 5, none⟩ = some (.slice none 0 0) := (hgrow.cell_far ⟨wb, 5, none⟩ (by first | omega | (simp; omega)) (by simp [Value.ownBlock])).trans (a5 _); have k5f : w3.frozen? ⟨wb, 5, none⟩ = false := (hgrow.frozen_far ⟨wb, 5, none⟩ (by first | omega | (simp; omega)) (by simp [Value.ownBlock])).trans ((World.frozen?_alloc_past _ _ _ (by first | omega | (simp; omega))).trans g5); have hne : wb ≠ g3 := by rcases hat3 with q | q; exact absurd q (by simp [Value.ownBlock]); omega)
  all_goals
    obtain ⟨vv, hvv, hf1, hf2⟩ := add_nest (cap := cap) r hV hwb h hgrow.os hgrow.tape hgrow.output (by have := hgrow.size; simp at this; omega) (fun b hb => (hgrow.block b (by simp; omega) (by simp [Value.ownBlock])).trans (Below.heap_alloc V _ b hb)) hcur hcs (by rcases hat3 with q | q; exact absurd q (by simp [Value.ownBlock]); omega)
    obtain ⟨vw, hvw, hf3, hf4⟩ := add_nest2 (cap := cap) r hV hwb h hgrow.os hgrow.tape hgrow.output (by have := hgrow.size; simp at this; omega) (fun b hb => (hgrow.block b (by simp; omega) (by simp [Value.ownBlock])).trans (Below.heap_alloc V _ b hb)) hcur hcs (by rcases hat3 with q | q; exact absurd q (by simp [Value.ownBlock]); omega)
    have HF1 := hide hf1
    have HF2 := hide hf2
    have HF3 := hide hf3
    have HF4 := hide hf4
    clear hf1 hf2 hf3 hf4 hvv hvw hat3 hcs hlt3 hne h hV hbx hVs c3 c5 f5 hVw g5 hgrow hown3 z0 z1 z2 z3 z4 zf hcur x0 x1 x2 x3 x4 a0 a1 a2 a3 a4 a5 v5 k5 k5f
    go_wp2
    go_ret
    refine ⟨?_, ?_⟩
    · rfl
    · first
        | with_reducible exact ⟨vv, HF1, HF2⟩
        | with_reducible exact ⟨vv, unhide HF1, unhide HF2⟩
        | with_reducible exact ⟨vw, unhide HF3, unhide HF4⟩
end Go.Proofs.YtgbadnbhgpnppaaDoor
