import Derived.Test.YtfcjkkljmjmhmaaDoorW8
namespace Go.Proofs.YtfcjkkljmjmhmaaDoor
open Go.RowKit
attribute [local go_sem ↓] Go.wp_at_zero Go.wp_at_succ

set_option maxRecDepth 100000 in
set_option maxHeartbeats 2000000 in
theorem sameR_nil (W : World) (a a' : Option Addr) (c c' : Nat) :
    Calls Tryd.prog 16 #[.slice a 0 c, .slice a' 0 c'] W fun e W' => e = .returned (.bool true) ∧ Below W.heap.size W W' := by
  go_enter Tryd.func16, Tryd.ntmps16
  go_wp2
  refine wp_loop_rounds 1 ?_
  rw [rounds_succ]
  go_wp2
  go_ret
  exact ⟨rfl, Below.refl _ _⟩

set_option maxRecDepth 100000 in
set_option maxHeartbeats 4000000 in
theorem sameR_flat {W : World} {v u : Value} {rs : List Rec} (h : HasR W v rs) (h' : HasR W u rs) :
    Calls Tryd.prog 16 #[v, u] W fun e W' => e = .returned (.bool true) ∧ Below W.heap.size W W' := by
  obtain ⟨a, c, rfl, hm, h3⟩ := h
  obtain ⟨a', c', rfl, _, h3'⟩ := h'
  have H3 := hide h3
  have H3' := hide h3'
  clear h3 h3'
  have d0 : ((rs.length : Int) != (rs.length : Int)) = false := by simp
  go_enter Tryd.func16, Tryd.ntmps16
  go_wp2
  go_loopg [5] rs.length (fun gk v5 wr => ∃ (i : Nat), v5 = .int .i64 (i : Int) ∧ gk = rs.length - i ∧ i ≤ rs.length ∧ Below W.heap.size W wr)
  case atStart => exact ⟨0, rfl, rfl, Nat.zero_le _, Below.refl _ _⟩
  case round =>
    obtain ⟨i, rfl, hgk, hin, hB⟩ := hrel
    have Hgk := hide hgk
    clear hgk
    by_cases hlt : i < rs.length
    · obtain ⟨g, off, rfl, hg, hc⟩ := unhide H3 (by omega)
      obtain ⟨g', off', rfl, hg', hc'⟩ := unhide H3' (by omega)
      obtain ⟨r, hr⟩ : ∃ r, rs[i]? = some r := ⟨_, List.getElem?_eq_getElem hlt⟩
      obtain ⟨q0, q1, q2, q3, q4⟩ := hc i r hr
      obtain ⟨p0, p1, p2, p3, p4⟩ := hc' i r hr
      have d0 := (hB.cell (p := ⟨g, off + i * 5, none⟩) hg).trans q0
      have d1 := (hB.cell (p := ⟨g, off + i * 5 + 1, none⟩) hg).trans q1
      have d2 := (hB.cell (p := ⟨g, off + i * 5 + 2, none⟩) hg).trans q2
      have d3 := (hB.cell (p := ⟨g, off + i * 5 + 3, none⟩) hg).trans q3
      have d4 := (hB.cell (p := ⟨g, off + i * 5 + 4, none⟩) hg).trans q4
      have f0 := (hB.cell (p := ⟨g', off' + i * 5, none⟩) hg').trans p0
      have f1 := (hB.cell (p := ⟨g', off' + i * 5 + 1, none⟩) hg').trans p1
      have f2 := (hB.cell (p := ⟨g', off' + i * 5 + 2, none⟩) hg').trans p2
      have f3 := (hB.cell (p := ⟨g', off' + i * 5 + 3, none⟩) hg').trans p3
      have f4 := (hB.cell (p := ⟨g', off' + i * 5 + 4, none⟩) hg').trans p4
      have hi0 : (0 : Int) ≤ (i : Int) := Int.natCast_nonneg _
      have hi1 : (i : Int) < (rs.length : Int) := by omega
      have e0 : ((r.number : Int) != (r.number : Int)) = false := by simp
      have e1 : ((r.kind : Int) != (r.kind : Int)) = false := by simp
      have e2 : (r.num != r.num) = false := by simp
      have hgw : g' < wr.heap.size := by have := hB.size; omega
      have gf0 : ∀ o, (wr.alloc o).cell? ⟨g', off' + i * 5, none⟩ = _ := fun o => (World.cell?_alloc_lt _ _ _ hgw).trans f0
      have gf1 : ∀ o, (wr.alloc o).cell? ⟨g', off' + i * 5 + 1, none⟩ = _ := fun o => (World.cell?_alloc_lt _ _ _ hgw).trans f1
      have gf2 : ∀ o, (wr.alloc o).cell? ⟨g', off' + i * 5 + 2, none⟩ = _ := fun o => (World.cell?_alloc_lt _ _ _ hgw).trans f2
      have gf3 : ∀ o, (wr.alloc o).cell? ⟨g', off' + i * 5 + 3, none⟩ = _ := fun o => (World.cell?_alloc_lt _ _ _ hgw).trans f3
      have gf4 : ∀ o, (wr.alloc o).cell? ⟨g', off' + i * 5 + 4, none⟩ = _ := fun o => (World.cell?_alloc_lt _ _ _ hgw).trans f4
      clear q0 q1 q2 q3 q4 p0 p1 p2 p3 p4 hc hc' hr
      go_wp2_with fail
      have hB2 : Below W.heap.size W ((wr.alloc (.cells #[.int .i64 (r.number : Int), .int .i64 (r.kind : Int), .int .i64 r.num, .string r.text, .slice r.ia 0 r.ic] 36)).alloc (.cells #[.int .i64 (r.number : Int), .int .i64 (r.kind : Int), .int .i64 r.num, .string r.text, .slice r.ia 0 r.ic] 36)) := (hB.alloc hB.size _).alloc (by have := hB.size; rw [World.size_alloc]; omega) _
      refine (sameR_nil _ _ _ _ _).mono ?_
      rintro e w2 ⟨rfl, hb2⟩
      have hB3 := hB2.trans (hb2.mono hB2.size)
      clear d0 d1 d2 d3 d4 f0 f1 f2 f3 f4 gf0 gf1 gf2 gf3 gf4
      go_wp2
      go_roundg (rs.length - (i + 1))
      case measure => have := unhide Hgk; omega
      case rel => exact ⟨i + 1, by go_num, rfl, by omega, hB3⟩
    · obtain rfl : i = rs.length := by omega
      go_wp2
      go_ret
      exact ⟨rfl, hB⟩
end Go.Proofs.YtfcjkkljmjmhmaaDoor
