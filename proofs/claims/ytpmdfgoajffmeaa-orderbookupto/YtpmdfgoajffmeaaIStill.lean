import Derived.Test.YtpmdfgoajffmeaaIOlds

namespace Go.Proofs.Ytpmdfgoajffmeaa
open Go.RowKit Go.Shelf
attribute [local go_sem ↓] Go.wp_at_zero Go.wp_at_succ

set_option maxRecDepth 100000 in
set_option maxHeartbeats 2000000 in
theorem still_any {W : World} {a : Nat} {vK vV : Value} {T : BT} (hA : IsM W (some ⟨a, 0, none⟩) T) (hK : IsKs W vK (T.io.map (·.1))) (hV : IsKs W vV (T.io.map (·.2))) (hsz : T.io.length * 8 ≤ 140737488355328) :
    Calls Try.prog 12 #[.agg #[.pointer (some ⟨a, 0, none⟩), vK, vV]] W fun e W' => e = .returned (.bool true) ∧ Below W.heap.size W W' := by
  have hv : (∃ a n c, vK = .slice a n c) ∧ (∃ a n c, vV = .slice a n c) := by
    obtain ⟨_, _, rfl, _⟩ := hK
    obtain ⟨_, _, rfl, _⟩ := hV
    exact ⟨⟨_, _, _, rfl⟩, ⟨_, _, _, rfl⟩⟩
  obtain ⟨⟨ka, kn, kc, rfl⟩, ⟨va, vn, vc, rfl⟩⟩ := hv
  have HK := hide hK
  have HV := hide hV
  have HA := hide hA
  clear hK hV hA
  have hx : Below W.heap.size W (W.alloc (.cells #[.pointer (some ⟨a, 0, none⟩), .slice ka kn kc, .slice va vn vc] 29)) := (Below.refl _ _).alloc (Nat.le_refl _) _
  have hs1 := World.alloc_heap_new W (.cells #[.pointer (some ⟨a, 0, none⟩), .slice ka kn kc, .slice va vn vc] 29)
  have z1 : (W.alloc (.cells #[.pointer (some ⟨a, 0, none⟩), .slice ka kn kc, .slice va vn vc] 29)).heap.size = W.heap.size + 1 := World.size_alloc _ _
  go_enter Try.func12, Try.ntmps12
  go_wp2_with fail
  generalize W.alloc (.cells #[.pointer (some ⟨a, 0, none⟩), .slice ka kn kc, .slice va vn vc] 29) = X at *
  refine (snap_any ((unhide HA).up hx) hsz).mono ?_
  rintro e w2 ⟨vK', vV', rfl, hK', hV', hb2⟩
  have hv : (∃ a n c, vK' = .slice a n c) ∧ (∃ a n c, vV' = .slice a n c) := by
    obtain ⟨_, _, rfl, _⟩ := hK'
    obtain ⟨_, _, rfl, _⟩ := hV'
    exact ⟨⟨_, _, _, rfl⟩, ⟨_, _, _, rfl⟩⟩
  obtain ⟨⟨ka', kn', kc', rfl⟩, ⟨va', vn', vc', rfl⟩⟩ := hv
  have hs1' := (hb2.block W.heap.size (by omega)).trans hs1
  have hB2 : Below W.heap.size W w2 := hx.trans (hb2.mono hx.size)
  have k1 := (unhide HK).up hB2
  have k2 := (unhide HV).up hB2
  have hy : Below w2.heap.size w2 (w2.alloc (.cells #[.pointer (some ⟨a, 0, none⟩), .slice ka' kn' kc', .slice va' vn' vc'] 29)) := (Below.refl _ _).alloc (Nat.le_refl _) _
  have HK' := hide hK'
  have HV' := hide hV'
  have K1 := hide k1
  have K2 := hide k2
  have hs2 := World.alloc_heap_new w2 (.cells #[.pointer (some ⟨a, 0, none⟩), .slice ka' kn' kc', .slice va' vn' vc'] 29)
  have hs3 := (hy.block W.heap.size (by have := hb2.size; omega)).trans hs1'
  have hY : Below W.heap.size W (w2.alloc (.cells #[.pointer (some ⟨a, 0, none⟩), .slice ka' kn' kc', .slice va' vn' vc'] 29)) := hB2.alloc hB2.size _
  obtain ⟨p0, p1, p2, _⟩ := cells3_of hs3
  obtain ⟨q0, q1, q2, _⟩ := cells3_of hs2
  have zw : W.heap.size < w2.heap.size := by have := hb2.size; omega
  clear k1 k2 hK' hV' hs1 hs1' hs2 hs3
  go_wp2_with fail
  refine (same_any ((unhide K1).up hy) ((unhide HK').up hy)).mono ?_
  rintro e w3 ⟨rfl, hb3⟩
  have r2 := (hb3.cell (p := ⟨W.heap.size, 2, none⟩) (by simp; omega)).trans p2
  have t2 := (hb3.cell (p := ⟨w2.heap.size, 2, none⟩) (by simp)).trans q2
  go_wp2_with fail
  refine (same_any (((unhide K2).up hy).up hb3) (((unhide HV').up hy).up hb3)).mono ?_
  rintro e w4 ⟨rfl, hb4⟩
  go_wp2
  go_ret
  exact ⟨rfl, hY.trans ((hb3.mono hY.size).trans (hb4.mono (by have := hb3.size; have := hY.size; omega)))⟩
end Go.Proofs.Ytpmdfgoajffmeaa
