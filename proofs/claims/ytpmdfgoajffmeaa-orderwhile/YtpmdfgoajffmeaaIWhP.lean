import Derived.Test.YtpmdfgoajffmeaaIWhT
import Derived.Laws.EntriesVeiled

namespace Go.Proofs.Ytpmdfgoajffmeaa
open Go.RowKit Go.Shelf
attribute [local go_sem ↓] Go.wp_at_zero Go.wp_at_succ

noncomputable def whWith (t : Code) : Code := match Try.f4.body with
  | some (.seq c0 (.seq c1 (.seq c2 (.seq c3 (.seq c4 (.seq c5 (.seq c6 (.seq c7 _)))))))) => .seq c0 (.seq c1 (.seq c2 (.seq c3 (.seq c4 (.seq c5 (.seq c6 (.seq c7 t)))))))
  | _ => .skip
theorem while_split : Try.f4.body = some (whWith whTail) := rfl

set_option maxRecDepth 100000 in
set_option maxHeartbeats 8000000 in
theorem while_any {W : World} {v : Value} {keys : List KT} (hk : IsArg W v keys) {ad : Option Addr} {cap : Nat} (ss : List Step) (hs : IsSteps W ad ss) (hl : keys.length ≤ 17592186044415) :
    Calls Try.prog 4 #[v, .slice ad ss.length cap] W fun e W' => e = .returned (.bool true) ∧ Below W.heap.size W W' := by
  have hB0 : Below W.heap.size W ((W.alloc (.cells #[.slice ad ss.length cap] 37)).alloc (.cells #[.bool false] 4)) := ((Below.refl _ W).alloc (Nat.le_refl _) _).alloc (by rw [World.size_alloc]; omega) _
  have zs : (W.alloc (.cells #[.slice ad ss.length cap] 37)).heap.size = W.heap.size + 1 := World.size_alloc _ _
  have bS := (Boxed.new W 37 (.slice ad ss.length cap)).alloc (.cells #[.bool false] 4)
  have bR := Boxed.new (W.alloc (.cells #[.slice ad ss.length cap] 37)) 4 (.bool false)
  rw [zs] at bR
  have hnf := func_not_nil
  have HK := hide hk
  have HS := hide hs
  clear hk hs
  refine (callsIn_wide (n := 9)).1 ?_
  refine callsIn_of_wp_marks Try.func4 while_split trivial ?_ rfl
  rw [wpIn_wide]
  obtain ⟨t, ht⟩ : ∃ t, whTail = t := ⟨_, rfl⟩
  rw [ht]
  unfold whWith
  dsimp only [Try.f4]
  simp only [List.size_toArray, List.length_cons, List.length_nil, Nat.reduceAdd, Nat.reduceSub, Array.replicate_succ, Array.replicate_zero, List.push_toArray, List.append_toArray, List.nil_append, List.cons_append]
  go_wp2_with fail
  generalize (W.alloc (.cells #[.slice ad ss.length cap] 37)).alloc (.cells #[.bool false] 4) = V0 at *
  refine (made_any ((unhide HK).up hB0) (by omega)).mono ?_
  rintro e V1 ⟨_, T0, rfl, ⟨hm, hl0, bm0, rfl⟩, _, hb1⟩
  have hB1 := hB0.trans (hb1.mono hB0.size)
  have h2 : Below V1.heap.size V1 (V1.alloc (.cells #[.pointer (some ⟨bm0, 0, none⟩)] 23)) := (Below.refl _ _).alloc (Nat.le_refl _) _
  have bM := Boxed.new V1 23 (.pointer (some ⟨bm0, 0, none⟩))
  have bMc := bM.cell
  have z2 : (V1.alloc (.cells #[.pointer (some ⟨bm0, 0, none⟩)] 23)).heap.size = V1.heap.size + 1 := World.size_alloc _ _
  have hm2 := hm.up h2
  have hbm0 : bm0 < V1.heap.size := by
    obtain ⟨v, hv⟩ := isM_bm hm
    exact lt_of_cell hv
  clear hm
  go_wp2_with fail
  obtain ⟨b5, e5⟩ : ∃ b, b = V1.heap.size := ⟨_, rfl⟩
  generalize V1.alloc (.cells #[.pointer (some ⟨bm0, 0, none⟩)] 23) = V2 at *
  refine (mput_any (3, 3) hm2 (by omega)).mono ?_
  rintro e V3 ⟨_, T, rfl, hT, mT, hb3, bm, rfl, hnew⟩
  have hlT : T.io.length ≤ T0.io.length + 1 := by
    have hs' : Srt T.io := by obtain ⟨_, _, _, _, _, _, q⟩ := hT; exact q
    have := hs'.len_le (z := ((3, 3) : Ent) :: T0.io) (fun y hy => by
      rcases (mT y).1 hy with h | h
      · simp [h]
      · simp [h.1])
    simpa using this
  have hpT : 0 < T.io.length := List.length_pos_of_mem ((mT (3, 3)).2 (.inl rfl))
  have bM3 : Boxed V3 V1.heap.size 23 (.pointer (some ⟨bm0, 0, none⟩)) := (hb3.block _ bM.lt).trans bM
  have bM3c := bM3.cell
  have bM3f := bM3.frozen
  have bM4 := bM3.set (.pointer (some ⟨bm, 0, none⟩))
  have bM4c := bM4.cell
  have hT4 : IsM (V3.setCell ⟨V1.heap.size, 0, none⟩ (.pointer (some ⟨bm, 0, none⟩))) (some ⟨bm, 0, none⟩) T := isM_setBox bM3 (fun e h => by cases h) (by omega) hT
  have hB4 : Below V1.heap.size V1 (V3.setCell ⟨V1.heap.size, 0, none⟩ (.pointer (some ⟨bm, 0, none⟩))) := (h2.trans (hb3.mono (by omega))).setCell (p := ⟨V1.heap.size, 0, none⟩) (Nat.le_refl _) _
  have hge : decide ((T.io.length : Int) < 1) = false := by simp; omega
  clear hT mT hm2 bM bMc
  go_wp2_with fail
  generalize V3.setCell ⟨V1.heap.size, 0, none⟩ (.pointer (some ⟨bm, 0, none⟩)) = V4 at *
  refine (len_any hT4).mono ?_
  rintro e w' ⟨rfl, he⟩
  obtain rfl : V4 = w' := he.symm
  go_wp2_with fail
  refine (goes_any hT4).mono ?_
  rintro e V5 ⟨rfl, hb5⟩
  have hT5 := hT4.up hb5
  have bM5 : Boxed V5 V1.heap.size 23 (.pointer (some ⟨bm, 0, none⟩)) := (hb5.block _ bM4.lt).trans bM4
  have bM5c := bM5.cell
  clear hT4 bM4c
  go_wp2_with fail
  refine (snap_any hT5 (by omega)).mono ?_
  rintro e V6 ⟨vK, vV, rfl, hK, hV, hb6⟩
  have hv : (∃ a c, vK = .slice a T.io.length c) ∧ (∃ a c, vV = .slice a T.io.length c) := by
    obtain ⟨a1, c1, rfl, _⟩ := hK
    obtain ⟨a2, c2, rfl, _⟩ := hV
    exact ⟨⟨a1, c1, by simp⟩, ⟨a2, c2, by simp⟩⟩
  obtain ⟨⟨ka, kc, rfl⟩, ⟨va, vc, rfl⟩⟩ := hv
  have hT6 := hT5.up hb6
  have bM6 : Boxed V6 V1.heap.size 23 (.pointer (some ⟨bm, 0, none⟩)) := (hb6.block _ bM5.lt).trans bM5
  have HK6 := hide hK
  have HV6 := hide hV
  have h7 : Below V6.heap.size V6 (V6.alloc (.cells #[.pointer (some ⟨bm, 0, none⟩), .slice ka T.io.length kc, .slice va T.io.length vc] 29)) := (Below.refl _ _).alloc (Nat.le_refl _) _
  have bN := World.alloc_heap_new V6 (.cells #[.pointer (some ⟨bm, 0, none⟩), .slice ka T.io.length kc, .slice va T.io.length vc] 29)
  have z7 : (V6.alloc (.cells #[.pointer (some ⟨bm, 0, none⟩), .slice ka T.io.length kc, .slice va T.io.length vc] 29)).heap.size = V6.heap.size + 1 := World.size_alloc _ _
  have bM7 : Boxed (V6.alloc (.cells #[.pointer (some ⟨bm, 0, none⟩), .slice ka T.io.length kc, .slice va T.io.length vc] 29)) V1.heap.size 23 (.pointer (some ⟨bm, 0, none⟩)) := (h7.block _ bM6.lt).trans bM6
  have bM7c := bM7.cell
  have hT7 := hT6.up h7
  clear hK hV hT5 hT6
  go_wp2_with fail
  generalize V6.alloc (.cells #[.pointer (some ⟨bm, 0, none⟩), .slice ka T.io.length kc, .slice va T.io.length vc] 29) = V7 at *
  have HT7 := hide hT7
  obtain ⟨bm', p, epx, mx1, mx2, mx3, mx4⟩ := hT7
  obtain rfl : bm = bm' := by simpa using epx
  have HM3 := hide mx3
  refine ((callsIn_wide (n := 9)).1 (all_in Fence.wide 9 trivial rfl bm p _ (by exact mx2))).mono ?_
  rintro e w1 ⟨rfl, rfl⟩
  have h8 : Below V7.heap.size V7 (V7.alloc (.cells #[.pointer p] 49)) := (Below.refl _ _).alloc (Nat.le_refl _) _
  have bT := Boxed.new V7 49 (.pointer p)
  have z8 : (V7.alloc (.cells #[.pointer p] 49)).heap.size = V7.heap.size + 1 := World.size_alloc _ _
  generalize V7.alloc (.cells #[.pointer p] 49) = V8 at *
  have h9 : Below V7.heap.size V7 (V8.alloc (.cells #[.func (.func 23) #[] #[.pointer (some ⟨V7.heap.size, 0, none⟩)]] 39)) := h8.alloc h8.size _
  have bQ := Boxed.new V8 39 (.func (.func 23) #[] #[.pointer (some ⟨V7.heap.size, 0, none⟩)])
  have bT9 := bT.alloc (.cells #[.func (.func 23) #[] #[.pointer (some ⟨V7.heap.size, 0, none⟩)]] 39)
  have z9 : (V8.alloc (.cells #[.func (.func 23) #[] #[.pointer (some ⟨V7.heap.size, 0, none⟩)]] 39)).heap.size = V8.heap.size + 1 := World.size_alloc _ _
  have bQc := bQ.cell
  have s1 := hb1.size
  have s3 := hb3.size
  have s4 := hB4.size
  have s5 := hb5.size
  have s6 := hb6.size
  have hB5 : Below V1.heap.size V1 V6 := (hB4.trans (hb5.mono s4)).trans (hb6.mono (by omega))
  have hB7 : Below V1.heap.size V1 V7 := hB5.trans (h7.mono (by omega))
  have hB9 : Below V1.heap.size V1 (V8.alloc (.cells #[.func (.func 23) #[] #[.pointer (some ⟨V7.heap.size, 0, none⟩)]] 39)) := hB7.trans (h9.mono (by omega))
  clear bM3 bM3c bM3f bM4 bM5 bM5c bM6 mx2 mx3 mx4 h8 bT
  have Z7 := hide z7
  have Z8 := hide z8
  have Z9 := hide z9
  clear z7 z8 z9
  go_wp2
  generalize V8.alloc (.cells #[.func (.func 23) #[] #[.pointer (some ⟨V7.heap.size, 0, none⟩)]] 39) = V9 at *
  have z7 := unhide Z7
  have z8 := unhide Z8
  have z9 := unhide Z9
  rw [← ht]
  have hB69 : Below V6.heap.size V6 V9 := h7.trans (h9.mono (by omega))
  have hB09 : Below V0.heap.size V0 V9 := hb1.trans (hB9.mono s1)
  have bM9 : Boxed V9 V1.heap.size 23 (.pointer (some ⟨bm, 0, none⟩)) := (h9.block _ bM7.lt).trans bM7
  obtain ⟨n0, n1, n2, _⟩ := cells3_of ((h9.block V6.heap.size (by omega)).trans bN)
  have hT9 := (unhide HT7).up h9
  have bS9 : Boxed V9 W.heap.size 37 (.slice ad ss.length cap) := (hB09.block _ bS.lt).trans bS
  exact wpIn_wide.1 (whT_any (br := W.heap.size + 1) (hB1.trans (hB9.mono hB1.size))
    ⟨bM9.cell, hT9, n0, n1, n2, (unhide HK6).up hB69, (unhide HV6).up hB69, bQ.cell, bT9.cell, ((unhide HM3).below h9).mono (by omega), bS9.cell, ((unhide HS).up hB0).up hB09⟩
    (by omega) ((hB09.block _ bR.lt).trans bR) (by omega) _ _ _ _ _ _ _ _ _ _ _ _ _ _ _ _ _ _ _ _ _ _ _ _ _ _ _ _ _ _ _ _ _ _ _ _ _ _ _ _ _ _ _ _ _ _ _ _ _ _ _ _ _ _ _ _ _ _ _ _ _ _ _ _ _ _ _ _ _ _ _ _ _ _ _ _ _ _ _ _ _ _ _ _ _ _ _ _ _ _ _ _ _ _ _ _ _ _ _ _ _ _ _ _ _ _ _ _ _ _ _ _ _ _ _ _ _ _ _ _ _ _ _ _ _ _ _ _ _ _ _ _ _ _ _ _ _ _ _ _ _ _ _ _ _ _ _ _ _ _ _ _ _ _ _ _ _ _ _ _ _ _ _ _ _ _ _ _ _ _ _ _)
end Go.Proofs.Ytpmdfgoajffmeaa
