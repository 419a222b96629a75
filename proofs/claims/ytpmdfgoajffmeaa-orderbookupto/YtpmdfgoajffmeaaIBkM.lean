import Derived.Test.YtpmdfgoajffmeaaIBkH
import Derived.Test.YtpmdfgoajffmeaaIOw7
import Derived.Test.YtpmdfgoajffmeaaIWhA

namespace Go.Proofs.Ytpmdfgoajffmeaa
open Go.RowKit Go.Shelf
attribute [local go_sem ↓] Go.wp_at_zero Go.wp_at_succ

theorem frame160 {tm : Array Value} (h : tm.size = 160) : ∃ u : Nat → Value, tm = #[u 0, u 1, u 2, u 3, u 4, u 5, u 6, u 7, u 8, u 9, u 10, u 11, u 12, u 13, u 14, u 15, u 16, u 17, u 18, u 19, u 20, u 21, u 22, u 23, u 24, u 25, u 26, u 27, u 28, u 29, u 30, u 31, u 32, u 33, u 34, u 35, u 36, u 37, u 38, u 39, u 40, u 41, u 42, u 43, u 44, u 45, u 46, u 47, u 48, u 49, u 50, u 51, u 52, u 53, u 54, u 55, u 56, u 57, u 58, u 59, u 60, u 61, u 62, u 63, u 64, u 65, u 66, u 67, u 68, u 69, u 70, u 71, u 72, u 73, u 74, u 75, u 76, u 77, u 78, u 79, u 80, u 81, u 82, u 83, u 84, u 85, u 86, u 87, u 88, u 89, u 90, u 91, u 92, u 93, u 94, u 95, u 96, u 97, u 98, u 99, u 100, u 101, u 102, u 103, u 104, u 105, u 106, u 107, u 108, u 109, u 110, u 111, u 112, u 113, u 114, u 115, u 116, u 117, u 118, u 119, u 120, u 121, u 122, u 123, u 124, u 125, u 126, u 127, u 128, u 129, u 130, u 131, u 132, u 133, u 134, u 135, u 136, u 137, u 138, u 139, u 140, u 141, u 142, u 143, u 144, u 145, u 146, u 147, u 148, u 149, u 150, u 151, u 152, u 153, u 154, u 155, u 156, u 157, u 158, u 159] := ⟨fun i => tm.getD i undef, lit160 tm h⟩
theorem loop_tm {V : World} {a0 : Value} {a1 : Option Addr} {n1 c1 bm b6 kc : Nat} {ka : Option Addr} {T : BT} (hM : IsM V (some ⟨bm, 0, none⟩) T) (h6 : V.cell? ⟨b6, 1, none⟩ = some (.slice ka T.io.length kc)) (hK6 : IsKs V (.slice ka T.io.length kc) (T.io.map (·.1))) (hL : T.io.length ≤ 17592186044320) (hn1 : n1 ≤ 1048576)
    {tm : Array Value} (hsz : tm.size = 160) (hc : chk tm [(0, a0), (1, .slice a1 n1 c1), (5, .pointer (some ⟨bm, 0, none⟩)), (6, .pointer (some ⟨b6, 0, none⟩)), (8, .slice none 0 0), (9, .slice none 0 0), (10, .int .i64 0)]) {Q : Exit → Act → World → Prop}
    (hQ : ∀ W', Below V.heap.size V W' → ∀ tm : Array Value, tm.size = 160 → tm[5]? = some (.pointer (some ⟨bm, 0, none⟩)) → tm[6]? = some (.pointer (some ⟨b6, 0, none⟩)) → Q .normal { tmps := tm, defers := [] } W') :
    bkLoop.wp Try.prog Q { tmps := tm, defers := [] } V := by
  obtain ⟨u, rfl⟩ := frame160 hsz
  obtain ⟨e0, e1, e5, e6, e8, e9, e10, _⟩ := hc
  rw [show u 0 = _ from Option.some.inj e0, show u 1 = _ from Option.some.inj e1, show u 5 = _ from Option.some.inj e5, show u 6 = _ from Option.some.inj e6, show u 8 = _ from Option.some.inj e8, show u 9 = _ from Option.some.inj e9, show u 10 = _ from Option.some.inj e10]
  exact loop_any hM h6 hK6 hL hn1 u hQ
noncomputable def bkWith (t : Code) : Code := match Try.f3.body with
  | some (.seq c0 (.seq c1 (.seq c2 (.seq c3 (.seq c4 (.seq c5 (.seq c6 (.seq c7 (.seq c8 (.seq (.seq c9 _) c10)))))))))) => .seq c0 (.seq c1 (.seq c2 (.seq c3 (.seq c4 (.seq c5 (.seq c6 (.seq c7 (.seq c8 (.seq (.seq c9 t) c10)))))))))
  | _ => .skip
theorem book_split : Try.f3.body = some (bkWith bkLoop) := rfl

set_option maxRecDepth 100000 in
set_option maxHeartbeats 8000000 in
theorem book_any {W : World} {v : Value} {keys : List KT} (hk : IsArg W v keys) {ad : Option Addr} {n1 cap : Nat} (hn1 : n1 ≤ 1048576) (hl : keys.length ≤ 17592186044319) :
    Calls Try.prog 3 #[v, .slice ad n1 cap] W fun e W' => e = .returned (.bool true) ∧ Below W.heap.size W W' := by
  have HK := hide hk
  clear hk
  refine calls_of_wp Try.func3 book_split ?_
  obtain ⟨t, ht⟩ : ∃ t, bkLoop = t := ⟨_, rfl⟩
  rw [ht]
  unfold bkWith
  dsimp only [Try.f3]
  simp only [List.size_toArray, List.length_cons, List.length_nil, Nat.reduceAdd, Nat.reduceSub, Array.replicate_succ, Array.replicate_zero, List.push_toArray, List.append_toArray, List.nil_append, List.cons_append]
  go_wp2_with fail
  refine (made_any (unhide HK) (by omega)).mono ?_
  rintro e V1 ⟨_, T0, rfl, ⟨hm, hl0, bm0, rfl⟩, _, hb1⟩
  go_wp2_with fail
  refine (mput_any (9, 9) hm (by omega)).mono ?_
  rintro e V3 ⟨_, T, rfl, hT, mT, hb3, bm, rfl, hnew⟩
  have hlT : T.io.length ≤ T0.io.length + 1 := by
    have hs' : Srt T.io := by obtain ⟨_, _, _, _, _, _, q⟩ := hT; exact q
    have := hs'.len_le (z := ((9, 9) : Ent) :: T0.io) (fun y hy => by
      rcases (mT y).1 hy with h | h
      · simp [h]
      · simp [h.1])
    simpa using this
  have hpT : 0 < T.io.length := List.length_pos_of_mem ((mT (9, 9)).2 (.inl rfl))
  have hge : decide ((T.io.length : Int) < 1) = false := by simp; omega
  have hB3 := hb1.trans (hb3.mono hb1.size)
  clear mT hm
  go_wp2_with fail
  refine (len_any hT).mono ?_
  rintro e w' ⟨rfl, he⟩
  obtain rfl : V3 = w' := he.symm
  go_wp2_with fail
  refine (goes_any hT).mono ?_
  rintro e V5 ⟨rfl, hb5⟩
  have hT5 := hT.up hb5
  clear hT
  go_wp2_with fail
  refine (snap_any hT5 (by omega)).mono ?_
  rintro e V6 ⟨vK, vV, rfl, hK, hV, hb6⟩
  have hv : (∃ a c, vK = .slice a T.io.length c) ∧ (∃ a c, vV = .slice a T.io.length c) := by
    obtain ⟨a1, c1, rfl, _⟩ := hK
    obtain ⟨a2, c2, rfl, _⟩ := hV
    exact ⟨⟨a1, c1, by simp⟩, ⟨a2, c2, by simp⟩⟩
  obtain ⟨⟨ka, kc, rfl⟩, ⟨va, vc, rfl⟩⟩ := hv
  have h7 : Below V6.heap.size V6 (V6.alloc (.cells #[.pointer (some ⟨bm, 0, none⟩), .slice ka T.io.length kc, .slice va T.io.length vc] 29)) := (Below.refl _ _).alloc (Nat.le_refl _) _
  have bN := World.alloc_heap_new V6 (.cells #[.pointer (some ⟨bm, 0, none⟩), .slice ka T.io.length kc, .slice va T.io.length vc] 29)
  have HT7 := hide ((hT5.up hb6).up h7)
  have HK7 := hide (hK.up h7)
  have HV7 := hide (hV.up h7)
  obtain ⟨n0, n1', n2, _⟩ := cells3_of bN
  have N0 := hide n0
  have N1 := hide n1'
  have N2 := hide n2
  have HB7 : Hid (Below W.heap.size W (V6.alloc (.cells #[.pointer (some ⟨bm, 0, none⟩), .slice ka T.io.length kc, .slice va T.io.length vc] 29))) := (((hB3.trans (hb5.mono hB3.size)).trans (hb6.mono (by have := hB3.size; have := hb5.size; omega))).trans (h7.mono (by have := hB3.size; have := hb5.size; have := hb6.size; omega)))
  clear hT5 hK hV n0 n1' n2 bN h7 hb6 hb5 hB3 hb3 hb1
  go_wp2
  rw [← ht]
  generalize V6.alloc (.cells #[.pointer (some ⟨bm, 0, none⟩), .slice ka T.io.length kc, .slice va T.io.length vc] 29) = V7 at *
  refine loop_tm (unhide HT7) (unhide N1) (unhide HK7) (by omega) hn1 rfl ⟨rfl, rfl, rfl, rfl, rfl, rfl, rfl, trivial⟩ ?_
  intro V8 hb8 tm hsz e5 e6
  obtain ⟨u, rfl⟩ := frame160 hsz
  rw [show u 5 = _ from Option.some.inj e5, show u 6 = _ from Option.some.inj e6]
  have q0 := (hb8.cell (p := ⟨V6.heap.size, 0, none⟩) (lt_of_cell (unhide N0))).trans (unhide N0)
  have q1 := (hb8.cell (p := ⟨V6.heap.size, 1, none⟩) (lt_of_cell (unhide N1))).trans (unhide N1)
  have q2 := (hb8.cell (p := ⟨V6.heap.size, 2, none⟩) (lt_of_cell (unhide N2))).trans (unhide N2)
  have hT8 := (unhide HT7).up hb8
  have hK8 := (unhide HK7).up hb8
  have hV8 := (unhide HV7).up hb8
  have HK8 := hide hK8
  have HV8 := hide hV8
  have HT8 := hide hT8
  have HB8 : Hid (Below W.heap.size W V8) := (unhide HB7).trans (hb8.mono (unhide HB7).size)
  clear hK8 hV8 hT8 e5 e6 hsz
  go_wp2_with fail
  refine (still_any (unhide HT8) (unhide HK8) (unhide HV8) (by omega)).mono ?_
  rintro e V9 ⟨rfl, hb9⟩
  have r0 := (hb9.cell (p := ⟨V6.heap.size, 0, none⟩) (lt_of_cell q0)).trans q0
  have r1 := (hb9.cell (p := ⟨V6.heap.size, 1, none⟩) (lt_of_cell q1)).trans q1
  have r2 := (hb9.cell (p := ⟨V6.heap.size, 2, none⟩) (lt_of_cell q2)).trans q2
  go_wp2_with fail
  refine (owned_any ⟨_, rfl⟩ ((unhide HT8).up hb9) ((unhide HK8).up hb9) (by omega)).mono ?_
  rintro e V10 ⟨rfl, hb10⟩
  go_wp2
  go_ret
  exact ⟨rfl, ((unhide HB8).trans (hb9.mono (unhide HB8).size)).trans (hb10.mono (by have := (unhide HB8).size; have := hb9.size; omega))⟩
end Go.Proofs.Ytpmdfgoajffmeaa
