import Derived.Test.YtadmamfekodkaaaDoorHsD

namespace Go.Proofs.YtadmamfekodkaaaDoor
open Go.RowKit
attribute [local go_sem ↓] Go.wp_at_zero Go.wp_at_succ

/-- Between two lists that are looked at. -/
def EK (W : World) (N : Nat) (C : Nat → List (Nat × Value)) (m : Nat) (a : Act) (w : World) : Prop := ∃ (tm : Array Value) (i : Nat), a = ⟨tm, []⟩ ∧ tm.size = 233 ∧ chk tm (C i) ∧ m = N - i ∧ i ≤ N ∧ Below W.heap.size W w
set_option maxRecDepth 100000 in
set_option maxHeartbeats 4000000 in
theorem oD_any {W : World} {B N g5 c5 g6 c6 : Nat} {p0 : Value} {ys : List (Value × List Value)} {ms : List Value} (hA : Al B W (.slice (some ⟨g5, 0, none⟩) N c5) ys) (hM : Mz B W (.slice (some ⟨g5, 0, none⟩) N c5) (.slice (some ⟨g6, 0, none⟩) N c6) ys ms) (hyk : ∀ (j : Nat) (y : Value × List Value), ys[j]? = some y → y.2 = List.replicate y.2.length (keptV j)) (hyl : ys.length = N) (hml : ms.length = N) (hn : N ≤ 9000)
    {tm : Array Value} (hsz : tm.size = 233) (hchk : chk tm [(0, p0), (5, .slice (some ⟨g5, 0, none⟩) N c5), (6, .slice (some ⟨g6, 0, none⟩) N c6)]) {Q : Exit → Act → World → Prop}
    (hQ : ∀ W', Below W.heap.size W W' → ∀ tm : Array Value, tm.size = 233 → chk tm [(0, p0), (5, .slice (some ⟨g5, 0, none⟩) N c5), (6, .slice (some ⟨g6, 0, none⟩) N c6)] → Q .normal { tmps := tm, defers := [] } W') :
    kD.wp Tryd.prog Q { tmps := tm, defers := [] } W := by
  have HIN : Hid (∀ (i : Nat) (w : World), i < N → Below W.heap.size W w → ∀ (tm : Array Value), tm.size = 233 → chk tm [(0, p0), (5, .slice (some ⟨g5, 0, none⟩) N c5), (6, .slice (some ⟨g6, 0, none⟩) N c6), (20, .int .i64 (i : Int))] → ∀ (Q : Exit → Act → World → Prop), (∀ W', Below w.heap.size w W' → ∀ tm : Array Value, tm.size = 233 → chk tm [(0, p0), (5, .slice (some ⟨g5, 0, none⟩) N c5), (6, .slice (some ⟨g6, 0, none⟩) N c6), (20, .int .i64 (i : Int))] → Q .normal { tmps := tm, defers := [] } W') → (ckOne kD).wp Tryd.prog Q { tmps := tm, defers := [] } w) := fun i w hi hb tm h1 h2 Q h3 => by
    obtain ⟨y, hy⟩ : ∃ y, ys[i]? = some y := ⟨_, List.getElem?_eq_getElem (by omega)⟩
    exact inD_any (hA.up hb) (hM.up hb) hy (hyk i y hy) hyl hml hn h1 h2 h3
  have HQ := hide hQ
  obtain ⟨u, rfl⟩ := frame233 hsz
  obtain ⟨e0, e5, e6, _⟩ := hchk
  replace e0 : u 0 = p0 := Option.some.inj e0
  replace e5 : u 5 = .slice (some ⟨g5, 0, none⟩) N c5 := Option.some.inj e5
  replace e6 : u 6 = .slice (some ⟨g6, 0, none⟩) N c6 := Option.some.inj e6
  rw [e0, e5, e6]
  clear e0 e5 e6
  clear hQ hA hM hyk hyl hml
  rw [kD_split]
  obtain ⟨t, ht⟩ : ∃ t, ckOne kD = t := ⟨_, rfl⟩
  rw [ht]
  unfold ckWith kD kBody
  dsimp only [Tryd.f6]
  go_wp2
  refine wp_loop_count (EK W N (fun i => [(0, p0), (5, .slice (some ⟨g5, 0, none⟩) N c5), (6, .slice (some ⟨g6, 0, none⟩) N c6), (20, .int .i64 (i : Int))])) ?_ N _ _ ⟨_, 0, rfl, rfl, ⟨rfl, rfl, rfl, rfl, trivial⟩, rfl, Nat.zero_le _, Below.refl _ _⟩
  rintro m _ wr ⟨tm, i, rfl, hsz, hchk, hm, hi, hB⟩
  obtain ⟨x, rfl⟩ := frame233 hsz
  obtain ⟨e0, e5, e6, e20, _⟩ := hchk
  replace e0 : x 0 = p0 := Option.some.inj e0
  replace e5 : x 5 = .slice (some ⟨g5, 0, none⟩) N c5 := Option.some.inj e5
  replace e6 : x 6 = .slice (some ⟨g6, 0, none⟩) N c6 := Option.some.inj e6
  replace e20 : x 20 = .int .i64 (i : Int) := Option.some.inj e20
  rw [e0, e5, e6, e20]
  clear e0 e5 e6 e20
  have Hm := hide hm
  have HB := hide hB
  clear hm hB
  by_cases hlt : i < N
  · have k1 : (i : Int) < (N : Int) := by omega
    go_wp2
    rw [← ht]
    refine unhide HIN i wr hlt (unhide HB) _ rfl ⟨rfl, rfl, rfl, rfl, trivial⟩ _ ?_
    intro W' r1 tm hsz hchk
    have HB' := hide ((unhide HB).trans (r1.mono (unhide HB).size))
    clear r1
    obtain ⟨zz, rfl⟩ := frame233 hsz
    obtain ⟨e0, e5, e6, e20, _⟩ := hchk
    replace e0 : zz 0 = p0 := Option.some.inj e0
    replace e5 : zz 5 = .slice (some ⟨g5, 0, none⟩) N c5 := Option.some.inj e5
    replace e6 : zz 6 = .slice (some ⟨g6, 0, none⟩) N c6 := Option.some.inj e6
    replace e20 : zz 20 = .int .i64 (i : Int) := Option.some.inj e20
    rw [e0, e5, e6, e20]
    clear e0 e5 e6 e20
    go_wp2
    exact ⟨N - (i + 1), by have := unhide Hm; omega, _, i + 1, rfl, rfl, ⟨rfl, rfl, rfl, (by first | rfl | (congr 1; go_num) | (simp; go_num)), trivial⟩, rfl, by omega, unhide HB'⟩
  · obtain rfl : i = N := by omega
    have k1 : ¬ (i : Int) < (i : Int) := by omega
    go_wp2
    exact unhide HQ _ (unhide HB) _ rfl ⟨rfl, rfl, rfl, trivial⟩
theorem wR_ab : wR ⟨#[97, 32, 34, 98, 34]⟩ = ([[97], [98]], 0) := by kernel_rfl
theorem ofN_b : ofN [98] = ⟨#[98]⟩ := by kernel_rfl
theorem two_str {W : World} {B : Nat} {v : Value} {x y : List Nat} (h : W.ownsRow B 9 1 v 2 (wsC [x, y])) : ∃ g c, v = .slice (some ⟨g, 0, none⟩) 2 c ∧ W.cell? ⟨g, 0, none⟩ = some (.string (ofN x)) ∧ W.cell? ⟨g, 1, none⟩ = some (.string (ofN y)) := by
  obtain ⟨g, c, z, e, h1, h2⟩ := row_str (i := 0) h rfl (by decide)
  obtain ⟨g', c', z', e', h1', h2'⟩ := row_str (i := 1) h rfl (by decide)
  obtain rfl : ofN x = z := Option.some.inj h2
  obtain rfl : ofN y = z' := Option.some.inj h2'
  subst e
  cases e'
  exact ⟨g, c, rfl, h1, h1'⟩
theorem al_one {B : Nat} {w : World} {v : Value} {ks : List Value} (hv : Rs B w v ks) (hl : ks.length ≤ 70000) (hB : B ≤ w.heap.size) : Al B (w.alloc (.cells #[v] 22)) (.slice (some ⟨w.heap.size, 0, none⟩) 1 1) [(v, ks)] := by
  refine ⟨⟨rfl, .inr ⟨w.heap.size, 1, #[v], rfl, hB, heap_new _ _, Nat.le_refl _, by unfold maxLen; decide, rfl, rfl⟩⟩, fun z hz => ?_, fun i j z y hi hj b e1 e2 => ?_⟩
  · obtain rfl := List.mem_singleton.1 hz
    exact ⟨hv.up ((Below.refl _ _).alloc (Nat.le_refl _) _), hl⟩
  · have h1 : i < 1 := (List.getElem?_eq_some_iff.1 hi).1
    have h2 : j < 1 := (List.getElem?_eq_some_iff.1 hj).1
    omega
set_option maxRecDepth 100000 in
set_option maxHeartbeats 8000000 in
theorem own_core {V : World} (hE : HasE V) {a0 : Option Addr} {c0 : Nat} {l : List ByteArray} (hS : HasS V (.slice a0 l.length c0) l) : Calls Tryd.prog 6 #[.slice a0 l.length c0] V fun e w => e = .returned (.bool true) ∧ Below V.heap.size V w := by
  have HW := hide (hWords_any hE ⟨#[97, 32, 34, 98, 34]⟩)
  rw [wR_ab] at HW
  have HOA : Hid (∀ {W : World} {v5 : Value} {zs : List (Value × List Value)}, Al V.heap.size W v5 zs → zs.length = 1 → Below V.heap.size V W → ∀ {tm : Array Value}, tm.size = 233 → chk tm [(0, .slice a0 l.length c0), (5, v5), (6, .slice none 0 0)] → ∀ {Q : Exit → Act → World → Prop}, (∀ W' v5' zs', Al V.heap.size W' v5' zs' → 1 ≤ zs'.length → zs'.length ≤ 9000 → Below V.heap.size V W' → ∀ tm : Array Value, tm.size = 233 → chk tm [(0, .slice a0 l.length c0), (5, v5'), (6, .slice none 0 0)] → Q .normal { tmps := tm, defers := [] } W') → kA.wp Tryd.prog Q { tmps := tm, defers := [] } W) := fun h1 h2 h3 _ h4 h5 _ h6 => oA_any hE hS h1 h2 h3 h4 h5 h6
  clear hE hS
  refine calls_of_wp Tryd.func6 k_split ?_
  obtain ⟨tA, hA0⟩ : ∃ t, kA = t := ⟨_, rfl⟩
  obtain ⟨tB, hB0⟩ : ∃ t, kB = t := ⟨_, rfl⟩
  obtain ⟨tC, hC0⟩ : ∃ t, kC = t := ⟨_, rfl⟩
  obtain ⟨tD, hD0⟩ : ∃ t, kD = t := ⟨_, rfl⟩
  rw [hA0, hB0, hC0, hD0]
  unfold kWith kBody
  dsimp only [Tryd.f6]
  simp only [List.size_toArray, List.length_cons, List.length_nil, Nat.reduceAdd, Nat.reduceSub, Array.replicate_succ, Array.replicate_zero, List.push_toArray, List.append_toArray, List.nil_append, List.cons_append]
  go_wp2_with fail
  refine (unhide HW).mono ?_
  rintro e w1 ⟨v3, rfl, ho, hb⟩
  have hR := rs_of ho
  obtain ⟨g, c, rfl, c1, c2⟩ := two_str ho
  rw [ofN_a] at c1
  rw [ofN_b] at c2
  have hA1 := al_one hR (by decide) hb.size
  have HA1 := hide hA1
  have HB1 : Hid (Below V.heap.size V (w1.alloc (.cells #[.slice (some ⟨g, 0, none⟩) 2 c] 22))) := hb.alloc hb.size _
  clear hA1 hR ho hb HW
  go_wp2
  rw [← hA0]
  refine unhide HOA (unhide HA1) rfl (unhide HB1) rfl ⟨rfl, rfl, rfl, trivial⟩ ?_
  clear HOA HA1 HB1 c1 c2
  intro W2 v5 zs hA hz1 hz2 hb tm hsz hchk
  obtain ⟨z0, hz0⟩ : ∃ z, zs[0]? = some z := ⟨_, List.getElem?_eq_getElem (by omega)⟩
  obtain ⟨g5, c5, rfl, -⟩ := hA.cell hz0
  obtain ⟨N, hN⟩ : ∃ N, zs.length = N := ⟨_, rfl⟩
  rw [hN] at hA hchk hz1 hz2
  have HA := hide hA
  have HB := hide hb
  have HN := hide hN
  clear hA hb hN hz0
  obtain ⟨u, rfl⟩ := frame233 hsz
  obtain ⟨e0, e5, e6, _⟩ := hchk
  replace e0 : u 0 = .slice a0 l.length c0 := Option.some.inj e0
  replace e5 : u 5 = .slice (some ⟨g5, 0, none⟩) N c5 := Option.some.inj e5
  replace e6 : u 6 = .slice none 0 0 := Option.some.inj e6
  rw [e0, e5, e6]
  clear e0 e5 e6
  go_wp2
  rw [← hB0]
  refine oB_any (p0 := .slice a0 l.length c0) (p6 := .slice none 0 0) (unhide HA) (unhide HN) hz2 (unhide HB).size rfl ⟨rfl, rfl, rfl, trivial⟩ ?_
  intro W3 ys hA hyl hyk hb tm hsz hchk
  have HA3 := hide hA
  have HB3 := hide ((unhide HB).trans hb)
  have Hyl := hide hyl
  have Hyk := hide hyk
  clear hA hb hyl hyk HA HB HN
  obtain ⟨x, rfl⟩ := frame233 hsz
  obtain ⟨e0, e5, e6, _⟩ := hchk
  replace e0 : x 0 = .slice a0 l.length c0 := Option.some.inj e0
  replace e5 : x 5 = .slice (some ⟨g5, 0, none⟩) N c5 := Option.some.inj e5
  replace e6 : x 6 = .slice none 0 0 := Option.some.inj e6
  rw [e0, e5, e6]
  clear e0 e5 e6
  go_wp2
  rw [← hC0]
  refine oC_any (p0 := .slice a0 l.length c0) (unhide HA3) (unhide Hyl) hz2 (unhide HB3).size rfl ⟨rfl, rfl, rfl, trivial⟩ ?_
  intro W4 v6 ms hA hM hml hb tm hsz hchk
  obtain ⟨m0, hm0⟩ : ∃ m, ms[0]? = some m := ⟨_, List.getElem?_eq_getElem (by omega)⟩
  obtain ⟨g6, c6, e6⟩ : ∃ g c, v6 = .slice (some ⟨g, 0, none⟩) N c := by
    obtain ⟨p1, ⟨q, h0⟩ | ⟨g, cap, cur, q, h2, h3⟩⟩ := id hM.row
    · omega
    · exact ⟨g, cap, by rw [q, hml]⟩
  subst e6
  have HA4 := hide hA
  have HM4 := hide hM
  have Hml := hide hml
  have HB4 := hide ((unhide HB3).trans hb)
  clear hA hM hml hb hm0 HA3 HB3
  obtain ⟨y, rfl⟩ := frame233 hsz
  obtain ⟨e0, e5, e6, _⟩ := hchk
  replace e0 : y 0 = .slice a0 l.length c0 := Option.some.inj e0
  replace e5 : y 5 = .slice (some ⟨g5, 0, none⟩) N c5 := Option.some.inj e5
  replace e6 : y 6 = .slice (some ⟨g6, 0, none⟩) N c6 := Option.some.inj e6
  rw [e0, e5, e6]
  clear e0 e5 e6
  go_wp2
  rw [← hD0]
  refine oD_any (p0 := .slice a0 l.length c0) (unhide HA4) (unhide HM4) (unhide Hyk) (unhide Hyl) (unhide Hml) hz2 rfl ⟨rfl, rfl, rfl, trivial⟩ ?_
  intro W5 hb tm hsz hchk
  have HB5 := hide ((unhide HB4).trans (hb.mono (unhide HB4).size))
  clear hb HA4 HM4 HB4 Hyk Hyl Hml
  obtain ⟨z, rfl⟩ := frame233 hsz
  obtain ⟨e0, e5, e6, _⟩ := hchk
  replace e0 : z 0 = .slice a0 l.length c0 := Option.some.inj e0
  replace e5 : z 5 = .slice (some ⟨g5, 0, none⟩) N c5 := Option.some.inj e5
  replace e6 : z 6 = .slice (some ⟨g6, 0, none⟩) N c6 := Option.some.inj e6
  rw [e0, e5, e6]
  clear e0 e5 e6
  go_wp2
  go_ret
  exact ⟨rfl, unhide HB5⟩
theorem own_row {W : World} (hE : HasE W) {a0 : Option Addr} {c0 : Nat} {l : List ByteArray} (hS : HasS W (.slice a0 l.length c0) l) : Calls Tryd.prog 6 #[.slice a0 l.length c0] W fun e w => e = .returned (.bool true) ∧ Below W.heap.size W w := own_core hE hS
end Go.Proofs.YtadmamfekodkaaaDoor
