import Derived.Test.YtlblllghgdfpoaaDoorEU
import Derived.Test.YtlblllghgdfpoaaDoorET
import Derived.Deep.DeepCutAuto

namespace Go.Proofs.YtlblllghgdfpoaaDoor
open Go.RowKit
attribute [local go_sem ↓] Go.wp_at_zero Go.wp_at_succ

theorem srcOf {K : Nat → Prop} {B S m c : Nat} {wa wp : World} {a : Option Addr} {us : List Value} {cs : List (List Nat)} (h : OwnBB S S wa (.slice a m c) us cs) (hb : Below wa.heap.size wa wp) (hK : ∀ q, S ≤ q → q < wa.heap.size → K q) : Src K B wp a cs ∧ ∀ w' : World, wp.heap.size ≤ w'.heap.size → (∀ q, K q ∨ q < B → w'.heap[q]? = wp.heap[q]?) → HasBB w' (.slice a m c) cs := by
  have up : ∀ w' : World, wp.heap.size ≤ w'.heap.size → (∀ q, K q ∨ q < B → w'.heap[q]? = wp.heap[q]?) → OwnBB S S w' (.slice a m c) us cs := fun w' h1 h2 => by
    have key : ∀ q, S ≤ q → q < wa.heap.size → w'.heap[q]? = wa.heap[q]? := fun q q1 q2 => (h2 q (.inl (hK q q1 q2))).trans (hb.block q q2)
    exact h.keep (Nat.le_trans hb.size h1) key (fun q e => key q (h.row.lt q e).1 (h.row.lt q e).2)
  refine ⟨fun hp => ?_, fun w' h1 h2 => (up w' h1 h2).has⟩
  obtain ⟨a', c', e, -, -, h3⟩ := own_form h.row
  injection e with e1 e2 e3
  subst e1 e2 e3
  obtain ⟨g, rfl, -⟩ := h3 hp
  refine ⟨g, 0, rfl, fun k l hl => ?_⟩
  have hk : k < us.length := by rw [h.len]; exact (List.getElem?_eq_some_iff.1 hl).1
  refine ⟨us[k], fun w' h1 h2 => ?_⟩
  have h' := up w' h1 h2
  have hx : us[k]? = some us[k] := List.getElem?_eq_getElem hk
  obtain ⟨k1, k2⟩ := h'.each k _ l hx hl
  have hc := h'.row.cells (g := g) rfl k _ hx
  rw [Go.WideShapes.add_plain, Nat.zero_add] at hc
  rw [Nat.zero_add]
  exact ⟨hc, k1, fun _ q e => .inl (by obtain ⟨k3, -⟩ := k2 q e; obtain ⟨-, k4⟩ := h.each k _ l hx hl; exact hK q k3 (k4 q e).2.1)⟩
theorem srcIn {K : Nat → Prop} {B m c : Nat} {W wp : World} {a : Option Addr} {cs : List (List Nat)} (h : HasBB W (.slice a m c) cs) (hW : W.heap.size = B) (hb : Below B W wp) : Src K B wp a cs := fun hp => by
  obtain ⟨a', c', e, -, h3⟩ := h
  injection e with e1 e2 e3
  subst e1
  obtain ⟨g, o, rfl, hg, hc⟩ := h3 hp
  refine ⟨g, o, rfl, fun k l hl => ?_⟩
  obtain ⟨x, hx, hB⟩ := hc k l hl
  have key : ∀ w' : World, (∀ q, K q ∨ q < B → w'.heap[q]? = wp.heap[q]?) → ∀ q, q < W.heap.size → w'.heap[q]? = W.heap[q]? := fun w' h2 q hq => (h2 q (.inr (by omega))).trans (hb.block q (by omega))
  refine ⟨x, fun w' h1 h2 => ⟨(World.cell?_of_block (a := ⟨g, o + k, none⟩) (key w' h2 g hg)).trans hx, hB.stays (by have := hb.size; omega) (fun q _ hq => key w' h2 q hq), fun hp q e => .inr ?_⟩⟩
  obtain ⟨a2, c2, rfl, -, h4⟩ := hB
  obtain ⟨g2, o2, rfl, hg2, -⟩ := h4 hp
  have e2 : g2 = q := Option.some.inj e
  omega
set_option maxRecDepth 100000 in
set_option maxHeartbeats 4000000 in
theorem p8_zero {w : World} {i : Nat} {p0 vL vW p6 p11 : Value} {tm : Array Value} {X : Code} {Q : Exit → Act → World → Prop} (hi : i = 0) (hsz : tm.size = 401) (hchk : chk tm [(0, p0), (3, vL), (4, vW), (5, .int .i64 (i : Int)), (6, p6), (11, p11)]) (hX : ∀ tm' : Array Value, tm'.size = 401 → chk tm' [(0, p0), (3, vL), (4, vW), (5, .int .i64 (i : Int))] → Q (.exit 1) { tmps := tm', defers := [] } w) : (qq8 X).wp Tryd.prog Q { tmps := tm, defers := [] } w := by
  have HX := hide hX
  clear hX
  obtain ⟨u, rfl⟩ := frame401 hsz
  obtain ⟨e0, e3, e4, e5, e6, e11, _⟩ := hchk
  replace e0 : u 0 = p0 := Option.some.inj e0
  replace e3 : u 3 = vL := Option.some.inj e3
  replace e4 : u 4 = vW := Option.some.inj e4
  replace e5 : u 5 = .int .i64 (i : Int) := Option.some.inj e5
  replace e6 : u 6 = p6 := Option.some.inj e6
  replace e11 : u 11 = p11 := Option.some.inj e11
  rw [e0, e3, e4, e5, e6, e11]
  clear e0 e3 e4 e5 e6 e11
  unfold qq8
  dsimp only [tl, qRnd, qL1, hd, qBody, Tryd.f21]
  subst hi
  go_wp2
  exact unhide HX _ rfl ⟨rfl, rfl, rfl, rfl, trivial⟩
set_option maxRecDepth 100000 in
set_option maxHeartbeats 4000000 in
theorem p8_pos {w : World} {i : Nat} {p0 vL vW p6 p11 : Value} {tm : Array Value} {X : Code} {Q : Exit → Act → World → Prop} (hi : 0 < i) (hsz : tm.size = 401) (hchk : chk tm [(0, p0), (3, vL), (4, vW), (5, .int .i64 (i : Int)), (6, p6), (11, p11)]) (hX : ∀ tm' : Array Value, tm'.size = 401 → chk tm' [(0, p0), (3, vL), (4, vW), (5, .int .i64 (i : Int)), (6, p6), (11, p11)] → X.wp Tryd.prog Q { tmps := tm', defers := [] } w) : (qq8 X).wp Tryd.prog Q { tmps := tm, defers := [] } w := by
  have HX := hide hX
  clear hX
  obtain ⟨u, rfl⟩ := frame401 hsz
  obtain ⟨e0, e3, e4, e5, e6, e11, _⟩ := hchk
  replace e0 : u 0 = p0 := Option.some.inj e0
  replace e3 : u 3 = vL := Option.some.inj e3
  replace e4 : u 4 = vW := Option.some.inj e4
  replace e5 : u 5 = .int .i64 (i : Int) := Option.some.inj e5
  replace e6 : u 6 = p6 := Option.some.inj e6
  replace e11 : u 11 = p11 := Option.some.inj e11
  rw [e0, e3, e4, e5, e6, e11]
  clear e0 e3 e4 e5 e6 e11
  unfold qq8
  dsimp only [tl, qRnd, qL1, hd, qBody, Tryd.f21]
  have q3 : (i : Int) ≠ 0 := by omega
  have q4 : i ≠ 0 := by omega
  clear hi
  go_wp2
  exact unhide HX _ rfl ⟨rfl, rfl, rfl, rfl, rfl, rfl, trivial⟩
set_option maxRecDepth 100000 in
set_option maxHeartbeats 4000000 in
theorem p9_any {B : Nat} {W w : World} {K : Nat → Prop} {n i : Nat} {p0 vL vW p6 p11 z1 z2 : Value} {WL : List (List Nat)} {tm : Array Value} {X : Code} {Q : Exit → Act → World → Prop} (hq : QK B W K n w vL vW) (h1 : ∀ w, Below B W w → Calls Tryd.prog 44 #[p6, .int .i64 ((i : Int) - 1)] w fun e w' => ∃ v', e = .returned (.tuple #[v', z1]) ∧ (∃ us, OwnBB w.heap.size w.heap.size w' v' us WL) ∧ Below w.heap.size w w') (h2 : ∀ w, Below B W w → Calls Tryd.prog 16 #[p6, .int .i64 ((i : Int) - 1)] w fun e w' => ∃ v', e = .returned (.tuple #[v', z2]) ∧ (∃ us, OwnBA w.heap.size w' v' us WL) ∧ Below w.heap.size w w') (hi0 : 0 < i) (hi : i ≤ 8) (hsz : tm.size = 401) (hchk : chk tm [(0, p0), (3, vL), (4, vW), (5, .int .i64 (i : Int)), (6, p6), (11, p11)])
    (hX : ∀ (a17 a19 a22 : Option Addr) (c17 c19 c22 S9 : Nat) (us vs : List Value) (w' : World) (tm' : Array Value), tm'.size = 401 → chk tm' [(0, p0), (3, vL), (4, vW), (5, .int .i64 (i : Int)), (6, p6), (11, p11), (17, .slice a17 WL.length c17), (19, .slice a19 WL.length c19), (22, .slice a22 WL.length c22)] → QK B W (KL (fun q => K q ∨ (w.heap.size ≤ q ∧ q < S9)) (.slice a17 WL.length c17) (.slice a19 WL.length c19) us vs 0) n w' vL vW → Two (fun q => K q ∨ (w.heap.size ≤ q ∧ q < S9)) B w' (.slice a17 WL.length c17) (.slice a19 WL.length c19) us vs WL → Row w' a17 WL.length us → Row w' a19 WL.length vs → us.length = WL.length → vs.length = WL.length → Src (fun q => K q ∨ (w.heap.size ≤ q ∧ q < S9)) B w' a22 WL → (∀ w2 : World, w'.heap.size ≤ w2.heap.size → (∀ q, (fun q => K q ∨ (w.heap.size ≤ q ∧ q < S9)) q ∨ q < B → w2.heap[q]? = w'.heap[q]?) → HasBB w2 (.slice a22 WL.length c22) WL) → Below w.heap.size w w' → X.wp Tryd.prog Q { tmps := tm', defers := [] } w') :
    (qq9 X).wp Tryd.prog Q { tmps := tm, defers := [] } w := by
  have HX := hide hX
  have HQ := hide hq
  have H1 := hide h1
  have H2 := hide h2
  have HBe := hide hq.be
  have Hle := hide hq.le
  clear hX hq h1 h2
  obtain ⟨u, rfl⟩ := frame401 hsz
  obtain ⟨e0, e3, e4, e5, e6, e11, _⟩ := hchk
  replace e0 : u 0 = p0 := Option.some.inj e0
  replace e3 : u 3 = vL := Option.some.inj e3
  replace e4 : u 4 = vW := Option.some.inj e4
  replace e5 : u 5 = .int .i64 (i : Int) := Option.some.inj e5
  replace e6 : u 6 = p6 := Option.some.inj e6
  replace e11 : u 11 = p11 := Option.some.inj e11
  rw [e0, e3, e4, e5, e6, e11]
  clear e0 e3 e4 e5 e6 e11
  have j4 : (0 : Int) ≤ (i : Int) - 1 := by omega
  have j5 : (i : Int) ≤ 8 := by omega
  clear hi0 hi
  unfold qq9
  dsimp only [tl, qRnd, qL1, hd, qBody, Tryd.f21]
  go_wp2_with fail
  refine (unhide H1 _ (unhide HBe)).mono ?_
  rintro e wa ⟨vl0, rfl, ⟨us0, hl0⟩, hb0⟩
  obtain ⟨a22, c22, hvl, -, -, -⟩ := own_form hl0.row
  subst hvl
  have HP0 := hide hl0
  have Hb0 := hide hb0
  have HB1 : Hid (Below B W wa) := (unhide HBe).trans (hb0.mono (unhide Hle))
  clear hl0 hb0 H1
  go_wp2_with fail
  refine (unhide H2 _ (unhide HB1)).mono ?_
  rintro e wb ⟨vl1, rfl, ⟨us1, hl1⟩, hb1⟩
  obtain ⟨a17, c17, hvl, -, -, -⟩ := own_form hl1.bb.row
  subst hvl
  have HP1 := hide hl1
  have Hba := hide hb1
  have Hle1 : Hid (B ≤ wa.heap.size) := Nat.le_trans (unhide Hle) (unhide Hb0).size
  have HB2 : Hid (Below B W wb) := (unhide HB1).trans (hb1.mono (unhide Hle1))
  clear hl1 hb1
  go_wp2_with fail
  refine (unhide H2 _ (unhide HB2)).mono ?_
  rintro e wc ⟨vl2, rfl, ⟨us2, hl2⟩, hb2⟩
  obtain ⟨a19, c19, hvl, -, -, -⟩ := own_form hl2.bb.row
  subst hvl
  have HP2 := hide hl2
  have Hbb := hide hb2
  clear hl2 hb2 H2
  have HwC : Hid (Below wa.heap.size wa wc) := (unhide Hba).trans ((unhide Hbb).mono (unhide Hba).size)
  have HwB : Hid (Below w.heap.size w wc) := (unhide Hb0).trans ((unhide HwC).mono (unhide Hb0).size)
  go_wp2
  have hs := srcOf (B := B) (K := fun q => K q ∨ (w.heap.size ≤ q ∧ q < wa.heap.size)) (unhide HP0) (unhide HwC) (fun q h1 h2 => .inr ⟨h1, h2⟩)
  have hq1 := (unhide HQ).up (unhide Hb0)
  exact unhide HX _ _ _ _ _ _ wa.heap.size _ _ _ _ rfl ⟨rfl, rfl, rfl, rfl, rfl, rfl, rfl, rfl, rfl, trivial⟩ ((hq1.up (unhide HwC)).weak (fun q hq => two_in (unhide HP1) (unhide HP2) (unhide Hba) (unhide Hbb) hq) (Nat.le_refl _)) (two_of (unhide HP1) (unhide HP2) (unhide Hba) (unhide Hbb) (unhide Hle1) (fun q hq => hq1.kl hq)) (row_cells (unhide HP1).bb.row (unhide Hbb)) (row_cells (unhide HP2).bb.row (Below.refl _ _)) (unhide HP1).bb.len (unhide HP2).bb.len hs.1 hs.2 (unhide HwB)
set_option maxRecDepth 100000 in
set_option maxHeartbeats 4000000 in
theorem p11_any {B : Nat} {W w : World} {K : Nat → Prop} {n i gp op vc : Nat} {p0 vL vW p11 vw x z : Value} {RL : List Nat} {tm : Array Value} {Q : Exit → Act → World → Prop} (hq : QK B W K n w vL vW) (hA : ∀ w1, Below w.heap.size w w1 → Calls Tryd.prog 17 #[x, .int .i64 ((i : Int) - 1), .int .i64 (i : Int), vw] w1 fun e w' => ∃ v', e = .returned (.tuple #[v', z]) ∧ Bytes w1.heap.size w' v' RL ∧ Below w1.heap.size w1 w') (hx : ∀ w1, Below w.heap.size w w1 → w1.cell? ⟨gp, op + (i - 1), none⟩ = some x) (hi0 : 0 < i) (hi : i ≤ 8) (hr : Bytes B w p11 RL) (hrk : ∀ q, p11.ownBlock = some q → K q) (hb : Byt RL) (hl : RL.length ≤ 67108864) (hn : n ≤ 100000000) (hsz : tm.size = 401) (hchk : chk tm [(0, p0), (3, vL), (4, vW), (5, .int .i64 (i : Int)), (6, .slice (some ⟨gp, op, none⟩) i vc), (11, p11), (22, vw)])
    (hX : ∀ (vL' vW' : Value) (w' : World) (tm' : Array Value), tm'.size = 401 → chk tm' [(0, p0), (3, vL'), (4, vW'), (5, .int .i64 (i : Int))] → QK B W K (n + 2) w' vL' vW' → Q .normal { tmps := tm', defers := [] } w') :
    qq11.wp Tryd.prog Q { tmps := tm, defers := [] } w := by
  have HX := hide hX
  have HQ := hide hq
  have HA := hide hA
  have Hx := hide hx
  have HR := hide hr
  have HK := hide hrk
  have HL := hide (And.intro hb hl)
  have HN := hide hn
  have y0 := hx w (Below.refl _ _)
  clear hX hq hA hx hr hrk hb hl hn
  obtain ⟨u, rfl⟩ := frame401 hsz
  obtain ⟨e0, e3, e4, e5, e6, e11, e22, _⟩ := hchk
  replace e0 : u 0 = p0 := Option.some.inj e0
  replace e3 : u 3 = vL := Option.some.inj e3
  replace e4 : u 4 = vW := Option.some.inj e4
  replace e5 : u 5 = .int .i64 (i : Int) := Option.some.inj e5
  replace e6 : u 6 = .slice (some ⟨gp, op, none⟩) i vc := Option.some.inj e6
  replace e11 : u 11 = p11 := Option.some.inj e11
  replace e22 : u 22 = vw := Option.some.inj e22
  rw [e0, e3, e4, e5, e6, e11, e22]
  clear e0 e3 e4 e5 e6 e11 e22
  have j4 : (0 : Int) ≤ (i : Int) - 1 := by omega
  have j5 : (i : Int) - 1 < (i : Int) := by omega
  have j6 : ((i : Int) - 1).toNat = i - 1 := by omega
  have j7 : (i : Int) ≤ 8 := by omega
  clear hi0 hi
  unfold qq11
  dsimp only [tl, qRnd, qL1, hd, qBody, Tryd.f21]
  go_wp2_with fail
  refine (unhide HA _ (Below.refl _ _)).mono ?_
  rintro e wa ⟨va, rfl, hf, hb1⟩
  have HVa := hide hf
  have Hba := hide hb1
  have y1 := unhide Hx wa hb1
  clear hf hb1 y0
  go_wp2_with fail
  refine (unhide HA _ (unhide Hba)).mono ?_
  rintro e wb ⟨vb, rfl, hf, hb1⟩
  have HVb := hide hf
  have Hbb := hide hb1
  clear hf hb1 HA y1
  have HwB : Hid (Below w.heap.size w wb) := (unhide Hba).trans ((unhide Hbb).mono (unhide Hba).size)
  have Ht := hide ((unhide HQ).pair (unhide Hba) (unhide Hbb) (Below.refl _ _) (unhide HVa) (unhide HVb) (unhide HL).1 (unhide HL).2 ((unhide HR).upw2 (unhide HwB)).has (fun _ q e => .inl (unhide HK q e)) (unhide HN))
  go_wp2_with fail
  refine (unhide Ht).mono ?_
  rintro e w' ⟨vL2, vW2, rfl, h1, -, -⟩
  have H1 := hide h1
  clear h1 Ht
  go_wp2
  exact unhide HX _ _ _ _ rfl ⟨rfl, rfl, rfl, rfl, trivial⟩ (unhide H1)
end Go.Proofs.YtlblllghgdfpoaaDoor
