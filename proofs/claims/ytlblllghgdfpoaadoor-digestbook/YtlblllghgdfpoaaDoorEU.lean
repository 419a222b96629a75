import Derived.Test.YtlblllghgdfpoaaDoorJ40
import Derived.BigQuiet
import Derived.Deep.RegionHeld3
import Derived.Deep.DeepCutAuto

namespace Go.Proofs.YtlblllghgdfpoaaDoor
open Go.RowKit
attribute [local go_sem ↓] Go.wp_at_zero Go.wp_at_succ

theorem callTw (w : World) (vs : Array Value) : (callFunc 42 vs).run Tryd.prog w = .ok (.enter 42 vs) w := by
  have hn : ¬ Tryd.f42.name = "runtime.NumGoroutine" := by decide +kernel
  have hb : Tryd.f42.body.isSome = true := by kernel_rfl
  obtain ⟨c, hc⟩ := Option.isSome_iff_exists.1 hb
  simp [callFunc, Tryd.func42, hn, hc]
theorem QK.drew {B : Nat} {W w : World} {K : Nat → Prop} {n : Nat} {vL vW : Value} (h : QK B W K n w vL vW) : QK B W K n w.drew vL vW := (h.up (w' := w.drew) ⟨rfl, rfl, rfl, Nat.le_refl _, fun _ _ => rfl⟩).weak (fun _ hq => .inl hq) (Nat.le_refl _)
/-- A row of lists from which one reads: each list where it lies. -/
def Src (K : Nat → Prop) (B : Nat) (wp : World) (a : Option Addr) (cs : List (List Nat)) : Prop := 0 < cs.length → ∃ g o, a = some ⟨g, o, none⟩ ∧ ∀ (k : Nat) (l : List Nat), cs[k]? = some l → ∃ x, ∀ w' : World, wp.heap.size ≤ w'.heap.size → (∀ q, K q ∨ q < B → w'.heap[q]? = wp.heap[q]?) → w'.cell? ⟨g, o + k, none⟩ = some x ∧ HasB w' x l ∧ (0 < l.length → ∀ q, x.ownBlock = some q → K q ∨ q < B)
/-- A row that one has made. -/
def Row (wp : World) (a : Option Addr) (n : Nat) (xs : List Value) : Prop := 0 < n → ∃ g, a = some ⟨g, 0, none⟩ ∧ ∀ w' : World, w'.heap[g]? = wp.heap[g]? → ∀ (k : Nat) (x : Value), xs[k]? = some x → w'.cell? ⟨g, k, none⟩ = some x
set_option maxRecDepth 100000 in
set_option maxHeartbeats 4000000 in
theorem p0_any {B : Nat} {W w : World} {n i nv vc : Nat} {va : Option Addr} {vL vW z1 z2 z3 : Value} {FL DL RL : List Nat} {tm : Array Value} {X : Code} {Q : Exit → Act → World → Prop} (hq : QK B W (fun _ => False) n w vL vW) (h1 : ∀ w, Below B W w → Calls Tryd.prog 39 #[.slice va i vc] w fun e w' => ∃ v', e = .returned (.tuple #[v', z1]) ∧ Bytes w.heap.size w' v' FL ∧ Below w.heap.size w w') (h2 : ∀ w, Below B W w → Calls Tryd.prog 40 #[.string ⟨#[120]⟩, .slice va i vc] w fun e w' => ∃ v', e = .returned (.tuple #[v', z2]) ∧ Bytes w.heap.size w' v' DL ∧ Below w.heap.size w w') (h3 : ∀ w, Below B W w → Calls Tryd.prog 41 #[.slice va i vc] w fun e w' => ∃ v', e = .returned (.tuple #[v', z3]) ∧ Bytes w.heap.size w' v' RL ∧ Below w.heap.size w w') (j1 : (i : Int) ≤ (vc : Int)) (hsz : tm.size = 401) (hchk : chk tm [(0, .slice va nv vc), (3, vL), (4, vW), (5, .int .i64 (i : Int))])
    (hX : ∀ (vf vd vr : Value) (w' : World) (tm' : Array Value), tm'.size = 401 → chk tm' [(0, .slice va nv vc), (3, vL), (4, vW), (5, .int .i64 (i : Int)), (6, .slice va i vc), (7, vf), (9, vd), (11, vr)] → QK B W (fun q => w.heap.size ≤ q ∧ q < w'.heap.size) n w' vL vW → Bytes B w' vf FL → (∀ q, (vf).ownBlock = some q → w.heap.size ≤ q ∧ q < w'.heap.size) → Bytes B w' vd DL → (∀ q, (vd).ownBlock = some q → w.heap.size ≤ q ∧ q < w'.heap.size) → Bytes B w' vr RL → (∀ q, (vr).ownBlock = some q → w.heap.size ≤ q ∧ q < w'.heap.size) → X.wp Tryd.prog Q { tmps := tm', defers := [] } w') :
    (qq0 X).wp Tryd.prog Q { tmps := tm, defers := [] } w := by
  have HX := hide hX
  have H1 := hide h1
  have H2 := hide h2
  have H3 := hide h3
  have HQ := hide hq
  have HBe := hide hq.be
  have Hle := hide hq.le
  clear hX h1 h2 h3 hq
  obtain ⟨u, rfl⟩ := frame401 hsz
  obtain ⟨e0, e3, e4, e5, _⟩ := hchk
  replace e0 : u 0 = .slice va nv vc := Option.some.inj e0
  replace e3 : u 3 = vL := Option.some.inj e3
  replace e4 : u 4 = vW := Option.some.inj e4
  replace e5 : u 5 = .int .i64 (i : Int) := Option.some.inj e5
  rw [e0, e3, e4, e5]
  clear e0 e3 e4 e5
  have j0 : (0 : Int) ≤ (i : Int) := Int.natCast_nonneg _
  unfold qq0
  dsimp only [tl, qRnd, qL1, hd, qBody, Tryd.f21]
  go_wp2_with fail
  refine (unhide H1 _ (unhide HBe)).mono ?_
  rintro e w1 ⟨vf, rfl, hf, hb1⟩
  have HF := hide hf
  have Hb1 := hide hb1
  have hz1 := hb1.size
  clear hf hb1
  have HB1 : Hid (Below B W w1) := (unhide HBe).trans ((unhide Hb1).mono (unhide Hle))
  go_wp2_with fail
  refine (unhide H2 _ (unhide HB1)).mono ?_
  rintro e w2 ⟨vd, rfl, hf, hb1⟩
  have HD := hide hf
  have Hc2 := hide hb1
  have Hb2 : Hid (Below w.heap.size w w2) := (unhide Hb1).trans (hb1.mono hz1)
  have hz2 := hb1.size
  clear hf hb1
  have HB2 : Hid (Below B W w2) := (unhide HBe).trans ((unhide Hb2).mono (unhide Hle))
  go_wp2_with fail
  refine (unhide H3 _ (unhide HB2)).mono ?_
  rintro e w3 ⟨vr, rfl, hf, hb1⟩
  have HR := hide hf
  have Hc3 := hide hb1
  have Hb3 : Hid (Below w.heap.size w w3) := (unhide Hb2).trans (hb1.mono (by omega))
  have hz3 := hb1.size
  clear hf hb1
  have Hz : Hid (w.heap.size ≤ w1.heap.size ∧ w1.heap.size ≤ w2.heap.size ∧ w2.heap.size ≤ w3.heap.size) := ⟨hz1, hz2, hz3⟩
  clear hz1 hz2 hz3
  go_wp2
  have hz := unhide Hz
  have hle := unhide Hle
  exact unhide HX _ _ _ _ _ rfl ⟨rfl, rfl, rfl, rfl, rfl, rfl, rfl, rfl, trivial⟩ (((unhide HQ).up (unhide Hb3)).weak (fun _ hq => .inr hq) (Nat.le_refl _)) (own_lower (((unhide HF).upw2 (unhide Hc2)).upw2 (unhide Hc3)) hle) (fun q e => by have := World.ownsRow.lt (unhide HF) q e; omega) (own_lower ((unhide HD).upw2 (unhide Hc3)) (by omega)) (fun q e => by have := World.ownsRow.lt (unhide HD) q e; omega) (own_lower (unhide HR) (by omega)) (fun q e => by have := World.ownsRow.lt (unhide HR) q e; omega)
set_option maxRecDepth 100000 in
set_option maxHeartbeats 4000000 in
theorem p6_any {B : Nat} {W w : World} {K : Nat → Prop} {n i cf : Nat} {af : Option Addr} {p0 vL vW p6 p11 : Value} {FL : List Nat} {pl : List (List Nat)} {tm : Array Value} {X : Code} {Q : Exit → Act → World → Prop} (hq : QK B W K n w vL vW) (hF : Bytes B w (.slice af FL.length cf) FL) (hb : Byt FL) (hA : partsA FL = (0, pl)) (hpn : pl.length = i) (hp : 0 < FL.length) (hsz : tm.size = 401) (hchk : chk tm [(0, p0), (3, vL), (4, vW), (5, .int .i64 (i : Int)), (6, p6), (7, .slice af FL.length cf), (11, p11)])
    (hX : ∀ (a17 a19 : Option Addr) (c17 c19 : Nat) (us vs : List Value) (w' : World) (tm' : Array Value), tm'.size = 401 → chk tm' [(0, p0), (3, vL), (4, vW), (5, .int .i64 (i : Int)), (6, p6), (7, .slice af FL.length cf), (11, p11), (17, .slice a17 i c17), (19, .slice a19 i c19)] → QK B W (KL K (.slice a17 i c17) (.slice a19 i c19) us vs 0) n w' vL vW → Two K B w' (.slice a17 i c17) (.slice a19 i c19) us vs pl → Row w' a17 i us → Row w' a19 i vs → us.length = i → vs.length = i → Below w.heap.size w w' → X.wp Tryd.prog Q { tmps := tm', defers := [] } w') :
    (qq6 X).wp Tryd.prog Q { tmps := tm, defers := [] } w := by
  have HX := hide hX
  have HQ := hide hq
  have HF := hide hF
  have HB := hide hb
  have HA := hide hA
  have Hle := hide hq.le
  have H1 := hide (parts_own hF.has hb)
  rw [hA] at H1
  clear hX hq hF hb hA
  obtain ⟨u, rfl⟩ := frame401 hsz
  obtain ⟨e0, e3, e4, e5, e6, e7, e11, _⟩ := hchk
  replace e0 : u 0 = p0 := Option.some.inj e0
  replace e3 : u 3 = vL := Option.some.inj e3
  replace e4 : u 4 = vW := Option.some.inj e4
  replace e5 : u 5 = .int .i64 (i : Int) := Option.some.inj e5
  replace e6 : u 6 = p6 := Option.some.inj e6
  replace e7 : u 7 = .slice af FL.length cf := Option.some.inj e7
  replace e11 : u 11 = p11 := Option.some.inj e11
  rw [e0, e3, e4, e5, e6, e7, e11]
  clear e0 e3 e4 e5 e6 e7 e11
  unfold qq6
  dsimp only [tl, qRnd, qL1, hd, qBody, Tryd.f21]
  go_wp2_with fail
  refine (unhide H1).mono ?_
  rintro e wa ⟨vl1, rfl, ⟨us1, hl1⟩, hb1⟩
  obtain ⟨a17, c17, hvl, -, -, -⟩ := own_form hl1.bb.row
  subst hvl
  rw [hpn] at hl1 ⊢
  have HP1 := hide hl1
  have Hba := hide hb1
  clear hl1 hb1 H1
  have H1 := hide (parts_own ((unhide HF).upw2 (unhide Hba)).has (unhide HB))
  rw [unhide HA] at H1
  go_wp2_with fail
  refine (unhide H1).mono ?_
  rintro e wb ⟨vl2, rfl, ⟨us2, hl2⟩, hb2⟩
  obtain ⟨a19, c19, hvl, -, -, -⟩ := own_form hl2.bb.row
  subst hvl
  rw [hpn] at hl2 ⊢
  have HP2 := hide hl2
  have Hbb := hide hb2
  clear hl2 hb2 H1
  have HwB : Hid (Below w.heap.size w wb) := (unhide Hba).trans ((unhide Hbb).mono (unhide Hba).size)
  have Hpn := hide hpn
  clear hpn
  go_wp2
  exact unhide HX _ _ _ _ _ _ _ _ rfl ⟨rfl, rfl, rfl, rfl, rfl, rfl, rfl, rfl, rfl, trivial⟩ (((unhide HQ).up (unhide HwB)).weak (fun q hq => two_in (unhide HP1) (unhide HP2) (unhide Hba) (unhide Hbb) hq) (Nat.le_refl _)) (two_of (unhide HP1) (unhide HP2) (unhide Hba) (unhide Hbb) (unhide Hle) (fun q hq => (unhide HQ).kl hq)) (row_cells (unhide HP1).bb.row (unhide Hbb)) (row_cells (unhide HP2).bb.row (Below.refl _ _)) (by have := (unhide HP1).bb.len; have := unhide Hpn; omega) (by have := (unhide HP2).bb.len; have := unhide Hpn; omega) (unhide HwB)
set_option maxRecDepth 100000 in
set_option maxHeartbeats 4000000 in
theorem p7_any {B : Nat} {W wp : World} {K : Nat → Prop} {n m c17 c19 cs' : Nat} {a17 a19 aS : Option Addr} {p0 p5 p11 vL vW : Value} {us vs : List Value} {cs : List (List Nat)} {tm : Array Value} {X : Code} {Q : Exit → Act → World → Prop} (hlow : ∀ q, q < B → wp.heap[q]? = W.heap[q]?) (hq : QK B W (KL K (.slice a17 m c17) (.slice a19 m c19) us vs 0) n wp vL vW) (ht : Two K B wp (.slice a17 m c17) (.slice a19 m c19) us vs cs) (hr1 : Row wp a17 m us) (hr2 : Row wp a19 m vs) (hs : Src K B wp aS cs) (hm : cs.length = m) (hmu : us.length = m) (hmv : vs.length = m) (hcb : ∀ l ∈ cs, Byt l ∧ l.length ≤ 67108864) (hm2 : m ≤ 65536) (hn : n ≤ 10000000) (hsz : tm.size = 401) (hchk : chk tm [(0, p0), (3, vL), (4, vW), (5, p5), (6, .slice aS m cs'), (11, p11), (17, .slice a17 m c17), (19, .slice a19 m c19)])
    (hX : ∀ (vL' vW' : Value) (w' : World) (tm' : Array Value), tm'.size = 401 → chk tm' [(0, p0), (3, vL'), (4, vW'), (5, p5), (6, .slice aS m cs'), (11, p11), (17, .slice a17 m c17), (19, .slice a19 m c19)] → QK B W (KL K (.slice a17 m c17) (.slice a19 m c19) us vs m) (n + 2 * m) w' vL' vW' → (∀ q, KL K (.slice a17 m c17) (.slice a19 m c19) us vs m q → w'.heap[q]? = wp.heap[q]?) → wp.heap.size ≤ w'.heap.size → X.wp Tryd.prog Q { tmps := tm', defers := [] } w') :
    (qq7 X).wp Tryd.prog Q { tmps := tm, defers := [] } wp := by
  have HX := hide hX
  have HPl := hide hlow
  have HT := hide ht
  have HR1 := hide hr1
  have HR2 := hide hr2
  have HSr := hide hs
  have Hm := hide (And.intro hm (And.intro hmu hmv))
  have HCb := hide hcb
  have HN := hide hn
  have HI0 : Hid (QK B W (KL K (.slice a17 m c17) (.slice a19 m c19) us vs 0) n wp vL vW ∧ (∀ q, KL K (.slice a17 m c17) (.slice a19 m c19) us vs 0 q → wp.heap[q]? = wp.heap[q]?) ∧ wp.heap.size ≤ wp.heap.size) := ⟨hq, fun _ _ => rfl, Nat.le_refl _⟩
  clear hX hlow ht hr1 hr2 hs hm hmu hmv hcb hq hn
  obtain ⟨u, rfl⟩ := frame401 hsz
  obtain ⟨e0, e3, e4, e5, e6, e11, e17, e19, _⟩ := hchk
  replace e0 : u 0 = p0 := Option.some.inj e0
  replace e3 : u 3 = vL := Option.some.inj e3
  replace e4 : u 4 = vW := Option.some.inj e4
  replace e5 : u 5 = p5 := Option.some.inj e5
  replace e6 : u 6 = .slice aS m cs' := Option.some.inj e6
  replace e11 : u 11 = p11 := Option.some.inj e11
  replace e17 : u 17 = .slice a17 m c17 := Option.some.inj e17
  replace e19 : u 19 = .slice a19 m c19 := Option.some.inj e19
  rw [e0, e3, e4, e5, e6, e11, e17, e19]
  clear e0 e3 e4 e5 e6 e11 e17 e19
  unfold qq7
  dsimp only [tl, qRnd, qL1, hd, qBody, Tryd.f21]
  go_wp2
  go_loopg [3, 4, 21] m (fun gk v3 v4 v21 wr => ∃ (k : Nat), v21 = .int .i64 (k : Int) ∧ gk = m - k ∧ k ≤ m ∧ Hid (QK B W (KL K (.slice a17 m c17) (.slice a19 m c19) us vs k) (n + 2 * k) wr v3 v4 ∧ (∀ q, KL K (.slice a17 m c17) (.slice a19 m c19) us vs k q → wr.heap[q]? = wp.heap[q]?) ∧ wp.heap.size ≤ wr.heap.size))
  case atStart => exact ⟨0, rfl, rfl, Nat.zero_le _, (unhide HI0).1, fun _ _ => rfl, Nat.le_refl _⟩
  case round =>
    obtain ⟨k, rfl, hgk, hk, HI⟩ := hrel
    have Hgk := hide hgk
    clear hgk HI0
    by_cases hlt : k < m
    · obtain ⟨g1, rfl, hc1⟩ := unhide HR1 (by omega)
      obtain ⟨g2, rfl, hc2⟩ := unhide HR2 (by omega)
      obtain ⟨gs, os, rfl, hcs⟩ := unhide HSr (by have := (unhide Hm).1; omega)
      obtain ⟨a, ha⟩ : ∃ a, us[k]? = some a := ⟨_, List.getElem?_eq_getElem (by have := (unhide Hm).2.1; omega)⟩
      obtain ⟨b, hb⟩ : ∃ a, vs[k]? = some a := ⟨_, List.getElem?_eq_getElem (by have := (unhide Hm).2.2; omega)⟩
      obtain ⟨l, hl⟩ : ∃ a, cs[k]? = some a := ⟨_, List.getElem?_eq_getElem (by have := (unhide Hm).1; omega)⟩
      obtain ⟨x, hx⟩ := hcs k l hl
      have low : ∀ w' : World, Below B W w' → ∀ q, q < B → w'.heap[q]? = W.heap[q]? := fun w' hb q hq => hb.block q hq
      have HBp : Hid (∀ q, q < B → wr.heap[q]? = wp.heap[q]?) := fun q hq => (low wr (unhide HI).1.be q hq).trans (unhide HPl q hq).symm
      obtain ⟨y3, hxb, hxk⟩ := hx wr (unhide HI).2.2 (fun q hq => hq.elim (fun h => (unhide HI).2.1 q (.inl h)) (fun h => unhide HBp q h))
      have y1 := hc1 wr ((unhide HI).2.1 g1 (.inr (.inl rfl))) k a ha
      have y2 := hc2 wr ((unhide HI).2.1 g2 (.inr (.inr (.inl rfl)))) k b hb
      have Ht := hide (QK.two (unhide HT) (unhide HI).1.drew (unhide HI).2.1 ha hb hl (unhide HCb l (List.mem_of_getElem? hl)).1 (unhide HCb l (List.mem_of_getElem? hl)).2 (hxb.up ⟨rfl, rfl, rfl, Nat.le_refl _, fun _ _ => rfl⟩) (fun hp q e => (hxk hp q e).imp .inl (fun h => h)) (by have := unhide HN; omega))
      have HNx : Hid (∀ w5 : World, wr.drew.heap.size ≤ w5.heap.size → (∀ q, KL K (.slice (some ⟨g1, 0, none⟩) m c17) (.slice (some ⟨g2, 0, none⟩) m c19) us vs (k + 1) q → w5.heap[q]? = wp.heap[q]?) → (∀ q, q < B → w5.heap[q]? = wr.drew.heap[q]?) → w5.cell? ⟨g1, k, none⟩ = some a ∧ w5.cell? ⟨g2, k, none⟩ = some b ∧ w5.cell? ⟨gs, os + k, none⟩ = some x) := fun w5 h1 h2 h3 => ⟨hc1 w5 (h2 g1 (.inr (.inl rfl))) k a ha, hc2 w5 (h2 g2 (.inr (.inr (.inl rfl)))) k b hb, (hx w5 (Nat.le_trans (unhide HI).2.2 h1) (fun q hq => hq.elim (fun h => h2 q (.inl h)) (fun h => (h3 q h).trans (unhide HBp q h)))).1⟩
      have HS := hide (unhide HI).2.2
      have j0 : (0 : Int) ≤ (k : Int) := Int.natCast_nonneg _
      have j1 : (k : Int) < (m : Int) := by omega
      have Hlt := hide hlt
      clear hc1 hc2 hcs hx low hxb hxk ha hb hl HI HBp hlt
      go_wp2
      refine wp_region_noPanic ?_
      refine wp_region_any (by kernel_rfl) (Zz.wpAny_of_Z (z := 99) (T := fun w => w.cell? ⟨g1, k, none⟩ = some a ∧ w.cell? ⟨g2, k, none⟩ = some b ∧ w.cell? ⟨gs, os + k, none⟩ = some x) _ _ _ _ ?_)
      have hT : (fun w : World => w.cell? ⟨g1, k, none⟩ = some a ∧ w.cell? ⟨g2, k, none⟩ = some b ∧ w.cell? ⟨gs, os + k, none⟩ = some x) wr.drew := ⟨y1, y2, y3⟩
      refine Zz.wpAnyZ_tk 0 (u3) 186 rfl rfl (Or.inl ⟨by rfl, fun w hw => by obtain ⟨hw0, hw1, hw2⟩ := hw; go_simp⟩) hT ?_
      simp only [Act.put, List.setIfInBounds_toArray, List.set_cons_zero, List.set_cons_succ]
      refine Zz.wpAnyZ_tk 1 (u4) 187 rfl rfl (Or.inl ⟨by rfl, fun w hw => by obtain ⟨hw0, hw1, hw2⟩ := hw; go_simp⟩) hT ?_
      simp only [Act.put, List.setIfInBounds_toArray, List.set_cons_zero, List.set_cons_succ]
      refine Zz.wpAnyZ_tk 2 (.slice (some ⟨g1, 0, none⟩) m c17) 188 rfl rfl (Or.inl ⟨by rfl, fun w hw => by obtain ⟨hw0, hw1, hw2⟩ := hw; go_simp⟩) hT ?_
      simp only [Act.put, List.setIfInBounds_toArray, List.set_cons_zero, List.set_cons_succ]
      refine Zz.wpAnyZ_tk 3 (.int .i64 (k : Int)) 189 rfl rfl (Or.inl ⟨by rfl, fun w hw => by obtain ⟨hw0, hw1, hw2⟩ := hw; go_simp⟩) hT ?_
      simp only [Act.put, List.setIfInBounds_toArray, List.set_cons_zero, List.set_cons_succ]
      refine Zz.wpAnyZ_tk 4 (.pointer (some ⟨g1, k, none⟩)) 190 rfl rfl (Or.inl ⟨by rfl, fun w hw => by obtain ⟨hw0, hw1, hw2⟩ := hw; go_simp⟩) hT ?_
      simp only [Act.put, List.setIfInBounds_toArray, List.set_cons_zero, List.set_cons_succ]
      refine Zz.wpAnyZ_tk 5 (a) 191 rfl rfl (Or.inl ⟨by rfl, fun w hw => by obtain ⟨hw0, hw1, hw2⟩ := hw; go_simp⟩) hT ?_
      simp only [Act.put, List.setIfInBounds_toArray, List.set_cons_zero, List.set_cons_succ]
      refine Zz.wpAnyZ_tk 6 (.slice (some ⟨g2, 0, none⟩) m c19) 192 rfl rfl (Or.inl ⟨by rfl, fun w hw => by obtain ⟨hw0, hw1, hw2⟩ := hw; go_simp⟩) hT ?_
      simp only [Act.put, List.setIfInBounds_toArray, List.set_cons_zero, List.set_cons_succ]
      refine Zz.wpAnyZ_tk 7 (.int .i64 (k : Int)) 193 rfl rfl (Or.inl ⟨by rfl, fun w hw => by obtain ⟨hw0, hw1, hw2⟩ := hw; go_simp⟩) hT ?_
      simp only [Act.put, List.setIfInBounds_toArray, List.set_cons_zero, List.set_cons_succ]
      refine Zz.wpAnyZ_tk 8 (.pointer (some ⟨g2, k, none⟩)) 194 rfl rfl (Or.inl ⟨by rfl, fun w hw => by obtain ⟨hw0, hw1, hw2⟩ := hw; go_simp⟩) hT ?_
      simp only [Act.put, List.setIfInBounds_toArray, List.set_cons_zero, List.set_cons_succ]
      refine Zz.wpAnyZ_tk 9 (b) 195 rfl rfl (Or.inl ⟨by rfl, fun w hw => by obtain ⟨hw0, hw1, hw2⟩ := hw; go_simp⟩) hT ?_
      simp only [Act.put, List.setIfInBounds_toArray, List.set_cons_zero, List.set_cons_succ]
      refine Zz.wpAnyZ_tk 10 (.slice (some ⟨gs, os, none⟩) m cs') 196 rfl rfl (Or.inl ⟨by rfl, fun w hw => by obtain ⟨hw0, hw1, hw2⟩ := hw; go_simp⟩) hT ?_
      simp only [Act.put, List.setIfInBounds_toArray, List.set_cons_zero, List.set_cons_succ]
      refine Zz.wpAnyZ_tk 11 (.int .i64 (k : Int)) 197 rfl rfl (Or.inl ⟨by rfl, fun w hw => by obtain ⟨hw0, hw1, hw2⟩ := hw; go_simp⟩) hT ?_
      simp only [Act.put, List.setIfInBounds_toArray, List.set_cons_zero, List.set_cons_succ]
      refine Zz.wpAnyZ_tk 12 (.pointer (some ⟨gs, os + k, none⟩)) 198 rfl rfl (Or.inl ⟨by rfl, fun w hw => by obtain ⟨hw0, hw1, hw2⟩ := hw; go_simp⟩) hT ?_
      simp only [Act.put, List.setIfInBounds_toArray, List.set_cons_zero, List.set_cons_succ]
      refine Zz.wpAnyZ_tk 13 (x) 199 rfl rfl (Or.inl ⟨by rfl, fun w hw => by obtain ⟨hw0, hw1, hw2⟩ := hw; go_simp⟩) hT ?_
      simp only [Act.put, List.setIfInBounds_toArray, List.set_cons_zero, List.set_cons_succ]
      refine Zz.wpAnyZ_one 14 (by kernel_rfl) rfl (fun KK hK => ?_)
      refine Zz.step_callD 200 rfl rfl 42 (callTw _) #[.tmp 186, .tmp 187, .tmp 191, .tmp 195, .tmp 199] #[22, 25, 29, 29, 29] rfl #[u3, u4, a, b, x] (by first | rfl | simp [Act.eval]) (unhide Ht) ?_
      rintro o5 w5 ⟨vL2, vW2, rfl, h1, h2, -, h4, h5⟩
      refine ⟨_, rfl, ?_⟩
      have hT5 := unhide HNx w5 h5 h2 h4
      have HI2 : Hid (QK B W (KL K (.slice (some ⟨g1, 0, none⟩) m c17) (.slice (some ⟨g2, 0, none⟩) m c19) us vs (k + 1)) (n + 2 * (k + 1)) w5 vL2 vW2 ∧ (∀ q, KL K (.slice (some ⟨g1, 0, none⟩) m c17) (.slice (some ⟨g2, 0, none⟩) m c19) us vs (k + 1) q → w5.heap[q]? = wp.heap[q]?) ∧ wp.heap.size ≤ w5.heap.size) := ⟨h1, h2, Nat.le_trans (unhide HS) h5⟩
      clear h1 h2 h4 h5 Ht HNx
      refine hK _ _ ⟨fun _ => hT5, ?_⟩
      clear hK KK hT
      have hT := hT5
      clear hT5
      simp only [Act.put, List.setIfInBounds_toArray, List.set_cons_zero, List.set_cons_succ]
      refine Zz.wpAnyZ_tk 15 (.tuple #[vL2, vW2]) 185 rfl rfl (Or.inl ⟨by rfl, fun w hw => by obtain ⟨hw0, hw1, hw2⟩ := hw; go_simp⟩) hT ?_
      simp only [Act.put, List.setIfInBounds_toArray, List.set_cons_zero, List.set_cons_succ]
      refine Zz.wpAnyZ_tk 16 (vL2) 201 rfl rfl (Or.inl ⟨by rfl, fun w hw => by obtain ⟨hw0, hw1, hw2⟩ := hw; go_simp⟩) hT ?_
      simp only [Act.put, List.setIfInBounds_toArray, List.set_cons_zero, List.set_cons_succ]
      refine Zz.wpAnyZ_tk 17 (vW2) 202 rfl rfl (Or.inl ⟨by rfl, fun w hw => by obtain ⟨hw0, hw1, hw2⟩ := hw; go_simp⟩) hT ?_
      simp only [Act.put, List.setIfInBounds_toArray, List.set_cons_zero, List.set_cons_succ]
      refine Zz.wpAnyZ_tk 18 (vL2) 3 rfl rfl (Or.inl ⟨by rfl, fun w hw => by obtain ⟨hw0, hw1, hw2⟩ := hw; go_simp⟩) hT ?_
      simp only [Act.put, List.setIfInBounds_toArray, List.set_cons_zero, List.set_cons_succ]
      refine Zz.wpAnyZ_tk 19 (vW2) 4 rfl rfl (Or.inl ⟨by rfl, fun w hw => by obtain ⟨hw0, hw1, hw2⟩ := hw; go_simp⟩) hT ?_
      simp only [Act.put, List.setIfInBounds_toArray, List.set_cons_zero, List.set_cons_succ]
      refine Zz.wpAnyZ_done (by kernel_rfl) ?_
      refine NoPanic.normal ?_
      clear hT y1 y2 y3
      go_wp2
      go_roundg (m - (k + 1))
      case measure => have := unhide Hgk; have := unhide Hlt; omega
      case rel => exact ⟨k + 1, by go_num, rfl, unhide Hlt, unhide HI2⟩
    · obtain rfl : k = m := by omega
      clear hlt hk Hgk
      go_wp2
      exact unhide HX _ _ _ _ rfl ⟨rfl, rfl, rfl, rfl, rfl, rfl, rfl, rfl, trivial⟩ (unhide HI).1 (unhide HI).2.1 (unhide HI).2.2
set_option maxRecDepth 100000 in
set_option maxHeartbeats 4000000 in
theorem p10_any {B : Nat} {W wp : World} {K : Nat → Prop} {n m c17 c19 cs' : Nat} {a17 a19 aS : Option Addr} {p0 p5 p6 p11 vL vW : Value} {us vs : List Value} {cs : List (List Nat)} {tm : Array Value} {X : Code} {Q : Exit → Act → World → Prop} (hlow : ∀ q, q < B → wp.heap[q]? = W.heap[q]?) (hq : QK B W (KL K (.slice a17 m c17) (.slice a19 m c19) us vs 0) n wp vL vW) (ht : Two K B wp (.slice a17 m c17) (.slice a19 m c19) us vs cs) (hr1 : Row wp a17 m us) (hr2 : Row wp a19 m vs) (hs : Src K B wp aS cs) (hm : cs.length = m) (hmu : us.length = m) (hmv : vs.length = m) (hcb : ∀ l ∈ cs, Byt l ∧ l.length ≤ 67108864) (hm2 : m ≤ 65536) (hn : n ≤ 10000000) (hsz : tm.size = 401) (hchk : chk tm [(0, p0), (3, vL), (4, vW), (5, p5), (6, p6), (11, p11), (17, .slice a17 m c17), (19, .slice a19 m c19), (22, .slice aS m cs')])
    (hX : ∀ (vL' vW' : Value) (w' : World) (tm' : Array Value), tm'.size = 401 → chk tm' [(0, p0), (3, vL'), (4, vW'), (5, p5), (6, p6), (11, p11), (17, .slice a17 m c17), (19, .slice a19 m c19), (22, .slice aS m cs')] → QK B W (KL K (.slice a17 m c17) (.slice a19 m c19) us vs m) (n + 2 * m) w' vL' vW' → (∀ q, KL K (.slice a17 m c17) (.slice a19 m c19) us vs m q → w'.heap[q]? = wp.heap[q]?) → wp.heap.size ≤ w'.heap.size → X.wp Tryd.prog Q { tmps := tm', defers := [] } w') :
    (qq10 X).wp Tryd.prog Q { tmps := tm, defers := [] } wp := by
  have HX := hide hX
  have HPl := hide hlow
  have HT := hide ht
  have HR1 := hide hr1
  have HR2 := hide hr2
  have HSr := hide hs
  have Hm := hide (And.intro hm (And.intro hmu hmv))
  have HCb := hide hcb
  have HN := hide hn
  have HI0 : Hid (QK B W (KL K (.slice a17 m c17) (.slice a19 m c19) us vs 0) n wp vL vW ∧ (∀ q, KL K (.slice a17 m c17) (.slice a19 m c19) us vs 0 q → wp.heap[q]? = wp.heap[q]?) ∧ wp.heap.size ≤ wp.heap.size) := ⟨hq, fun _ _ => rfl, Nat.le_refl _⟩
  clear hX hlow ht hr1 hr2 hs hm hmu hmv hcb hq hn
  obtain ⟨u, rfl⟩ := frame401 hsz
  obtain ⟨e0, e3, e4, e5, e6, e11, e17, e19, e22, _⟩ := hchk
  replace e0 : u 0 = p0 := Option.some.inj e0
  replace e3 : u 3 = vL := Option.some.inj e3
  replace e4 : u 4 = vW := Option.some.inj e4
  replace e5 : u 5 = p5 := Option.some.inj e5
  replace e6 : u 6 = p6 := Option.some.inj e6
  replace e11 : u 11 = p11 := Option.some.inj e11
  replace e17 : u 17 = .slice a17 m c17 := Option.some.inj e17
  replace e19 : u 19 = .slice a19 m c19 := Option.some.inj e19
  replace e22 : u 22 = .slice aS m cs' := Option.some.inj e22
  rw [e0, e3, e4, e5, e6, e11, e17, e19, e22]
  clear e0 e3 e4 e5 e6 e11 e17 e19 e22
  unfold qq10
  dsimp only [tl, qRnd, qL1, hd, qBody, Tryd.f21]
  go_wp2
  go_loopg [3, 4, 24] m (fun gk v3 v4 v24 wr => ∃ (k : Nat), v24 = .int .i64 (k : Int) ∧ gk = m - k ∧ k ≤ m ∧ Hid (QK B W (KL K (.slice a17 m c17) (.slice a19 m c19) us vs k) (n + 2 * k) wr v3 v4 ∧ (∀ q, KL K (.slice a17 m c17) (.slice a19 m c19) us vs k q → wr.heap[q]? = wp.heap[q]?) ∧ wp.heap.size ≤ wr.heap.size))
  case atStart => exact ⟨0, rfl, rfl, Nat.zero_le _, (unhide HI0).1, fun _ _ => rfl, Nat.le_refl _⟩
  case round =>
    obtain ⟨k, rfl, hgk, hk, HI⟩ := hrel
    have Hgk := hide hgk
    clear hgk HI0
    by_cases hlt : k < m
    · obtain ⟨g1, rfl, hc1⟩ := unhide HR1 (by omega)
      obtain ⟨g2, rfl, hc2⟩ := unhide HR2 (by omega)
      obtain ⟨gs, os, rfl, hcs⟩ := unhide HSr (by have := (unhide Hm).1; omega)
      obtain ⟨a, ha⟩ : ∃ a, us[k]? = some a := ⟨_, List.getElem?_eq_getElem (by have := (unhide Hm).2.1; omega)⟩
      obtain ⟨b, hb⟩ : ∃ a, vs[k]? = some a := ⟨_, List.getElem?_eq_getElem (by have := (unhide Hm).2.2; omega)⟩
      obtain ⟨l, hl⟩ : ∃ a, cs[k]? = some a := ⟨_, List.getElem?_eq_getElem (by have := (unhide Hm).1; omega)⟩
      obtain ⟨x, hx⟩ := hcs k l hl
      have low : ∀ w' : World, Below B W w' → ∀ q, q < B → w'.heap[q]? = W.heap[q]? := fun w' hb q hq => hb.block q hq
      have HBp : Hid (∀ q, q < B → wr.heap[q]? = wp.heap[q]?) := fun q hq => (low wr (unhide HI).1.be q hq).trans (unhide HPl q hq).symm
      obtain ⟨y3, hxb, hxk⟩ := hx wr (unhide HI).2.2 (fun q hq => hq.elim (fun h => (unhide HI).2.1 q (.inl h)) (fun h => unhide HBp q h))
      have y1 := hc1 wr ((unhide HI).2.1 g1 (.inr (.inl rfl))) k a ha
      have y2 := hc2 wr ((unhide HI).2.1 g2 (.inr (.inr (.inl rfl)))) k b hb
      have Ht := hide (QK.two (unhide HT) (unhide HI).1.drew (unhide HI).2.1 ha hb hl (unhide HCb l (List.mem_of_getElem? hl)).1 (unhide HCb l (List.mem_of_getElem? hl)).2 (hxb.up ⟨rfl, rfl, rfl, Nat.le_refl _, fun _ _ => rfl⟩) (fun hp q e => (hxk hp q e).imp .inl (fun h => h)) (by have := unhide HN; omega))
      have HNx : Hid (∀ w5 : World, wr.drew.heap.size ≤ w5.heap.size → (∀ q, KL K (.slice (some ⟨g1, 0, none⟩) m c17) (.slice (some ⟨g2, 0, none⟩) m c19) us vs (k + 1) q → w5.heap[q]? = wp.heap[q]?) → (∀ q, q < B → w5.heap[q]? = wr.drew.heap[q]?) → w5.cell? ⟨g1, k, none⟩ = some a ∧ w5.cell? ⟨g2, k, none⟩ = some b ∧ w5.cell? ⟨gs, os + k, none⟩ = some x) := fun w5 h1 h2 h3 => ⟨hc1 w5 (h2 g1 (.inr (.inl rfl))) k a ha, hc2 w5 (h2 g2 (.inr (.inr (.inl rfl)))) k b hb, (hx w5 (Nat.le_trans (unhide HI).2.2 h1) (fun q hq => hq.elim (fun h => h2 q (.inl h)) (fun h => (h3 q h).trans (unhide HBp q h)))).1⟩
      have HS := hide (unhide HI).2.2
      have j0 : (0 : Int) ≤ (k : Int) := Int.natCast_nonneg _
      have j1 : (k : Int) < (m : Int) := by omega
      have Hlt := hide hlt
      clear hc1 hc2 hcs hx low hxb hxk ha hb hl HI HBp hlt
      go_wp2
      refine wp_region_noPanic ?_
      refine wp_region_any (by kernel_rfl) (Zz.wpAny_of_Z (z := 99) (T := fun w => w.cell? ⟨g1, k, none⟩ = some a ∧ w.cell? ⟨g2, k, none⟩ = some b ∧ w.cell? ⟨gs, os + k, none⟩ = some x) _ _ _ _ ?_)
      have hT : (fun w : World => w.cell? ⟨g1, k, none⟩ = some a ∧ w.cell? ⟨g2, k, none⟩ = some b ∧ w.cell? ⟨gs, os + k, none⟩ = some x) wr.drew := ⟨y1, y2, y3⟩
      refine Zz.wpAnyZ_tk 0 (u3) 245 rfl rfl (Or.inl ⟨by rfl, fun w hw => by obtain ⟨hw0, hw1, hw2⟩ := hw; go_simp⟩) hT ?_
      simp only [Act.put, List.setIfInBounds_toArray, List.set_cons_zero, List.set_cons_succ]
      refine Zz.wpAnyZ_tk 1 (u4) 246 rfl rfl (Or.inl ⟨by rfl, fun w hw => by obtain ⟨hw0, hw1, hw2⟩ := hw; go_simp⟩) hT ?_
      simp only [Act.put, List.setIfInBounds_toArray, List.set_cons_zero, List.set_cons_succ]
      refine Zz.wpAnyZ_tk 2 (.slice (some ⟨g1, 0, none⟩) m c17) 247 rfl rfl (Or.inl ⟨by rfl, fun w hw => by obtain ⟨hw0, hw1, hw2⟩ := hw; go_simp⟩) hT ?_
      simp only [Act.put, List.setIfInBounds_toArray, List.set_cons_zero, List.set_cons_succ]
      refine Zz.wpAnyZ_tk 3 (.int .i64 (k : Int)) 248 rfl rfl (Or.inl ⟨by rfl, fun w hw => by obtain ⟨hw0, hw1, hw2⟩ := hw; go_simp⟩) hT ?_
      simp only [Act.put, List.setIfInBounds_toArray, List.set_cons_zero, List.set_cons_succ]
      refine Zz.wpAnyZ_tk 4 (.pointer (some ⟨g1, k, none⟩)) 249 rfl rfl (Or.inl ⟨by rfl, fun w hw => by obtain ⟨hw0, hw1, hw2⟩ := hw; go_simp⟩) hT ?_
      simp only [Act.put, List.setIfInBounds_toArray, List.set_cons_zero, List.set_cons_succ]
      refine Zz.wpAnyZ_tk 5 (a) 250 rfl rfl (Or.inl ⟨by rfl, fun w hw => by obtain ⟨hw0, hw1, hw2⟩ := hw; go_simp⟩) hT ?_
      simp only [Act.put, List.setIfInBounds_toArray, List.set_cons_zero, List.set_cons_succ]
      refine Zz.wpAnyZ_tk 6 (.slice (some ⟨g2, 0, none⟩) m c19) 251 rfl rfl (Or.inl ⟨by rfl, fun w hw => by obtain ⟨hw0, hw1, hw2⟩ := hw; go_simp⟩) hT ?_
      simp only [Act.put, List.setIfInBounds_toArray, List.set_cons_zero, List.set_cons_succ]
      refine Zz.wpAnyZ_tk 7 (.int .i64 (k : Int)) 252 rfl rfl (Or.inl ⟨by rfl, fun w hw => by obtain ⟨hw0, hw1, hw2⟩ := hw; go_simp⟩) hT ?_
      simp only [Act.put, List.setIfInBounds_toArray, List.set_cons_zero, List.set_cons_succ]
      refine Zz.wpAnyZ_tk 8 (.pointer (some ⟨g2, k, none⟩)) 253 rfl rfl (Or.inl ⟨by rfl, fun w hw => by obtain ⟨hw0, hw1, hw2⟩ := hw; go_simp⟩) hT ?_
      simp only [Act.put, List.setIfInBounds_toArray, List.set_cons_zero, List.set_cons_succ]
      refine Zz.wpAnyZ_tk 9 (b) 254 rfl rfl (Or.inl ⟨by rfl, fun w hw => by obtain ⟨hw0, hw1, hw2⟩ := hw; go_simp⟩) hT ?_
      simp only [Act.put, List.setIfInBounds_toArray, List.set_cons_zero, List.set_cons_succ]
      refine Zz.wpAnyZ_tk 10 (.slice (some ⟨gs, os, none⟩) m cs') 255 rfl rfl (Or.inl ⟨by rfl, fun w hw => by obtain ⟨hw0, hw1, hw2⟩ := hw; go_simp⟩) hT ?_
      simp only [Act.put, List.setIfInBounds_toArray, List.set_cons_zero, List.set_cons_succ]
      refine Zz.wpAnyZ_tk 11 (.int .i64 (k : Int)) 256 rfl rfl (Or.inl ⟨by rfl, fun w hw => by obtain ⟨hw0, hw1, hw2⟩ := hw; go_simp⟩) hT ?_
      simp only [Act.put, List.setIfInBounds_toArray, List.set_cons_zero, List.set_cons_succ]
      refine Zz.wpAnyZ_tk 12 (.pointer (some ⟨gs, os + k, none⟩)) 257 rfl rfl (Or.inl ⟨by rfl, fun w hw => by obtain ⟨hw0, hw1, hw2⟩ := hw; go_simp⟩) hT ?_
      simp only [Act.put, List.setIfInBounds_toArray, List.set_cons_zero, List.set_cons_succ]
      refine Zz.wpAnyZ_tk 13 (x) 258 rfl rfl (Or.inl ⟨by rfl, fun w hw => by obtain ⟨hw0, hw1, hw2⟩ := hw; go_simp⟩) hT ?_
      simp only [Act.put, List.setIfInBounds_toArray, List.set_cons_zero, List.set_cons_succ]
      refine Zz.wpAnyZ_one 14 (by kernel_rfl) rfl (fun KK hK => ?_)
      refine Zz.step_callD 259 rfl rfl 42 (callTw _) #[.tmp 245, .tmp 246, .tmp 250, .tmp 254, .tmp 258] #[22, 25, 29, 29, 29] rfl #[u3, u4, a, b, x] (by first | rfl | simp [Act.eval]) (unhide Ht) ?_
      rintro o5 w5 ⟨vL2, vW2, rfl, h1, h2, -, h4, h5⟩
      refine ⟨_, rfl, ?_⟩
      have hT5 := unhide HNx w5 h5 h2 h4
      have HI2 : Hid (QK B W (KL K (.slice (some ⟨g1, 0, none⟩) m c17) (.slice (some ⟨g2, 0, none⟩) m c19) us vs (k + 1)) (n + 2 * (k + 1)) w5 vL2 vW2 ∧ (∀ q, KL K (.slice (some ⟨g1, 0, none⟩) m c17) (.slice (some ⟨g2, 0, none⟩) m c19) us vs (k + 1) q → w5.heap[q]? = wp.heap[q]?) ∧ wp.heap.size ≤ w5.heap.size) := ⟨h1, h2, Nat.le_trans (unhide HS) h5⟩
      clear h1 h2 h4 h5 Ht HNx
      refine hK _ _ ⟨fun _ => hT5, ?_⟩
      clear hK KK hT
      have hT := hT5
      clear hT5
      simp only [Act.put, List.setIfInBounds_toArray, List.set_cons_zero, List.set_cons_succ]
      refine Zz.wpAnyZ_tk 15 (.tuple #[vL2, vW2]) 244 rfl rfl (Or.inl ⟨by rfl, fun w hw => by obtain ⟨hw0, hw1, hw2⟩ := hw; go_simp⟩) hT ?_
      simp only [Act.put, List.setIfInBounds_toArray, List.set_cons_zero, List.set_cons_succ]
      refine Zz.wpAnyZ_tk 16 (vL2) 260 rfl rfl (Or.inl ⟨by rfl, fun w hw => by obtain ⟨hw0, hw1, hw2⟩ := hw; go_simp⟩) hT ?_
      simp only [Act.put, List.setIfInBounds_toArray, List.set_cons_zero, List.set_cons_succ]
      refine Zz.wpAnyZ_tk 17 (vW2) 261 rfl rfl (Or.inl ⟨by rfl, fun w hw => by obtain ⟨hw0, hw1, hw2⟩ := hw; go_simp⟩) hT ?_
      simp only [Act.put, List.setIfInBounds_toArray, List.set_cons_zero, List.set_cons_succ]
      refine Zz.wpAnyZ_tk 18 (vL2) 3 rfl rfl (Or.inl ⟨by rfl, fun w hw => by obtain ⟨hw0, hw1, hw2⟩ := hw; go_simp⟩) hT ?_
      simp only [Act.put, List.setIfInBounds_toArray, List.set_cons_zero, List.set_cons_succ]
      refine Zz.wpAnyZ_tk 19 (vW2) 4 rfl rfl (Or.inl ⟨by rfl, fun w hw => by obtain ⟨hw0, hw1, hw2⟩ := hw; go_simp⟩) hT ?_
      simp only [Act.put, List.setIfInBounds_toArray, List.set_cons_zero, List.set_cons_succ]
      refine Zz.wpAnyZ_done (by kernel_rfl) ?_
      refine NoPanic.normal ?_
      clear hT y1 y2 y3
      go_wp2
      go_roundg (m - (k + 1))
      case measure => have := unhide Hgk; have := unhide Hlt; omega
      case rel => exact ⟨k + 1, by go_num, rfl, unhide Hlt, unhide HI2⟩
    · obtain rfl : k = m := by omega
      clear hlt hk Hgk
      go_wp2
      exact unhide HX _ _ _ _ rfl ⟨rfl, rfl, rfl, rfl, rfl, rfl, rfl, rfl, rfl, trivial⟩ (unhide HI).1 (unhide HI).2.1 (unhide HI).2.2
end Go.Proofs.YtlblllghgdfpoaaDoor
