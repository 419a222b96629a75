import Derived.Test.YtpmdfgoajffmeaaIStill
import Derived.Test.YtpmdfgoajffmeaaIIter
import Derived.Test.YtpmdfgoajffmeaaIOps

namespace Go.Proofs.Ytpmdfgoajffmeaa
open Go.RowKit Go.Shelf
attribute [local go_sem] Oper.semAt_some

theorem ge_rk (k : KT) (l : List Ent) : (ge k l).length + rk k l = l.length := by
  induction l with
  | nil => rfl
  | cons x l ih =>
    unfold ge rk at *
    by_cases h : x.1 < k
    · simp [h] at ih ⊢; omega
    · simp [h] at ih ⊢; omega
theorem keepsFrom_below {B : Nat} {W W' : World} (h : Below W.heap.size W W') : KeepsFrom B W W' := ⟨h.size, fun k _ _ hk _ => (h.block k (Array.getElem?_eq_some_iff.1 hk).1).trans hk⟩
theorem ne_row {A : World} {k r : Nat} {v : Value} (hk : A.cell? ⟨k, 0, none⟩ = some v) {o : Obj} (ho : A.heap[r]? = some o) (hc : o.isCells = false) : k ≠ r := by
  rintro rfl
  unfold World.cell? at hk
  simp only [ho] at hk
  cases o with
  | cells _ _ _ => cases hc
  | _ => simp at hk
theorem block_own {A B : World} {row : Option Nat} (hg : A.grownBy B row) (hr : ∀ r, row = some r → ∃ o : Obj, A.heap[r]? = some o ∧ o.isCells = false) {k : Nat} {v : Value} (hk : A.cell? ⟨k, 0, none⟩ = some v) : B.heap[k]? = A.heap[k]? := by
  refine hg.block k (lt_of_cell hk) fun e => ?_
  obtain ⟨o, ho, hc⟩ := hr k e.symm
  exact ne_row hk ho hc rfl
theorem Keeps.of_own {A B : World} {row : Option Nat} (hg : A.grownBy B row) (hr : ∀ r, row = some r → ∃ o : Obj, A.heap[r]? = some o ∧ o.isCells = false) : Keeps A B := ⟨hg.size, fun _ ⟨_, hk⟩ => block_own hg hr hk⟩
theorem Keeps.of_box {A : World} {b : Nat} {t : TypeId} {p v : Value} (hb : Boxed A b t p) (hp : ∀ e : KT, p ≠ .int .i64 e) : Keeps A (A.setCell ⟨b, 0, none⟩ v) := by
  refine ⟨by rw [World.size_setCell]; exact Nat.le_refl _, fun k ⟨e, hk⟩ => Below.heap_setCell _ _ _ k fun h => ?_⟩
  obtain rfl : k = b := h
  rw [hb.cell] at hk
  exact hp e (by simpa using hk)
theorem isM_bm {W : World} {bm : Nat} {T : BT} (h : IsM W (some ⟨bm, 0, none⟩) T) : ∃ v, W.cell? ⟨bm, 0, none⟩ = some v := by
  obtain ⟨b, p, e, _, h2, _⟩ := h
  obtain rfl : bm = b := by simpa using e
  exact ⟨_, h2⟩
theorem isM_setBox {A : World} {b bm : Nat} {t : TypeId} {p v : Value} {T : BT} (hb : Boxed A b t p) (hp : ∀ e : KT, p ≠ .int .i64 e) (hne : bm ≠ b) (h : IsM A (some ⟨bm, 0, none⟩) T) : IsM (A.setCell ⟨b, 0, none⟩ v) (some ⟨bm, 0, none⟩) T :=
  (Keeps.of_box hb hp).isM (Below.heap_setCell _ _ _ _ hne) h
theorem IsSteps.up {W w : World} {a : Option Addr} {ss : List Step} (h : IsSteps W a ss) (hb : Below W.heap.size W w) : IsSteps w a ss := by
  obtain ⟨h1, b, off, h2, h3⟩ := h
  refine ⟨h1, b, off, fun hp => ⟨(h2 hp).1, Nat.lt_of_lt_of_le (h2 hp).2 hb.size⟩, fun i o ho => ?_⟩
  have hl : b < W.heap.size := (h2 (Nat.lt_of_le_of_lt (Nat.zero_le _) (List.getElem?_eq_some_iff.1 ho).1)).2
  obtain ⟨c0, c1, c2, c3, c4, c5⟩ := h3 i o ho
  exact ⟨(hb.cell (p := ⟨b, _, none⟩) hl).trans c0, (hb.cell (p := ⟨b, _, none⟩) hl).trans c1, (hb.cell (p := ⟨b, _, none⟩) hl).trans c2, (hb.cell (p := ⟨b, _, none⟩) hl).trans c3, (hb.cell (p := ⟨b, _, none⟩) hl).trans c4, (hb.cell (p := ⟨b, _, none⟩) hl).trans c5⟩

theorem prefix_next {L pre : List Ent} {x y : Ent} (hp : pre <+: L) (hy : L[pre.length]? = some y) : pre ++ [x] <+: L ↔ x = y := by
  obtain ⟨t, rfl⟩ := hp
  constructor
  · rintro ⟨u, hu⟩
    rw [← hu] at hy
    simpa using hy
  · rintro rfl
    cases t with
    | nil => simp at hy
    | cons z t =>
      obtain rfl : z = x := by simpa using hy
      exact ⟨t, by simp⟩

/-- What the loop reads and never writes. -/
structure WC (U : World) (b3 b5 b6 b8 Bt bm : Nat) (p0 ka va : Option Addr) (kc vc : Nat) (a : Option Addr) (cap : Nat) (ss : List Step) (T : BT) : Prop where
  m5 : U.cell? ⟨b5, 0, none⟩ = some (.pointer (some ⟨bm, 0, none⟩))
  isM : IsM U (some ⟨bm, 0, none⟩) T
  p6 : U.cell? ⟨b6, 0, none⟩ = some (.pointer (some ⟨bm, 0, none⟩))
  k6 : U.cell? ⟨b6, 1, none⟩ = some (.slice ka T.io.length kc)
  v6 : U.cell? ⟨b6, 2, none⟩ = some (.slice va T.io.length vc)
  isK : IsKs U (.slice ka T.io.length kc) (T.io.map (·.1))
  isV : IsKs U (.slice va T.io.length vc) (T.io.map (·.2))
  q8 : U.cell? ⟨b8, 0, none⟩ = some (.func (.func 23) #[] #[.pointer (some ⟨Bt, 0, none⟩)])
  t8 : U.cell? ⟨Bt, 0, none⟩ = some (.pointer p0)
  isT : IsT U.heap.size U p0 T
  c3 : U.cell? ⟨b3, 0, none⟩ = some (.slice a ss.length cap)
  st : IsSteps U a ss
theorem WC.up {U W : World} {b3 b5 b6 b8 Bt bm : Nat} {p0 ka va : Option Addr} {kc vc : Nat} {a : Option Addr} {cap : Nat} {ss : List Step} {T : BT} (h : WC U b3 b5 b6 b8 Bt bm p0 ka va kc vc a cap ss T) (hb : Below U.heap.size U W) : WC W b3 b5 b6 b8 Bt bm p0 ka va kc vc a cap ss T :=
  have c : ∀ {p : Addr} {v : Value}, U.cell? p = some v → W.cell? p = some v := fun h => (hb.cell (lt_of_cell h)).trans h
  ⟨c h.m5, h.isM.up hb, c h.p6, c h.k6, c h.v6, h.isK.up hb, h.isV.up hb, c h.q8, c h.t8, (h.isT.below hb).mono hb.size, c h.c3, h.st.up hb⟩
/-- The n-th of what the snap keeps. -/
theorem WC.at {U : World} {b3 b5 b6 b8 Bt bm : Nat} {p0 ka va : Option Addr} {kc vc : Nat} {a : Option Addr} {cap : Nat} {ss : List Step} {T : BT} (h : WC U b3 b5 b6 b8 Bt bm p0 ka va kc vc a cap ss T) {n : Nat} {y : Ent} (hy : T.io[n]? = some y) :
    ∃ g g', ka = some ⟨g, 0, none⟩ ∧ va = some ⟨g', 0, none⟩ ∧ U.cell? ⟨g, n, none⟩ = some (.int .i64 y.1) ∧ U.cell? ⟨g', n, none⟩ = some (.int .i64 y.2) := by
  have hn : n < T.io.length := (List.getElem?_eq_some_iff.1 hy).1
  obtain ⟨a1, c1, e1, _, _, h1⟩ := h.isK
  obtain ⟨a2, c2, e2, _, _, h2⟩ := h.isV
  simp at e1 e2
  obtain ⟨rfl, rfl⟩ := e1
  obtain ⟨rfl, rfl⟩ := e2
  obtain ⟨g, rfl, _, h4⟩ := h1 (by simp; omega)
  obtain ⟨g', rfl, _, h5⟩ := h2 (by simp; omega)
  exact ⟨g, g', rfl, rfl, h4 n y.1 (by simp [hy]), h5 n y.2 (by simp [hy])⟩

def LpI (W0 : World) (bc : Nat) (Pf : List Ent → Prop) (pre : List Ent) (W : World) : Prop := Boxed W bc 3 (.int .i64 (pre.length : Int)) ∧ Pf pre ∧ Below W0.heap.size W0 W
def LpX (L : List Ent) (c : Code) (pre : List Ent) (_ : World) : Prop := c = .ret ∧ ¬ pre <+: L
/-- A loop within a round, that counts. -/
theorem inner_loop {P : Program} {g : Operand} {ps : Array Tmp} {assign body : Code} {Q : Exit → Act → World → Prop} {a : Act} {w W0 : World} {L : List Ent} {l bc : Nat} {r : Loop} (Pf : List Ent → Prop) (hPf : Pf []) (A1 : Act → Ent → Act) (hr : W0.heap[l]? = some (.loop r))
    {gf : Nat} {lb : Array Value} (hg : a.eval g = .func (.func gf) #[] lb) (eg : ∀ args w, (callFunc gf args).run P w = .ok (.enter gf args) w)
    {encs : Ent → Array Value} (hseq : SeqStopsK Fence.wide 6 P gf lb encs (Below W0.heap.size) (fun ys => ys = L) (fun pre => pre <+: L) L.length w)
    (hB : Below W0.heap.size W0 w) (hps : ∀ x, (encs x).size = ps.size) (hbw : Boxed w bc 3 (.int .i64 0))
    (hassign : ∀ (l2 : Nat) (x : Ent) (W : World) (K : Act → World → Prop), K (A1 a x) W →
      assign.wpIn ((Fence.wide.inRound l).inRound l2) 5 P (Exit.then K (fun _ _ _ => False)) { tmps := (ps.zip (encs x)).foldl (fun t (p, v) => t.setIfInBounds p v) a.tmps, defers := [] } W)
    (hbody : ∀ (l2 : Nat) (pre : List Ent) (x : Ent) (W : World), Boxed W bc 3 (.int .i64 (pre.length : Int)) → Pf pre → Below W0.heap.size W0 W → pre.length < L.length → body.wpIn ((Fence.wide.inRound l).inRound l2) 5 P (ownPostG w.heap.size (Below W0.heap.size) (LpI W0 bc Pf) (LpX L) (pre ++ [x]) W) (A1 a x) W)
    (hend : ∀ (W : World), Boxed W bc 3 (.int .i64 (L.length : Int)) → Below W0.heap.size W0 W → Q .normal a W) :
    (Code.rangeFunc g ps assign body).wpIn (Fence.wide.inRound l) 7 P Q a w := by
  have hz := hB.size
  have hr' : w.heap[l]? = some (.loop r) := (hB.block l (Array.getElem?_eq_some_iff.1 hr).1).trans hr
  refine wpIn_rangeFunc_ownN (F := Fence.wide.inRound l) (l₀ := l) (r₀ := r) rfl hr' (by omega) hg trivial eg (hseq.inRound l) belowK_t (belowK_b hz) (Below.refl _ _) hps (LpI W0 bc Pf) (LpX L)
    (OwnFrom.and (Own.from (boxed_own _ _ _) _) (OwnFrom.and (ownFrom_pure _ _) (ownFrom_below (Nat.le_refl _) hz))) (fun c => ownFrom_pure _ (fun pre => c = .ret ∧ ¬ pre <+: L)) ⟨hbw, hPf, hB⟩
    (fun x a' _ => a' = A1 a x) (fun x a' => ownFrom_pure _ (fun _ : Unit => a' = A1 a x)) ?assign ?body ?done ?stop
  case assign =>
    intro l2 pre x W K hi hK
    exact hassign l2 x W K (hK _ _ (KeepsFrom.refl _ _) (Below.refl _ _) hi rfl)
  case body =>
    rintro l2 pre x a' W hl _ ⟨h1, h2, h3⟩ rfl hlt
    exact hbody l2 pre x W h1 h2 h3 hlt
  case done =>
    rintro xs W rfl ⟨h1, _, h3⟩
    exact hend W h1 h3
  case stop =>
    rintro c pre W hS ⟨rfl, hno⟩
    exact (hno hS).elim
end Go.Proofs.Ytpmdfgoajffmeaa
