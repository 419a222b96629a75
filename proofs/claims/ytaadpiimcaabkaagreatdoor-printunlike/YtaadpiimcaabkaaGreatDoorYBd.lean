import Derived.Test.YtaadpiimcaabkaaGreatDoorYBc

namespace Go.Proofs.YtaadpiimcaabkaaGreatDoor
open Go.RowKit
attribute [local go_sem ↓] Go.wp_at_zero Go.wp_at_succ

theorem infoMs : (Tryz.prog.info? 46).map (fun i => (i.zero, i.size, i.bytes)) = some (some (.agg #[.string ByteArray.empty, .slice none 0 0, .slice none 0 0, .slice none 0 0, .slice none 0 0, .slice none 0 0, .slice none 0 0]), 7, 160) := by kernel_rfl
theorem infoFd : (Tryz.prog.info? 42).map (fun i => (i.zero, i.size, i.bytes)) = some (some (.agg #[.int .i64 0, .string ByteArray.empty, .string ByteArray.empty, .string ByteArray.empty, .int .i64 0, .int .i64 0]), 6, 72) := by kernel_rfl
theorem take_fd {l : List Fd} {i : Nat} {x : Fd} (h : l[i]? = some x) : fldC (l.take (i + 1)) = fldC (l.take i) ++ x.cs := by
  rw [take_app h]
  unfold fldC
  rw [List.flatMap_append]
  simp
/-- A copy, so deep. -/
def cutM : Nat → Ms → Ms
  | 0, .mk nm fs os _ es rs gs => .mk nm fs os [] es rs gs
  | f + 1, .mk nm fs os ms es rs gs => .mk nm fs os (ms.map (cutM f)) es rs gs
def cutL : Nat → List Ms → List Ms
  | 0, _ => []
  | f + 1, l => l.map (cutM f)
theorem cutM_eq : ∀ (f : Nat) (nm : ByteArray) (fs : List Fd) (os : List ByteArray) (ms : List Ms) (es : List En) (rs : List (Int × Int)) (gs : List ByteArray), cutM f (.mk nm fs os ms es rs gs) = .mk nm fs os (cutL f ms) es rs gs
  | 0, _, _, _, _, _, _, _ => rfl
  | _ + 1, _, _, _, _, _, _, _ => rfl
theorem cutL_len {f : Nat} {l : List Ms} : (cutL f l).length ≤ l.length := by
  cases f with
  | zero => exact Nat.zero_le _
  | succ f => simp [cutL]
/-- The lists of a message are not too long. -/
def ReS (fs : List Fd) (os : List ByteArray) (ms : List Ms) (es : List En) (rs : List (Int × Int)) (gs : List ByteArray) : Prop :=
  fs.length * 72 ≤ 140737488355328 ∧ os.length * 16 ≤ 140737488355328 ∧ ms.length * 160 ≤ 140737488355328 ∧ es.length * 88 ≤ 140737488355328 ∧ (∀ e ∈ es, ReE e) ∧ rs.length * 16 ≤ 140737488355328 ∧ gs.length * 16 ≤ 140737488355328
def ReM : Nat → Ms → Prop
  | 0, .mk _ fs os ms es rs gs => ReS fs os ms es rs gs
  | f + 1, .mk _ fs os ms es rs gs => ReS fs os ms es rs gs ∧ ∀ m ∈ ms, ReM f m
theorem ReM.s {f : Nat} {nm : ByteArray} {fs : List Fd} {os : List ByteArray} {ms : List Ms} {es : List En} {rs : List (Int × Int)} {gs : List ByteArray} (h : ReM f (.mk nm fs os ms es rs gs)) : ReS fs os ms es rs gs := by
  cases f with
  | zero => exact h
  | succ f => exact h.1
/-- What a call of messages comes to. -/
def MesC (f : Nat) : Prop := ∀ (W : World) (v : Value) (l : List Ms) (cs : List Value), Rl W v l.length cs → MsL W cs l → l.length * 160 ≤ 140737488355328 → (∀ m ∈ l, ReM f m) → ∀ w0, Below W.heap.size W w0 →
  Calls Tryz.prog 17 #[v, .int .i64 (200 - (f : Int))] w0 fun e w => ∃ u cs', e = .returned u ∧ w.ownsRow w0.heap.size 46 7 u (cutL f l).length cs' ∧ MsO (Rest w0.heap.size u) w cs' (cutL f l) ∧ Below w0.heap.size w0 w
def R0 (wo : World) (g : Nat) : Prop := wo.heap.size ≤ g
def R1 (wo : World) (b g : Nat) : Prop := wo.heap.size ≤ g ∧ g ≠ b
def Rx (wo : World) (b : Nat) (u : Value) (g : Nat) : Prop := wo.heap.size ≤ g ∧ g ≠ b ∧ u.ownBlock ≠ some g
theorem st0 {wo w : World} {B : Nat} (h : wo.heap.size ≤ B) : Stays (fun g => B ≤ g) (R0 wo) w w := fun _ hg _ => ⟨rfl, Nat.le_trans h hg⟩
theorem st1 {wo w : World} {B b : Nat} (h : wo.heap.size ≤ B) (hb : b < B) : Stays (fun g => B ≤ g) (R1 wo b) w w := fun g (hg : B ≤ g) _ => ⟨rfl, Nat.le_trans h hg, by omega⟩
theorem sr0 {wo w : World} {B : Nat} {u : Value} (h : wo.heap.size ≤ B) : Stays (Rest B u) (R0 wo) w w := fun _ hg _ => ⟨rfl, Nat.le_trans h hg.1⟩
theorem sr1 {wo w : World} {B b : Nat} {u : Value} (h : wo.heap.size ≤ B) (hb : b < B) : Stays (Rest B u) (R1 wo b) w w := fun g hg _ => ⟨rfl, Nat.le_trans h hg.1, by have := hg.1; omega⟩
theorem sta {wo w w2 : World} (hb : Below w.heap.size w w2) : Stays (R0 wo) (R1 wo w.heap.size) w w2 := fun g hg hl => ⟨hb.block g hl, hg, by omega⟩
/-- A copy of a message under way. -/
structure CpM (wo w : World) (b : Nat) (uf uo um ue ur ug : Value) (cm ce : List Value) (nm : ByteArray) (os : List ByteArray) (ms : List Ms) (es : List En) (rs : List (Int × Int)) (gs : List ByteArray) : Prop where
  bel : Below wo.heap.size wo w
  low : wo.heap.size ≤ b
  blk : w.heap[b]? = some (.cells #[.string nm, uf, uo, um, ue, ur, ug] 46 (0, 0))
  o : OwR (Rx wo b uf) w 9 1 uo os.length (strC os)
  m : OwR (Rx wo b uf) w 46 7 um ms.length cm
  ms : MsO (Rx wo b uf) w cm ms
  e : OwR (Rx wo b uf) w 67 4 ue es.length ce
  es : EsO (Rx wo b uf) w ce es
  r : OwR (Rx wo b uf) w 111 2 ur rs.length (rgC rs)
  g : OwR (Rx wo b uf) w 9 1 ug gs.length (strC gs)
section
variable {wo w : World} {b : Nat} {uf uo um ue ur ug : Value} {cm ce : List Value} {nm : ByteArray} {os : List ByteArray} {ms : List Ms} {es : List En} {rs : List (Int × Int)} {gs : List ByteArray}
theorem CpM.go (h : CpM wo w b uf uo um ue ur ug cm ce nm os ms es rs gs) {w' : World} {u' : Value} (hb : Below wo.heap.size wo w') (hk : w'.heap[b]? = some (.cells #[.string nm, u', uo, um, ue, ur, ug] 46 (0, 0))) (hs : Stays (Rx wo b uf) (Rx wo b u') w w') : CpM wo w' b u' uo um ue ur ug cm ce nm os ms es rs gs :=
  ⟨hb, h.low, hk, h.o.mono hs, h.m.mono hs, h.ms.mono hs, h.e.mono hs, h.es.mono hs, h.r.mono hs, h.g.mono hs⟩
theorem CpM.below (h : CpM wo w b uf uo um ue ur ug cm ce nm os ms es rs gs) {w' : World} (hb : Below w.heap.size w w') : CpM wo w' b uf uo um ue ur ug cm ce nm os ms es rs gs :=
  h.go (h.bel.trans (hb.mono h.bel.size)) ((hb.block _ (Array.getElem?_eq_some_iff.1 h.blk).1).trans h.blk) (stays_below hb)
/-- The list of fields grows. -/
theorem CpM.keep (h : CpM wo w b uf uo um ue ur ug cm ce nm os ms es rs gs) {w' : World} (hg : w.grownBy w' uf.ownBlock) (h1 : ∀ j, uf.ownBlock = some j → wo.heap.size ≤ j) (h2 : uf.ownBlock ≠ some b) : CpM wo w' b uf uo um ue ur ug cm ce nm os ms es rs gs :=
  h.go (h.bel.grown hg h.bel.size h1) ((hg.block _ (Array.getElem?_eq_some_iff.1 h.blk).1 (fun e => h2 e.symm)).trans h.blk) (stays_grown hg (fun _ hg => hg.2.2))
/-- Another list of fields is stored. -/
theorem CpM.val (h : CpM wo w b uf uo um ue ur ug cm ce nm os ms es rs gs) (u : Value) (hu : ∀ g, g < w.heap.size → Rx wo b uf g → u.ownBlock ≠ some g) : CpM wo (w.setCell ⟨b, 1, none⟩ u) b u uo um ue ur ug cm ce nm os ms es rs gs ∧ w.grownBy (w.setCell ⟨b, 1, none⟩ u) (some b) := by
  obtain ⟨a1, a2⟩ := set_block (j := 1) h.blk u
  exact ⟨h.go (h.bel.grown a2 h.bel.size (fun k e => by obtain rfl := Option.some.inj e; exact h.low)) a1 (fun g hg hl => ⟨a2.block g hl (fun e => hg.2.1 (Option.some.inj e)), hg.1, hg.2.1, hu g hl hg⟩), a2⟩
/-- The list of fields has grown and is stored. -/
theorem CpM.grow {wy w2 : World} {u' : Value} (h : CpM wo wy b uf uo um ue ur ug cm ce nm os ms es rs gs) (hg : wy.grownBy w2 uf.ownBlock) (h2 : CpM wo w2 b uf uo um ue ur ug cm ce nm os ms es rs gs) (hob : u'.ownBlock = uf.ownBlock ∨ u'.ownBlock = some wy.heap.size) : CpM wo (w2.setCell ⟨b, 1, none⟩ u') b u' uo um ue ur ug cm ce nm os ms es rs gs := by
  obtain ⟨a1, a2⟩ := set_block (j := 1) h2.blk u'
  refine h.go (h2.bel.grown a2 h2.bel.size (fun k e => by obtain rfl := Option.some.inj e; exact h.low)) a1 (fun g hx hl => ?_)
  refine ⟨(a2.block g (Nat.lt_of_lt_of_le hl hg.size) (fun e => hx.2.1 (Option.some.inj e))).trans (hg.block g hl (fun e => hx.2.2 e.symm)), hx.1, hx.2.1, ?_⟩
  rcases hob with q | q
  · rw [q]; exact hx.2.2
  · rw [q]; intro e; obtain rfl := Option.some.inj e; omega
theorem CpM.new {x0 x1 x2 x3 x4 x5 x6 : Value} (hb : Below wo.heap.size wo w) (hlo : wo.heap.size ≤ b) (hk : w.heap[b]? = some (.cells #[x0, x1, x2, x3, x4, x5, x6] 46 (0, 0))) (ho : OwR (R1 wo b) w 9 1 uo os.length (strC os)) (hm : OwR (R1 wo b) w 46 7 um ms.length cm) (hms : MsO (R1 wo b) w cm ms) (he : OwR (R1 wo b) w 67 4 ue es.length ce) (hes : EsO (R1 wo b) w ce es) (hr : OwR (R1 wo b) w 111 2 ur rs.length (rgC rs)) (hg : OwR (R1 wo b) w 9 1 ug gs.length (strC gs)) :
    CpM wo (((((((w.setCell ⟨b, 0, none⟩ (.string nm)).setCell ⟨b, 1, none⟩ (.slice none 0 0)).setCell ⟨b, 2, none⟩ uo).setCell ⟨b, 3, none⟩ um).setCell ⟨b, 4, none⟩ ue).setCell ⟨b, 5, none⟩ ur).setCell ⟨b, 6, none⟩ ug) b (.slice none 0 0) uo um ue ur ug cm ce nm os ms es rs gs := by
  obtain ⟨a1, a2⟩ := set_block (j := 0) hk (.string nm)
  obtain ⟨b1, b2⟩ := set_block (j := 1) a1 (.slice none 0 0)
  obtain ⟨c1, c2⟩ := set_block (j := 2) b1 uo
  obtain ⟨d1, d2⟩ := set_block (j := 3) c1 um
  obtain ⟨e1, e2⟩ := set_block (j := 4) d1 ue
  obtain ⟨f1, f2⟩ := set_block (j := 5) e1 ur
  obtain ⟨g1, g2⟩ := set_block (j := 6) f1 ug
  have hgr := (((((a2.trans b2).trans c2).trans d2).trans e2).trans f2).trans g2
  have hs : Stays (R1 wo b) (Rx wo b (.slice none 0 0)) w (((((((w.setCell ⟨b, 0, none⟩ (.string nm)).setCell ⟨b, 1, none⟩ (.slice none 0 0)).setCell ⟨b, 2, none⟩ uo).setCell ⟨b, 3, none⟩ um).setCell ⟨b, 4, none⟩ ue).setCell ⟨b, 5, none⟩ ur).setCell ⟨b, 6, none⟩ ug) := fun g hg hl => ⟨hgr.block g hl (fun e => hg.2 (Option.some.inj e)), hg.1, hg.2, by simp [Value.ownBlock]⟩
  exact ⟨hb.grown hgr hb.size (fun k e => by obtain rfl := Option.some.inj e; exact hlo), hlo, g1, ho.mono hs, hm.mono hs, hms.mono hs, he.mono hs, hes.mono hs, hr.mono hs, hg.mono hs⟩
theorem out_newM {w0 wr wy w2 : World} {v3 v' : Value} {cs' : List Value} {l : List Ms} {i f : Nat} {fs : List Fd} {ms0 : List Ms} (hO : wo.ownsRow w0.heap.size 46 7 v3 i cs') (hE : MsO (Rest w0.heap.size v3) wo cs' ((l.take i).map (cutM f))) (hC : CpM wo wr b uf uo um ue ur ug cm ce nm os (cutL f ms0) es rs gs) (hV : wr.ownsRow wo.heap.size 42 6 uf fs.length (fldC fs)) (hfs : fs.length * 72 ≤ 140737488355328) (hB : w0.heap.size ≤ wo.heap.size) (hr : l[i]? = some (.mk nm fs os ms0 es rs gs))
    (hy : Below wr.heap.size wr wy) (hg : wy.grownBy w2 v3.ownBlock) (hob : v'.ownBlock = v3.ownBlock ∨ v'.ownBlock = some wy.heap.size) : MsO (Rest w0.heap.size v') w2 (cs' ++ [.string nm, uf, uo, um, ue, ur, ug]) ((l.take (i + 1)).map (cutM f)) := by
  have hs1 := hC.bel.size
  have hs2 := hy.size
  rw [take_app hr, List.map_append, List.map_cons, List.map_nil, cutM_eq]
  have hst : ∀ (R : Nat → Prop), (∀ g, R g → wo.heap.size ≤ g) → Stays R (Rest w0.heap.size v') wr w2 := by
    intro R hR g hg1 hl
    have hg0 := hR g hg1
    have hne : v3.ownBlock ≠ some g := fun e => by have := (hO.lt g e).2; omega
    refine ⟨(hg.block g (by omega) (fun e => hne e.symm)).trans (hy.block g (by omega)), by omega, ?_⟩
    rcases hob with e | e
    · rw [e]; exact hne
    · rw [e]; intro q; obtain rfl := Option.some.inj q; omega
  have hx := hst (Rx wo b uf) (fun g h => h.1)
  refine (hE.mono (R' := Rest w0.heap.size v') (fun g hg1 hl => ?_)).app (.cons ((own_owR hV (by omega)).mono (hst _ (fun _ h => h))) (hC.o.mono hx) (hC.m.mono hx) (hC.ms.mono hx) (hC.e.mono hx) (hC.es.mono hx) (hC.r.mono hx) (hC.g.mono hx) .nil)
  refine ⟨((hg.block g (by omega) (fun e => hg1.2 e.symm)).trans (hy.block g (by omega))).trans (hC.bel.block g hl), hg1.1, ?_⟩
  rcases hob with e | e
  · rw [e]; exact hg1.2
  · rw [e]; intro q; obtain rfl := Option.some.inj q; omega
end
end Go.Proofs.YtaadpiimcaabkaaGreatDoor
