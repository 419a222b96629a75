import Derived.Test.YtcbcahnajabhfaaSLaw3
namespace Go.Proofs.Ytcbcahnajabhfaa
open Go.RowKit Go.Shelf
attribute [local go_sem] kless_eq keq_eq kne_eq kgeq_eq
attribute [local go_sem ↓] Go.wp_at_zero Go.wp_at_succ

/-- A step of the script. -/
structure Step where
  kind : Int
  on : Int
  other : Int
  a : Int
  b : Int
  s : ByteArray
def Step.val (o : Step) : Value := .agg #[.int .i64 o.kind, .int .i64 o.on, .int .i64 o.other, .int .i64 o.a, .int .i64 o.b, .string o.s]
def Step.key (o : Step) : KT := o.s
def Step.wf (o : Step) : Prop := (-9223372036854775808 ≤ o.kind ∧ o.kind ≤ 9223372036854775807) ∧ (-9223372036854775808 ≤ o.on ∧ o.on ≤ 9223372036854775807) ∧ (-9223372036854775808 ≤ o.other ∧ o.other ≤ 9223372036854775807) ∧ (-9223372036854775808 ≤ o.a ∧ o.a ≤ 9223372036854775807) ∧ (-9223372036854775808 ≤ o.b ∧ o.b ≤ 9223372036854775807)
def Step.cells (o : Step) : Array Value := #[.int .i64 o.kind, .int .i64 o.on, .int .i64 o.other, .int .i64 o.a, .int .i64 o.b, .string o.s]
theorem cells6_of {W : World} {b : Nat} {u0 u1 u2 u3 u4 u5 : Value} {t : TypeId} (h : W.heap[b]? = some (.cells #[u0, u1, u2, u3, u4, u5] t (0, 0))) : W.cell? ⟨b, 0, none⟩ = some u0 ∧ W.cell? ⟨b, 1, none⟩ = some u1 ∧ W.cell? ⟨b, 2, none⟩ = some u2 ∧ W.cell? ⟨b, 3, none⟩ = some u3 ∧ W.cell? ⟨b, 4, none⟩ = some u4 ∧ W.cell? ⟨b, 5, none⟩ = some u5 := by
  unfold World.cell?
  rw [h]
  exact ⟨rfl, rfl, rfl, rfl, rfl, rfl⟩

/-- What the walk reads of the versions. -/
theorem St.reads {base bw : Nat} {W : World} {vs : List Ver} (h : St base W bw vs) : ∃ gM cM gR cR, W.cell? ⟨bw, 0, none⟩ = some (.slice (some ⟨gM, 0, none⟩) vs.length cM) ∧ W.cell? ⟨bw, 1, none⟩ = some (.slice (some ⟨gR, 0, none⟩) vs.length cR) ∧ bw < W.heap.size ∧ gM < W.heap.size ∧ gR < W.heap.size ∧ 0 < vs.length ∧ base ≤ bw ∧
    (∀ i x, vs[i]? = some x → W.cell? ⟨gM, i, none⟩ = some (.pointer (some ⟨x.bm, 0, none⟩)) ∧ W.cell? ⟨gR, i, none⟩ = some x.rv) ∧ ∀ x ∈ vs, IsM W (some ⟨x.bm, 0, none⟩) x.T ∧ IsR0 W x.rv x.T.io := by
  obtain ⟨vM, vR, s1, s2, s3, s4, s5, s6⟩ := h
  have hMf : ∃ gM cM, vM = .slice (some ⟨gM, 0, none⟩) vs.length cM := by
    obtain ⟨_, ⟨_, h⟩ | ⟨g, c, _, rfl, _⟩⟩ := s3
    · omega
    · exact ⟨g, c, rfl⟩
  have hRf : ∃ gR cR, vR = .slice (some ⟨gR, 0, none⟩) vs.length cR := by
    obtain ⟨_, ⟨_, h⟩ | ⟨g, c, _, rfl, _⟩⟩ := s4
    · omega
    · exact ⟨g, c, rfl⟩
  obtain ⟨gM, cM, rfl⟩ := hMf
  obtain ⟨gR, cR, rfl⟩ := hRf
  obtain ⟨c0, c1, _, _⟩ := cells2_of s1
  refine ⟨gM, cM, gR, cR, c0, c1, (Array.getElem?_eq_some_iff.1 s1).1, (s3.lt gM rfl).2, (s4.lt gR rfl).2, s5, s2, fun i x hx => ?_, fun x hx => (s6 x hx).2.2.2⟩
  have e1 := s3.cells (g := gM) rfl i (.pointer (some ⟨x.bm, 0, none⟩)) (by simp [hx])
  have e2 := s4.cells (g := gR) rfl i x.rv (by simp [hx])
  rw [Go.WideShapes.add_plain, Nat.zero_add] at e1 e2
  exact ⟨e1, e2⟩

def Makes (base bw : Nat) (W : World) (vs : List Ver) (o : Step) (e : Ending) (W' : World) : Prop := e = .returned (.bool true) ∧ (∃ nv, St base W' bw (vs ++ [nv]) ∧ ∀ x ∈ nv.T.io, x.1 = o.key ∨ ∃ v ∈ vs, x ∈ v.T.io) ∧ Below base W W' ∧ KeepsT W W'
theorem keepsT_cell {W W' : World} (h : KeepsT W W') {b : Nat} {cur : Array Value} {t : TypeId} (hb : W.heap[b]? = some (.cells cur t (0, 0))) (h1 : t ≠ 30) (h2 : t ≠ 34) (h3 : t ≠ 44) (o : Nat) : W'.cell? ⟨b, o, none⟩ = W.cell? ⟨b, o, none⟩ := by
  unfold World.cell?
  rw [h b cur t hb h1 h2 h3]

end Go.Proofs.Ytcbcahnajabhfaa
