import Derived.Test.YtpmdfgoajffmeaaIMade
import Derived.Deep.Slices
import Derived.WalkKit
import Derived.OpenShut

namespace Go.Proofs.Ytpmdfgoajffmeaa
open Go.RowKit Go.Shelf Go.ChangeShapes Go.WideShapes

/-- A step of the script. -/
structure Step where
  kind : Int
  on : Int
  other : Int
  a : Int
  b : Int
  s : ByteArray
def Step.val (o : Step) : Value := .agg #[.int .i64 o.kind, .int .i64 o.on, .int .i64 o.other, .int .i64 o.a, .int .i64 o.b, .string o.s]
def Step.key (o : Step) : KT := o.a
def Step.wf (o : Step) : Prop := (-9223372036854775808 ≤ o.kind ∧ o.kind ≤ 9223372036854775807) ∧ (-9223372036854775808 ≤ o.on ∧ o.on ≤ 9223372036854775807) ∧ (-9223372036854775808 ≤ o.other ∧ o.other ≤ 9223372036854775807) ∧ (-9223372036854775808 ≤ o.a ∧ o.a ≤ 9223372036854775807) ∧ (-9223372036854775808 ≤ o.b ∧ o.b ≤ 9223372036854775807)
def Step.cells (o : Step) : Array Value := #[.int .i64 o.kind, .int .i64 o.on, .int .i64 o.other, .int .i64 o.a, .int .i64 o.b, .string o.s]
theorem cells6_of {W : World} {b : Nat} {u0 u1 u2 u3 u4 u5 : Value} {t : TypeId} (h : W.heap[b]? = some (.cells #[u0, u1, u2, u3, u4, u5] t (0, 0))) : W.cell? ⟨b, 0, none⟩ = some u0 ∧ W.cell? ⟨b, 1, none⟩ = some u1 ∧ W.cell? ⟨b, 2, none⟩ = some u2 ∧ W.cell? ⟨b, 3, none⟩ = some u3 ∧ W.cell? ⟨b, 4, none⟩ = some u4 ∧ W.cell? ⟨b, 5, none⟩ = some u5 := by
  unfold World.cell?
  rw [h]
  exact ⟨rfl, rfl, rfl, rfl, rfl, rfl⟩

def IsSteps (W : World) (a : Option Addr) (ss : List Step) : Prop := (∀ o ∈ ss, o.wf) ∧ ∃ b off, (0 < ss.length → a = some ⟨b, off, none⟩ ∧ b < W.heap.size) ∧
  ∀ i o, ss[i]? = some o → W.cell? ⟨b, off + i * 6, none⟩ = some (.int .i64 o.kind) ∧ W.cell? ⟨b, off + i * 6 + 1, none⟩ = some (.int .i64 o.on) ∧ W.cell? ⟨b, off + i * 6 + 2, none⟩ = some (.int .i64 o.other) ∧
    W.cell? ⟨b, off + i * 6 + 3, none⟩ = some (.int .i64 o.a) ∧ W.cell? ⟨b, off + i * 6 + 4, none⟩ = some (.int .i64 o.b) ∧ W.cell? ⟨b, off + i * 6 + 5, none⟩ = some (.string o.s)

theorem Try.cellsOp : Try.prog.cellsOf 42 = 6 := by kernel_rfl
theorem Try.cellsI : Try.prog.cellsOf 3 = 1 := by kernel_rfl
theorem Try.cellsS : Try.prog.cellsOf 9 = 1 := by kernel_rfl
instance : Inhabited Step := ⟨⟨0, 0, 0, 0, 0, .empty⟩⟩

/-- A step, as an element of a slice that came in. -/
theorem open_step {H : Type} {enc : TypeId × Value → H} {w : World} {base : Nat} {spare : Nat → Bool} {held : Bool} {n : Nat} {a : Addr} {cs : List Value} {x : DataW H × List MemPlace}
    (h1 : w.cells? base a 6 = some cs) (h2 : DataW.trod enc Try.prog w base spare held n 42 cs = some x) :
    ∃ o : Step, o.wf ∧ w.cell? (a.add 0) = some (.int .i64 o.kind) ∧ w.cell? (a.add 1) = some (.int .i64 o.on) ∧ w.cell? (a.add 2) = some (.int .i64 o.other) ∧ w.cell? (a.add 3) = some (.int .i64 o.a) ∧ w.cell? (a.add 4) = some (.int .i64 o.b) ∧ w.cell? (a.add 5) = some (.string o.s) := by
  obtain ⟨_, hlen, hcell⟩ := World.cells?_some h1
  obtain ⟨xs, k, _, _, _, hxl, hf⟩ := DataW.trod_struct Try.underlying42 h2
  match xs, hxl, cs, hlen with
  | [y0, y1, y2, y3, y4, y5], _, [v0, v1, v2, v3, v4, v5], _ =>
    have g0 := hf 0 _ rfl
    have g1 := hf 1 _ rfl
    have g2 := hf 2 _ rfl
    have g3 := hf 3 _ rfl
    have g4 := hf 4 _ rfl
    have g5 := hf 5 _ rfl
    simp [Try.cellsI, Try.cellsS] at g0 g1 g2 g3 g4 g5
    obtain ⟨n0, e0, _, f0⟩ := DataW.trod_int Try.underlying3 g0
    obtain ⟨n1, e1, _, f1⟩ := DataW.trod_int Try.underlying3 g1
    obtain ⟨n2, e2, _, f2⟩ := DataW.trod_int Try.underlying3 g2
    obtain ⟨n3, e3, _, f3⟩ := DataW.trod_int Try.underlying3 g3
    obtain ⟨n4, e4, _, f4⟩ := DataW.trod_int Try.underlying3 g4
    obtain ⟨s, e5, _, _⟩ := DataW.trod_string Try.underlying9 g5
    simp at e0 e1 e2 e3 e4 e5
    subst e0 e1 e2 e3 e4 e5
    exact ⟨⟨n0, n1, n2, n3, n4, s⟩, ⟨bounds_i64 f0, bounds_i64 f1, bounds_i64 f2, bounds_i64 f3, bounds_i64 f4⟩, hcell 0 (by omega), hcell 1 (by omega), hcell 2 (by omega), hcell 3 (by omega), hcell 4 (by omega), hcell 5 (by omega)⟩

theorem open_steps {H : Type} {enc : TypeId × Value → H} {w : World} {held : Bool} {fuel : Nat} {cs : List Value} {x : DataW H × List MemPlace}
    (h : DataW.trod enc Try.prog w 0 (fun _ => true) held fuel 37 cs = some x) :
    ∃ (a : Option Addr) (cap : Nat) (ss : List Step) (el sp : List (DataW H)), cs = [.slice a ss.length cap] ∧ IsSteps w a ss ∧ ss.length ≤ cap ∧ (x.1 = .nil ∧ cap = 0 ∨ x.1 = .slice el sp ∧ el.length + sp.length = cap) := by
  rcases Go.Deep.open_slice Try.underlying37 h with ⟨rfl, rfl⟩ | ⟨a, len, cap, m, n, D, Pl, rfl, _, hl, hm, hmm, rfl, hx⟩
  · exact ⟨none, 0, [], [], [], rfl, ⟨fun o ho => by simp at ho, 0, 0, fun hp => by simp at hp, fun i o ho => by simp at ho⟩, Nat.zero_le _, .inl ⟨rfl, rfl⟩⟩
  · simp only [if_true] at hmm
    subst hmm
    have each : ∀ i, i < m → ∃ o : Step, o.wf ∧ w.cell? ((a.add (i * 6)).add 0) = some (.int .i64 o.kind) ∧ w.cell? ((a.add (i * 6)).add 1) = some (.int .i64 o.on) ∧ w.cell? ((a.add (i * 6)).add 2) = some (.int .i64 o.other) ∧ w.cell? ((a.add (i * 6)).add 3) = some (.int .i64 o.a) ∧ w.cell? ((a.add (i * 6)).add 4) = some (.int .i64 o.b) ∧ w.cell? ((a.add (i * 6)).add 5) = some (.string o.s) := by
      intro i hi
      obtain ⟨cs', h1, h2⟩ := hx i hi
      rw [Try.cellsOp] at h1
      exact open_step h1 h2
    obtain ⟨q, hq⟩ := Go.Deep.choose_lt each
    have hat : ∀ i o, ((List.range len).map q)[i]? = some o → i < len ∧ o = q i := by
      intro i o ho
      rw [List.getElem?_map, Option.map_eq_some_iff] at ho
      obtain ⟨j, hj, rfl⟩ := ho
      rw [List.getElem?_eq_some_iff] at hj
      obtain ⟨hj, e⟩ := hj
      simp at hj e
      exact ⟨hj, by rw [e]⟩
    refine ⟨some a, m, (List.range len).map q, _, _, by simp, ⟨fun o ho => ?_, ?_⟩, by simpa using hl, .inr ⟨rfl, by simp; omega⟩⟩
    · obtain ⟨i, hi, rfl⟩ := List.mem_map.1 ho
      exact (hq i (by have := List.mem_range.1 hi; omega)).1
    · by_cases hp : 0 < len
      · have h0 := (hq 0 (by omega)).2.1
        obtain ⟨b, off, spot⟩ := a
        have hspot : spot = none := by simpa [Addr.add] using World.cell?_spot h0
        subst hspot
        refine ⟨b, off, fun _ => ⟨rfl, ?_⟩, fun i o ho => ?_⟩
        · rw [Go.Deep.add_add, Go.WideShapes.add_plain] at h0
          exact lt_of_cell h0
        · obtain ⟨hi, rfl⟩ := hat i o ho
          have := (hq i (by omega)).2
          simp only [Go.WideShapes.add_plain] at this
          simpa [Nat.add_assoc] using this
      · exact ⟨0, 0, fun h => by simp at h; omega, fun i o ho => by have := (hat i o ho).1; omega⟩
end Go.Proofs.Ytpmdfgoajffmeaa
