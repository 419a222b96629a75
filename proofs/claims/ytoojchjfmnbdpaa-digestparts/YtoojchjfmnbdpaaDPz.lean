import Derived.Test.YtoojchjfmnbdpaaDPw
import Derived.OpenShut
namespace Go.Proofs.Ytoojchjfmnbdpaa
open Go.ChangeShapes Go.WideShapes Go.ChangeAt Go.RowKit

/-- A turn: kind, place, value. -/
structure Turn3 where
  kind : Int
  place : Int
  value : Int
def Turn3.wf (o : Turn3) : Prop := (-9223372036854775808 ≤ o.kind ∧ o.kind ≤ 9223372036854775807) ∧ (-9223372036854775808 ≤ o.place ∧ o.place ≤ 9223372036854775807) ∧ (-9223372036854775808 ≤ o.value ∧ o.value ≤ 9223372036854775807)
/-- Turns that can be read. -/
def HasTs (W : World) (v : Value) (ts : List Turn3) : Prop := ∃ a c, v = .slice a ts.length c ∧ (ts.length ≤ c ∧ c ≤ maxLen) ∧ (∀ o ∈ ts, o.wf) ∧ (0 < ts.length → ∃ b off, a = some ⟨b, off, none⟩ ∧ b < W.heap.size ∧
  ∀ (i : Nat) (o : Turn3), ts[i]? = some o → W.cell? ⟨b, off + i * 3, none⟩ = some (.int .i64 o.kind) ∧ W.cell? ⟨b, off + i * 3 + 1, none⟩ = some (.int .i64 o.place) ∧ W.cell? ⟨b, off + i * 3 + 2, none⟩ = some (.int .i64 o.value))
theorem cellsTurn : Try.prog.cellsOf 35 = 3 := by kernel_rfl
theorem cellsInt3 : Try.prog.cellsOf 3 = 1 := by kernel_rfl
instance : Inhabited Turn3 := ⟨⟨0, 0, 0⟩⟩
theorem open_turn {H : Type} {enc : TypeId × Value → H} {w : World} {base : Nat} {spare : Nat → Bool} {held : Bool} {n : Nat} {a : Addr} {cs : List Value} {x : DataW H × List MemPlace}
    (h1 : w.cells? base a 3 = some cs) (h2 : DataW.trod enc Try.prog w base spare held n 35 cs = some x) :
    ∃ o : Turn3, o.wf ∧ w.cell? (a.add 0) = some (.int .i64 o.kind) ∧ w.cell? (a.add 1) = some (.int .i64 o.place) ∧ w.cell? (a.add 2) = some (.int .i64 o.value) := by
  obtain ⟨_, hlen, hcell⟩ := World.cells?_some h1
  obtain ⟨xs, k, _, _, _, hxl, hf⟩ := DataW.trod_struct Try.underlying35 h2
  match xs, hxl, cs, hlen with
  | [y0, y1, y2], _, [v0, v1, v2], _ =>
    have g0 := hf 0 _ rfl
    have g1 := hf 1 _ rfl
    have g2 := hf 2 _ rfl
    simp [cellsInt3] at g0 g1 g2
    obtain ⟨n0, e0, _, f0⟩ := DataW.trod_int Try.underlying3 g0
    obtain ⟨n1, e1, _, f1⟩ := DataW.trod_int Try.underlying3 g1
    obtain ⟨n2, e2, _, f2⟩ := DataW.trod_int Try.underlying3 g2
    simp at e0 e1 e2
    subst e0 e1 e2
    exact ⟨⟨n0, n1, n2⟩, ⟨bounds_i64 f0, bounds_i64 f1, bounds_i64 f2⟩, hcell 0 (by omega), hcell 1 (by omega), hcell 2 (by omega)⟩
theorem lt_of_cellT {w : World} {b i : Nat} {v : Value} (h : w.cell? ⟨b, i, none⟩ = some v) : b < w.heap.size := World.block_lt_of_cell? w _ h
/-- Turns that came in. -/
theorem open_hasTs {H : Type} {enc : TypeId × Value → H} {w : World} {base fuel len cap : Nat} {spare : Nat → Bool} {held : Bool} {a : Option Addr} {x : DataW H × List MemPlace}
    (h : DataW.trod enc Try.prog w base spare held fuel 23 (Value.slice a len cap).cells.toList = some x) : ∃ ts, HasTs w (.slice a len cap) ts := by
  rcases Go.Deep.open_slice Try.underlying23 h with ⟨hcs, rfl⟩ | ⟨y, n, c, m, n', D, Pl, hcs, _, hl, hm, hmm, rfl, hx⟩
  · simp [Value.cells] at hcs
    obtain ⟨rfl, rfl, rfl⟩ := hcs
    exact ⟨[], none, 0, rfl, ⟨Nat.le_refl _, Nat.zero_le _⟩, fun o ho => by simp at ho, fun hp => by simp at hp⟩
  · simp [Value.cells] at hcs
    obtain ⟨rfl, rfl, rfl⟩ := hcs
    have hlm : len ≤ m := by rw [hmm]; split <;> omega
    have each : ∀ i, i < m → ∃ o : Turn3, o.wf ∧ w.cell? ((y.add (i * 3)).add 0) = some (.int .i64 o.kind) ∧ w.cell? ((y.add (i * 3)).add 1) = some (.int .i64 o.place) ∧ w.cell? ((y.add (i * 3)).add 2) = some (.int .i64 o.value) := by
      intro i hi
      obtain ⟨cs', h1, h2⟩ := hx i hi
      rw [cellsTurn] at h1
      exact open_turn h1 h2
    obtain ⟨q, hq⟩ := Go.Deep.choose_lt each
    have hat : ∀ (i : Nat) (o : Turn3), ((List.range len).map q)[i]? = some o → i < len ∧ o = q i := by
      intro i o ho
      rw [List.getElem?_map, Option.map_eq_some_iff] at ho
      obtain ⟨j, hj, rfl⟩ := ho
      rw [List.getElem?_eq_some_iff] at hj
      obtain ⟨hj, e⟩ := hj
      simp at hj e
      exact ⟨hj, by rw [e]⟩
    have hlen : ((List.range len).map q).length = len := by simp
    refine ⟨(List.range len).map q, some y, cap, by rw [hlen], ⟨by omega, by omega⟩, fun o ho => ?_, fun hp => ?_⟩
    · obtain ⟨i, hi, rfl⟩ := List.mem_map.1 ho
      exact (hq i (by have := List.mem_range.1 hi; omega)).1
    · rw [hlen] at hp
      have h0 := (hq 0 (by omega)).2.1
      obtain ⟨b, off, spot⟩ := y
      have hspot : spot = none := by simpa [Addr.add] using World.cell?_spot h0
      subst hspot
      refine ⟨b, off, rfl, ?_, fun i o ho => ?_⟩
      · rw [Go.Deep.add_add, Go.WideShapes.add_plain] at h0
        exact lt_of_cellT h0
      · obtain ⟨hi, rfl⟩ := hat i o ho
        have := (hq i (by omega)).2
        simp only [Go.WideShapes.add_plain] at this
        simpa [Nat.add_assoc] using this
end Go.Proofs.Ytoojchjfmnbdpaa
