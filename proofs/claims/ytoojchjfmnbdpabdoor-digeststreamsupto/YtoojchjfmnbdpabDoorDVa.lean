import Derived.Test.YtoojchjfmnbdpabDoorDOO
import Derived.OpenShut
namespace Go.Proofs.YtoojchjfmnbdpabDoor
open Go.ChangeShapes Go.WideShapes Go.ChangeAt Go.RowKit

/-- A step of a script: kind, which hash, bytes. -/
structure Stp where
  kind : Int
  which : Int
  data : List Nat
def Stp.wf (o : Stp) : Prop := (-9223372036854775808 ≤ o.kind ∧ o.kind ≤ 9223372036854775807) ∧ (-9223372036854775808 ≤ o.which ∧ o.which ≤ 9223372036854775807) ∧ Byt o.data
/-- All the bytes, and one for each step. -/
def sumS (ts : List Stp) : Nat := (ts.map fun o => o.data.length + 1).sum
/-- Steps that can be read. -/
def HasSt (W : World) (v : Value) (ts : List Stp) : Prop := ∃ a c, v = .slice a ts.length c ∧ (ts.length ≤ c ∧ c ≤ maxLen) ∧ (∀ o ∈ ts, o.wf) ∧ (0 < ts.length → ∃ b off, a = some ⟨b, off, none⟩ ∧ b < W.heap.size ∧
  ∀ (i : Nat) (o : Stp), ts[i]? = some o → W.cell? ⟨b, off + i * 3, none⟩ = some (.int .i64 o.kind) ∧ W.cell? ⟨b, off + i * 3 + 1, none⟩ = some (.int .i64 o.which) ∧ ∃ u, W.cell? ⟨b, off + i * 3 + 2, none⟩ = some u ∧ HasB W u o.data)
theorem cellsStep : Tryd.prog.cellsOf 30 = 3 := by kernel_rfl
theorem cellsIntV : Tryd.prog.cellsOf 3 = 1 := by kernel_rfl
instance : Inhabited Stp := ⟨⟨0, 0, []⟩⟩
theorem open_step {H : Type} {enc : TypeId × Value → H} {w : World} {base : Nat} {spare : Nat → Bool} {held : Bool} {n : Nat} {a : Addr} {cs : List Value} {x : DataW H × List MemPlace}
    (h1 : w.cells? base a 3 = some cs) (h2 : DataW.trod enc Tryd.prog w base spare held n 30 cs = some x) :
    ∃ o : Stp, o.wf ∧ w.cell? (a.add 0) = some (.int .i64 o.kind) ∧ w.cell? (a.add 1) = some (.int .i64 o.which) ∧ (∃ u, w.cell? (a.add 2) = some u ∧ HasB w u o.data) ∧ o.data.length + 1 ≤ Rows.uptoBulk x.1 := by
  obtain ⟨_, hlen, hcell⟩ := World.cells?_some h1
  obtain ⟨xs, k, _, hxe, _, hxl, hf⟩ := DataW.trod_struct Tryd.underlying30 h2
  match xs, hxl, cs, hlen with
  | [y0, y1, y2], _, [v0, v1, v2], _ =>
    have g0 := hf 0 _ rfl
    have g1 := hf 1 _ rfl
    have g2 := hf 2 _ rfl
    simp [cellsIntV, cellsOfBytes] at g0 g1 g2
    obtain ⟨n0, e0, _, f0⟩ := DataW.trod_int Tryd.underlying3 g0
    obtain ⟨n1, e1, _, f1⟩ := DataW.trod_int Tryd.underlying3 g1
    obtain ⟨l, q1, q2, _, q4⟩ := open_inner g2
    simp at e0 e1
    subst e0 e1
    refine ⟨⟨n0, n1, l⟩, ⟨bounds_i64 f0, bounds_i64 f1, q2⟩, hcell 0 (by omega), hcell 1 (by omega), ⟨v2, hcell 2 (by omega), q1⟩, ?_⟩
    rw [hxe]
    simp only [List.map_cons, List.map_nil, Rows.uptoBulk, Rows.uptoBulkAll]
    show l.length + 1 ≤ _
    omega
theorem sumS_le {H : Type} (L : Nat → Stp) (D : Nat → DataW H) : ∀ (is : List Nat), (∀ i ∈ is, (L i).data.length + 1 ≤ Rows.uptoBulk (D i)) → sumS (is.map L) ≤ Rows.uptoBulkAll (is.map D)
  | [], _ => by simp [sumS, Rows.uptoBulkAll]
  | i :: is, h => by
    have h1 := h i (List.mem_cons_self)
    have h2 := sumS_le L D is (fun j hj => h j (List.mem_cons_of_mem _ hj))
    simp only [sumS, List.map_cons, List.sum_cons, Rows.uptoBulkAll] at *
    omega
theorem lt_of_cellV {w : World} {b i : Nat} {v : Value} (h : w.cell? ⟨b, i, none⟩ = some v) : b < w.heap.size := World.block_lt_of_cell? w _ h
/-- Steps that came in. -/
theorem open_hasSt {H : Type} {enc : TypeId × Value → H} {w : World} {base fuel len cap : Nat} {spare : Nat → Bool} {held : Bool} {a : Option Addr} {x : DataW H × List MemPlace}
    (h : DataW.trod enc Tryd.prog w base spare held fuel 22 (Value.slice a len cap).cells.toList = some x) : ∃ ts, HasSt w (.slice a len cap) ts ∧ sumS ts ≤ Rows.uptoBulk x.1 := by
  rcases Go.Deep.open_slice Tryd.underlying22 h with ⟨hcs, rfl⟩ | ⟨y, n, c, m, n', D, Pl, hcs, _, hl, hm, hmm, rfl, hx⟩
  · simp [Value.cells] at hcs
    obtain ⟨rfl, rfl, rfl⟩ := hcs
    exact ⟨[], ⟨none, 0, rfl, ⟨Nat.le_refl _, Nat.zero_le _⟩, fun o ho => by simp at ho, fun hp => by simp at hp⟩, by simp [sumS]⟩
  · simp [Value.cells] at hcs
    obtain ⟨rfl, rfl, rfl⟩ := hcs
    have hlm : len ≤ m := by rw [hmm]; split <;> omega
    have each : ∀ i, i < m → ∃ o : Stp, o.wf ∧ w.cell? ((y.add (i * 3)).add 0) = some (.int .i64 o.kind) ∧ w.cell? ((y.add (i * 3)).add 1) = some (.int .i64 o.which) ∧ (∃ u, w.cell? ((y.add (i * 3)).add 2) = some u ∧ HasB w u o.data) ∧ o.data.length + 1 ≤ Rows.uptoBulk (D i) := by
      intro i hi
      obtain ⟨cs', h1, h2⟩ := hx i hi
      rw [cellsStep] at h1
      exact open_step h1 h2
    obtain ⟨q, hq⟩ := Go.Deep.choose_lt each
    have hat : ∀ (i : Nat) (o : Stp), ((List.range len).map q)[i]? = some o → i < len ∧ o = q i := by
      intro i o ho
      rw [List.getElem?_map, Option.map_eq_some_iff] at ho
      obtain ⟨j, hj, rfl⟩ := ho
      rw [List.getElem?_eq_some_iff] at hj
      obtain ⟨hj, e⟩ := hj
      simp at hj e
      exact ⟨hj, by rw [e]⟩
    have hlen : ((List.range len).map q).length = len := by simp
    refine ⟨(List.range len).map q, ⟨some y, cap, by rw [hlen], ⟨by omega, by omega⟩, fun o ho => ?_, fun hp => ?_⟩, ?_⟩
    · obtain ⟨i, hi, rfl⟩ := List.mem_map.1 ho
      exact (hq i (by have := List.mem_range.1 hi; omega)).1
    · rw [hlen] at hp
      have h0 := (hq 0 (by omega)).2.1
      obtain ⟨b, off, spot⟩ := y
      have hspot : spot = none := by simpa [Addr.add] using World.cell?_spot h0
      subst hspot
      refine ⟨b, off, rfl, ?_, fun i o ho => ?_⟩
      · rw [Go.Deep.add_add, Go.WideShapes.add_plain] at h0
        exact lt_of_cellV h0
      · obtain ⟨hi, rfl⟩ := hat i o ho
        obtain ⟨_, h1, h2, ⟨u, h3, h4⟩, _⟩ := hq i (by omega)
        simp only [Go.WideShapes.add_plain] at h1 h2 h3
        refine ⟨by simpa [Nat.add_assoc] using h1, by simpa [Nat.add_assoc] using h2, u, by simpa [Nat.add_assoc] using h3, h4⟩
    · have := sumS_le q D (List.range len) (fun i hi => (hq i (by have := List.mem_range.1 hi; omega)).2.2.2.2)
      simp only [Rows.uptoBulk]
      omega
theorem HasSt.up {W w : World} {v : Value} {ts : List Stp} (h : HasSt W v ts) (hb : Below W.heap.size W w) : HasSt w v ts := by
  obtain ⟨a, c, rfl, hm, hw, h3⟩ := h
  refine ⟨a, c, rfl, hm, hw, fun hp => ?_⟩
  obtain ⟨b, off, rfl, hb2, h5⟩ := h3 hp
  refine ⟨b, off, rfl, Nat.lt_of_lt_of_le hb2 hb.size, fun i o ho => ?_⟩
  obtain ⟨g1, g2, u, g3, g4⟩ := h5 i o ho
  exact ⟨(hb.cell (p := ⟨b, off + i * 3, none⟩) hb2).trans g1, (hb.cell (p := ⟨b, off + i * 3 + 1, none⟩) hb2).trans g2, u, (hb.cell (p := ⟨b, off + i * 3 + 2, none⟩) hb2).trans g3, g4.up hb⟩
end Go.Proofs.YtoojchjfmnbdpabDoor
