import Derived.Test.YtfcjkkljmjmhmaaDoorWPd
import Derived.Test.YtfcjkkljmjmhmaaDoorRows
import Derived.Test.YtfcjkkljmjmhmaaDoorSOi
import Derived.Deep.Slices
import Derived.WalkKit
import Derived.ProofKit
import Derived.OpenShut
import Derived.ShutString
import Derived.SizedLaws
import Derived.Below
namespace Go.Proofs.YtfcjkkljmjmhmaaDoor
open Go.ChangeShapes Go.WideShapes Go.ChangeAt Go.RowKit

theorem bytesOfByteW : Tryd.prog.bytesOf 5 = 1 := by kernel_rfl
theorem cellsOfByteW : Tryd.prog.cellsOf 5 = 1 := by kernel_rfl
/-- Bytes that came in. -/
def HasBN (W : World) (v : Value) (l : List Nat) : Prop := ∃ a c, v = .slice a l.length c ∧ (l.length ≤ c ∧ c ≤ maxLen ∧ (a = none → c = 0)) ∧ (0 < l.length → ∃ g off, a = some ⟨g, off, none⟩ ∧ g < W.heap.size ∧ ∀ (i k : Nat), l[i]? = some k → W.cell? ⟨g, off + i, none⟩ = some (.int .u8 (k : Int)))
theorem hasBN_nil (W : World) : HasBN W (.slice none 0 0) [] := ⟨none, 0, rfl, ⟨Nat.le_refl _, Nat.zero_le _, fun _ => rfl⟩, fun h => by simp at h⟩
theorem HasBN.has {W : World} {v : Value} {l : List Nat} (h : HasBN W v l) : HasB W v (byB l) := by
  obtain ⟨a, c, rfl, hm, h3⟩ := h
  have hbl : (byB l).length = l.length := by simp [byB]
  refine ⟨a, c, by rw [hbl], by rw [hbl]; omega, fun hp => ?_⟩
  obtain ⟨g, off, rfl, hg, hc⟩ := h3 (by rw [hbl] at hp; exact hp)
  refine ⟨g, off, rfl, hg, fun i b hb => ?_⟩
  unfold byB at hb
  rw [List.getElem?_map] at hb
  obtain ⟨x, hx, rfl⟩ := Option.map_eq_some_iff.1 hb
  exact hc i x hx
theorem HasBN.bs {W : World} {v : Value} {l : List Nat} (h : HasBN W v l) (hl : ∀ x ∈ l, x < 256) : Bs W v (sOf l) := by
  refine bs_of h.has hl fun a n c e => ?_
  obtain ⟨a', c', e', hm, _⟩ := h
  rw [e'] at e
  injection e with _ e2 e3
  omega
theorem open_hasBN {H : Type} {enc : TypeId × Value → H} {W : World} {base fuel len cap : Nat} {spare : Nat → Bool} {held : Bool} {a : Option Addr} {x : DataW H × List MemPlace}
    (hf : DataW.trod enc Tryd.prog W base spare held fuel 23 (Value.slice a len cap).cells.toList = some x) :
    ∃ l, HasBN W (.slice a len cap) l ∧ (∀ x ∈ l, x < 256) ∧ (l.length = 0 ∨ ∃ e s, x.1 = .slice e s ∧ l.length = e.length) := by
  rcases open_ints Tryd.underlying23 Tryd.underlying5 cellsOfByteW hf with ⟨hcs, rfl⟩ | ⟨y, n, c, zs, hcs, _, hl, hm, hz, rfl, hcell, hwf⟩
  · simp [Value.cells] at hcs
    obtain ⟨rfl, rfl, rfl⟩ := hcs
    exact ⟨[], hasBN_nil _, fun x hx => by simp at hx, .inl rfl⟩
  · simp [Value.cells] at hcs
    obtain ⟨rfl, rfl, rfl⟩ := hcs
    have hlz : len ≤ zs.length := by rw [hz]; split <;> omega
    have hlen : ((zs.take len).map Int.toNat).length = len := by rw [List.length_map, List.length_take]; omega
    have hel : (lits (H := H) .u8 (zs.take len)).length = len := by simp [lits]; omega
    refine ⟨(zs.take len).map Int.toNat, ⟨some y, cap, by rw [hlen], ⟨by omega, by omega, nofun⟩, fun hp => ?_⟩, fun x hx => ?_, .inr ⟨_, _, rfl, by rw [hlen, hel]⟩⟩
    · obtain ⟨b, off, rfl, hc⟩ := ints_at hcell (by omega)
      refine ⟨b, off, rfl, World.block_lt_of_cell? W _ (hc 0 (by omega)), fun i k hk => ?_⟩
      rw [List.getElem?_map, List.getElem?_take] at hk
      split at hk
      · rename_i hi
        obtain ⟨z, hz', rfl⟩ := Option.map_eq_some_iff.1 hk
        have h1 := hc i (by omega)
        rw [List.getD_eq_getElem?_getD, hz'] at h1
        have h2 := bounds_u8 (hwf z (List.mem_of_getElem? hz'))
        rw [h1]
        simp
        omega
      · cases hk
    · obtain ⟨z, hz', rfl⟩ := List.mem_map.1 hx
      have h2 := bounds_u8 (hwf z (List.mem_of_mem_take hz'))
      omega
theorem sized_hasBN {H : Type} {ts : List TypeId} {ds : List (DataW H)} (h : (DataW.weightsEach Tryd.prog ts ds).all (· ≤ reachBytes) = true) {j : Nat} {d : DataW H} {l : List Nat} (ht : ts[j]? = some 23) (hd : ds[j]? = some d)
    (hl : l.length = 0 ∨ ∃ e s, d = .slice e s ∧ l.length = e.length) : l.length ≤ 140737488351232 := by
  rcases hl with h0 | ⟨e, s, rfl, hl⟩
  · omega
  · have := sized_slice h ht hd Tryd.underlying23
    rw [bytesOfByteW, reachBytes] at this
    omega
/-- One operation of the script. -/
structure OpR where
  kind : Int
  a : Int
  b : Int
  c : Int
instance : Inhabited OpR := ⟨⟨0, 0, 0, 0⟩⟩
theorem cellsOpR : Tryd.prog.cellsOf 67 = 4 := by kernel_rfl
theorem cellsIntW : Tryd.prog.cellsOf 3 = 1 := by kernel_rfl
/-- Operations that can be read. -/
def HasOp (W : World) (v : Value) (ts : List OpR) : Prop := ∃ a c, v = .slice a ts.length c ∧ (ts.length ≤ c ∧ c ≤ maxLen) ∧ (0 < ts.length → ∃ b off, a = some ⟨b, off, none⟩ ∧ b < W.heap.size ∧
  ∀ (i : Nat) (o : OpR), ts[i]? = some o → W.cell? ⟨b, off + i * 4, none⟩ = some (.int .i64 o.kind) ∧ W.cell? ⟨b, off + i * 4 + 1, none⟩ = some (.int .i64 o.a) ∧ W.cell? ⟨b, off + i * 4 + 2, none⟩ = some (.int .i64 o.b) ∧ W.cell? ⟨b, off + i * 4 + 3, none⟩ = some (.int .i64 o.c))
set_option maxRecDepth 100000 in
theorem open_op {H : Type} {enc : TypeId × Value → H} {w : World} {base : Nat} {spare : Nat → Bool} {held : Bool} {n : Nat} {a : Addr} {cs : List Value} {x : DataW H × List MemPlace}
    (h1 : w.cells? base a 4 = some cs) (h2 : DataW.trod enc Tryd.prog w base spare held n 67 cs = some x) :
    ∃ o : OpR, w.cell? (a.add 0) = some (.int .i64 o.kind) ∧ w.cell? (a.add 1) = some (.int .i64 o.a) ∧ w.cell? (a.add 2) = some (.int .i64 o.b) ∧ w.cell? (a.add 3) = some (.int .i64 o.c) := by
  obtain ⟨_, hlen, hcell⟩ := World.cells?_some h1
  obtain ⟨xs, k, _, _, _, hxl, hf⟩ := DataW.trod_struct Tryd.underlying67 h2
  match xs, hxl, cs, hlen with
  | [y0, y1, y2, y3], _, [v0, v1, v2, v3], _ =>
    have g0 := hf 0 _ rfl
    have g1 := hf 1 _ rfl
    have g2 := hf 2 _ rfl
    have g3 := hf 3 _ rfl
    simp [cellsIntW] at g0 g1 g2 g3
    obtain ⟨n0, e0, _, f0⟩ := DataW.trod_int Tryd.underlying3 g0
    obtain ⟨n1, e1, _, f1⟩ := DataW.trod_int Tryd.underlying3 g1
    obtain ⟨n2, e2, _, f2⟩ := DataW.trod_int Tryd.underlying3 g2
    obtain ⟨n3, e3, _, f3⟩ := DataW.trod_int Tryd.underlying3 g3
    simp at e0 e1 e2 e3
    subst e0 e1 e2 e3
    exact ⟨⟨n0, n1, n2, n3⟩, hcell 0 (by omega), hcell 1 (by omega), hcell 2 (by omega), hcell 3 (by omega)⟩
theorem lt_of_cellW {w : World} {b i : Nat} {v : Value} (h : w.cell? ⟨b, i, none⟩ = some v) : b < w.heap.size := World.block_lt_of_cell? w _ h
/-- Operations that came in. -/
theorem open_hasOp {H : Type} {enc : TypeId × Value → H} {w : World} {base fuel len cap : Nat} {spare : Nat → Bool} {held : Bool} {a : Option Addr} {x : DataW H × List MemPlace}
    (h : DataW.trod enc Tryd.prog w base spare held fuel 59 (Value.slice a len cap).cells.toList = some x) : ∃ ts, HasOp w (.slice a len cap) ts := by
  rcases Go.Deep.open_slice Tryd.underlying59 h with ⟨hcs, rfl⟩ | ⟨y, n, c, m, n', D, Pl, hcs, _, hl, hm, hmm, rfl, hx⟩
  · simp [Value.cells] at hcs
    obtain ⟨rfl, rfl, rfl⟩ := hcs
    exact ⟨[], ⟨none, 0, rfl, ⟨Nat.le_refl _, Nat.zero_le _⟩, fun hp => by simp at hp⟩⟩
  · simp [Value.cells] at hcs
    obtain ⟨rfl, rfl, rfl⟩ := hcs
    have hlm : len ≤ m := by rw [hmm]; split <;> omega
    have each : ∀ i, i < m → ∃ o : OpR, w.cell? ((y.add (i * 4)).add 0) = some (.int .i64 o.kind) ∧ w.cell? ((y.add (i * 4)).add 1) = some (.int .i64 o.a) ∧ w.cell? ((y.add (i * 4)).add 2) = some (.int .i64 o.b) ∧ w.cell? ((y.add (i * 4)).add 3) = some (.int .i64 o.c) := by
      intro i hi
      obtain ⟨cs', h1, h2⟩ := hx i hi
      rw [cellsOpR] at h1
      exact open_op h1 h2
    obtain ⟨q, hq⟩ := Go.Deep.choose_lt each
    have hat : ∀ i o, ((List.range len).map q)[i]? = some o → i < len ∧ o = q i := by
      intro i o ho
      rw [List.getElem?_map, Option.map_eq_some_iff] at ho
      obtain ⟨j, hj, rfl⟩ := ho
      rw [List.getElem?_eq_some_iff] at hj
      obtain ⟨hj, e⟩ := hj
      simp at hj e
      exact ⟨hj, by rw [e]⟩
    refine ⟨(List.range len).map q, some y, cap, by simp, ⟨by simpa using hl, hm⟩, fun hp => ?_⟩
    have hp : 0 < len := by simpa using hp
    have h0 := (hq 0 (by omega)).1
    obtain ⟨b, off, spot⟩ := y
    have hspot : spot = none := by simpa [Addr.add] using World.cell?_spot h0
    subst hspot
    refine ⟨b, off, rfl, ?_, fun i o ho => ?_⟩
    · rw [Go.Deep.add_add, Go.WideShapes.add_plain] at h0
      exact lt_of_cellW h0
    · obtain ⟨hi, rfl⟩ := hat i o ho
      have := hq i (by omega)
      simp only [Go.WideShapes.add_plain] at this
      simpa [Nat.add_assoc] using this
end Go.Proofs.YtfcjkkljmjmhmaaDoor
