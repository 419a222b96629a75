import Derived.Test.YtadmamfekodkaaaDoorSB1
import Derived.Test.YtadmamfekodkaaaDoorRows
import Derived.ProofKit
import Derived.OpenShut
import Derived.ShutString
import Derived.SizedLaws
import Derived.SliceStrings

namespace Go.Proofs.YtadmamfekodkaaaDoor
open Go.ChangeShapes Go.WideShapes Go.ChangeAt Go.RowKit

/-- Texts that can be read. -/
def HasS (W : World) (v : Value) (l : List ByteArray) : Prop := ∃ a c, v = .slice a l.length c ∧ (l.length ≤ c ∧ c ≤ maxLen ∧ (a = none → c = 0)) ∧ (0 < l.length → ∃ g off, a = some ⟨g, off, none⟩ ∧ g < W.heap.size ∧ ∀ i s, l[i]? = some s → W.cell? ⟨g, off + i, none⟩ = some (.string s))
theorem hasS_nil (W : World) : HasS W (.slice none 0 0) [] := ⟨none, 0, rfl, ⟨Nat.le_refl _, Nat.zero_le _, fun _ => rfl⟩, fun h => by simp at h⟩
theorem HasS.up {W w : World} {v : Value} {l : List ByteArray} (h : HasS W v l) (hb : Below W.heap.size W w) : HasS w v l := by
  obtain ⟨a, c, rfl, hm, h3⟩ := h
  refine ⟨a, c, rfl, hm, fun hp => ?_⟩
  obtain ⟨g, off, rfl, h4, h5⟩ := h3 hp
  exact ⟨g, off, rfl, Nat.lt_of_lt_of_le h4 hb.size, fun i k hk => (hb.cell (p := ⟨g, off + i, none⟩) h4).trans (h5 i k hk)⟩

theorem cellsOfStr : Tryd.prog.cellsOf 9 = 1 := by kernel_rfl
theorem bytesOfStr : 1 ≤ Tryd.prog.bytesOf 9 := of_decide_eq_true (by kernel_rfl)

/-- A []string that came in. -/
theorem open_hasS {H : Type} {enc : TypeId × Value → H} {W : World} {base fuel len cap : Nat} {spare : Nat → Bool} {held : Bool} {a : Option Addr} {x : DataW H × List MemPlace}
    (hf : DataW.trod enc Tryd.prog W base spare held fuel 22 (Value.slice a len cap).cells.toList = some x) :
    ∃ l, HasS W (.slice a len cap) l ∧ (l.length = 0 ∨ ∃ e s, x.1 = .slice e s ∧ l.length = e.length) := by
  rcases open_strings Tryd.underlying22 Tryd.underlying9 cellsOfStr hf with ⟨hcs, rfl⟩ | ⟨y, n, c, zs, hcs, _, hl, hm, hz, rfl, hcell, hwf⟩
  · simp [Value.cells] at hcs
    obtain ⟨rfl, rfl, rfl⟩ := hcs
    exact ⟨[], hasS_nil _, .inl rfl⟩
  · simp [Value.cells] at hcs
    obtain ⟨rfl, rfl, rfl⟩ := hcs
    have hlz : len ≤ zs.length := by rw [hz]; split <;> omega
    have hlen : (zs.take len).length = len := by rw [List.length_take]; omega
    refine ⟨zs.take len, ⟨some y, cap, by rw [hlen], ⟨by omega, by omega, nofun⟩, fun hp => ?_⟩, .inr ⟨_, _, rfl, by simp [strs]⟩⟩
    obtain ⟨b, off, spot⟩ := y
    have hspot : spot = none := by simpa [Addr.add] using World.cell?_spot (hcell 0 (by omega))
    subst hspot
    have hc : ∀ j, j < zs.length → W.cell? ⟨b, off + j, none⟩ = some (.string (zs.getD j ByteArray.empty)) := fun j hj => by rw [← Go.WideShapes.add_plain]; exact hcell j hj
    refine ⟨b, off, rfl, World.block_lt_of_cell? W _ (hc 0 (by omega)), fun i k hk => ?_⟩
    rw [List.getElem?_take] at hk
    split at hk
    · have h1 := hc i (by omega)
      rw [List.getD_eq_getElem?_getD, hk] at h1
      exact h1
    · cases hk
theorem sized_hasS {H : Type} {ts : List TypeId} {ds : List (DataW H)} (h : (DataW.weightsEach Tryd.prog ts ds).all (· ≤ reachBytes) = true) {j : Nat} {d : DataW H} {n : Nat} (ht : ts[j]? = some 22) (hd : ds[j]? = some d)
    (hl : n = 0 ∨ ∃ e s, d = .slice e s ∧ n = e.length) : n ≤ 140737488351232 := by
  rcases hl with h0 | ⟨e, s, rfl, hl⟩
  · omega
  · have h1 := sized_slice h ht hd Tryd.underlying22
    have h2 := Nat.mul_le_mul_left (e.length + s.length) bytesOfStr
    rw [reachBytes] at h1
    omega
/-- The same, with the datum itself. -/
theorem open_hasSz {H : Type} {enc : TypeId × Value → H} {W : World} {base fuel len cap : Nat} {spare : Nat → Bool} {held : Bool} {a : Option Addr} {x : DataW H × List MemPlace}
    (hf : DataW.trod enc Tryd.prog W base spare held fuel 22 (Value.slice a len cap).cells.toList = some x) :
    ∃ l, HasS W (.slice a len cap) l ∧ (l = [] ∨ ∃ s, x.1 = .slice (strs l) s) := by
  rcases open_strings Tryd.underlying22 Tryd.underlying9 cellsOfStr hf with ⟨hcs, rfl⟩ | ⟨y, n, c, zs, hcs, _, hl, hm, hz, rfl, hcell, hwf⟩
  · simp [Value.cells] at hcs
    obtain ⟨rfl, rfl, rfl⟩ := hcs
    exact ⟨[], hasS_nil _, .inl rfl⟩
  · simp [Value.cells] at hcs
    obtain ⟨rfl, rfl, rfl⟩ := hcs
    have hlz : len ≤ zs.length := by rw [hz]; split <;> omega
    have hlen : (zs.take len).length = len := by rw [List.length_take]; omega
    refine ⟨zs.take len, ⟨some y, cap, by rw [hlen], ⟨by omega, by omega, nofun⟩, fun hp => ?_⟩, .inr ⟨_, rfl⟩⟩
    obtain ⟨b, off, spot⟩ := y
    have hspot : spot = none := by simpa [Addr.add] using World.cell?_spot (hcell 0 (by omega))
    subst hspot
    have hc : ∀ j, j < zs.length → W.cell? ⟨b, off + j, none⟩ = some (.string (zs.getD j ByteArray.empty)) := fun j hj => by rw [← Go.WideShapes.add_plain]; exact hcell j hj
    refine ⟨b, off, rfl, World.block_lt_of_cell? W _ (hc 0 (by omega)), fun i k hk => ?_⟩
    rw [List.getElem?_take] at hk
    split at hk
    · have h1 := hc i (by omega)
      rw [List.getD_eq_getElem?_getD, hk] at h1
      exact h1
    · cases hk
theorem weightsAll_mem {H : Type} {P : Program} {e : TypeId} {b : List UInt8} : ∀ {l : List (DataW H)}, DataW.lit (.string b) ∈ l → b.length ∈ DataW.weightsAll P e l
  | [], h => by simp at h
  | d :: r, h => by
    simp only [DataW.weightsAll, List.mem_append]
    rcases List.mem_cons.1 h with rfl | h
    · exact .inl (by simp [DataW.weights])
    · exact .inr (weightsAll_mem h)
theorem sized_hasSz {H : Type} {ts : List TypeId} {ds : List (DataW H)} (h : (DataW.weightsEach Tryd.prog ts ds).all (· ≤ reachBytes) = true) {j : Nat} {d : DataW H} {l : List ByteArray} (ht : ts[j]? = some 22) (hd : ds[j]? = some d)
    (hl : l = [] ∨ ∃ s, d = .slice (strs l) s) : l.length ≤ 140737488351232 ∧ ∀ s ∈ l, s.size ≤ 140737488351232 := by
  rcases hl with rfl | ⟨s, rfl⟩
  · exact ⟨by simp, fun s hs => by simp at hs⟩
  · have h1 := sized_slice h ht hd Tryd.underlying22
    have hlen : (strs (H := H) l).length = l.length := by simp [strs]
    rw [hlen] at h1
    have h2 := Nat.mul_le_mul_left (l.length + s.length) bytesOfStr
    rw [reachBytes] at h1
    refine ⟨by omega, fun x hx => ?_⟩
    have hm : (DataW.lit (.string x.data.toList) : DataW H) ∈ strs l := List.mem_map.2 ⟨x, hx, rfl⟩
    have hw := DataW.weights_mem_each (P := Tryd.prog) ht hd x.data.toList.length (by
      simp only [DataW.weights, Tryd.underlying22]
      exact List.mem_cons_of_mem _ (List.mem_append_left _ (weightsAll_mem hm)))
    have h3 := List.all_eq_true.1 h _ hw
    have h4 : x.data.toList.length ≤ reachBytes := by simpa using h3
    rw [reachBytes] at h4
    have h5 : x.data.toList.length = x.size := rfl
    omega
theorem bulk_strs {H : Type} : ∀ (l : List ByteArray), l.length ≤ Rows.uptoBulkAll (strs (H := H) l) ∧ ∀ s ∈ l, s.size ≤ Rows.uptoBulkAll (strs (H := H) l)
  | [] => ⟨Nat.zero_le _, fun s hs => by simp at hs⟩
  | x :: r => by
    obtain ⟨h1, h2⟩ := bulk_strs (H := H) r
    have e : Rows.uptoBulkAll (strs (H := H) (x :: r)) = x.size + 1 + Rows.uptoBulkAll (strs (H := H) r) := rfl
    rw [e]
    refine ⟨by simp only [List.length_cons]; omega, fun s hs => ?_⟩
    rcases List.mem_cons.1 hs with rfl | hs
    · omega
    · have := h2 s hs; omega
theorem upto_hasSz {H : Type} {d : DataW H} {l : List ByteArray} {n : Nat} (h : Rows.uptoBulk d ≤ n) (hl : l = [] ∨ ∃ s, d = .slice (strs l) s) : l.length ≤ n ∧ ∀ s ∈ l, s.size ≤ n := by
  rcases hl with rfl | ⟨s, rfl⟩
  · exact ⟨Nat.zero_le _, fun s hs => by simp at hs⟩
  · obtain ⟨h1, h2⟩ := bulk_strs (H := H) l
    simp only [Rows.uptoBulk] at h
    exact ⟨by omega, fun x hx => by have := h2 x hx; omega⟩
end Go.Proofs.YtadmamfekodkaaaDoor
