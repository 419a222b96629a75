import Derived.Test.YtgbadnbhgpnppaaDoorRows
import Derived.ProofKit
import Derived.OpenShut
import Derived.ShutString
import Derived.SizedLaws
import Derived.SliceStrings
namespace Go.Proofs.YtgbadnbhgpnppaaDoor
open Go.ChangeShapes Go.WideShapes Go.ChangeAt Go.RowKit

/-- Numbers that can be read. -/
def HasI (W : World) (v : Value) (l : List Int) : Prop := ∃ a c, v = .slice a l.length c ∧ (l.length ≤ c ∧ c ≤ maxLen ∧ (a = none → c = 0)) ∧ (0 < l.length → ∃ g off, a = some ⟨g, off, none⟩ ∧ g < W.heap.size ∧ ∀ i s, l[i]? = some s → W.cell? ⟨g, off + i, none⟩ = some (.int .i64 s))
theorem hasI_nil (W : World) : HasI W (.slice none 0 0) [] := ⟨none, 0, rfl, ⟨Nat.le_refl _, Nat.zero_le _, fun _ => rfl⟩, fun h => by simp at h⟩
theorem HasI.up {W w : World} {v : Value} {l : List Int} (h : HasI W v l) (hb : Below W.heap.size W w) : HasI w v l := by
  obtain ⟨a, c, rfl, hm, h3⟩ := h
  refine ⟨a, c, rfl, hm, fun hp => ?_⟩
  obtain ⟨g, off, rfl, h4, h5⟩ := h3 hp
  exact ⟨g, off, rfl, Nat.lt_of_lt_of_le h4 hb.size, fun i k hk => (hb.cell (p := ⟨g, off + i, none⟩) h4).trans (h5 i k hk)⟩


theorem cellsOfInt : Tryd.prog.cellsOf 3 = 1 := by kernel_rfl
theorem bytesOfInt : 1 ≤ Tryd.prog.bytesOf 3 := of_decide_eq_true (by kernel_rfl)
/-- An []int that came in. -/
theorem open_hasI {H : Type} {enc : TypeId × Value → H} {W : World} {base fuel len cap : Nat} {spare : Nat → Bool} {held : Bool} {a : Option Addr} {x : DataW H × List MemPlace}
    (hf : DataW.trod enc Tryd.prog W base spare held fuel 39 (Value.slice a len cap).cells.toList = some x) :
    ∃ l, HasI W (.slice a len cap) l ∧ (∀ z ∈ l, -9223372036854775808 ≤ z ∧ z ≤ 9223372036854775807) ∧ (l.length = 0 ∨ ∃ e s, x.1 = .slice e s ∧ l.length = e.length) := by
  rcases open_ints Tryd.underlying39 Tryd.underlying3 cellsOfInt hf with ⟨hcs, rfl⟩ | ⟨y, n, c, zs, hcs, _, hl, hm, hz, rfl, hcell, hwf⟩
  · simp [Value.cells] at hcs
    obtain ⟨rfl, rfl, rfl⟩ := hcs
    exact ⟨[], hasI_nil _, fun z hz => by simp at hz, .inl rfl⟩
  · simp [Value.cells] at hcs
    obtain ⟨rfl, rfl, rfl⟩ := hcs
    have hlz : len ≤ zs.length := by rw [hz]; split <;> omega
    have hlen : (zs.take len).length = len := by rw [List.length_take]; omega
    refine ⟨zs.take len, ⟨some y, cap, by rw [hlen], ⟨by omega, by omega, nofun⟩, fun hp => ?_⟩, fun z hz' => ?_, .inr ⟨_, _, rfl, by simp [lits]⟩⟩
    · obtain ⟨b, off, rfl, hc⟩ := ints_at hcell (by omega)
      refine ⟨b, off, rfl, World.block_lt_of_cell? W _ (hc 0 (by omega)), fun i k hk => ?_⟩
      rw [List.getElem?_take] at hk
      split at hk
      · have h1 := hc i (by omega)
        rw [List.getD_eq_getElem?_getD, hk] at h1
        exact h1
      · cases hk
    · have := bounds_i64 (hwf z (List.mem_of_mem_take hz')); omega
theorem sized_hasI {H : Type} {ts : List TypeId} {ds : List (DataW H)} (h : (DataW.weightsEach Tryd.prog ts ds).all (· ≤ reachBytes) = true) {j : Nat} {d : DataW H} {n : Nat} (ht : ts[j]? = some 39) (hd : ds[j]? = some d)
    (hl : n = 0 ∨ ∃ e s, d = .slice e s ∧ n = e.length) : n ≤ 140737488351232 := by
  rcases hl with h0 | ⟨e, s, rfl, hl⟩
  · omega
  · have h1 := sized_slice h ht hd Tryd.underlying39
    have h2 := Nat.mul_le_mul_left (e.length + s.length) bytesOfInt
    rw [reachBytes] at h1
    omega
end Go.Proofs.YtgbadnbhgpnppaaDoor
