import Derived.Test.YtadmamfekodkaaaDoorDB
import Derived.Test.YtadmamfekodkaaaDoorRows
import Derived.WalkKit
import Derived.ProofKit
import Derived.OpenShut
import Derived.ShutString
import Derived.SizedLaws
import Derived.Below

namespace Go.Proofs.YtadmamfekodkaaaDoor
open Go.ChangeShapes Go.WideShapes Go.ChangeAt Go.RowKit

theorem bulk_pos {H : Type} (d : DataW H) : 1 ≤ Rows.uptoBulk d := by
  cases d with
  | lit l => cases l <;> simp [Rows.uptoBulk]
  | _ => simp [Rows.uptoBulk]
theorem bulk_len {H : Type} (l : List (DataW H)) : l.length ≤ Rows.uptoBulkAll l := by
  induction l with
  | nil => simp [Rows.uptoBulkAll]
  | cons x r ih =>
    have := bulk_pos x
    simp only [Rows.uptoBulkAll, List.length_cons]
    omega
theorem bytesOfByte : Tryd.prog.bytesOf 5 = 1 := by kernel_rfl
theorem cellsOfByte : Tryd.prog.cellsOf 5 = 1 := by kernel_rfl

/-- A []byte that came in. -/
theorem open_hasB {H : Type} {enc : TypeId × Value → H} {W : World} {base fuel len cap : Nat} {spare : Nat → Bool} {held : Bool} {a : Option Addr} {x : DataW H × List MemPlace}
    (hf : DataW.trod enc Tryd.prog W base spare held fuel 30 (Value.slice a len cap).cells.toList = some x) :
    ∃ l, HasB W (.slice a len cap) l ∧ Byt l ∧ (l.length = 0 ∨ ∃ e s, x.1 = .slice e s ∧ l.length = e.length) ∧ l.length ≤ Rows.uptoBulk x.1 := by
  rcases open_ints Tryd.underlying30 Tryd.underlying5 cellsOfByte hf with ⟨hcs, rfl⟩ | ⟨y, n, c, zs, hcs, _, hl, hm, hz, rfl, hcell, hwf⟩
  · simp [Value.cells] at hcs
    obtain ⟨rfl, rfl, rfl⟩ := hcs
    exact ⟨[], hasB_nil _, fun x hx => by simp at hx, .inl rfl, by simp⟩
  · simp [Value.cells] at hcs
    obtain ⟨rfl, rfl, rfl⟩ := hcs
    have hlz : len ≤ zs.length := by rw [hz]; split <;> omega
    have hlen : ((zs.take len).map Int.toNat).length = len := by rw [List.length_map, List.length_take]; omega
    have hel : (lits (H := H) .u8 (zs.take len)).length = len := by simp [lits]; omega
    refine ⟨(zs.take len).map Int.toNat, ⟨some y, cap, by rw [hlen], ⟨by omega, by omega, nofun⟩, fun hp => ?_⟩, fun x hx => ?_, .inr ⟨_, _, rfl, by rw [hlen, hel]⟩, ?_⟩
    · obtain ⟨b, off, rfl, hc⟩ := ints_at hcell (by omega)
      refine ⟨b, off, rfl, World.block_lt_of_cell? W _ (hc 0 (by omega)), fun i k hk => ?_⟩
      rw [List.getElem?_map, List.getElem?_take] at hk
      split at hk
      · rename_i hi
        obtain ⟨z, hz', rfl⟩ := Option.map_eq_some_iff.1 hk
        have h1 := hc i (by omega)
        rw [List.getD_eq_getElem?_getD, hz'] at h1
        have h2 := bounds_u8 (hwf z (List.mem_of_getElem? hz'))
        rw [h1]
        simp
        omega
      · cases hk
    · obtain ⟨z, hz', rfl⟩ := List.mem_map.1 hx
      have h2 := bounds_u8 (hwf z (List.mem_of_mem_take hz'))
      omega
    · have h1 := bulk_len (lits (H := H) .u8 (zs.take len))
      show _ ≤ Rows.uptoBulk (.slice (lits .u8 (zs.take len)) (lits .u8 (zs.drop len)))
      simp only [Rows.uptoBulk]
      omega
theorem sized_hasB {H : Type} {ts : List TypeId} {ds : List (DataW H)} (h : (DataW.weightsEach Tryd.prog ts ds).all (· ≤ reachBytes) = true) {j : Nat} {d : DataW H} {l : List Nat} (ht : ts[j]? = some 30) (hd : ds[j]? = some d)
    (hl : l.length = 0 ∨ ∃ e s, d = .slice e s ∧ l.length = e.length) : l.length ≤ 140737488351232 := by
  rcases hl with h0 | ⟨e, s, rfl, hl⟩
  · omega
  · have := sized_slice h ht hd Tryd.underlying30
    rw [bytesOfByte, reachBytes] at this
    omega
end Go.Proofs.YtadmamfekodkaaaDoor
