import Derived.Test.YtadmamfekodkaaaDoorDO
import Derived.Test.YtadmamfekodkaaaDoorDBB
import Derived.Deep.Slices
import Derived.SizedLaws

namespace Go.Proofs.YtadmamfekodkaaaDoor
open Go.ChangeShapes Go.WideShapes Go.ChangeAt Go.RowKit

def BytB (ls : List (List Nat)) : Prop := ∀ l ∈ ls, Byt l
/-- All the bytes, and one for each list. -/
def sumB (ls : List (List Nat)) : Nat := (ls.map fun l => l.length + 1).sum
theorem cellsOfBytes : Tryd.prog.cellsOf 30 = 1 := by kernel_rfl
theorem hasBB_nil (W : World) : HasBB W (.slice none 0 0) [] := ⟨none, 0, rfl, ⟨Nat.le_refl _, Nat.zero_le _, fun _ => rfl⟩, fun h => by simp at h⟩
theorem sumB_le {H : Type} (L : Nat → List Nat) (D : Nat → DataW H) : ∀ (is : List Nat), (∀ i ∈ is, (L i).length + 1 ≤ Rows.uptoBulk (D i)) → sumB (is.map L) ≤ Rows.uptoBulkAll (is.map D)
  | [], _ => by simp [sumB, Rows.uptoBulkAll]
  | i :: is, h => by
    have h1 := h i (List.mem_cons_self)
    have h2 := sumB_le L D is (fun j hj => h j (List.mem_cons_of_mem _ hj))
    simp only [sumB, List.map_cons, List.sum_cons, Rows.uptoBulkAll] at *
    omega
/-- One list of bytes in a cell. -/
theorem open_inner {H : Type} {enc : TypeId × Value → H} {W : World} {base fuel : Nat} {spare : Nat → Bool} {held : Bool} {v : Value} {x : DataW H × List MemPlace}
    (hf : DataW.trod enc Tryd.prog W base spare held fuel 30 [v] = some x) : ∃ l, HasB W v l ∧ Byt l ∧ (l.length = 0 ∨ ∃ e s, x.1 = .slice e s ∧ l.length = e.length) ∧ l.length + 1 ≤ Rows.uptoBulk x.1 := by
  have hv : ∃ a n c, v = .slice a n c := by
    rcases open_ints Tryd.underlying30 Tryd.underlying5 cellsOfByte hf with ⟨hcs, _⟩ | ⟨y, n, c, zs, hcs, _⟩
    · exact ⟨_, _, _, by simpa using hcs⟩
    · exact ⟨_, _, _, by simpa using hcs⟩
  obtain ⟨a, n, c, rfl⟩ := hv
  obtain ⟨l, h1, h2, h3, _⟩ := open_hasB (a := a) (len := n) (cap := c) hf
  refine ⟨l, h1, h2, h3, ?_⟩
  rcases h3 with h0 | ⟨e, s, hx, hl⟩
  · have := bulk_pos x.1
    omega
  · have := bulk_len e
    rw [hx]
    simp only [Rows.uptoBulk]
    omega
/-- The datum has these lengths. -/
def FitsB {H : Type} (ls : List (List Nat)) (d : DataW H) : Prop := ls = [] ∨ ∃ es s, d = .slice es s ∧ es.length = ls.length ∧ ∀ l ∈ ls, l.length = 0 ∨ ∃ e s, DataW.slice e s ∈ es ∧ l.length = e.length
theorem bytesOfBytes : Tryd.prog.bytesOf 30 = 24 := by kernel_rfl
theorem weightsAll_slice {H : Type} {P : Program} {t u : TypeId} (hu : P.underlying t = some (.slice u)) {e s : List (DataW H)} : ∀ {l : List (DataW H)}, DataW.slice e s ∈ l → (e.length + s.length) * P.bytesOf u ∈ DataW.weightsAll P t l
  | [], h => by simp at h
  | d :: r, h => by
    simp only [DataW.weightsAll, List.mem_append]
    rcases List.mem_cons.1 h with rfl | h
    · exact .inl (by simp [DataW.weights, hu])
    · exact .inr (weightsAll_slice hu h)
theorem sized_hasBB {H : Type} {ts : List TypeId} {ds : List (DataW H)} (h : (DataW.weightsEach Tryd.prog ts ds).all (· ≤ reachBytes) = true) {j : Nat} {d : DataW H} {ls : List (List Nat)} (ht : ts[j]? = some 33) (hd : ds[j]? = some d)
    (hl : FitsB ls d) : ls.length ≤ 5864062014634 ∧ ∀ l ∈ ls, l.length ≤ 140737488351232 := by
  rcases hl with rfl | ⟨es, s, rfl, hlen, hall⟩
  · exact ⟨by simp, fun l hl => by simp at hl⟩
  · have h1 := sized_slice h ht hd Tryd.underlying33
    rw [bytesOfBytes, hlen, reachBytes] at h1
    refine ⟨by omega, fun l hl => ?_⟩
    rcases hall l hl with h0 | ⟨e, s', hm, he⟩
    · omega
    · have hw := DataW.weights_mem_each (P := Tryd.prog) ht hd ((e.length + s'.length) * Tryd.prog.bytesOf 5) (by
        simp only [DataW.weights, Tryd.underlying33]
        exact List.mem_cons_of_mem _ (List.mem_append_left _ (weightsAll_slice Tryd.underlying30 hm)))
      have h3 := List.all_eq_true.1 h _ hw
      have h4 : (e.length + s'.length) * Tryd.prog.bytesOf 5 ≤ reachBytes := by simpa using h3
      rw [bytesOfByte, reachBytes] at h4
      omega
/-- A [][]byte that came in. -/
theorem open_hasBB {H : Type} {enc : TypeId × Value → H} {W : World} {base fuel len cap : Nat} {spare : Nat → Bool} {held : Bool} {a : Option Addr} {x : DataW H × List MemPlace}
    (hf : DataW.trod enc Tryd.prog W base spare held fuel 33 (Value.slice a len cap).cells.toList = some x) :
    ∃ ls, HasBB W (.slice a len cap) ls ∧ BytB ls ∧ sumB ls ≤ Rows.uptoBulk x.1 ∧ FitsB ls x.1 := by
  rcases Go.Deep.open_slice1 Tryd.underlying33 cellsOfBytes hf with ⟨hcs, rfl⟩ | ⟨y, n, c, m, fu, V, D, Pl, hcs, _, hl, hm, hmm, rfl, hx⟩
  · simp [Value.cells] at hcs
    obtain ⟨rfl, rfl, rfl⟩ := hcs
    exact ⟨[], hasBB_nil _, fun l hl => by simp at hl, by simp [sumB], .inl rfl⟩
  · simp [Value.cells] at hcs
    obtain ⟨rfl, rfl, rfl⟩ := hcs
    have hlm : len ≤ m := by rw [hmm]; split <;> omega
    have each : ∀ i, ∃ l, i < len → W.cell? (y.add i) = some (V i) ∧ HasB W (V i) l ∧ Byt l ∧ l.length + 1 ≤ Rows.uptoBulk (D i) ∧ (l.length = 0 ∨ ∃ e s, D i = .slice e s ∧ l.length = e.length) := fun i => by
      by_cases hi : i < len
      · obtain ⟨h1, h2⟩ := hx i (by omega)
        obtain ⟨l, g1, g2, g3, g4⟩ := open_inner h2
        exact ⟨l, fun _ => ⟨h1, g1, g2, g4, g3⟩⟩
      · exact ⟨[], fun h => absurd h hi⟩
    obtain ⟨L, hL⟩ := Classical.axiomOfChoice each
    have hlen : ((List.range len).map L).length = len := by simp
    refine ⟨(List.range len).map L, ⟨some y, cap, by rw [hlen], ⟨by omega, by omega, nofun⟩, fun hp => ?_⟩, fun l hl' => ?_, ?_, ?_⟩
    · rw [hlen] at hp
      obtain ⟨b, off, spot⟩ := y
      have hspot : spot = none := by simpa [Addr.add] using World.cell?_spot (hL 0 hp).1
      subst hspot
      refine ⟨b, off, rfl, World.block_lt_of_cell? W _ (hL 0 hp).1, fun i l hl' => ?_⟩
      rw [List.getElem?_map] at hl'
      obtain ⟨j, hj, rfl⟩ := Option.map_eq_some_iff.1 hl'
      obtain ⟨hi, rfl⟩ : i < len ∧ i = j := by
        have hi := (List.getElem?_eq_some_iff.1 hj).1
        rw [List.length_range] at hi
        rw [List.getElem?_range hi] at hj
        exact ⟨hi, Option.some.inj hj⟩
      obtain ⟨h1, h2, _⟩ := hL i hi
      exact ⟨V i, by rw [← Go.WideShapes.add_plain]; exact h1, h2⟩
    · obtain ⟨i, hi, rfl⟩ := List.mem_map.1 hl'
      exact (hL i (List.mem_range.1 hi)).2.2.1
    · have := sumB_le L D (List.range len) (fun i hi => (hL i (List.mem_range.1 hi)).2.2.2.1)
      simp only [Rows.uptoBulk]
      omega
    · refine .inr ⟨_, _, rfl, by simp, fun l hl' => ?_⟩
      obtain ⟨i, hi, rfl⟩ := List.mem_map.1 hl'
      rcases (hL i (List.mem_range.1 hi)).2.2.2.2 with h0 | ⟨e, s, he, hle⟩
      · exact .inl h0
      · exact .inr ⟨e, s, List.mem_map.2 ⟨i, hi, he⟩, hle⟩
end Go.Proofs.YtadmamfekodkaaaDoor
