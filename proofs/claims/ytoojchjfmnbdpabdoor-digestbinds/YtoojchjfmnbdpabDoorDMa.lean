import Derived.Test.YtoojchjfmnbdpabDoorDGn
import Derived.Lib.AppendZeros
namespace Go.Proofs.YtoojchjfmnbdpabDoor
open Go.RowKit
attribute [local go_sem ↓] Go.wp_at_zero Go.wp_at_succ

/-- A text as numbers. -/
def sl (s : ByteArray) : List Nat := s.data.toList.map UInt8.toNat
theorem sl_len (s : ByteArray) : (sl s).length = s.size := by unfold sl; rw [List.length_map, Array.length_toList]; rfl
theorem sl_byt (s : ByteArray) : Byt (sl s) := by
  intro x hx
  obtain ⟨b, _, rfl⟩ := List.mem_map.1 hx
  exact b.toNat_lt
theorem str_bytes (W : World) (s : ByteArray) (hn : s.size ≤ 140737488355328) : ∃ c w', (convert 9 28 (.string s)).run Tryd.prog W = .ok (.slice (some ⟨W.heap.size, 0, none⟩) s.size c) w' ∧ HasB w' (.slice (some ⟨W.heap.size, 0, none⟩) s.size c) (sl s) ∧ Below W.heap.size W w' ∧ w'.heap.size = W.heap.size + 1 := by
  refine ⟨_, _, run_bytes_of_string W 9 28 5 s Tryd.underlying9 Tryd.underlying28 Tryd.underlying5, ⟨some ⟨W.heap.size, 0, none⟩, _, by rw [sl_len], ⟨by rw [sl_len]; exact grownCap_ge _ _ _ _, grownCap_le_maxLen _ _ _ _ (by unfold maxLen; omega), nofun⟩, fun _ => ⟨W.heap.size, 0, rfl, by rw [World.size_alloc]; show W.heap.size < W.heap.size + 1; omega, fun i b hb => ?_⟩⟩, ?_, by rw [World.size_alloc]; rfl⟩
  · have hh : ∀ o, (W.drew.alloc o).heap[W.heap.size]? = some o := fun o => heap_new W.drew o
    rw [Nat.zero_add, cell_of_row _ _ _ _ _ _ (hh _)]
    unfold bytesRow
    have hi : i < s.data.size := by have := (List.getElem?_eq_some_iff.1 hb).1; rw [sl_len] at this; exact this
    rw [Array.getElem?_append_left (by simpa using hi)]
    unfold sl at hb
    rw [List.getElem?_map] at hb
    obtain ⟨x, hx, rfl⟩ := Option.map_eq_some_iff.1 hb
    rw [Array.getElem?_map, ← Array.getElem?_toList, hx]
    rfl
  · exact (below_drewN (Below.refl _ _) 1).alloc (Nat.le_refl _) _
/-- The cells of lists that can be read. -/
theorem HasBB.vals {W : World} {v : Value} {ls : List (List Nat)} (h : HasBB W v ls) : ∃ us : List Value, us.length = ls.length ∧ (∀ (j : Nat) (u : Value) (l : List Nat), us[j]? = some u → ls[j]? = some l → HasB W u l) ∧ ∃ a c, v = .slice a ls.length c ∧ (a = none → ls.length = 0 ∧ c = 0) ∧ ∀ ad, a = some ad → ∀ j u, us[j]? = some u → W.cell? (ad.add j) = some u := by
  obtain ⟨a, c, rfl, hm, h3⟩ := h
  by_cases hp : 0 < ls.length
  · obtain ⟨g, off, rfl, hg, hc⟩ := h3 hp
    have each : ∀ i, ∃ u, ∀ l, ls[i]? = some l → W.cell? ⟨g, off + i, none⟩ = some u ∧ HasB W u l := fun i => by
      rcases hl : ls[i]? with _ | l
      · exact ⟨.slice none 0 0, fun l h => by cases h⟩
      · obtain ⟨u, h1, h2⟩ := hc i l hl
        exact ⟨u, fun l' h => by injection h with h; subst h; exact ⟨h1, h2⟩⟩
    obtain ⟨V, hV⟩ := Classical.axiomOfChoice each
    have hat : ∀ (j : Nat) (u : Value), ((List.range ls.length).map V)[j]? = some u → j < ls.length ∧ u = V j := fun j u hu => by
      rw [List.getElem?_map] at hu
      obtain ⟨k, hk, rfl⟩ := Option.map_eq_some_iff.1 hu
      have hj := (List.getElem?_eq_some_iff.1 hk).1
      rw [List.length_range] at hj
      rw [List.getElem?_range hj] at hk
      exact ⟨hj, by rw [Option.some.inj hk]⟩
    refine ⟨(List.range ls.length).map V, by simp, fun j u l hu hl => ?_, _, c, rfl, nofun, fun ad e j u hu => ?_⟩
    · obtain ⟨_, rfl⟩ := hat j u hu
      exact (hV j l hl).2
    · obtain ⟨hj, rfl⟩ := hat j u hu
      obtain rfl := Option.some.inj e
      rw [Go.WideShapes.add_plain]
      exact (hV j _ (List.getElem?_eq_getElem hj)).1
  · have h0 : ls.length = 0 := by omega
    exact ⟨[], by simp [h0], fun j u l hu => by simp at hu, a, c, rfl, fun e => ⟨h0, hm.2.2 e⟩, fun ad _ j u hu => by simp at hu⟩
theorem HasB.one {W : World} {v : Value} {l : List Nat} (h : HasB W v l) : v.oneCell' = true := by
  obtain ⟨a, c, rfl, _⟩ := h
  rfl
/-- Older lists in a row of the call's own. -/
structure OldBB (W w : World) (v : Value) (us : List Value) (ls : List (List Nat)) : Prop where
  row : w.ownsRow W.heap.size 28 1 v ls.length us
  each : ∀ (j : Nat) (u : Value) (l : List Nat), us[j]? = some u → ls[j]? = some l → HasB W u l
theorem OldBB.len {W w : World} {v : Value} {us : List Value} {ls : List (List Nat)} (h : OldBB W w v us ls) : us.length = ls.length := by have := h.row.1; omega
theorem OldBB.has {W w : World} {v : Value} {us : List Value} {ls : List (List Nat)} (h : OldBB W w v us ls) (hb : Below W.heap.size W w) : HasBB w v ls := by
  have hr := h.row
  have h' := hr
  obtain ⟨_, ⟨rfl, h0⟩ | ⟨g, c, cur, rfl, _, _, hc1, hc2, _⟩⟩ := hr
  · exact ⟨none, 0, by rw [h0], by rw [h0]; exact ⟨Nat.le_refl _, Nat.zero_le _, fun _ => rfl⟩, fun hp => by omega⟩
  · refine ⟨some ⟨g, 0, none⟩, c, rfl, ⟨hc1, hc2, nofun⟩, fun _ => ⟨g, 0, rfl, (h'.lt g rfl).2, fun i l hl => ?_⟩⟩
    have hi : i < us.length := by rw [h.len]; exact (List.getElem?_eq_some_iff.1 hl).1
    have := h'.cells (g := g) rfl i us[i] (List.getElem?_eq_getElem hi)
    rw [Go.WideShapes.add_plain] at this
    exact ⟨_, this, (h.each i _ l (List.getElem?_eq_getElem hi) hl).up hb⟩
theorem OldBB.join {W w w' : World} {v v' : Value} {us us' : List Value} {ls ls' : List (List Nat)} (h : OldBB W w v us ls) (hr : w'.ownsRow W.heap.size 28 1 v' (ls.length + ls'.length) (us ++ us')) (he : ∀ (j : Nat) (u : Value) (l : List Nat), us'[j]? = some u → ls'[j]? = some l → HasB W u l) : OldBB W w' v' (us ++ us') (ls ++ ls') := by
  refine ⟨by rw [List.length_append]; exact hr, fun j u l hu hl' => ?_⟩
  by_cases hj : j < us.length
  · rw [List.getElem?_append_left hj] at hu
    rw [List.getElem?_append_left (by rw [← h.len]; exact hj)] at hl'
    exact h.each j u l hu hl'
  · rw [List.getElem?_append_right (by omega)] at hu
    rw [List.getElem?_append_right (by rw [← h.len]; omega), ← h.len] at hl'
    exact he _ u l hu hl'
set_option maxRecDepth 100000 in
set_option maxHeartbeats 1000000 in
theorem grow_any {W : World} {n : Nat} (h0 : 0 < n) (hn : n * 24 ≤ 140737488355328) :
    Calls Tryd.prog 67 #[.slice none 0 0, .int .i64 (n : Int)] W fun e W' => ∃ v', e = .returned v' ∧ W'.ownsRow W.heap.size 28 1 v' 0 [] ∧ Below W.heap.size W W' := by
  obtain ⟨i0, hi, hz0, hz1, hz2⟩ := info_parts Tryd.infoBytes
  have hrun := Lib.run_append_nil_zeros (P := Tryd.prog) W 27 3 27 28 i0 (.slice none 0 0) .i64 .i64 Tryd.underlying27 Tryd.underlying3 hi hz0 n h0 (by rw [hz1]; decide) (by omega) (by rw [hz2]; omega)
  have hcap := grownCap_ge W n 0 28
  have hcap2 := grownCap_le_maxLen W n 0 28 (by unfold maxLen; omega)
  obtain ⟨c, hc⟩ : ∃ c, grownCap W n 0 28 = c := ⟨_, rfl⟩
  rw [hc] at hrun hcap hcap2
  have hc63 : c ≤ 9223372036854775807 := by unfold maxLen at hcap2; omega
  have n1 : decide ((n : Int) < 0) = false := decide_eq_false (by omega)
  have n2 : decide (0 < (n : Int)) = true := decide_eq_true (by omega)
  have HE : Hid (Below W.heap.size W (W.drew.alloc (.cells (Builtin.zeroCells (Value.cells (.slice none 0 0)) n ++ Builtin.zeroCells (Value.cells (.slice none 0 0)) (c - n)) 28))) := (below_drewN (Below.refl _ _) 1).alloc (Nat.le_refl _) _
  have HO : Hid ((W.drew.alloc (.cells (Builtin.zeroCells (Value.cells (.slice none 0 0)) n ++ Builtin.zeroCells (Value.cells (.slice none 0 0)) (c - n)) 28)).ownsRow W.heap.size 28 1 (.slice (some ⟨W.heap.size, 0, none⟩) 0 c) 0 []) := by
    refine ⟨rfl, .inr ⟨W.heap.size, c, _, rfl, Nat.le_refl _, heap_new W.drew _, Nat.zero_le _, hcap2, ?_, by simp⟩⟩
    have hz : ∀ k, (Builtin.zeroCells (Value.cells (.slice none 0 0)) k).size = k := fun k => by simp [Builtin.zeroCells, Value.cells]
    rw [Array.size_append, hz, hz]
    omega
  obtain ⟨wN, hwN⟩ : ∃ wN, W.drew.alloc (.cells (Builtin.zeroCells (Value.cells (.slice none 0 0)) n ++ Builtin.zeroCells (Value.cells (.slice none 0 0)) (c - n)) 28) = wN := ⟨_, rfl⟩
  rw [hwN] at hrun HE HO
  clear hwN hc hcap hcap2 hi hz0 hz1 hz2 i0
  go_enter Tryd.func67, Tryd.ntmps67
  go_wp2_with (at_builtin; refine Lib.wpList_append_run _ rfl _ _ _ _ rfl _ _ rfl rfl _ _ hrun ?_)
  go_ret
  exact ⟨_, rfl, unhide HO, unhide HE⟩
end Go.Proofs.YtoojchjfmnbdpabDoor
