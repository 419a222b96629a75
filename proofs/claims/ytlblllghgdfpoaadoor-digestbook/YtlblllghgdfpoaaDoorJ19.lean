import Derived.Test.YtlblllghgdfpoaaDoorJ18
import Derived.Lib.AppendZeros
import Derived.Laws.AppendOwnNone

namespace Go.Proofs.YtlblllghgdfpoaaDoor
open Go.RowKit
attribute [local go_sem ↓] Go.wp_at_zero Go.wp_at_succ

/-- A text as numbers. -/
def sl (s : ByteArray) : List Nat := s.data.toList.map UInt8.toNat
theorem sl_len (s : ByteArray) : (sl s).length = s.size := by unfold sl; rw [List.length_map, Array.length_toList]; rfl
theorem sl_byt (s : ByteArray) : Byt (sl s) := by
  intro x hx
  obtain ⟨b, _, rfl⟩ := List.mem_map.1 hx
  exact b.toNat_lt
theorem str_bytes (W : World) (s : ByteArray) (hn : s.size ≤ 140737488355328) : ∃ c w', (convert 9 29 (.string s)).run Tryd.prog W = .ok (.slice (some ⟨W.heap.size, 0, none⟩) s.size c) w' ∧ HasB w' (.slice (some ⟨W.heap.size, 0, none⟩) s.size c) (sl s) ∧ Below W.heap.size W w' ∧ w'.heap.size = W.heap.size + 1 := by
  refine ⟨_, _, run_bytes_of_string W 9 29 5 s Tryd.underlying9 Tryd.underlying29 Tryd.underlying5, ⟨some ⟨W.heap.size, 0, none⟩, _, by rw [sl_len], ⟨by rw [sl_len]; exact grownCap_ge _ _ _ _, grownCap_le_maxLen _ _ _ _ (by unfold maxLen; omega), nofun⟩, fun _ => ⟨W.heap.size, 0, rfl, by rw [World.size_alloc]; show W.heap.size < W.heap.size + 1; omega, fun i b hb => ?_⟩⟩, ?_, by rw [World.size_alloc]; rfl⟩
  · have hh : ∀ o, (W.drew.alloc o).heap[W.heap.size]? = some o := fun o => heap_new W.drew o
    rw [Nat.zero_add, cell_of_row _ _ _ _ _ _ (hh _)]
    unfold bytesRow
    have hi : i < s.data.size := by have := (List.getElem?_eq_some_iff.1 hb).1; rw [sl_len] at this; exact this
    rw [Array.getElem?_append_left (by simpa using hi)]
    unfold sl at hb
    rw [List.getElem?_map] at hb
    obtain ⟨x, hx, rfl⟩ := Option.map_eq_some_iff.1 hb
    rw [Array.getElem?_map, ← Array.getElem?_toList, hx]
    rfl
  · exact (below_drewN (Below.refl _ _) 1).alloc (Nat.le_refl _) _
/-- The cells of lists that can be read. -/
theorem HasBB.vals {W : World} {v : Value} {ls : List (List Nat)} (h : HasBB W v ls) : ∃ us : List Value, us.length = ls.length ∧ (∀ (j : Nat) (u : Value) (l : List Nat), us[j]? = some u → ls[j]? = some l → HasB W u l) ∧ ∃ a c, v = .slice a ls.length c ∧ (a = none → ls.length = 0 ∧ c = 0) ∧ ∀ ad, a = some ad → ∀ j u, us[j]? = some u → W.cell? (ad.add j) = some u := by
  obtain ⟨a, c, rfl, hm, h3⟩ := h
  by_cases hp : 0 < ls.length
  · obtain ⟨g, off, rfl, hg, hc⟩ := h3 hp
    have each : ∀ i, ∃ u, ∀ l, ls[i]? = some l → W.cell? ⟨g, off + i, none⟩ = some u ∧ HasB W u l := fun i => by
      rcases hl : ls[i]? with _ | l
      · exact ⟨.slice none 0 0, fun l h => by cases h⟩
      · obtain ⟨u, h1, h2⟩ := hc i l hl
        exact ⟨u, fun l' h => by injection h with h; subst h; exact ⟨h1, h2⟩⟩
    obtain ⟨V, hV⟩ := Classical.axiomOfChoice each
    have hat : ∀ (j : Nat) (u : Value), ((List.range ls.length).map V)[j]? = some u → j < ls.length ∧ u = V j := fun j u hu => by
      rw [List.getElem?_map] at hu
      obtain ⟨k, hk, rfl⟩ := Option.map_eq_some_iff.1 hu
      have hj := (List.getElem?_eq_some_iff.1 hk).1
      rw [List.length_range] at hj
      rw [List.getElem?_range hj] at hk
      exact ⟨hj, by rw [Option.some.inj hk]⟩
    refine ⟨(List.range ls.length).map V, by simp, fun j u l hu hl => ?_, _, c, rfl, nofun, fun ad e j u hu => ?_⟩
    · obtain ⟨_, rfl⟩ := hat j u hu
      exact (hV j l hl).2
    · obtain ⟨hj, rfl⟩ := hat j u hu
      obtain rfl := Option.some.inj e
      rw [Go.WideShapes.add_plain]
      exact (hV j _ (List.getElem?_eq_getElem hj)).1
  · have h0 : ls.length = 0 := by omega
    exact ⟨[], by simp [h0], fun j u l hu => by simp at hu, a, c, rfl, fun e => ⟨h0, hm.2.2 e⟩, fun ad _ j u hu => by simp at hu⟩
theorem HasB.one {W : World} {v : Value} {l : List Nat} (h : HasB W v l) : v.oneCell' = true := by
  obtain ⟨a, c, rfl, _⟩ := h
  rfl
/-- Older lists in a row of the call's own. -/
structure OldBB (W w : World) (v : Value) (us : List Value) (ls : List (List Nat)) : Prop where
  row : w.ownsRow W.heap.size 29 1 v ls.length us
  each : ∀ (j : Nat) (u : Value) (l : List Nat), us[j]? = some u → ls[j]? = some l → HasB W u l
theorem OldBB.len {W w : World} {v : Value} {us : List Value} {ls : List (List Nat)} (h : OldBB W w v us ls) : us.length = ls.length := by have := h.row.1; omega
theorem OldBB.has {W w : World} {v : Value} {us : List Value} {ls : List (List Nat)} (h : OldBB W w v us ls) (hb : Below W.heap.size W w) : HasBB w v ls := by
  have hr := h.row
  have h' := hr
  obtain ⟨_, ⟨rfl, h0⟩ | ⟨g, c, cur, rfl, _, _, hc1, hc2, _⟩⟩ := hr
  · exact ⟨none, 0, by rw [h0], by rw [h0]; exact ⟨Nat.le_refl _, Nat.zero_le _, fun _ => rfl⟩, fun hp => by omega⟩
  · refine ⟨some ⟨g, 0, none⟩, c, rfl, ⟨hc1, hc2, nofun⟩, fun _ => ⟨g, 0, rfl, (h'.lt g rfl).2, fun i l hl => ?_⟩⟩
    have hi : i < us.length := by rw [h.len]; exact (List.getElem?_eq_some_iff.1 hl).1
    have := h'.cells (g := g) rfl i us[i] (List.getElem?_eq_getElem hi)
    rw [Go.WideShapes.add_plain] at this
    exact ⟨_, this, (h.each i _ l (List.getElem?_eq_getElem hi) hl).up hb⟩
theorem OldBB.join {W w w' : World} {v v' : Value} {us us' : List Value} {ls ls' : List (List Nat)} (h : OldBB W w v us ls) (hr : w'.ownsRow W.heap.size 29 1 v' (ls.length + ls'.length) (us ++ us')) (he : ∀ (j : Nat) (u : Value) (l : List Nat), us'[j]? = some u → ls'[j]? = some l → HasB W u l) : OldBB W w' v' (us ++ us') (ls ++ ls') := by
  refine ⟨by rw [List.length_append]; exact hr, fun j u l hu hl' => ?_⟩
  by_cases hj : j < us.length
  · rw [List.getElem?_append_left hj] at hu
    rw [List.getElem?_append_left (by rw [← h.len]; exact hj)] at hl'
    exact h.each j u l hu hl'
  · rw [List.getElem?_append_right (by omega)] at hu
    rw [List.getElem?_append_right (by rw [← h.len]; omega), ← h.len] at hl'
    exact he _ u l hu hl'
set_option maxRecDepth 100000 in
set_option maxHeartbeats 1000000 in
theorem grow_any {W : World} {n : Nat} (h0 : 0 < n) (hn : n * 24 ≤ 140737488355328) :
    Calls Tryd.prog 45 #[.slice none 0 0, .int .i64 (n : Int)] W fun e W' => ∃ v', e = .returned v' ∧ W'.ownsRow W.heap.size 29 1 v' 0 [] ∧ Below W.heap.size W W' := by
  obtain ⟨i0, hi, hz0, hz1, hz2⟩ := info_parts Tryd.infoBytes
  have hrun := Lib.run_append_nil_zeros (P := Tryd.prog) W 22 3 22 29 i0 (.slice none 0 0) .i64 .i64 Tryd.underlying22 Tryd.underlying3 hi hz0 n h0 (by rw [hz1]; decide) (by omega) (by rw [hz2]; omega)
  have hcap := grownCap_ge W n 0 29
  have hcap2 := grownCap_le_maxLen W n 0 29 (by unfold maxLen; omega)
  obtain ⟨c, hc⟩ : ∃ c, grownCap W n 0 29 = c := ⟨_, rfl⟩
  rw [hc] at hrun hcap hcap2
  have hc63 : c ≤ 9223372036854775807 := by unfold maxLen at hcap2; omega
  have n1 : decide ((n : Int) < 0) = false := decide_eq_false (by omega)
  have n2 : decide (0 < (n : Int)) = true := decide_eq_true (by omega)
  have HE : Hid (Below W.heap.size W (W.drew.alloc (.cells (Builtin.zeroCells (Value.cells (.slice none 0 0)) n ++ Builtin.zeroCells (Value.cells (.slice none 0 0)) (c - n)) 29))) := (below_drewN (Below.refl _ _) 1).alloc (Nat.le_refl _) _
  have HO : Hid ((W.drew.alloc (.cells (Builtin.zeroCells (Value.cells (.slice none 0 0)) n ++ Builtin.zeroCells (Value.cells (.slice none 0 0)) (c - n)) 29)).ownsRow W.heap.size 29 1 (.slice (some ⟨W.heap.size, 0, none⟩) 0 c) 0 []) := by
    refine ⟨rfl, .inr ⟨W.heap.size, c, _, rfl, Nat.le_refl _, heap_new W.drew _, Nat.zero_le _, hcap2, ?_, by simp⟩⟩
    have hz : ∀ k, (Builtin.zeroCells (Value.cells (.slice none 0 0)) k).size = k := fun k => by simp [Builtin.zeroCells, Value.cells]
    rw [Array.size_append, hz, hz]
    omega
  obtain ⟨wN, hwN⟩ : ∃ wN, W.drew.alloc (.cells (Builtin.zeroCells (Value.cells (.slice none 0 0)) n ++ Builtin.zeroCells (Value.cells (.slice none 0 0)) (c - n)) 29) = wN := ⟨_, rfl⟩
  rw [hwN] at hrun HE HO
  clear hwN hc hcap hcap2 hi hz0 hz1 hz2 i0
  go_enter Tryd.func45, Tryd.ntmps45
  go_wp2_with (at_builtin; refine Lib.wpList_append_run _ rfl _ _ _ _ rfl _ _ rfl rfl _ _ hrun ?_)
  go_ret
  exact ⟨_, rfl, unhide HO, unhide HE⟩
end Go.Proofs.YtlblllghgdfpoaaDoor

namespace Go.Proofs.YtlblllghgdfpoaaDoor
open Go.RowKit
attribute [local go_sem ↓] Go.wp_at_zero Go.wp_at_succ

/-- How far two lists are joined. -/
def joinAt (l1 l2 : List (List Nat)) : Nat → List (List Nat)
  | 0 => []
  | 1 => l1
  | _ => l1 ++ l2
set_option maxRecDepth 100000 in
set_option maxHeartbeats 4000000 in
theorem concat_any {W : World} {g : Nat} {v1 v2 : Value} {l1 l2 : List (List Nat)} (c0 : W.cell? ⟨g, 0, none⟩ = some v1) (c1 : W.cell? ⟨g, 1, none⟩ = some v2) (h1 : HasBB W v1 l1) (h2 : HasBB W v2 l2) (hp : 0 < l1.length + l2.length) (hn : (l1.length + l2.length) * 24 ≤ 140737488355328) :
    Calls Tryd.prog 28 #[.slice (some ⟨g, 0, none⟩) 2 2] W fun e W' => ∃ v' us, e = .returned v' ∧ OldBB W W' v' us (l1 ++ l2) ∧ Below W.heap.size W W' := by
  obtain ⟨i0, hi, hz0, hz1, hz2⟩ := info_parts Tryd.infoBytes
  have Hv1 := hide h1
  have Hv2 := hide h2
  have hg : g < W.heap.size := World.block_lt_of_cell? W _ c0
  obtain ⟨a1, k1, rfl, _, _⟩ := h1
  obtain ⟨a2, k2, rfl, _, _⟩ := h2
  have hln : l1.length + l2.length ≤ 5864062014805 := by omega
  go_enter Tryd.func28, Tryd.ntmps28
  go_wp2
  go_loopg [3, 11] 2 (fun gk v3 v11 wr => ∃ (i : Nat), v11 = .int .i64 (i : Int) ∧ v3 = .int .i64 (((joinAt l1 l2 i).length : Nat) : Int) ∧ gk = 2 - i ∧ (i = 0 ∨ i = 1 ∨ i = 2) ∧ wr = W)
  case atStart => exact ⟨0, rfl, rfl, rfl, .inl rfl, rfl⟩
  case round =>
    obtain ⟨i, rfl, rfl, hgk, hk, hwr⟩ := hrel
    obtain rfl : W = wr := hwr.symm
    clear hwr
    rcases hk with rfl | rfl | rfl
    · simp only [joinAt]
      have q1 : decide ((l1.length : Int) < 0) = false := decide_eq_false (by omega)
      go_wp2
      go_roundg 1
      case measure => omega
      case rel => exact ⟨1, rfl, by simp [joinAt], rfl, .inr (.inl rfl), rfl⟩
    · simp only [joinAt]
      have q1 : decide ((l1.length : Int) + (l2.length : Int) < 0) = false := decide_eq_false (by omega)
      go_wp2
      go_roundg 0
      case measure => omega
      case rel => exact ⟨2, rfl, by simp [joinAt], rfl, .inr (.inr rfl), rfl⟩
    · simp only [joinAt]
      have hgr := grow_any (W := W) (n := (l1 ++ l2).length) (by rw [List.length_append]; omega) (by rw [List.length_append]; omega)
      have Hgr := hide hgr
      obtain ⟨NN, hNN⟩ : ∃ NN, (l1 ++ l2).length = NN := ⟨_, rfl⟩
      rw [hNN] at Hgr ⊢
      clear hgr hNN
      go_wp2_with fail
      refine (unhide Hgr).mono ?_
      rintro e w1 ⟨v6, rfl, hr6, hb6⟩
      have HO0 : Hid (OldBB W w1 v6 [] (joinAt l1 l2 0)) := ⟨hr6, fun j u l hu => by simp at hu⟩
      have HB0 := hide hb6
      clear hr6 hb6 Hgr
      go_wp2
      go_loopg [6, 27] 2 (fun gk v6 v27 wr => ∃ (i : Nat) (us : List Value), v27 = .int .i64 (i : Int) ∧ gk = 2 - i ∧ (i = 0 ∨ i = 1 ∨ i = 2) ∧ Hid (OldBB W wr v6 us (joinAt l1 l2 i)) ∧ Hid (Below W.heap.size W wr))
      case atStart => exact ⟨0, [], rfl, rfl, .inl rfl, HO0, HB0⟩
      case round =>
        clear HO0 HB0
        obtain ⟨i, us, rfl, hgk, hk, HO, HB⟩ := hrel
        rcases hk with rfl | rfl | rfl
        · -- 0
          obtain ⟨us', hl', he', a', c', hv', hnone', hsome'⟩ := (unhide Hv1).vals
          injection hv' with hva _ hvc
          subst hva hvc
          have hsz := (unhide HB).size
          have cc : wr.cell? ⟨g, 0, none⟩ = some (.slice a1 l1.length k1) := ((unhide HB).cell (p := ⟨g, 0, none⟩) hg).trans c0
          rcases a1 with _ | ad
          · obtain ⟨e1, rfl⟩ := hnone' rfl
            have e2 : l1 = [] := List.eq_nil_of_length_eq_zero e1
            have HOn : Hid (OldBB W wr u6 us (joinAt l1 l2 1)) := by
              show OldBB _ _ _ _ _
              have := unhide HO
              simp only [joinAt] at this ⊢
              rw [e2]
              exact this
            subst e2
            clear hl' he' hsome' e1
            go_wp2_with (at_builtin; refine wpList_append_own_none rfl _ _ 22 rfl W.heap.size 29 i0 1 Tryd.underlying22 hi _ _ _ rfl (unhide HO).row rfl ?_)
            go_roundg (2 - 1)
            case measure => omega
            case rel => exact ⟨1, us, by go_num, rfl, .inr (.inl rfl), HOn, HB⟩
          · have hnews : ∀ j u, us'[j]? = some u → wr.cell? (ad.add j) = some u := fun j u hu => by
              have h1 := hsome' ad rfl j u hu
              exact ((unhide HB).cell (p := ad.add j) (by have := World.block_lt_of_cell? W _ h1; simpa using this)).trans h1
            have hone : ∀ u ∈ us', u.oneCell' = true := fun u hu => by
              obtain ⟨j, hj, rfl⟩ := List.getElem_of_mem hu
              exact (he' j _ l1[j] (List.getElem?_eq_getElem hj) (List.getElem?_eq_getElem (by omega))).one
            have Hnews := hide hnews
            have Hone := hide hone
            have Hl' := hide hl'
            have He' := hide he'
            have O1 : Hid (([] : List (List Nat)).length + l1.length ≤ maxLen) := by show _ ≤ _; unfold maxLen; (try simp only [List.length_nil]); omega
            have O2 : Hid ((([] : List (List Nat)).length + l1.length) * 24 ≤ 140737488355328) := by show _ ≤ _; (try simp only [List.length_nil]); omega
            clear hnews hone hl' he' hsome' hnone'
            go_wp2_with (at_builtin; refine wpList_append_own_at _ rfl _ _ 22 rfl W.heap.size 29 i0 (.slice none 0 0) 1 24 Tryd.underlying22 hi hz0 hz1 hz2 rfl (by decide) _ _ _ rfl (unhide HO).row ad l1.length k1 us' rfl (by have := unhide Hl'; omega) (unhide Hnews) (unhide Hone) (unhide O1) (unhide O2) hsz ?_; intro v8 w8 hown8 hgrow8 hdrop8 hat8; clear hdrop8 hat8; have HO8 := hide ((unhide HO).join hown8 (unhide He')); have Hb8 : Hid (Below W.heap.size W w8) := (unhide HB).trans ⟨hgrow8.os, hgrow8.tape, hgrow8.output, hgrow8.size, fun b hb => hgrow8.block b (by omega) (fun e => by have := ((unhide HO).row.lt b e.symm).1; omega)⟩; clear hown8 hgrow8)
            go_roundg (2 - 1)
            case measure => omega
            case rel => exact ⟨1, us ++ us', by go_num, rfl, .inr (.inl rfl), (by simpa [joinAt] using HO8), Hb8⟩
        · -- 1
          obtain ⟨us', hl', he', a', c', hv', hnone', hsome'⟩ := (unhide Hv2).vals
          injection hv' with hva _ hvc
          subst hva hvc
          have hsz := (unhide HB).size
          have cc : wr.cell? ⟨g, 1, none⟩ = some (.slice a2 l2.length k2) := ((unhide HB).cell (p := ⟨g, 1, none⟩) hg).trans c1
          rcases a2 with _ | ad
          · obtain ⟨e1, rfl⟩ := hnone' rfl
            have e2 : l2 = [] := List.eq_nil_of_length_eq_zero e1
            have HOn : Hid (OldBB W wr u6 us (joinAt l1 l2 2)) := by
              show OldBB _ _ _ _ _
              have := unhide HO
              simp only [joinAt] at this ⊢
              rw [e2, List.append_nil]
              exact this
            subst e2
            clear hl' he' hsome' e1
            go_wp2_with (at_builtin; refine wpList_append_own_none rfl _ _ 22 rfl W.heap.size 29 i0 1 Tryd.underlying22 hi _ _ _ rfl (unhide HO).row rfl ?_)
            go_roundg (2 - 2)
            case measure => omega
            case rel => exact ⟨2, us, by go_num, rfl, .inr (.inr rfl), HOn, HB⟩
          · have hnews : ∀ j u, us'[j]? = some u → wr.cell? (ad.add j) = some u := fun j u hu => by
              have h1 := hsome' ad rfl j u hu
              exact ((unhide HB).cell (p := ad.add j) (by have := World.block_lt_of_cell? W _ h1; simpa using this)).trans h1
            have hone : ∀ u ∈ us', u.oneCell' = true := fun u hu => by
              obtain ⟨j, hj, rfl⟩ := List.getElem_of_mem hu
              exact (he' j _ l2[j] (List.getElem?_eq_getElem hj) (List.getElem?_eq_getElem (by omega))).one
            have Hnews := hide hnews
            have Hone := hide hone
            have Hl' := hide hl'
            have He' := hide he'
            have O1 : Hid ((l1).length + l2.length ≤ maxLen) := by show _ ≤ _; unfold maxLen; (try simp only [List.length_nil]); omega
            have O2 : Hid (((l1).length + l2.length) * 24 ≤ 140737488355328) := by show _ ≤ _; (try simp only [List.length_nil]); omega
            clear hnews hone hl' he' hsome' hnone'
            go_wp2_with (at_builtin; refine wpList_append_own_at _ rfl _ _ 22 rfl W.heap.size 29 i0 (.slice none 0 0) 1 24 Tryd.underlying22 hi hz0 hz1 hz2 rfl (by decide) _ _ _ rfl (unhide HO).row ad l2.length k2 us' rfl (by have := unhide Hl'; omega) (unhide Hnews) (unhide Hone) (unhide O1) (unhide O2) hsz ?_; intro v8 w8 hown8 hgrow8 hdrop8 hat8; clear hdrop8 hat8; have HO8 := hide ((unhide HO).join hown8 (unhide He')); have Hb8 : Hid (Below W.heap.size W w8) := (unhide HB).trans ⟨hgrow8.os, hgrow8.tape, hgrow8.output, hgrow8.size, fun b hb => hgrow8.block b (by omega) (fun e => by have := ((unhide HO).row.lt b e.symm).1; omega)⟩; clear hown8 hgrow8)
            go_roundg (2 - 2)
            case measure => omega
            case rel => exact ⟨2, us ++ us', by go_num, rfl, .inr (.inr rfl), HO8, Hb8⟩
        · go_wp2
          go_ret
          exact ⟨_, us, rfl, unhide HO, unhide HB⟩
end Go.Proofs.YtlblllghgdfpoaaDoor
