import Derived.Test.YtoojchjfmnbdpaaDoorDMa
import Derived.Laws.AppendOwnNone
namespace Go.Proofs.YtoojchjfmnbdpaaDoor
open Go.RowKit
attribute [local go_sem ↓] Go.wp_at_zero Go.wp_at_succ

/-- How far two lists are joined. -/
def joinAt (l1 l2 : List (List Nat)) : Nat → List (List Nat)
  | 0 => []
  | 1 => l1
  | _ => l1 ++ l2
set_option maxRecDepth 100000 in
set_option maxHeartbeats 4000000 in
theorem concat_any {W : World} {g : Nat} {v1 v2 : Value} {l1 l2 : List (List Nat)} (c0 : W.cell? ⟨g, 0, none⟩ = some v1) (c1 : W.cell? ⟨g, 1, none⟩ = some v2) (h1 : HasBB W v1 l1) (h2 : HasBB W v2 l2) (hp : 0 < l1.length + l2.length) (hn : (l1.length + l2.length) * 24 ≤ 140737488355328) :
    Calls Tryd.prog 35 #[.slice (some ⟨g, 0, none⟩) 2 2] W fun e W' => ∃ v' us, e = .returned v' ∧ OldBB W W' v' us (l1 ++ l2) ∧ Below W.heap.size W W' := by
  obtain ⟨i0, hi, hz0, hz1, hz2⟩ := info_parts Tryd.infoBytes
  have Hv1 := hide h1
  have Hv2 := hide h2
  have hg : g < W.heap.size := World.block_lt_of_cell? W _ c0
  obtain ⟨a1, k1, rfl, _, _⟩ := h1
  obtain ⟨a2, k2, rfl, _, _⟩ := h2
  have hln : l1.length + l2.length ≤ 5864062014805 := by omega
  go_enter Tryd.func35, Tryd.ntmps35
  go_wp2
  go_loopg [3, 11] 2 (fun gk v3 v11 wr => ∃ (i : Nat), v11 = .int .i64 (i : Int) ∧ v3 = .int .i64 (((joinAt l1 l2 i).length : Nat) : Int) ∧ gk = 2 - i ∧ (i = 0 ∨ i = 1 ∨ i = 2) ∧ wr = W)
  case atStart => exact ⟨0, rfl, rfl, rfl, .inl rfl, rfl⟩
  case round =>
    obtain ⟨i, rfl, rfl, hgk, hk, hwr⟩ := hrel
    obtain rfl : W = wr := hwr.symm
    clear hwr
    rcases hk with rfl | rfl | rfl
    · simp only [joinAt]
      have q1 : decide ((l1.length : Int) < 0) = false := decide_eq_false (by omega)
      go_wp2
      go_roundg 1
      case measure => omega
      case rel => exact ⟨1, rfl, by simp [joinAt], rfl, .inr (.inl rfl), rfl⟩
    · simp only [joinAt]
      have q1 : decide ((l1.length : Int) + (l2.length : Int) < 0) = false := decide_eq_false (by omega)
      go_wp2
      go_roundg 0
      case measure => omega
      case rel => exact ⟨2, rfl, by simp [joinAt], rfl, .inr (.inr rfl), rfl⟩
    · simp only [joinAt]
      have hgr := grow_any (W := W) (n := (l1 ++ l2).length) (by rw [List.length_append]; omega) (by rw [List.length_append]; omega)
      have Hgr := hide hgr
      obtain ⟨NN, hNN⟩ : ∃ NN, (l1 ++ l2).length = NN := ⟨_, rfl⟩
      rw [hNN] at Hgr ⊢
      clear hgr hNN
      go_wp2_with fail
      refine (unhide Hgr).mono ?_
      rintro e w1 ⟨v6, rfl, hr6, hb6⟩
      have HO0 : Hid (OldBB W w1 v6 [] (joinAt l1 l2 0)) := ⟨hr6, fun j u l hu => by simp at hu⟩
      have HB0 := hide hb6
      clear hr6 hb6 Hgr
      go_wp2
      go_loopg [6, 27] 2 (fun gk v6 v27 wr => ∃ (i : Nat) (us : List Value), v27 = .int .i64 (i : Int) ∧ gk = 2 - i ∧ (i = 0 ∨ i = 1 ∨ i = 2) ∧ Hid (OldBB W wr v6 us (joinAt l1 l2 i)) ∧ Hid (Below W.heap.size W wr))
      case atStart => exact ⟨0, [], rfl, rfl, .inl rfl, HO0, HB0⟩
      case round =>
        clear HO0 HB0
        obtain ⟨i, us, rfl, hgk, hk, HO, HB⟩ := hrel
        rcases hk with rfl | rfl | rfl
        · -- 0
          obtain ⟨us', hl', he', a', c', hv', hnone', hsome'⟩ := (unhide Hv1).vals
          injection hv' with hva _ hvc
          subst hva hvc
          have hsz := (unhide HB).size
          have cc : wr.cell? ⟨g, 0, none⟩ = some (.slice a1 l1.length k1) := ((unhide HB).cell (p := ⟨g, 0, none⟩) hg).trans c0
          rcases a1 with _ | ad
          · obtain ⟨e1, rfl⟩ := hnone' rfl
            have e2 : l1 = [] := List.eq_nil_of_length_eq_zero e1
            have HOn : Hid (OldBB W wr u6 us (joinAt l1 l2 1)) := by
              show OldBB _ _ _ _ _
              have := unhide HO
              simp only [joinAt] at this ⊢
              rw [e2]
              exact this
            subst e2
            clear hl' he' hsome' e1
            go_wp2_with (at_builtin; refine wpList_append_own_none rfl _ _ 23 rfl W.heap.size 22 i0 1 Tryd.underlying23 hi _ _ _ rfl (unhide HO).row rfl ?_)
            go_roundg (2 - 1)
            case measure => omega
            case rel => exact ⟨1, us, by go_num, rfl, .inr (.inl rfl), HOn, HB⟩
          · have hnews : ∀ j u, us'[j]? = some u → wr.cell? (ad.add j) = some u := fun j u hu => by
              have h1 := hsome' ad rfl j u hu
              exact ((unhide HB).cell (p := ad.add j) (by have := World.block_lt_of_cell? W _ h1; simpa using this)).trans h1
            have hone : ∀ u ∈ us', u.oneCell' = true := fun u hu => by
              obtain ⟨j, hj, rfl⟩ := List.getElem_of_mem hu
              exact (he' j _ l1[j] (List.getElem?_eq_getElem hj) (List.getElem?_eq_getElem (by omega))).one
            have Hnews := hide hnews
            have Hone := hide hone
            have Hl' := hide hl'
            have He' := hide he'
            have O1 : Hid (([] : List (List Nat)).length + l1.length ≤ maxLen) := by show _ ≤ _; unfold maxLen; (try simp only [List.length_nil]); omega
            have O2 : Hid ((([] : List (List Nat)).length + l1.length) * 24 ≤ 140737488355328) := by show _ ≤ _; (try simp only [List.length_nil]); omega
            clear hnews hone hl' he' hsome' hnone'
            go_wp2_with (at_builtin; refine wpList_append_own_at _ rfl _ _ 23 rfl W.heap.size 22 i0 (.slice none 0 0) 1 24 Tryd.underlying23 hi hz0 hz1 hz2 rfl (by decide) _ _ _ rfl (unhide HO).row ad l1.length k1 us' rfl (by have := unhide Hl'; omega) (unhide Hnews) (unhide Hone) (unhide O1) (unhide O2) hsz ?_; intro v8 w8 hown8 hgrow8 hdrop8 hat8; clear hdrop8 hat8; have HO8 := hide ((unhide HO).join hown8 (unhide He')); have Hb8 : Hid (Below W.heap.size W w8) := (unhide HB).trans ⟨hgrow8.os, hgrow8.tape, hgrow8.output, hgrow8.size, fun b hb => hgrow8.block b (by omega) (fun e => by have := ((unhide HO).row.lt b e.symm).1; omega)⟩; clear hown8 hgrow8)
            go_roundg (2 - 1)
            case measure => omega
            case rel => exact ⟨1, us ++ us', by go_num, rfl, .inr (.inl rfl), (by simpa [joinAt] using HO8), Hb8⟩
        · -- 1
          obtain ⟨us', hl', he', a', c', hv', hnone', hsome'⟩ := (unhide Hv2).vals
          injection hv' with hva _ hvc
          subst hva hvc
          have hsz := (unhide HB).size
          have cc : wr.cell? ⟨g, 1, none⟩ = some (.slice a2 l2.length k2) := ((unhide HB).cell (p := ⟨g, 1, none⟩) hg).trans c1
          rcases a2 with _ | ad
          · obtain ⟨e1, rfl⟩ := hnone' rfl
            have e2 : l2 = [] := List.eq_nil_of_length_eq_zero e1
            have HOn : Hid (OldBB W wr u6 us (joinAt l1 l2 2)) := by
              show OldBB _ _ _ _ _
              have := unhide HO
              simp only [joinAt] at this ⊢
              rw [e2, List.append_nil]
              exact this
            subst e2
            clear hl' he' hsome' e1
            go_wp2_with (at_builtin; refine wpList_append_own_none rfl _ _ 23 rfl W.heap.size 22 i0 1 Tryd.underlying23 hi _ _ _ rfl (unhide HO).row rfl ?_)
            go_roundg (2 - 2)
            case measure => omega
            case rel => exact ⟨2, us, by go_num, rfl, .inr (.inr rfl), HOn, HB⟩
          · have hnews : ∀ j u, us'[j]? = some u → wr.cell? (ad.add j) = some u := fun j u hu => by
              have h1 := hsome' ad rfl j u hu
              exact ((unhide HB).cell (p := ad.add j) (by have := World.block_lt_of_cell? W _ h1; simpa using this)).trans h1
            have hone : ∀ u ∈ us', u.oneCell' = true := fun u hu => by
              obtain ⟨j, hj, rfl⟩ := List.getElem_of_mem hu
              exact (he' j _ l2[j] (List.getElem?_eq_getElem hj) (List.getElem?_eq_getElem (by omega))).one
            have Hnews := hide hnews
            have Hone := hide hone
            have Hl' := hide hl'
            have He' := hide he'
            have O1 : Hid ((l1).length + l2.length ≤ maxLen) := by show _ ≤ _; unfold maxLen; (try simp only [List.length_nil]); omega
            have O2 : Hid (((l1).length + l2.length) * 24 ≤ 140737488355328) := by show _ ≤ _; (try simp only [List.length_nil]); omega
            clear hnews hone hl' he' hsome' hnone'
            go_wp2_with (at_builtin; refine wpList_append_own_at _ rfl _ _ 23 rfl W.heap.size 22 i0 (.slice none 0 0) 1 24 Tryd.underlying23 hi hz0 hz1 hz2 rfl (by decide) _ _ _ rfl (unhide HO).row ad l2.length k2 us' rfl (by have := unhide Hl'; omega) (unhide Hnews) (unhide Hone) (unhide O1) (unhide O2) hsz ?_; intro v8 w8 hown8 hgrow8 hdrop8 hat8; clear hdrop8 hat8; have HO8 := hide ((unhide HO).join hown8 (unhide He')); have Hb8 : Hid (Below W.heap.size W w8) := (unhide HB).trans ⟨hgrow8.os, hgrow8.tape, hgrow8.output, hgrow8.size, fun b hb => hgrow8.block b (by omega) (fun e => by have := ((unhide HO).row.lt b e.symm).1; omega)⟩; clear hown8 hgrow8)
            go_roundg (2 - 2)
            case measure => omega
            case rel => exact ⟨2, us ++ us', by go_num, rfl, .inr (.inr rfl), HO8, Hb8⟩
        · go_wp2
          go_ret
          exact ⟨_, us, rfl, unhide HO, unhide HB⟩
end Go.Proofs.YtoojchjfmnbdpaaDoor
