import Derived.Test.YtoojchjfmnbdpabDoorDTc
namespace Go.Proofs.YtoojchjfmnbdpabDoor
open Go.RowKit
attribute [local go_sem ↓] Go.wp_at_zero Go.wp_at_succ

def wayF : Nat → List (List Nat) → Nat → List (List Nat)
  | 0, _, _ => []
  | f + 1, ls, at' => if ls.length < 2 then [] else if at' < cutN ls.length then wayF f (ls.take (cutN ls.length)) at' ++ [rootF f (ls.drop (cutN ls.length))] else wayF f (ls.drop (cutN ls.length)) (at' - cutN ls.length) ++ [rootF f (ls.take (cutN ls.length))]
theorem wayF_len : ∀ (f : Nat) (ls : List (List Nat)) (at' : Nat), (wayF f ls at').length ≤ f
  | 0, _, _ => Nat.le_refl _
  | f + 1, ls, at' => by
    unfold wayF
    split
    · simp
    · split
      · rw [List.length_append]
        have := wayF_len f (ls.take (cutN ls.length)) at'
        simp
        omega
      · rw [List.length_append]
        have := wayF_len f (ls.drop (cutN ls.length)) (at' - cutN ls.length)
        simp
        omega
theorem wayF_byt : ∀ (f : Nat) (ls : List (List Nat)) (at' : Nat), ∀ l ∈ wayF f ls at', Byt l ∧ l.length = 32
  | 0, _, _, l, h => by cases h
  | f + 1, ls, at', l, h => by
    unfold wayF at h
    split at h
    · cases h
    · split at h
      · rcases List.mem_append.1 h with h | h
        · exact wayF_byt f _ _ l h
        · rw [List.mem_singleton.1 h]; exact ⟨rootF_byt _ _, rootF_len _ _⟩
      · rcases List.mem_append.1 h with h | h
        · exact wayF_byt f _ _ l h
        · rw [List.mem_singleton.1 h]; exact ⟨rootF_byt _ _, rootF_len _ _⟩
theorem OwnBB.push0 {B C : Nat} {W w : World} {v v' u : Value} {us : List Value} {ls : List (List Nat)} {l : List Nat} (h : OwnBB B C W v us ls) (hu : HasB W u l) (hl : Lies C W v.ownBlock u)
    (hrow : w.ownsRow B 28 1 v' (ls.length + 1) (us ++ [u])) (hg : W.grownBy w v.ownBlock) (hat : v'.ownBlock = v.ownBlock ∨ v'.ownBlock = some W.heap.size) : OwnBB B C w v' (us ++ [u]) (ls ++ [l]) := by
  have hs := hg.size
  have hst : ∀ b, b < W.heap.size → some b ≠ v.ownBlock → w.heap[b]? = W.heap[b]? := fun b hb hn => hg.block b hb hn
  have hli : ∀ z, Lies C W v.ownBlock z → Lies C w v'.ownBlock z := fun z hz b hb => by
    obtain ⟨g1, g2, g3⟩ := hz b hb
    refine ⟨g1, by omega, ?_⟩
    rcases hat with e | e
    · rw [e]; exact g3
    · rw [e]
      intro e'
      have := Option.some.inj e'
      omega
  refine ⟨by rw [List.length_append]; exact hrow, fun j z m hz hm => ?_⟩
  by_cases hj : j < us.length
  · rw [List.getElem?_append_left hj] at hz
    rw [List.getElem?_append_left (by rw [← h.len]; exact hj)] at hm
    obtain ⟨h1, h2⟩ := h.each j z m hz hm
    exact ⟨h1.stays hs fun b hb hlt => hst b hlt (h2 b hb).2.2, hli z h2⟩
  · rw [List.getElem?_append_right (by omega)] at hz
    rw [List.getElem?_append_right (by rw [← h.len]; omega), ← h.len] at hm
    have hj0 : j - us.length = 0 := by
      have := (List.getElem?_eq_some_iff.1 hz).1
      simp at this
      omega
    rw [hj0] at hz hm
    simp at hz hm
    subst hz hm
    exact ⟨hu.stays hs fun b hb hlt => hst b hlt (hl b hb).2.2, hli _ hl⟩
theorem OwnBB.low {B B' : Nat} {W : World} {v : Value} {us : List Value} {ls : List (List Nat)} (h : OwnBB B B W v us ls) (hB : B' ≤ B) : OwnBB B' B' W v us ls := by
  refine ⟨?_, fun j u l hu hl => ⟨(h.each j u l hu hl).1, fun b hb => ?_⟩⟩
  · obtain ⟨h1, h2 | ⟨g, c, cur, e1, e2, e3⟩⟩ := h.row
    · exact ⟨h1, .inl h2⟩
    · exact ⟨h1, .inr ⟨g, c, cur, e1, Nat.le_trans hB e2, e3⟩⟩
  · obtain ⟨q1, q2, q3⟩ := (h.each j u l hu hl).2 b hb
    exact ⟨Nat.le_trans hB q1, q2, q3⟩
set_option maxRecDepth 100000 in
set_option maxHeartbeats 2000000 in
theorem xway_any : ∀ (f : Nat) {W : World} {v : Value} {ls : List (List Nat)} {at' : Nat}, HasX W → HasBB W v ls → (∀ l ∈ ls, Byt l ∧ l.length ≤ 140737488351232) → ls.length ≤ f → ls.length ≤ 65536 → f ≤ 65536 → at' < 65536 →
    Calls Tryd.prog 54 #[v, .int .i64 (at' : Int)] W fun e W' => ∃ v', e = .returned v' ∧ (∃ us, OwnBB W.heap.size W.heap.size W' v' us (wayF f ls at')) ∧ Below W.heap.size W W' := by
  intro f
  obtain ⟨i0, hi, hz0, hz1, hz2⟩ := info_parts Tryd.infoBytes
  induction f with
  | zero =>
    intro W v ls at' hX h hb hf hn hff hat
    obtain rfl : ls = [] := List.eq_nil_of_length_eq_zero (by omega)
    obtain ⟨va, vc, rfl, _, _⟩ := h
    have q1 : decide (((0 : Nat) : Int) < 2) = true := by decide
    go_enter Tryd.func54, Tryd.ntmps54
    go_wp2
    go_ret
    exact ⟨_, rfl, ⟨_, ownBB_nil _ _ _⟩, Below.refl _ _⟩
  | succ f ih =>
    intro W v ls at' hX h hb hf hn hff hat
    by_cases h2 : ls.length < 2
    · have eW : wayF (f + 1) ls at' = [] := by rw [wayF, if_pos h2]
      rw [eW]
      obtain ⟨va, vc, rfl, _, _⟩ := h
      have q1 : decide ((ls.length : Int) < 2) = true := decide_eq_true (by omega)
      clear ih
      go_enter Tryd.func54, Tryd.ntmps54
      go_wp2
      go_ret
      exact ⟨_, rfl, ⟨_, ownBB_nil _ _ _⟩, Below.refl _ _⟩
    · have hcut := xcut_any ls.length W (by omega) hn
      obtain ⟨k, hk⟩ : ∃ k, cutN ls.length = k := ⟨_, rfl⟩
      have k0 : 0 < k := by rw [← hk]; exact cutN_pos _
      have k1 : k < ls.length := by rw [← hk]; exact cutN_lt (by omega)
      rw [hk] at hcut
      have Hcut := hide hcut
      have Hh := hide h
      obtain ⟨va, vc, rfl, hm, h3⟩ := id h
      obtain ⟨g, off, rfl, hg, hc⟩ := h3 (by omega)
      have hvc : vc ≤ 9223372036854775807 := by have := hm.2.1; unfold maxLen at this; omega
      have hvc2 := hm.1
      have q1 : decide ((ls.length : Int) < 2) = false := decide_eq_false (by omega)
      have hne : ¬ vc = k := by omega
      have k0' : (0 : Int) ≤ (k : Int) := Int.natCast_nonneg _
      have k1' : (k : Int) ≤ (ls.length : Int) := by omega
      have k2' : (k : Int) ≤ (vc : Int) := by omega
      have hT := fun (w : World) (hw : Below W.heap.size W w) => ((unhide Hh).take k (by omega)).up hw
      have hD := fun (w : World) (hw : Below W.heap.size W w) => ((unhide Hh).drop k (by omega)).up hw
      have bT : ∀ l ∈ ls.take k, Byt l ∧ l.length ≤ 140737488351232 := fun l hl => hb l (List.mem_of_mem_take hl)
      have bD : ∀ l ∈ ls.drop k, Byt l ∧ l.length ≤ 140737488351232 := fun l hl => hb l (List.mem_of_mem_drop hl)
      have lT : (ls.take k).length = k := by rw [List.length_take]; omega
      have lD : (ls.drop k).length = ls.length - k := List.length_drop
      have HT := hide hT
      have HD := hide hD
      have LT := hide lT
      have LD := hide lD
      clear hcut h3 hc hm h hT hD lT lD
      by_cases hlt : at' < k
      · have eW : wayF (f + 1) ls at' = wayF f (ls.take k) at' ++ [rootF f (ls.drop k)] := by rw [wayF, if_neg h2, hk, if_pos hlt]
        rw [eW]
        have i1 := ih (at' := at') hX (unhide HT W (Below.refl _ _)) bT (by have := unhide LT; omega) (by have := unhide LT; omega) (by omega) hat
        have I1 := hide i1
        have q2 : decide ((at' : Int) < (k : Int)) = true := decide_eq_true (by omega)
        clear hk i1 eW
        go_enter Tryd.func54, Tryd.ntmps54
        go_wp2_with fail
        refine (unhide Hcut).mono ?_
        rintro e w' ⟨rfl, he⟩
        obtain rfl : W = w' := he.symm
        clear he
        go_wp2_with fail
        refine (unhide I1).mono ?_
        rintro e w2 ⟨v2, rfl, ⟨us2, hO2⟩, hb2⟩
        have i2 := xover_any f (hX.up hb2) (unhide HD w2 hb2) bD (by have := unhide LD; omega) (by have := unhide LD; omega)
        have I2 := hide i2
        obtain ⟨x2, y2, c2, hv2⟩ : ∃ x y z, v2 = .slice x y z := by obtain ⟨x, y, e, _⟩ := id hO2.has; exact ⟨_, _, _, e⟩
        subst hv2
        clear i2 I1 Hcut
        have hwl := wayF_len f (ls.take k) at'
        go_wp2_with fail
        refine (unhide I2).mono ?_
        rintro e w3 ⟨v3, rfl, hB3, hb3⟩
        have hO3 := hO2.up hb3
        have b03 : Below W.heap.size W w3 := hb2.trans (hb3.mono hb2.size)
        have hli : Lies W.heap.size w3 (Value.slice x2 y2 c2).ownBlock v3 := fun b hbb => by
          obtain ⟨q1, q2⟩ := hB3.lt b hbb
          refine ⟨by have := hb2.size; omega, q2, fun e => ?_⟩
          have := (hO2.row.lt b e.symm).2
          omega
        have hH3 := hB3.has
        obtain ⟨x3, y3, c3, hv3⟩ : ∃ x y z, v3 = .slice x y z := by obtain ⟨x, y, e, _⟩ := id hH3; exact ⟨_, _, _, e⟩
        subst hv3
        have HO3 := hide hO3
        have Hli := hide hli
        have HH3 := hide hH3
        have B03 := hide b03
        have hs3 := b03.size
        have O1 : Hid ((wayF f (ls.take k) at').length + 1 ≤ maxLen) := by show _ ≤ _; unfold maxLen; omega
        have O2 : Hid (((wayF f (ls.take k) at').length + 1) * 24 ≤ 140737488355328) := by show _ ≤ _; omega
        clear hO3 hli hH3 b03 hO2 hB3 hb2 hb3 I2 hwl
        go_wp2_with (at_builtin; refine wpList_append_own_at _ rfl _ _ 27 rfl W.heap.size 28 i0 (.slice none 0 0) 1 24 Tryd.underlying27 hi hz0 hz1 hz2 rfl (by decide) _ _ _ rfl ((unhide HO3).row.alloc _) ⟨w3.heap.size, 0, none⟩ 1 1 [.slice x3 y3 c3] rfl rfl (cell_one_new _ _ _) (by simp [Value.oneCell']) (unhide O1) (unhide O2) (by rw [World.size_alloc]; omega) ?_; intro v9 w9 hown9 hgrow9 hdrop9 hat9; clear hdrop9; have HP9 := hide ((unhide HO3).push (unhide HH3) (unhide Hli) hown9 hgrow9 hat9); have Hb9 : Hid (Below W.heap.size W w9) := below_grow0 (unhide B03) hs3 hgrow9 (fun b hb => ((unhide HO3).row.lt b hb).1); clear hown9 hgrow9 hat9)
        go_ret
        exact ⟨_, rfl, ⟨_, unhide HP9⟩, unhide Hb9⟩
      · have eW : wayF (f + 1) ls at' = wayF f (ls.drop k) (at' - k) ++ [rootF f (ls.take k)] := by rw [wayF, if_neg h2, hk, if_neg hlt]
        rw [eW]
        obtain ⟨aa, haa⟩ : ∃ aa, at' - k = aa := ⟨_, rfl⟩
        have eaa : (at' : Int) - (k : Int) = (aa : Int) := by omega
        rw [haa]
        have i1 := ih (at' := aa) hX (unhide HD W (Below.refl _ _)) bD (by have := unhide LD; omega) (by have := unhide LD; omega) (by omega) (by omega)
        have I1 := hide i1
        have q2 : decide ((at' : Int) < (k : Int)) = false := decide_eq_false (by omega)
        clear hk i1 eW haa
        go_enter Tryd.func54, Tryd.ntmps54
        go_wp2_with fail
        refine (unhide Hcut).mono ?_
        rintro e w' ⟨rfl, he⟩
        obtain rfl : W = w' := he.symm
        clear he
        go_wp2_with fail
        refine (unhide I1).mono ?_
        rintro e w2 ⟨v2, rfl, ⟨us2, hO2⟩, hb2⟩
        have i2 := xover_any f (hX.up hb2) (unhide HT w2 hb2) bT (by have := unhide LT; omega) (by have := unhide LT; omega)
        have I2 := hide i2
        obtain ⟨x2, y2, c2, hv2⟩ : ∃ x y z, v2 = .slice x y z := by obtain ⟨x, y, e, _⟩ := id hO2.has; exact ⟨_, _, _, e⟩
        subst hv2
        clear i2 I1 Hcut
        have hwl := wayF_len f (ls.drop k) aa
        go_wp2_with fail
        refine (unhide I2).mono ?_
        rintro e w3 ⟨v3, rfl, hB3, hb3⟩
        have hO3 := hO2.up hb3
        have b03 : Below W.heap.size W w3 := hb2.trans (hb3.mono hb2.size)
        have hli : Lies W.heap.size w3 (Value.slice x2 y2 c2).ownBlock v3 := fun b hbb => by
          obtain ⟨q1, q2⟩ := hB3.lt b hbb
          refine ⟨by have := hb2.size; omega, q2, fun e => ?_⟩
          have := (hO2.row.lt b e.symm).2
          omega
        have hH3 := hB3.has
        obtain ⟨x3, y3, c3, hv3⟩ : ∃ x y z, v3 = .slice x y z := by obtain ⟨x, y, e, _⟩ := id hH3; exact ⟨_, _, _, e⟩
        subst hv3
        have HO3 := hide hO3
        have Hli := hide hli
        have HH3 := hide hH3
        have B03 := hide b03
        have hs3 := b03.size
        have O1 : Hid ((wayF f (ls.drop k) aa).length + 1 ≤ maxLen) := by show _ ≤ _; unfold maxLen; omega
        have O2 : Hid (((wayF f (ls.drop k) aa).length + 1) * 24 ≤ 140737488355328) := by show _ ≤ _; omega
        clear hO3 hli hH3 b03 hO2 hB3 hb2 hb3 I2 hwl
        go_wp2_with (at_builtin; refine wpList_append_own_at _ rfl _ _ 27 rfl W.heap.size 28 i0 (.slice none 0 0) 1 24 Tryd.underlying27 hi hz0 hz1 hz2 rfl (by decide) _ _ _ rfl ((unhide HO3).row.alloc _) ⟨w3.heap.size, 0, none⟩ 1 1 [.slice x3 y3 c3] rfl rfl (cell_one_new _ _ _) (by simp [Value.oneCell']) (unhide O1) (unhide O2) (by rw [World.size_alloc]; omega) ?_; intro v9 w9 hown9 hgrow9 hdrop9 hat9; clear hdrop9; have HP9 := hide ((unhide HO3).push (unhide HH3) (unhide Hli) hown9 hgrow9 hat9); have Hb9 : Hid (Below W.heap.size W w9) := below_grow0 (unhide B03) hs3 hgrow9 (fun b hb => ((unhide HO3).row.lt b hb).1); clear hown9 hgrow9 hat9)
        go_ret
        exact ⟨_, rfl, ⟨_, unhide HP9⟩, unhide Hb9⟩
end Go.Proofs.YtoojchjfmnbdpabDoor
