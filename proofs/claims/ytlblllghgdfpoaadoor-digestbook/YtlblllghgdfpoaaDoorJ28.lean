import Derived.Test.YtlblllghgdfpoaaDoorDTb
import Derived.Test.YtlblllghgdfpoaaDoorDRe
import Derived.Test.YtlblllghgdfpoaaDoorDFx
import Derived.Test.YtlblllghgdfpoaaDoorJ01

namespace Go.Proofs.YtlblllghgdfpoaaDoor
open Go.RowKit
attribute [local go_sem ↓] Go.wp_at_zero Go.wp_at_succ

set_option maxRecDepth 100000 in
set_option maxHeartbeats 2000000 in
theorem xjoined_any {W : World} {v u : Value} {x : Nat} {l m : List Nat} (h : HasB W v l) (g : HasB W u m) (hn : l.length + m.length ≤ 140737488351240) :
    Calls Tryd.prog 64 #[.int .u8 (x : Int), v, u] W fun e W' => ∃ v', e = .returned v' ∧ Bytes W.heap.size W' v' (x :: (l ++ m)) ∧ Below W.heap.size W W' := by
  obtain ⟨i0, hi, hz0, hz1, hz2⟩ := info_parts Tryd.infoByte
  obtain ⟨va, vc, rfl, hm1, h3⟩ := h
  obtain ⟨ua, uc, rfl, hm2, g3⟩ := g
  have H3 := hide h3
  have G3 := hide g3
  have b1 : Below W.heap.size W (W.alloc (.cells #[.int .u8 (x : Int)] 5)) := (Below.refl _ _).alloc (Nat.le_refl _) _
  have HY0 : Hid (Bytes W.heap.size (W.alloc (.cells #[.int .u8 (x : Int)] 5)) (.slice (some ⟨W.heap.size, 0, none⟩) 1 1) ([x] ++ l.take 0)) := by
    show Bytes _ _ _ _
    rw [List.take_zero]
    exact ⟨rfl, .inr ⟨W.heap.size, 1, #[.int .u8 (x : Int)], rfl, Nat.le_refl _, heap_new _ _, Nat.le_refl _, by unfold maxLen; decide, rfl, rfl⟩⟩
  have HB0 := hide b1
  clear h3 g3 hm1 hm2 b1
  go_enter Tryd.func64, Tryd.ntmps64
  go_wp2
  go_loopg [7, 8] l.length (fun gk v7 v8 wr => ∃ (k : Nat), v8 = .int .i64 (k : Int) ∧ gk = l.length - k ∧ k ≤ l.length ∧ Hid (Bytes W.heap.size wr v7 ([x] ++ l.take k)) ∧ Hid (Below W.heap.size W wr))
  case atStart => exact ⟨0, rfl, rfl, by omega, HY0, HB0⟩
  case round =>
    clear HY0 HB0
    obtain ⟨k, rfl, hgk, hk, HY, HB⟩ := hrel
    have Hgk := hide hgk
    clear hgk
    have hszB := (unhide HB).size
    by_cases hlt : k < l.length
    · obtain ⟨g, off, rfl, hg, hc⟩ := unhide H3 (by omega)
      obtain ⟨y, hy⟩ : ∃ y, l[k]? = some y := ⟨_, List.getElem?_eq_getElem hlt⟩
      have cx := ((unhide HB).cell (p := ⟨g, off + k, none⟩) hg).trans (hc k y hy)
      have Hnk : Hid ([x] ++ l.take (k + 1) = ([x] ++ l.take k) ++ [y]) := by show _ = _; rw [List.take_add_one, hy]; simp
      have hl1 : ([x] ++ l.take k).length + 1 ≤ 140737488351242 := by rw [List.length_append, List.length_take]; simp; omega
      have O1 : Hid (([x] ++ l.take k).length + 1 ≤ maxLen) := by show _ ≤ _; unfold maxLen; omega
      have O2 : Hid ((([x] ++ l.take k).length + 1) * 1 ≤ 140737488355328) := by show _ ≤ _; omega
      have k0' : (0 : Int) ≤ (k : Int) := Int.natCast_nonneg _
      have k1' : (k : Int) < (l.length : Int) := by omega
      clear hc hy hl1
      go_wp2_with (at_builtin; refine wpList_append_own_at _ rfl _ _ 29 rfl W.heap.size 5 i0 (.int .u8 0) 1 1 Tryd.underlying29 hi hz0 hz1 hz2 rfl (by decide) _ _ _ rfl ((unhide HY).alloc _) ⟨wr.heap.size, 0, none⟩ 1 1 [.int .u8 (y : Int)] rfl rfl (cell_one_new _ _ _) (by simp [Value.oneCell']) (unhide O1) (unhide O2) (by rw [World.size_alloc]; omega) ?_; intro v4 w4 hown4 hgrow4 hdrop4 hat4; clear hdrop4; have Hown := hide hown4; have Hb4 : Hid (Below W.heap.size W w4) := below_grow0 (unhide HB) hszB hgrow4 (fun b hb => ((unhide HY).lt b hb).1); clear hown4 hgrow4 hat4)
      go_roundg (l.length - (k + 1))
      case measure => have := unhide Hgk; omega
      case rel =>
        refine ⟨k + 1, by go_num, rfl, by omega, ?_, Hb4⟩
        show Bytes _ _ _ _
        rw [unhide Hnk]
        exact own_byteN rfl rfl (unhide Hown)
    · obtain rfl : k = l.length := by omega
      have HY1 : Hid (Bytes W.heap.size wr u7 ([x] ++ l ++ m.take 0)) := by
        have := unhide HY
        rw [List.take_length] at this
        show Bytes _ _ _ _
        rw [List.take_zero, List.append_nil]
        exact this
      clear HY
      go_wp2
      go_loopg [7, 9] m.length (fun gk v7 v9 wr => ∃ (k : Nat), v9 = .int .i64 (k : Int) ∧ gk = m.length - k ∧ k ≤ m.length ∧ Hid (Bytes W.heap.size wr v7 ([x] ++ l ++ m.take k)) ∧ Hid (Below W.heap.size W wr))
      case atStart => exact ⟨0, rfl, rfl, by omega, HY1, HB⟩
      case round =>
        clear HY1 HB hszB
        obtain ⟨k, rfl, hgk, hk, HY, HB⟩ := hrel
        have Hgk2 := hide hgk
        clear hgk
        have hszB := (unhide HB).size
        by_cases hlt2 : k < m.length
        · obtain ⟨g, off, rfl, hg, hc⟩ := unhide G3 (by omega)
          obtain ⟨y, hy⟩ : ∃ y, m[k]? = some y := ⟨_, List.getElem?_eq_getElem hlt2⟩
          have cx := ((unhide HB).cell (p := ⟨g, off + k, none⟩) hg).trans (hc k y hy)
          have Hnk : Hid ([x] ++ l ++ m.take (k + 1) = ([x] ++ l ++ m.take k) ++ [y]) := by show _ = _; rw [List.take_add_one, hy]; simp
          have hl1 : ([x] ++ l ++ m.take k).length + 1 ≤ 140737488351242 := by rw [List.length_append, List.length_append, List.length_take]; simp; omega
          have O1 : Hid (([x] ++ l ++ m.take k).length + 1 ≤ maxLen) := by show _ ≤ _; unfold maxLen; omega
          have O2 : Hid ((([x] ++ l ++ m.take k).length + 1) * 1 ≤ 140737488355328) := by show _ ≤ _; omega
          have k0' : (0 : Int) ≤ (k : Int) := Int.natCast_nonneg _
          have k1' : (k : Int) < (m.length : Int) := by omega
          clear hc hy hl1
          go_wp2_with (at_builtin; refine wpList_append_own_at _ rfl _ _ 29 rfl W.heap.size 5 i0 (.int .u8 0) 1 1 Tryd.underlying29 hi hz0 hz1 hz2 rfl (by decide) _ _ _ rfl ((unhide HY).alloc _) ⟨wr.heap.size, 0, none⟩ 1 1 [.int .u8 (y : Int)] rfl rfl (cell_one_new _ _ _) (by simp [Value.oneCell']) (unhide O1) (unhide O2) (by rw [World.size_alloc]; omega) ?_; intro v4 w4 hown4 hgrow4 hdrop4 hat4; clear hdrop4; have Hown := hide hown4; have Hb4 : Hid (Below W.heap.size W w4) := below_grow0 (unhide HB) hszB hgrow4 (fun b hb => ((unhide HY).lt b hb).1); clear hown4 hgrow4 hat4)
          go_roundg (m.length - (k + 1))
          case measure => have := unhide Hgk2; omega
          case rel =>
            refine ⟨k + 1, by go_num, rfl, by omega, ?_, Hb4⟩
            show Bytes _ _ _ _
            rw [unhide Hnk]
            exact own_byteN rfl rfl (unhide Hown)
        · obtain rfl : k = m.length := by omega
          have HY9 : Hid (Bytes W.heap.size wr u7 (x :: (l ++ m))) := by
            have := unhide HY
            rw [List.take_length] at this
            show Bytes _ _ _ _
            simpa using this
          clear HY
          go_wp2
          go_ret
          exact ⟨_, rfl, unhide HY9, unhide HB⟩
set_option maxRecDepth 100000 in
set_option maxHeartbeats 2000000 in
theorem xover_any : ∀ (f : Nat) {W : World} {v : Value} {ls : List (List Nat)}, HasX W → HasBB W v ls → (∀ l ∈ ls, Byt l ∧ l.length ≤ 140737488351232) → ls.length ≤ f → ls.length ≤ 65536 →
    Calls Tryd.prog 53 #[v] W fun e W' => ∃ v', e = .returned v' ∧ Bytes W.heap.size W' v' (rootF f ls) ∧ Below W.heap.size W W' := by
  intro f
  induction f with
  | zero =>
    intro W v ls hX h hb hf hn
    obtain rfl : ls = [] := List.eq_nil_of_length_eq_zero (by omega)
    have hs := xsum_any hX (hasB_nil W) (fun l hl => by cases hl) (by simp)
    have Hs := hide hs
    obtain ⟨va, vc, rfl, _, _⟩ := h
    clear hs
    go_enter Tryd.func53, Tryd.ntmps53
    go_wp2_with fail
    refine (unhide Hs).mono ?_
    rintro e w2 ⟨v', rfl, hB2, hb2⟩
    have HB2 := hide hB2
    have Hb2 := hide hb2
    clear hB2 hb2 Hs
    go_wp2
    go_ret
    exact ⟨v', rfl, unhide HB2, unhide Hb2⟩
  | succ f ih =>
    intro W v ls hX h hb hf hn
    by_cases h0 : ls.length = 0
    · obtain rfl : ls = [] := List.eq_nil_of_length_eq_zero (by omega)
      have hs := xsum_any hX (hasB_nil W) (fun l hl => by cases hl) (by simp)
      have Hs := hide hs
      obtain ⟨va, vc, rfl, _, _⟩ := h
      clear hs ih
      go_enter Tryd.func53, Tryd.ntmps53
      go_wp2_with fail
      refine (unhide Hs).mono ?_
      rintro e w2 ⟨v', rfl, hB2, hb2⟩
      have HB2 := hide hB2
      have Hb2 := hide hb2
      clear hB2 hb2 Hs
      go_wp2
      go_ret
      exact ⟨v', rfl, unhide HB2, unhide Hb2⟩
    · by_cases h1 : ls.length = 1
      · obtain ⟨l, rfl⟩ := List.length_eq_one_iff.1 h1
        obtain ⟨va, vc, rfl, _, h3⟩ := id h
        obtain ⟨g, off, rfl, hg, hc⟩ := h3 (by simp)
        obtain ⟨u, hu, hBu⟩ := hc 0 l rfl
        obtain ⟨q1, q2⟩ := hb l (by simp)
        have hs := xjoined_any (x := 0) hBu (hasB_nil W) (by simp; omega)
        rw [List.append_nil] at hs
        have Hs := hide hs
        rw [Nat.add_zero] at hu
        obtain ⟨ua, uc, rfl, _, _⟩ := hBu
        clear hs ih h3 hc h
        go_enter Tryd.func53, Tryd.ntmps53
        go_wp2_with fail
        refine (unhide Hs).mono ?_
        rintro e w2 ⟨v', rfl, hB2, hb2⟩
        have hvs : ∃ x y z, v' = .slice x y z := by obtain ⟨x, y, e, _⟩ := id hB2.has; exact ⟨_, _, _, e⟩
        obtain ⟨xx, yy, zz, rfl⟩ := hvs
        have hsum := xsum_any (hX.up hb2) hB2.has (fun y hy => by
          rcases List.mem_cons.1 hy with rfl | hy
          · decide
          · exact q1 y hy) (by simp; omega)
        have Hsum := hide hsum
        clear hsum hB2 Hs
        go_wp2_with fail
        refine (unhide Hsum).mono ?_
        rintro e w3 ⟨v3, rfl, hB3, hb3⟩
        have HB3 := hide (hB3.lower (b' := W.heap.size) hb2.size)
        have Hb3 : Hid (Below W.heap.size W w3) := hb2.trans (hb3.mono hb2.size)
        clear hB3 hb3 hb2 Hsum
        go_wp2
        go_ret
        exact ⟨v3, rfl, unhide HB3, unhide Hb3⟩
      · have hc2 : 2 ≤ ls.length := by omega
        have hcut := xcut_any ls.length W hc2 hn
        obtain ⟨k, hk⟩ : ∃ k, cutN ls.length = k := ⟨_, rfl⟩
        have k0 : 0 < k := by rw [← hk]; exact cutN_pos _
        have k1 : k < ls.length := by rw [← hk]; exact cutN_lt hc2
        have eR : rootF (f + 1) ls = sha (1 :: (rootF f (ls.take k) ++ rootF f (ls.drop k))) := by rw [rootF, if_neg h0, if_neg h1, hk]
        rw [hk] at hcut
        rw [eR]
        have Hcut := hide hcut
        have Hh := hide h
        obtain ⟨va, vc, rfl, hm, h3⟩ := id h
        obtain ⟨g, off, rfl, hg, hc⟩ := h3 (by omega)
        have hvc : vc ≤ 9223372036854775807 := by have := hm.2.1; unfold maxLen at this; omega
        have hvc2 := hm.1
        have z0 : ((ls.length : Int) == 0) = false := beq_eq_false_iff_ne.2 (by omega)
        have z1 : ((ls.length : Int) == 1) = false := beq_eq_false_iff_ne.2 (by omega)
        have hne : ¬ vc = k := by omega
        have k0' : (0 : Int) ≤ (k : Int) := Int.natCast_nonneg _
        have k1' : (k : Int) ≤ (ls.length : Int) := by omega
        have k2' : (k : Int) ≤ (vc : Int) := by omega
        have i1 := ih hX ((unhide Hh).take k (by omega)) (fun l hl => hb l (List.mem_of_mem_take hl)) (by rw [List.length_take]; omega) (by rw [List.length_take]; omega)
        have I1 := hide i1
        clear hcut h3 hc hm hk eR h i1
        go_enter Tryd.func53, Tryd.ntmps53
        go_wp2_with fail
        refine (unhide Hcut).mono ?_
        rintro e w' ⟨rfl, he⟩
        obtain rfl : W = w' := he.symm
        clear he
        go_wp2_with fail
        refine (unhide I1).mono ?_
        rintro e w2 ⟨v2, rfl, hB2, hb2⟩
        have i2 := ih (hX.up hb2) (((unhide Hh).drop k (by omega)).up hb2) (fun l hl => hb l (List.mem_of_mem_drop hl)) (by rw [List.length_drop]; omega) (by rw [List.length_drop]; omega)
        have I2 := hide i2
        have hvs : ∃ x y z, v2 = .slice x y z := by obtain ⟨x, y, e, _⟩ := id hB2.has; exact ⟨_, _, _, e⟩
        obtain ⟨x2, y2, w2', rfl⟩ := hvs
        have HH2 := hide hB2.has
        clear i2 hB2 I1
        go_wp2_with fail
        refine (unhide I2).mono ?_
        rintro e w3 ⟨v3, rfl, hB3, hb3⟩
        have hvs : ∃ x y z, v3 = .slice x y z := by obtain ⟨x, y, e, _⟩ := id hB3.has; exact ⟨_, _, _, e⟩
        obtain ⟨x3, y3, w3', rfl⟩ := hvs
        have hj := xjoined_any (x := 1) ((unhide HH2).up hb3) hB3.has (by rw [rootF_len, rootF_len]; decide)
        have Hj := hide hj
        have b03 : Below W.heap.size W w3 := hb2.trans (hb3.mono hb2.size)
        clear hj hB3 I2 HH2 hb2 hb3
        go_wp2_with fail
        refine (unhide Hj).mono ?_
        rintro e w4 ⟨v4, rfl, hB4, hb4⟩
        have b04 : Below W.heap.size W w4 := b03.trans (hb4.mono b03.size)
        have hvs : ∃ x y z, v4 = .slice x y z := by obtain ⟨x, y, e, _⟩ := id hB4.has; exact ⟨_, _, _, e⟩
        obtain ⟨x4, y4, w4', rfl⟩ := hvs
        have hsum := xsum_any (hX.up b04) hB4.has (fun y hy => by
          rcases List.mem_cons.1 hy with rfl | hy
          · decide
          · rcases List.mem_append.1 hy with hy | hy
            · exact rootF_byt _ _ y hy
            · exact rootF_byt _ _ y hy) (by rw [List.length_cons, List.length_append, rootF_len, rootF_len]; decide)
        have Hsum := hide hsum
        clear hsum hB4 hb4 Hj b03
        go_wp2_with fail
        refine (unhide Hsum).mono ?_
        rintro e w5 ⟨v5, rfl, hB5, hb5⟩
        have HB5 := hide (hB5.lower (b' := W.heap.size) b04.size)
        have Hb5 : Hid (Below W.heap.size W w5) := b04.trans (hb5.mono b04.size)
        clear hB5 hb5 b04 Hsum
        go_wp2
        go_ret
        exact ⟨v5, rfl, unhide HB5, unhide Hb5⟩
end Go.Proofs.YtlblllghgdfpoaaDoor

namespace Go.Proofs.YtlblllghgdfpoaaDoor
open Go.RowKit
attribute [local go_sem ↓] Go.wp_at_zero Go.wp_at_succ

def wayF : Nat → List (List Nat) → Nat → List (List Nat)
  | 0, _, _ => []
  | f + 1, ls, at' => if ls.length < 2 then [] else if at' < cutN ls.length then wayF f (ls.take (cutN ls.length)) at' ++ [rootF f (ls.drop (cutN ls.length))] else wayF f (ls.drop (cutN ls.length)) (at' - cutN ls.length) ++ [rootF f (ls.take (cutN ls.length))]
theorem wayF_len : ∀ (f : Nat) (ls : List (List Nat)) (at' : Nat), (wayF f ls at').length ≤ f
  | 0, _, _ => Nat.le_refl _
  | f + 1, ls, at' => by
    unfold wayF
    split
    · simp
    · split
      · rw [List.length_append]
        have := wayF_len f (ls.take (cutN ls.length)) at'
        simp
        omega
      · rw [List.length_append]
        have := wayF_len f (ls.drop (cutN ls.length)) (at' - cutN ls.length)
        simp
        omega
theorem wayF_byt : ∀ (f : Nat) (ls : List (List Nat)) (at' : Nat), ∀ l ∈ wayF f ls at', Byt l ∧ l.length = 32
  | 0, _, _, l, h => by cases h
  | f + 1, ls, at', l, h => by
    unfold wayF at h
    split at h
    · cases h
    · split at h
      · rcases List.mem_append.1 h with h | h
        · exact wayF_byt f _ _ l h
        · rw [List.mem_singleton.1 h]; exact ⟨rootF_byt _ _, rootF_len _ _⟩
      · rcases List.mem_append.1 h with h | h
        · exact wayF_byt f _ _ l h
        · rw [List.mem_singleton.1 h]; exact ⟨rootF_byt _ _, rootF_len _ _⟩
theorem OwnBB.push0 {B C : Nat} {W w : World} {v v' u : Value} {us : List Value} {ls : List (List Nat)} {l : List Nat} (h : OwnBB B C W v us ls) (hu : HasB W u l) (hl : Lies C W v.ownBlock u)
    (hrow : w.ownsRow B 29 1 v' (ls.length + 1) (us ++ [u])) (hg : W.grownBy w v.ownBlock) (hat : v'.ownBlock = v.ownBlock ∨ v'.ownBlock = some W.heap.size) : OwnBB B C w v' (us ++ [u]) (ls ++ [l]) := by
  have hs := hg.size
  have hst : ∀ b, b < W.heap.size → some b ≠ v.ownBlock → w.heap[b]? = W.heap[b]? := fun b hb hn => hg.block b hb hn
  have hli : ∀ z, Lies C W v.ownBlock z → Lies C w v'.ownBlock z := fun z hz b hb => by
    obtain ⟨g1, g2, g3⟩ := hz b hb
    refine ⟨g1, by omega, ?_⟩
    rcases hat with e | e
    · rw [e]; exact g3
    · rw [e]
      intro e'
      have := Option.some.inj e'
      omega
  refine ⟨by rw [List.length_append]; exact hrow, fun j z m hz hm => ?_⟩
  by_cases hj : j < us.length
  · rw [List.getElem?_append_left hj] at hz
    rw [List.getElem?_append_left (by rw [← h.len]; exact hj)] at hm
    obtain ⟨h1, h2⟩ := h.each j z m hz hm
    exact ⟨h1.stays hs fun b hb hlt => hst b hlt (h2 b hb).2.2, hli z h2⟩
  · rw [List.getElem?_append_right (by omega)] at hz
    rw [List.getElem?_append_right (by rw [← h.len]; omega), ← h.len] at hm
    have hj0 : j - us.length = 0 := by
      have := (List.getElem?_eq_some_iff.1 hz).1
      simp at this
      omega
    rw [hj0] at hz hm
    simp at hz hm
    subst hz hm
    exact ⟨hu.stays hs fun b hb hlt => hst b hlt (hl b hb).2.2, hli _ hl⟩
theorem OwnBB.low {B B' : Nat} {W : World} {v : Value} {us : List Value} {ls : List (List Nat)} (h : OwnBB B B W v us ls) (hB : B' ≤ B) : OwnBB B' B' W v us ls := by
  refine ⟨?_, fun j u l hu hl => ⟨(h.each j u l hu hl).1, fun b hb => ?_⟩⟩
  · obtain ⟨h1, h2 | ⟨g, c, cur, e1, e2, e3⟩⟩ := h.row
    · exact ⟨h1, .inl h2⟩
    · exact ⟨h1, .inr ⟨g, c, cur, e1, Nat.le_trans hB e2, e3⟩⟩
  · obtain ⟨q1, q2, q3⟩ := (h.each j u l hu hl).2 b hb
    exact ⟨Nat.le_trans hB q1, q2, q3⟩
theorem OwnBA.low {B B' : Nat} {W : World} {v : Value} {us : List Value} {ls : List (List Nat)} (h : OwnBA B W v us ls) (hB : B' ≤ B) : OwnBA B' W v us ls := ⟨h.bb.low hB, h.lb.lower hB⟩
theorem OwnBA.push0 {B : Nat} {W w : World} {v v' u : Value} {us : List Value} {ls : List (List Nat)} {l : List Nat} (h : OwnBA B W v us ls) (hu : Bytes B W u l) (hl : ∀ b, u.ownBlock = some b → some b ≠ v.ownBlock ∧ ¬ InB us b)
    (hrow : w.ownsRow B 29 1 v' (ls.length + 1) (us ++ [u])) (hg : W.grownBy w v.ownBlock) (hat : v'.ownBlock = v.ownBlock ∨ v'.ownBlock = some W.heap.size) : OwnBA B w v' (us ++ [u]) (ls ++ [l]) := by
  refine ⟨h.bb.push0 hu.has (fun b e => ⟨(World.ownsRow.lt hu b e).1, (World.ownsRow.lt hu b e).2, (hl b e).1⟩) hrow hg hat, h.lb.push (own_same hu (fun b e => hg.block b (World.ownsRow.lt hu b e).2 (hl b e).1)) (fun b e => (hl b e).2) (fun q hq hi => hg.block q hq (fun e => ?_))⟩
  obtain ⟨i, x, hx, ex⟩ := hi
  have hx2 := (List.getElem?_eq_some_iff.1 hx).1
  exact (h.bb.each i x _ hx (List.getElem?_eq_getElem (by rw [h.lb.len]; exact hx2))).2 q ex |>.2.2 e
set_option maxRecDepth 100000 in
set_option maxHeartbeats 2000000 in
theorem xway_any : ∀ (f : Nat) {W : World} {v : Value} {ls : List (List Nat)} {at' : Nat}, HasX W → HasBB W v ls → (∀ l ∈ ls, Byt l ∧ l.length ≤ 140737488351232) → ls.length ≤ f → ls.length ≤ 65536 → f ≤ 65536 → at' < 65536 →
    Calls Tryd.prog 57 #[v, .int .i64 (at' : Int)] W fun e W' => ∃ v', e = .returned v' ∧ (∃ us, OwnBB W.heap.size W.heap.size W' v' us (wayF f ls at')) ∧ Below W.heap.size W W' := by
  intro f
  obtain ⟨i0, hi, hz0, hz1, hz2⟩ := info_parts Tryd.infoBytes
  induction f with
  | zero =>
    intro W v ls at' hX h hb hf hn hff hat
    obtain rfl : ls = [] := List.eq_nil_of_length_eq_zero (by omega)
    obtain ⟨va, vc, rfl, _, _⟩ := h
    have q1 : decide (((0 : Nat) : Int) < 2) = true := by decide
    go_enter Tryd.func57, Tryd.ntmps57
    go_wp2
    go_ret
    exact ⟨_, rfl, ⟨_, ownBB_nil _ _ _⟩, Below.refl _ _⟩
  | succ f ih =>
    intro W v ls at' hX h hb hf hn hff hat
    by_cases h2 : ls.length < 2
    · have eW : wayF (f + 1) ls at' = [] := by rw [wayF, if_pos h2]
      rw [eW]
      obtain ⟨va, vc, rfl, _, _⟩ := h
      have q1 : decide ((ls.length : Int) < 2) = true := decide_eq_true (by omega)
      clear ih
      go_enter Tryd.func57, Tryd.ntmps57
      go_wp2
      go_ret
      exact ⟨_, rfl, ⟨_, ownBB_nil _ _ _⟩, Below.refl _ _⟩
    · have hcut := xcut_any ls.length W (by omega) hn
      obtain ⟨k, hk⟩ : ∃ k, cutN ls.length = k := ⟨_, rfl⟩
      have k0 : 0 < k := by rw [← hk]; exact cutN_pos _
      have k1 : k < ls.length := by rw [← hk]; exact cutN_lt (by omega)
      rw [hk] at hcut
      have Hcut := hide hcut
      have Hh := hide h
      obtain ⟨va, vc, rfl, hm, h3⟩ := id h
      obtain ⟨g, off, rfl, hg, hc⟩ := h3 (by omega)
      have hvc : vc ≤ 9223372036854775807 := by have := hm.2.1; unfold maxLen at this; omega
      have hvc2 := hm.1
      have q1 : decide ((ls.length : Int) < 2) = false := decide_eq_false (by omega)
      have hne : ¬ vc = k := by omega
      have k0' : (0 : Int) ≤ (k : Int) := Int.natCast_nonneg _
      have k1' : (k : Int) ≤ (ls.length : Int) := by omega
      have k2' : (k : Int) ≤ (vc : Int) := by omega
      have hT := fun (w : World) (hw : Below W.heap.size W w) => ((unhide Hh).take k (by omega)).up hw
      have hD := fun (w : World) (hw : Below W.heap.size W w) => ((unhide Hh).drop k (by omega)).up hw
      have bT : ∀ l ∈ ls.take k, Byt l ∧ l.length ≤ 140737488351232 := fun l hl => hb l (List.mem_of_mem_take hl)
      have bD : ∀ l ∈ ls.drop k, Byt l ∧ l.length ≤ 140737488351232 := fun l hl => hb l (List.mem_of_mem_drop hl)
      have lT : (ls.take k).length = k := by rw [List.length_take]; omega
      have lD : (ls.drop k).length = ls.length - k := List.length_drop
      have HT := hide hT
      have HD := hide hD
      have LT := hide lT
      have LD := hide lD
      clear hcut h3 hc hm h hT hD lT lD
      by_cases hlt : at' < k
      · have eW : wayF (f + 1) ls at' = wayF f (ls.take k) at' ++ [rootF f (ls.drop k)] := by rw [wayF, if_neg h2, hk, if_pos hlt]
        rw [eW]
        have i1 := ih (at' := at') hX (unhide HT W (Below.refl _ _)) bT (by have := unhide LT; omega) (by have := unhide LT; omega) (by omega) hat
        have I1 := hide i1
        have q2 : decide ((at' : Int) < (k : Int)) = true := decide_eq_true (by omega)
        clear hk i1 eW
        go_enter Tryd.func57, Tryd.ntmps57
        go_wp2_with fail
        refine (unhide Hcut).mono ?_
        rintro e w' ⟨rfl, he⟩
        obtain rfl : W = w' := he.symm
        clear he
        go_wp2_with fail
        refine (unhide I1).mono ?_
        rintro e w2 ⟨v2, rfl, ⟨us2, hO2⟩, hb2⟩
        have i2 := xover_any f (hX.up hb2) (unhide HD w2 hb2) bD (by have := unhide LD; omega) (by have := unhide LD; omega)
        have I2 := hide i2
        obtain ⟨x2, y2, c2, hv2⟩ : ∃ x y z, v2 = .slice x y z := by obtain ⟨x, y, e, _⟩ := id hO2.has; exact ⟨_, _, _, e⟩
        subst hv2
        clear i2 I1 Hcut
        have hwl := wayF_len f (ls.take k) at'
        go_wp2_with fail
        refine (unhide I2).mono ?_
        rintro e w3 ⟨v3, rfl, hB3, hb3⟩
        have hO3 := hO2.up hb3
        have b03 : Below W.heap.size W w3 := hb2.trans (hb3.mono hb2.size)
        have hli : Lies W.heap.size w3 (Value.slice x2 y2 c2).ownBlock v3 := fun b hbb => by
          obtain ⟨q1, q2⟩ := hB3.lt b hbb
          refine ⟨by have := hb2.size; omega, q2, fun e => ?_⟩
          have := (hO2.row.lt b e.symm).2
          omega
        have hH3 := hB3.has
        obtain ⟨x3, y3, c3, hv3⟩ : ∃ x y z, v3 = .slice x y z := by obtain ⟨x, y, e, _⟩ := id hH3; exact ⟨_, _, _, e⟩
        subst hv3
        have HO3 := hide hO3
        have Hli := hide hli
        have HH3 := hide hH3
        have B03 := hide b03
        have hs3 := b03.size
        have O1 : Hid ((wayF f (ls.take k) at').length + 1 ≤ maxLen) := by show _ ≤ _; unfold maxLen; omega
        have O2 : Hid (((wayF f (ls.take k) at').length + 1) * 24 ≤ 140737488355328) := by show _ ≤ _; omega
        clear hO3 hli hH3 b03 hO2 hB3 hb2 hb3 I2 hwl
        go_wp2_with (at_builtin; refine wpList_append_own_at _ rfl _ _ 22 rfl W.heap.size 29 i0 (.slice none 0 0) 1 24 Tryd.underlying22 hi hz0 hz1 hz2 rfl (by decide) _ _ _ rfl ((unhide HO3).row.alloc _) ⟨w3.heap.size, 0, none⟩ 1 1 [.slice x3 y3 c3] rfl rfl (cell_one_new _ _ _) (by simp [Value.oneCell']) (unhide O1) (unhide O2) (by rw [World.size_alloc]; omega) ?_; intro v9 w9 hown9 hgrow9 hdrop9 hat9; clear hdrop9; have HP9 := hide ((unhide HO3).push (unhide HH3) (unhide Hli) hown9 hgrow9 hat9); have Hb9 : Hid (Below W.heap.size W w9) := below_grow0 (unhide B03) hs3 hgrow9 (fun b hb => ((unhide HO3).row.lt b hb).1); clear hown9 hgrow9 hat9)
        go_ret
        exact ⟨_, rfl, ⟨_, unhide HP9⟩, unhide Hb9⟩
      · have eW : wayF (f + 1) ls at' = wayF f (ls.drop k) (at' - k) ++ [rootF f (ls.take k)] := by rw [wayF, if_neg h2, hk, if_neg hlt]
        rw [eW]
        obtain ⟨aa, haa⟩ : ∃ aa, at' - k = aa := ⟨_, rfl⟩
        have eaa : (at' : Int) - (k : Int) = (aa : Int) := by omega
        rw [haa]
        have i1 := ih (at' := aa) hX (unhide HD W (Below.refl _ _)) bD (by have := unhide LD; omega) (by have := unhide LD; omega) (by omega) (by omega)
        have I1 := hide i1
        have q2 : decide ((at' : Int) < (k : Int)) = false := decide_eq_false (by omega)
        clear hk i1 eW haa
        go_enter Tryd.func57, Tryd.ntmps57
        go_wp2_with fail
        refine (unhide Hcut).mono ?_
        rintro e w' ⟨rfl, he⟩
        obtain rfl : W = w' := he.symm
        clear he
        go_wp2_with fail
        refine (unhide I1).mono ?_
        rintro e w2 ⟨v2, rfl, ⟨us2, hO2⟩, hb2⟩
        have i2 := xover_any f (hX.up hb2) (unhide HT w2 hb2) bT (by have := unhide LT; omega) (by have := unhide LT; omega)
        have I2 := hide i2
        obtain ⟨x2, y2, c2, hv2⟩ : ∃ x y z, v2 = .slice x y z := by obtain ⟨x, y, e, _⟩ := id hO2.has; exact ⟨_, _, _, e⟩
        subst hv2
        clear i2 I1 Hcut
        have hwl := wayF_len f (ls.drop k) aa
        go_wp2_with fail
        refine (unhide I2).mono ?_
        rintro e w3 ⟨v3, rfl, hB3, hb3⟩
        have hO3 := hO2.up hb3
        have b03 : Below W.heap.size W w3 := hb2.trans (hb3.mono hb2.size)
        have hli : Lies W.heap.size w3 (Value.slice x2 y2 c2).ownBlock v3 := fun b hbb => by
          obtain ⟨q1, q2⟩ := hB3.lt b hbb
          refine ⟨by have := hb2.size; omega, q2, fun e => ?_⟩
          have := (hO2.row.lt b e.symm).2
          omega
        have hH3 := hB3.has
        obtain ⟨x3, y3, c3, hv3⟩ : ∃ x y z, v3 = .slice x y z := by obtain ⟨x, y, e, _⟩ := id hH3; exact ⟨_, _, _, e⟩
        subst hv3
        have HO3 := hide hO3
        have Hli := hide hli
        have HH3 := hide hH3
        have B03 := hide b03
        have hs3 := b03.size
        have O1 : Hid ((wayF f (ls.drop k) aa).length + 1 ≤ maxLen) := by show _ ≤ _; unfold maxLen; omega
        have O2 : Hid (((wayF f (ls.drop k) aa).length + 1) * 24 ≤ 140737488355328) := by show _ ≤ _; omega
        clear hO3 hli hH3 b03 hO2 hB3 hb2 hb3 I2 hwl
        go_wp2_with (at_builtin; refine wpList_append_own_at _ rfl _ _ 22 rfl W.heap.size 29 i0 (.slice none 0 0) 1 24 Tryd.underlying22 hi hz0 hz1 hz2 rfl (by decide) _ _ _ rfl ((unhide HO3).row.alloc _) ⟨w3.heap.size, 0, none⟩ 1 1 [.slice x3 y3 c3] rfl rfl (cell_one_new _ _ _) (by simp [Value.oneCell']) (unhide O1) (unhide O2) (by rw [World.size_alloc]; omega) ?_; intro v9 w9 hown9 hgrow9 hdrop9 hat9; clear hdrop9; have HP9 := hide ((unhide HO3).push (unhide HH3) (unhide Hli) hown9 hgrow9 hat9); have Hb9 : Hid (Below W.heap.size W w9) := below_grow0 (unhide B03) hs3 hgrow9 (fun b hb => ((unhide HO3).row.lt b hb).1); clear hown9 hgrow9 hat9)
        go_ret
        exact ⟨_, rfl, ⟨_, unhide HP9⟩, unhide Hb9⟩
end Go.Proofs.YtlblllghgdfpoaaDoor
