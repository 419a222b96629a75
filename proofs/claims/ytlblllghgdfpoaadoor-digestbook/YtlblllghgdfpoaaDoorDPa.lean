import Derived.Test.YtlblllghgdfpoaaDoorJ34
import Derived.Test.YtlblllghgdfpoaaDoorJ34
import Derived.Test.YtlblllghgdfpoaaDoorJ01

namespace Go.Proofs.YtlblllghgdfpoaaDoor
open Go.RowKit
attribute [local go_sem ↓] Go.wp_at_zero Go.wp_at_succ

/-- What Parts tells: the error and the parts. -/
def partsA (l : List Nat) : Int × List (List Nat) := if 67108864 < l.length then (2, []) else match partsL l with
  | none => (30, [])
  | some ps => (0, ps)
def partsT : Option (List (List Nat) × List Nat) → Int × List (List Nat)
  | some (ps, []) => (0, ps)
  | _ => (30, [])
/-- So far: k of them are read, r is left. -/
def SoFar (N k : Nat) (r0 r : List Nat) (acc : List (List Nat)) : Prop := takeParts N r0 = (takeParts (N - k) r).map fun x => (acc ++ x.1, x.2)
theorem soFar_zero (N : Nat) (r0 : List Nat) : SoFar N 0 r0 r0 [] := by
  unfold SoFar
  simp
theorem SoFar.none {N k : Nat} {r0 r : List Nat} {acc : List (List Nat)} (h : SoFar N k r0 r acc) (hk : k < N) (hp : partOf r = none) : takeParts N r0 = none := by
  unfold SoFar at h
  rw [show N - k = (N - (k + 1)) + 1 by omega, takeParts, hp] at h
  simpa using h
theorem SoFar.step {N k : Nat} {r0 r p r' : List Nat} {acc : List (List Nat)} (h : SoFar N k r0 r acc) (hk : k < N) (hp : partOf r = some (p, r')) : SoFar N (k + 1) r0 r' (acc ++ [p]) := by
  unfold SoFar at h ⊢
  rw [show N - k = (N - (k + 1)) + 1 by omega, takeParts, hp] at h
  rw [h]
  simp only [Option.map_map]
  congr 1
  funext x
  simp
theorem SoFar.done {N : Nat} {r0 r : List Nat} {acc : List (List Nat)} (h : SoFar N N r0 r acc) : takeParts N r0 = some (acc, r) := by
  unfold SoFar at h
  rw [Nat.sub_self, takeParts] at h
  simpa using h
theorem OwnBB.lower {B B' C : Nat} {W : World} {v : Value} {us : List Value} {ls : List (List Nat)} (h : OwnBB B C W v us ls) (hB : B' ≤ B) : OwnBB B' C W v us ls := by
  refine ⟨?_, h.each⟩
  obtain ⟨h1, h2 | ⟨g, c, cur, e1, e2, e3⟩⟩ := h.row
  · exact ⟨h1, .inl h2⟩
  · exact ⟨h1, .inr ⟨g, c, cur, e1, Nat.le_trans hB e2, e3⟩⟩
set_option maxRecDepth 100000 in
set_option maxHeartbeats 2000000 in
theorem parts_own {W : World} {v : Value} {l : List Nat} (h : HasB W v l) (hl : Byt l) :
    Calls Tryd.prog 8 #[v] W fun e W' => ∃ v', e = .returned (.tuple #[v', .int .i64 (partsA l).1]) ∧ (∃ us, OwnBA W.heap.size W' v' us (partsA l).2) ∧ Below W.heap.size W W' := by
  obtain ⟨i0, hi, hz0, hz1, hz2⟩ := info_parts Tryd.infoBytes
  have Hh := hide h
  obtain ⟨a, c, rfl, hm, _⟩ := h
  have hc1 : c ≤ 9223372036854775807 := by have := hm.2.1; unfold maxLen at this; omega
  have hc2 := hm.1
  clear hm
  by_cases hlong : 67108864 < l.length
  · have q0 : decide (67108864 < (l.length : Int)) = true := by simp; omega
    have e0 : partsA l = (2, []) := by unfold partsA; rw [if_pos hlong]
    rw [e0]
    go_enter Tryd.func8, Tryd.ntmps8
    go_wp2
    go_ret2
    exact ⟨_, rfl, ⟨_, ownBA_nil _ _⟩, Below.refl _ _⟩
  · have q0 : decide (67108864 < (l.length : Int)) = false := by simp; omega
    by_cases h4 : l.length < 4
    · have e0 : partsA l = (30, []) := by unfold partsA partsL; rw [if_neg hlong, if_pos (.inl h4)]
      rw [e0]
      have hs := takeNumber_short (unhide Hh) h4
      have Hs := hide hs
      clear hs
      go_enter Tryd.func8, Tryd.ntmps8
      go_wp2_with fail
      refine (unhide Hs).mono ?_
      rintro e w' ⟨rfl, he⟩
      obtain rfl : W = w' := he.symm
      go_wp2
      go_ret2
      exact ⟨_, rfl, ⟨_, ownBA_nil _ _⟩, Below.refl _ _⟩
    · have hs := takeNumber_ok (unhide Hh) hl (by omega)
      obtain ⟨N, hN⟩ : ∃ N, leN l = N := ⟨_, rfl⟩
      obtain ⟨r0, hr0⟩ : ∃ r0, l.drop 4 = r0 := ⟨_, rfl⟩
      have hrb : Byt r0 := by rw [← hr0]; exact hl.drop 4
      have hrl : r0.length ≤ 67108864 := by rw [← hr0, List.length_drop]; omega
      rw [hN, hr0] at hs
      have eP : partsA l = if 65536 < N then ((30, []) : Int × List (List Nat)) else partsT (takeParts N r0) := by
        unfold partsA partsL
        rw [if_neg hlong, hN, hr0]
        by_cases hbig : 65536 < N
        · rw [if_pos (.inr hbig), if_pos hbig]
        · rw [if_neg (by omega), if_neg hbig]
          rcases takeParts N r0 with _ | ⟨ps, _ | ⟨x, r⟩⟩ <;> rfl
      have Hs := hide hs
      have HP := hide eP
      have HRb := hide hrb
      clear hs hN hr0 eP hrb
      by_cases hbig : 65536 < N
      · have q1 : decide (65536 < (N : Int)) = true := by simp; omega
        have e0 : partsA l = (30, []) := by have := unhide HP; rwa [if_pos hbig] at this
        rw [e0]
        go_enter Tryd.func8, Tryd.ntmps8
        go_wp2_with fail
        refine (unhide Hs).mono ?_
        rintro e w' ⟨v1, m, rfl, hX, rfl⟩
        obtain ⟨a1, c1, rfl, _, _⟩ := hX W (unhide Hh)
        go_wp2
        go_ret2
        exact ⟨_, rfl, ⟨_, ownBA_nil _ _⟩, below_drewN (Below.refl _ _) m⟩
      · have q1 : decide (65536 < (N : Int)) = false := by simp; omega
        obtain ⟨PA, hPA⟩ : ∃ PA, partsA l = PA := ⟨_, rfl⟩
        rw [hPA] at HP ⊢
        have eP := unhide HP
        rw [if_neg hbig] at eP
        have HP1 := hide eP
        clear eP HP hPA
        go_enter Tryd.func8, Tryd.ntmps8
        go_wp2_with fail
        refine (unhide Hs).mono ?_
        rintro e w' ⟨v1, m, rfl, hX, rfl⟩
        have hB1 := hX W (unhide Hh)
        have hvs : ∃ x y z, v1 = .slice x y z := by obtain ⟨x, y, e, _⟩ := hB1; exact ⟨_, _, _, e⟩
        obtain ⟨x1, y1, z1, rfl⟩ := hvs
        have HB1 := hide hB1
        clear hX hB1
        go_wp2
        go_loopg [5, 7, 25] N (fun gk v5 v7 v25 wr => ∃ (k : Nat) (r : List Nat) (acc : List (List Nat)) (us : List Value), v25 = .int .i64 (k : Int) ∧ gk = N - k ∧ k ≤ N ∧ Hid (HasB W v5 r) ∧ Hid (Byt r ∧ r.length ≤ 67108864) ∧ Hid (SoFar N k r0 r acc) ∧ acc.length = k ∧ Hid (OwnBA W.heap.size wr v7 us acc) ∧ Hid (Below W.heap.size W wr))
        case atStart => exact ⟨0, r0, [], [], rfl, rfl, by omega, HB1, ⟨unhide HRb, hrl⟩, soFar_zero _ _, rfl, ownBA_nil _ _, below_drewN (Below.refl _ _) m⟩
        case round =>
          clear HB1
          obtain ⟨k, r, acc, us, rfl, hgk, hk, HB1, Hr, HS, hal, HO, HB⟩ := hrel
          have Hgk := hide hgk
          clear hgk
          have hsz := (unhide HB).size
          have hvs : ∃ x y, u5 = .slice x r.length y := by obtain ⟨x, y, e, _⟩ := unhide HB1; exact ⟨_, _, e⟩
          obtain ⟨x5, y5, rfl⟩ := hvs
          by_cases hlt : k < N
          · have hkN : (k : Int) < (N : Int) := by omega
            rcases hpo : partOf r with _ | ⟨p, r'⟩
            · have hnone := (unhide HS).none hlt hpo
              have e0 : PA = (30, []) := by have := unhide HP1; rwa [hnone] at this
              have ht := takePart_none ((unhide HB1).up (unhide HB)) (unhide Hr).1 hpo
              have Ht := hide ht
              subst e0
              clear ht hpo hnone
              go_wp2_with fail
              refine (unhide Ht).mono ?_
              rintro o w7 ⟨m7, rfl, rfl⟩
              go_wp2
              go_ret2
              exact ⟨_, rfl, ⟨_, ownBA_nil _ _⟩, below_drewN (unhide HB) m7⟩
            · have HS' := hide ((unhide HS).step hlt hpo)
              have ht := takePart_some ((unhide HB1).up (unhide HB)) (unhide Hr).1 hpo
              have Ht := hide ht
              have hpb := partOf_byt (unhide Hr).1 hpo
              have hpl : p.length + r'.length ≤ 67108864 := by
                have := congrArg List.length hpb.2.2
                rw [List.length_append, List.length_append] at this
                have := (unhide Hr).2
                omega
              have Hr' : Hid (Byt r' ∧ r'.length ≤ 67108864) := ⟨hpb.2.1, by omega⟩
              clear ht hpo HS hpb
              go_wp2_with fail
              refine (unhide Ht).mono ?_
              rintro o w7 ⟨v1', v2', m7, rfl, hX, rfl⟩
              obtain ⟨hp1, hp2⟩ := hX W (unhide HB1)
              have HB7 : Hid (Below W.heap.size W (wr.drewN m7)) := below_drewN (unhide HB) m7
              have HO7 : Hid (OwnBA W.heap.size (wr.drewN m7) u7 us acc) := (unhide HO).up (below_drewN (Below.refl _ _) m7)
              have hsz7 : W.heap.size ≤ (wr.drewN m7).heap.size := hsz
              have HB2 := hide hp2
              have hcl := clone_any (hp1.up (unhide HB7)) (by omega)
              have Hcl := hide hcl
              have hvs : ∃ x y, v1' = .slice x p.length y := by obtain ⟨x, y, e, _⟩ := hp1; exact ⟨_, _, e⟩
              obtain ⟨x6, y6, rfl⟩ := hvs
              have hvs : ∃ x y, v2' = .slice x r'.length y := by obtain ⟨x, y, e, _⟩ := hp2; exact ⟨_, _, e⟩
              obtain ⟨x8, y8, rfl⟩ := hvs
              clear hX hp1 hp2 Ht HO HB HB1 hcl
              generalize wr.drewN m7 = w7 at *
              go_wp2_with fail
              refine (unhide Hcl).mono ?_
              rintro o w8 ⟨v8, rfl, hB8, hb8⟩
              have hO8 := (unhide HO7).up hb8
              have HB8 : Hid (Below W.heap.size W w8) := (unhide HB7).trans (hb8.mono hsz7)
              have hli : ∀ b, v8.ownBlock = some b → some b ≠ u7.ownBlock ∧ ¬ InB us b := fun b hb => by
                obtain ⟨q1, q2⟩ := hB8.lt b hb
                refine ⟨fun e => ?_, fun e => ?_⟩
                · have := ((unhide HO7).bb.row.lt b e.symm).2
                  omega
                · have := ((unhide HO7).lb.lt e).2
                  omega
              have hsz8 := (unhide HB8).size
              have hH8 := hB8.has
              have hvs : ∃ x y, v8 = .slice x p.length y := by obtain ⟨x, y, e, _⟩ := hH8; exact ⟨_, _, e⟩
              obtain ⟨x9, y9, rfl⟩ := hvs
              have HO8 := hide hO8
              have Hli := hide hli
              have HH8 := hide (hB8.lower hsz7)
              have O1 : Hid (acc.length + 1 ≤ maxLen) := by show _ ≤ _; rw [hal]; unfold maxLen; omega
              have O2 : Hid ((acc.length + 1) * 24 ≤ 140737488355328) := by show _ ≤ _; rw [hal]; omega
              clear hO8 hli hH8 hB8 hb8 HO7 HB7 Hcl hsz7
              go_wp2_with (at_builtin; refine wpList_append_own_at _ rfl _ _ 22 rfl W.heap.size 29 i0 (.slice none 0 0) 1 24 Tryd.underlying22 hi hz0 hz1 hz2 rfl (by decide) _ _ _ rfl ((unhide HO8).bb.row.alloc _) ⟨w8.heap.size, 0, none⟩ 1 1 [.slice x9 p.length y9] rfl rfl (cell_one_new _ _ _) (by simp [Value.oneCell']) (unhide O1) (unhide O2) (by rw [World.size_alloc]; omega) ?_; intro v9 w9 hown9 hgrow9 hdrop9 hat9; clear hdrop9; have HP9 := hide ((unhide HO8).push (unhide HH8) (unhide Hli) hown9 hgrow9 hat9); have Hb9 : Hid (Below W.heap.size W w9) := below_grow0 (unhide HB8) hsz8 hgrow9 (fun b hb => ((unhide HO8).bb.row.lt b hb).1); clear hown9 hgrow9 hat9)
              go_roundg (N - (k + 1))
              case measure => have := unhide Hgk; omega
              case rel => exact ⟨k + 1, r', acc ++ [p], us ++ [.slice x9 p.length y9], by go_num, rfl, by omega, HB2, Hr', HS', by simp [hal], HP9, Hb9⟩
          · obtain rfl : k = N := by omega
            have hdone := (unhide HS).done
            by_cases hr0 : 0 < r.length
            · have e0 : PA = (30, []) := by
                have := unhide HP1
                rw [hdone] at this
                rcases r with _ | ⟨x, r⟩
                · simp at hr0
                · exact this
              have q2 : decide (0 < (r.length : Int)) = true := by simp; omega
              subst e0
              clear hdone
              go_wp2
              go_ret2
              exact ⟨_, rfl, ⟨_, ownBA_nil _ _⟩, unhide HB⟩
            · have e0 : PA = (0, acc) := by
                have := unhide HP1
                rw [hdone] at this
                rcases r with _ | ⟨x, r⟩
                · exact this
                · simp at hr0
              have q2 : decide (0 < (r.length : Int)) = false := decide_eq_false (by omega)
              subst e0
              clear hdone
              go_wp2
              go_ret2
              exact ⟨_, rfl, ⟨us, unhide HO⟩, unhide HB⟩
theorem parts_any {W : World} {v : Value} {l : List Nat} (h : HasB W v l) (hl : Byt l) :
    Calls Tryd.prog 8 #[v] W fun e W' => ∃ v', e = .returned (.tuple #[v', .int .i64 (partsA l).1]) ∧ (∃ us, OwnBB W.heap.size W.heap.size W' v' us (partsA l).2) ∧ Below W.heap.size W W' := (parts_own h hl).mono fun _ _ ⟨v, h1, ⟨us, h2⟩, h3⟩ => ⟨v, h1, ⟨us, h2.bb⟩, h3⟩
end Go.Proofs.YtlblllghgdfpoaaDoor
