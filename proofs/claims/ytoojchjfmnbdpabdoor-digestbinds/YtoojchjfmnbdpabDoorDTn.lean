import Derived.Test.YtoojchjfmnbdpabDoorDTm
namespace Go.Proofs.YtoojchjfmnbdpabDoor
open Go.RowKit
attribute [local go_sem ↓] Go.wp_at_zero Go.wp_at_succ

theorem World.grown_refl (w : World) (b : Option Nat) : w.grownBy w b := ⟨rfl, rfl, rfl, Nat.le_refl _, fun _ _ _ => rfl⟩
/-- Bytes that can be read, appended to bytes of one's own. -/
theorem wpList_append_bytes {w : World} {ops : Array Oper} {rest : List Oper} {o : Oper} {a : Act} {Q : Exit → Act → World → Prop} (hgd : o.guard = none) (s x : Operand)
    (ho : o.op = .call { callee := .builtin .append, args := #[s, x], argTypes := #[28, 28] }) (base : Nat)
    (v : Value) (k : List Nat) (hs : a.eval s = v) (hown : Bytes base w v k) (u : Value) (l : List Nat) (hx : a.eval x = u) (hu : HasB w u l) (hn : k.length + l.length ≤ 140737488355328) (hbase : base ≤ w.heap.size)
    (h : ∀ v' w', Bytes base w' v' (k ++ l) → Below base w w' → wpList Tryd.prog ops Q rest (a.put o.dst v') w') : wpList Tryd.prog ops Q (o :: rest) a w := by
  obtain ⟨i0, hi, hz0, hz1, hz2⟩ := info_parts Tryd.infoByte
  obtain ⟨ua, uc, rfl, hm, h3⟩ := hu
  cases ua with
  | none =>
    have hc := hm.2.2 rfl
    have hl0 : l.length = 0 := by omega
    obtain rfl : l = [] := List.eq_nil_of_length_eq_zero hl0
    subst hc
    refine wpList_append_own_none hgd s x 28 ho base 5 i0 1 Tryd.underlying28 hi v k.length (nb k) hs hown hx (h v w ?_ (Below.refl _ _))
    rw [List.append_nil]
    exact hown
  | some ad =>
    have hn2 : k.length + l.length ≤ maxLen := by unfold maxLen; omega
    refine wpList_append_own_at w hgd s x 28 ho base 5 i0 (.int .u8 0) 1 1 Tryd.underlying28 hi hz0 hz1 hz2 rfl (by decide) v k.length (nb k) hs hown ad l.length uc (nb l) hx (by rw [nb_len, Nat.mul_one]) (fun j y hj => ?_) (nb_one l) hn2 (by omega) hbase (fun v' w' hr hg _ _ => ?_)
    · rw [nb_at] at hj
      obtain ⟨b, hb, rfl⟩ := Option.map_eq_some_iff.1 hj
      obtain ⟨g, off, e, hg, hc⟩ := h3 (by have := (List.getElem?_eq_some_iff.1 hb).1; omega)
      injection e with e
      subst e
      rw [Go.WideShapes.add_plain]
      exact hc j b hb
    · refine h v' w' ?_ ⟨hg.os, hg.tape, hg.output, hg.size, fun b hb => hg.block b (by omega) (fun e => by have := (hown.lt b e.symm).1; omega)⟩
      unfold Bytes
      rw [nb_append, List.length_append]
      exact hr
theorem getD_byt {pf : List (List Nat)} (h : ∀ l ∈ pf, Byt l ∧ l.length ≤ 32) (i : Nat) : Byt (pf.getD i []) ∧ (pf.getD i []).length ≤ 32 := by
  rw [List.getD_eq_getElem?_getD]
  cases e : pf[i]? with
  | none => exact ⟨fun x hx => (by cases hx), (by simp)⟩
  | some l => exact h l (List.mem_of_getElem? e)
theorem byt_cons {x : Nat} {l m : List Nat} (hx : x < 256) (h1 : Byt l) (h2 : Byt m) : Byt (x :: (l ++ m)) := fun y hy => by
  rcases List.mem_cons.1 hy with rfl | hy
  · exact hx
  · rcases List.mem_append.1 hy with hy | hy
    · exact h1 y hy
    · exact h2 y hy
theorem ups_byt : ∀ (f : Nat) (leaf : List Nat) (a c : Nat) (pf : List (List Nat)), Byt leaf → leaf.length ≤ 140737488351232 → (∀ l ∈ pf, Byt l ∧ l.length ≤ 32) → ∀ l ∈ upsF f leaf a c pf, Byt l ∧ l.length ≤ 140737488351300 := by
  have h0 : ∀ (leaf : List Nat), Byt leaf → leaf.length ≤ 140737488351232 → ∀ l ∈ [0 :: leaf], Byt l ∧ l.length ≤ 140737488351300 := fun leaf hb hn l hl => by
    rw [List.mem_singleton.1 hl]
    refine ⟨fun y hy => ?_, by rw [List.length_cons]; omega⟩
    rcases List.mem_cons.1 hy with rfl | hy
    · decide
    · exact hb y hy
  intro f
  induction f with
  | zero => intro leaf a c pf hb hn hp; exact h0 leaf hb hn
  | succ f ih =>
    intro leaf a c pf hb hn hp
    have hp' : ∀ l ∈ pf.take (pf.length - 1), Byt l ∧ l.length ≤ 32 := fun l hl => hp l (List.mem_of_mem_take hl)
    obtain ⟨g1, g2⟩ := getD_byt hp (pf.length - 1)
    rw [upsF]
    split
    · exact h0 leaf hb hn
    · split
      · intro l hl
        rcases List.mem_append.1 hl with hl | hl
        · exact ih leaf _ _ _ hb hn hp' l hl
        · rw [List.mem_singleton.1 hl]
          exact ⟨byt_cons (by decide) (comeF_byt _ _ _ _ _) g1, by rw [List.length_cons, List.length_append, comeF_len]; omega⟩
      · intro l hl
        rcases List.mem_append.1 hl with hl | hl
        · exact ih leaf _ _ _ hb hn hp' l hl
        · rw [List.mem_singleton.1 hl]
          exact ⟨byt_cons (by decide) g1 (comeF_byt _ _ _ _ _), by rw [List.length_cons, List.length_append, comeF_len]; omega⟩
theorem lies_mid {S : Nat} {w2 w5 : World} {v u : Value} {us : List Value} {ls : List (List Nat)} {l : List Nat} (hO : OwnBB S S w2 v us ls) (hB : Bytes w2.heap.size w5 u l) (hs : S ≤ w2.heap.size) : Lies S w5 v.ownBlock u := fun b hbb => by
  obtain ⟨q1, q2⟩ := hB.lt b hbb
  refine ⟨by omega, q2, fun e => ?_⟩
  have := (hO.row.lt b e.symm).2
  omega
theorem ownBB_one {S : Nat} {W : World} {u : Value} {l : List Nat} (h : Bytes S W u l) (hs : S ≤ W.heap.size) : OwnBB S S (W.alloc (.cells #[u] 28)) (.slice (some ⟨W.heap.size, 0, none⟩) 1 1) [u] [l] := by
  refine ⟨⟨rfl, .inr ⟨W.heap.size, 1, #[u], rfl, hs, heap_new _ _, Nat.le_refl _, by unfold maxLen; decide, rfl, rfl⟩⟩, fun j z m hz hm => ?_⟩
  have hj : j = 0 := by have := (List.getElem?_eq_some_iff.1 hz).1; simpa using this
  subst hj
  simp at hz hm
  subst hz hm
  refine ⟨h.has.up ((Below.refl _ _).alloc (Nat.le_refl _) _), fun b hb => ?_⟩
  obtain ⟨q1, q2⟩ := h.lt b hb
  refine ⟨q1, by rw [World.size_alloc]; omega, fun e => ?_⟩
  have : b = W.heap.size := Option.some.inj e
  omega
set_option maxRecDepth 100000 in
set_option maxHeartbeats 4000000 in
theorem ups_any : ∀ (f : Nat) {W : World} {v p : Value} {leaf : List Nat} {pf : List (List Nat)} {a c : Nat}, HasK W → HasS W → HasB W v leaf → Byt leaf → leaf.length ≤ 140737488351232 → HasBB W p pf → (∀ l ∈ pf, Byt l ∧ l.length = 32) → pf.length = stepsF f a c → c ≤ f → f ≤ 65536 → a ≤ 65536 →
    Calls Tryd.prog 24 #[v, .int .i64 (a : Int), .int .i64 (c : Int), p] W fun e W' => ∃ v', e = .returned v' ∧ (∃ us, OwnBB W.heap.size W.heap.size W' v' us (upsF f leaf a c pf)) ∧ Below W.heap.size W W' := by
  obtain ⟨i0, hi, hz0, hz1, hz2⟩ := info_parts Tryd.infoBytes
  intro f
  have leafCase : ∀ {W : World} {v p : Value} {leaf : List Nat} {pf : List (List Nat)} {a c : Nat}, HasB W v leaf → leaf.length ≤ 140737488351232 → HasBB W p pf → c < 2 →
      Calls Tryd.prog 24 #[v, .int .i64 (a : Int), .int .i64 (c : Int), p] W fun e W' => ∃ v', e = .returned v' ∧ (∃ us, OwnBB W.heap.size W.heap.size W' v' us [0 :: leaf]) ∧ Below W.heap.size W W' := by
    intro W v p leaf pf a c hv hvn hp h2
    have q1 : decide ((c : Int) < 2) = true := decide_eq_true (by omega)
    have bL : Below W.heap.size W (W.alloc (.cells #[.int .u8 0] 5)) := (Below.refl _ _).alloc (Nat.le_refl _) _
    have HL : Hid (Bytes W.heap.size (W.alloc (.cells #[.int .u8 0] 5)) (.slice (some ⟨W.heap.size, 0, none⟩) 1 1) [0]) :=
      ⟨rfl, .inr ⟨W.heap.size, 1, #[.int .u8 0], rfl, Nat.le_refl _, heap_new _ _, Nat.le_refl _, by unfold maxLen; decide, rfl, rfl⟩⟩
    have hLs : W.heap.size ≤ (W.alloc (.cells #[.int .u8 0] 5)).heap.size := bL.size
    have Hv := hide (hv.up bL)
    have o1 : [0].length + leaf.length ≤ 140737488355328 := by simp; omega
    have O1 := hide o1
    have BL := hide bL
    obtain ⟨va, vc, rfl, _, _⟩ := hv
    obtain ⟨pa, pc, rfl, _, _⟩ := hp
    clear bL o1
    go_enter Tryd.func24, Tryd.ntmps24
    have GO : True := trivial
    go_wp2_with (at_builtin; clear GO; refine wpList_append_bytes rfl _ _ rfl W.heap.size _ _ rfl (unhide HL) _ _ rfl (unhide Hv) (unhide O1) hLs ?_; intro v3 w3 hL3 hb3; have HL3 := hide hL3; have B23 : Hid (Below W.heap.size W w3) := (unhide BL).trans hb3; clear hL3 hb3; obtain ⟨x3, c3, e3⟩ := (unhide HL3).slc; subst e3)
    have hs3 := (unhide B23).size
    have HO := hide (ownBB_one (unhide HL3) hs3)
    have B2 : Hid (Below W.heap.size W (w3.alloc (.cells #[.slice x3 ([0] ++ leaf).length c3] 28))) := (unhide B23).alloc hs3 _
    go_ret
    exact ⟨_, rfl, ⟨_, unhide HO⟩, unhide B2⟩
  induction f with
  | zero =>
    intro W v p leaf pf a c hK hS hv hvb hvn hp hpb hpl hc hf ha
    exact leafCase hv hvn hp (by omega)
  | succ f ih =>
    intro W v p leaf pf a c hK hS hv hvb hvn hp hpb hpl hc hf ha
    by_cases h2 : c < 2
    · rw [upsF, if_pos h2]
      exact leafCase hv hvn hp h2
    · have q1 : decide ((c : Int) < 2) = false := decide_eq_false (by omega)
      have hcut := xcut_any c W (by omega) (by omega)
      obtain ⟨k, hk⟩ : ∃ k, cutN c = k := ⟨_, rfl⟩
      have k0 : 0 < k := by rw [← hk]; exact cutN_pos _
      have k1 : k < c := by rw [← hk]; exact cutN_lt (by omega)
      rw [hk] at hcut
      have Hcut := hide hcut
      have hpos : 0 < pf.length := by
        rw [hpl, stepsF, if_neg h2]
        split <;> omega
      obtain ⟨t, ht⟩ : ∃ t, pf.length = t + 1 := ⟨pf.length - 1, by omega⟩
      obtain ⟨pa, pc, rfl, hpm, hp3⟩ := id hp
      obtain ⟨g, off, rfl, hg, hcc⟩ := hp3 hpos
      obtain ⟨top, htop⟩ : ∃ x, pf[t]? = some x := ⟨_, List.getElem?_eq_getElem (by omega)⟩
      obtain ⟨u, hu, hBu⟩ := hcc t top htop
      obtain ⟨tb, tl⟩ := hpb top (List.mem_of_getElem? htop)
      have hgl : pf.getD t [] = top := by rw [List.getD_eq_getElem?_getD, htop]; rfl
      have hpc : pc ≤ 9223372036854775807 := by have := hpm.2.1; unfold maxLen at this; omega
      have hpc2 := hpm.1
      have htk := hp.take t (by omega)
      have hsb := stepsF_le (f + 1) a c
      have htn : t ≤ 65536 := by omega
      have et : (pf.length : Int) - 1 = (t : Int) := by omega
      have t0 : (0 : Int) ≤ (t : Int) := Int.natCast_nonneg _
      have t1 : (t : Int) < (pf.length : Int) := by omega
      have t2 : (t : Int) ≤ (pc : Int) := by omega
      have t3 : (t : Int) ≤ (pf.length : Int) := by omega
      have hlt' : (pf.take t).length = t := by rw [List.length_take]; omega
      have hbt : ∀ l ∈ pf.take t, Byt l ∧ l.length = 32 := fun l hl => hpb l (List.mem_of_mem_take hl)
      have Htk := hide htk
      have Hu := hide hu
      have HBu := hide hBu
      have Ht := hide ht
      obtain ⟨ua, uc, e9, _, _⟩ := id hBu
      subst e9
      clear htk hcut hcc hp3 hpm htop hu hp ht hBu
      by_cases hlt : a < k
      · skip
        have eU : upsF (f + 1) leaf a c pf = (upsF f leaf a k (pf.take t)) ++ [(1 :: ((comeF f leaf a k (pf.take t)) ++ top))] := by
          rw [upsF, if_neg h2, hk, if_pos hlt, show pf.length - 1 = t by have := unhide Ht; omega, hgl]
        rw [eU]
        have q2 : decide ((a : Int) < (k : Int)) = true := decide_eq_true (by omega)
        have hst : (pf.take t).length = stepsF f a k := by
          rw [stepsF, if_neg h2, hk, if_pos hlt] at hpl
          have := unhide Ht
          omega
        have i1 := ih (a := a) (c := k) hK hS hv hvb hvn (unhide Htk) hbt hst (by omega) (by omega) ha
        have hul := ups_len f leaf a k (pf.take t) (by omega)
        have hus := stepsF_le f a k
        obtain ⟨l0, x, e0, e1⟩ := ups_last f leaf a k (pf.take t)
        have hxb := ups_byt f leaf a k (pf.take t) hvb hvn (fun l hl => ⟨(hbt l hl).1, by rw [(hbt l hl).2]; decide⟩) x (by rw [e0]; simp)
        rw [e1]
        have hcl := sha_len x
        have Hsb := hide (sha_byt x)
        have I1 := hide i1
        obtain ⟨va, vc, rfl, _, _⟩ := hv
        have hl0 : (upsF f leaf a k (pf.take t)).length = l0.length + 1 := by rw [e0]; simp
        rw [e0] at I1 ⊢
        have hlx : (l0 ++ [x])[l0.length]? = some x := List.getElem?_concat_length
        have hll : (l0 ++ [x]).length = l0.length + 1 := by simp
        have hlb : l0.length ≤ 65537 := by have := stepsF_le f a k; omega
        clear i1 eU hst hpl hgl hk ih hlt' hul hus e0 e1 hl0
        generalize l0 ++ [x] = us1 at *
        go_enter Tryd.func24, Tryd.ntmps24
        go_wp2_with fail
        refine (unhide Hcut).mono ?_
        rintro e w' ⟨rfl, he⟩
        obtain rfl : W = w' := he.symm
        clear he
        go_wp2_with fail
        refine (unhide I1).mono ?_
        rintro e w2 ⟨v2, rfl, ⟨us2, hO2⟩, hb2⟩
        obtain ⟨ob, oc, e8, _, h8⟩ := id hO2.has
        subst e8
        obtain ⟨og, oo, e8, hog, h9⟩ := h8 (by omega)
        subst e8
        obtain ⟨lu, hlu, hBl⟩ := h9 l0.length x hlx
        obtain ⟨lua, luc, e8, _, _⟩ := id hBl
        subst e8
        have hoc : (l0.length : Int) < (us1.length : Int) := by omega
        have l0' : (0 : Int) ≤ (l0.length : Int) := Int.natCast_nonneg _
        have elen : (us1.length : Int) - 1 = (l0.length : Int) := by omega
        have hu1 : 1 ≤ us1.length := by omega
        have hu2 : us1.length ≤ 65538 := by omega
        have Hlu := hide hlu
        have HBl := hide hBl
        have HO2 := hide hO2
        have Hb2 := hide hb2
        have hs2 := hb2.size
        have Hll := hide hll
        have Hlx := hide hlx
        have Hcl := hide hcl
        clear h8 h9 hlu hBl hO2 hb2 I1 Hcut hll hlx hcl
        have bL : Below w2.heap.size w2 (w2.alloc (.cells #[.int .u8 1] 5)) := (Below.refl _ _).alloc (Nat.le_refl _) _
        have HL : Hid (Bytes w2.heap.size (w2.alloc (.cells #[.int .u8 1] 5)) (.slice (some ⟨w2.heap.size, 0, none⟩) 1 1) [1]) :=
          ⟨rfl, .inr ⟨w2.heap.size, 1, #[.int .u8 1], rfl, Nat.le_refl _, heap_new _ _, Nat.le_refl _, by unfold maxLen; decide, rfl, rfl⟩⟩
        have hLs : w2.heap.size ≤ (w2.alloc (.cells #[.int .u8 1] 5)).heap.size := bL.size
        have BL := hide bL
        have Htl := hide tl
        have O3 : Hid (us1.length + 1 ≤ maxLen) := by show _ ≤ _; rw [unhide Hll]; unfold maxLen; omega
        have O4 : Hid ((us1.length + 1) * 24 ≤ 140737488355328) := by show _ ≤ _; rw [unhide Hll]; omega
        have O2 : Hid (∀ L M : List Nat, L.length ≤ 64 → M.length ≤ 64 → L.length + M.length ≤ 140737488355328) := fun L M h1 h2 => by omega
        clear tl
        have GO1 : True := trivial
        have GO2 : True := trivial
        have GO3 : True := trivial
        have hsu := sum_any (hK.up ((unhide Hb2).trans ((unhide BL).mono hs2))) (hS.up ((unhide Hb2).trans ((unhide BL).mono hs2))) ((unhide HBl).up (unhide BL)) hxb.1 (by omega)
        have Hsu := hide hsu
        have clu := ((unhide BL).cell (p := ⟨og, oo + l0.length, none⟩) hog).trans (unhide Hlu)
        clear hsu bL
        go_wp2_with fail
        refine (unhide Hsu).mono ?_
        rintro e w3 ⟨v3, rfl, hB3, hb3⟩
        have hL3 := (unhide HL).upw hb3
        have b23 : Below w2.heap.size w2 w3 := (unhide BL).trans (hb3.mono (by rw [World.size_alloc]; omega))
        have hs3 := b23.size
        have HL3 := hide hL3
        have HB3 := hide hB3.has
        have B23 := hide b23
        obtain ⟨x3, c3, e3⟩ := hB3.slc
        subst e3
        clear hL3 b23 hB3 hb3 Hsu HL BL clu
        go_wp2_with (first | (at_builtin; clear GO1; refine wpList_append_bytes rfl _ _ rfl w2.heap.size _ _ rfl (unhide HL3) _ _ rfl (unhide HB3) (unhide O2 _ _ (by decide) (Nat.le_trans (Nat.le_of_eq (unhide Hcl)) (by decide))) hs3 ?_; intro v4 w4 hL4 hb4; have B24 : Hid (Below w2.heap.size w2 w4) := (unhide B23).trans hb4; obtain ⟨L4, e9⟩ : ∃ L, [1] ++ sha x = L := ⟨_, rfl⟩; have hL4l : L4.length = 33 := (by rw [← e9, List.length_append, unhide Hcl]; rfl); rw [e9] at hL4; have HE4 := hide e9; have HL4l := hide hL4l; obtain ⟨x4, c4, e4⟩ := hL4.slc; subst e4; have HL4 := hide hL4; have b04 := (unhide Hb2).trans ((unhide B24).mono hs2); have cu4 := (b04.cell (p := ⟨g, off + t, none⟩) hg).trans (unhide Hu); have HBu4 := hide ((unhide HBu).up b04); have hs4 := (unhide B24).size; clear hL4 hb4 e9 hL4l b04) | (at_builtin; clear GO2; refine wpList_append_bytes rfl _ _ rfl w2.heap.size _ _ rfl (unhide HL4) _ _ rfl (unhide HBu4) (unhide O2 _ _ (Nat.le_trans (Nat.le_of_eq (unhide HL4l)) (by decide)) (Nat.le_trans (Nat.le_of_eq (unhide Htl)) (by decide))) hs4 ?_; intro v5 w5 hL5 hb5; have B25 : Hid (Below w2.heap.size w2 w5) := (unhide B24).trans hb5; obtain ⟨L5, e9⟩ : ∃ L, L4 ++ top = L := ⟨_, rfl⟩; rw [e9] at hL5; have HE5 := hide e9; obtain ⟨x5, c5, e5⟩ := hL5.slc; subst e5; have HO5 := hide ((unhide HO2).up (unhide B25)); have Hli := hide (lies_mid (unhide HO2) hL5 hs2); have HH5 := hide hL5.has; have B05 : Hid (Below W.heap.size W w5) := (unhide Hb2).trans ((unhide B25).mono hs2); have hs05 := (unhide B05).size; clear hL5 hb5 e9) | (at_builtin; clear GO3; refine wpList_append_own_at _ rfl _ _ 27 rfl W.heap.size 28 i0 (.slice none 0 0) 1 24 Tryd.underlying27 hi hz0 hz1 hz2 rfl (by decide) _ _ _ rfl ((unhide HO5).row.alloc _) ⟨w5.heap.size, 0, none⟩ 1 1 [.slice x5 L5.length c5] rfl rfl (cell_one_new _ _ _) (by simp [Value.oneCell']) (unhide O3) (unhide O4) (by rw [World.size_alloc]; omega) ?_; intro v9 w9 hown9 hgrow9 hdrop9 hat9; clear hdrop9; have HP9 := hide ((unhide HO5).push (unhide HH5) (unhide Hli) hown9 hgrow9 hat9); have Hb9 : Hid (Below W.heap.size W w9) := below_grow0 (unhide B05) hs05 hgrow9 (fun b hb => ((unhide HO5).row.lt b hb).1); clear hown9 hgrow9 hat9))
        have en : L5 = (1 :: (sha x ++ top)) := by rw [← unhide HE5, ← unhide HE4]; simp
        go_ret
        exact ⟨_, rfl, ⟨_, en ▸ unhide HP9⟩, unhide Hb9⟩
      · skip
        obtain ⟨aa, haa⟩ : ∃ aa, a - k = aa := ⟨_, rfl⟩
        obtain ⟨cc, hcc⟩ : ∃ cc, c - k = cc := ⟨_, rfl⟩
        have eU : upsF (f + 1) leaf a c pf = (upsF f leaf aa cc (pf.take t)) ++ [(1 :: (top ++ (comeF f leaf aa cc (pf.take t))))] := by
          rw [upsF, if_neg h2, hk, if_neg hlt, show pf.length - 1 = t by have := unhide Ht; omega, hgl, haa, hcc]
        rw [eU]
        have q2 : decide ((a : Int) < (k : Int)) = false := decide_eq_false (by omega)
        have eaa : (a : Int) - (k : Int) = (aa : Int) := by omega
        have ecc : (c : Int) - (k : Int) = (cc : Int) := by omega
        have haa2 : aa ≤ 65536 := by omega
        have hcc2 : cc ≤ 65536 := by omega
        have hst : (pf.take t).length = stepsF f aa cc := by
          rw [stepsF, if_neg h2, hk, if_neg hlt, haa, hcc] at hpl
          have := unhide Ht
          omega
        have i1 := ih (a := aa) (c := cc) hK hS hv hvb hvn (unhide Htk) hbt hst (by omega) (by omega) (by omega)
        have hul := ups_len f leaf aa cc (pf.take t) (by omega)
        have hus := stepsF_le f aa cc
        obtain ⟨l0, x, e0, e1⟩ := ups_last f leaf aa cc (pf.take t)
        have hxb := ups_byt f leaf aa cc (pf.take t) hvb hvn (fun l hl => ⟨(hbt l hl).1, by rw [(hbt l hl).2]; decide⟩) x (by rw [e0]; simp)
        rw [e1]
        have hcl := sha_len x
        have Hsb := hide (sha_byt x)
        have I1 := hide i1
        obtain ⟨va, vc, rfl, _, _⟩ := hv
        have hl0 : (upsF f leaf aa cc (pf.take t)).length = l0.length + 1 := by rw [e0]; simp
        rw [e0] at I1 ⊢
        have hlx : (l0 ++ [x])[l0.length]? = some x := List.getElem?_concat_length
        have hll : (l0 ++ [x]).length = l0.length + 1 := by simp
        have hlb : l0.length ≤ 65537 := by have := stepsF_le f aa cc; omega
        clear i1 eU hst hpl hgl hk ih hlt' hul hus e0 e1 hl0 haa hcc
        generalize l0 ++ [x] = us1 at *
        go_enter Tryd.func24, Tryd.ntmps24
        go_wp2_with fail
        refine (unhide Hcut).mono ?_
        rintro e w' ⟨rfl, he⟩
        obtain rfl : W = w' := he.symm
        clear he
        go_wp2_with fail
        refine (unhide I1).mono ?_
        rintro e w2 ⟨v2, rfl, ⟨us2, hO2⟩, hb2⟩
        obtain ⟨ob, oc, e8, _, h8⟩ := id hO2.has
        subst e8
        obtain ⟨og, oo, e8, hog, h9⟩ := h8 (by omega)
        subst e8
        obtain ⟨lu, hlu, hBl⟩ := h9 l0.length x hlx
        obtain ⟨lua, luc, e8, _, _⟩ := id hBl
        subst e8
        have hoc : (l0.length : Int) < (us1.length : Int) := by omega
        have l0' : (0 : Int) ≤ (l0.length : Int) := Int.natCast_nonneg _
        have elen : (us1.length : Int) - 1 = (l0.length : Int) := by omega
        have hu1 : 1 ≤ us1.length := by omega
        have hu2 : us1.length ≤ 65538 := by omega
        have Hlu := hide hlu
        have HBl := hide hBl
        have HO2 := hide hO2
        have Hb2 := hide hb2
        have hs2 := hb2.size
        have Hll := hide hll
        have Hlx := hide hlx
        have Hcl := hide hcl
        clear h8 h9 hlu hBl hO2 hb2 I1 Hcut hll hlx hcl
        have bL : Below w2.heap.size w2 (w2.alloc (.cells #[.int .u8 1] 5)) := (Below.refl _ _).alloc (Nat.le_refl _) _
        have HL : Hid (Bytes w2.heap.size (w2.alloc (.cells #[.int .u8 1] 5)) (.slice (some ⟨w2.heap.size, 0, none⟩) 1 1) [1]) :=
          ⟨rfl, .inr ⟨w2.heap.size, 1, #[.int .u8 1], rfl, Nat.le_refl _, heap_new _ _, Nat.le_refl _, by unfold maxLen; decide, rfl, rfl⟩⟩
        have hLs : w2.heap.size ≤ (w2.alloc (.cells #[.int .u8 1] 5)).heap.size := bL.size
        have BL := hide bL
        have Htl := hide tl
        have O3 : Hid (us1.length + 1 ≤ maxLen) := by show _ ≤ _; rw [unhide Hll]; unfold maxLen; omega
        have O4 : Hid ((us1.length + 1) * 24 ≤ 140737488355328) := by show _ ≤ _; rw [unhide Hll]; omega
        have O2 : Hid (∀ L M : List Nat, L.length ≤ 64 → M.length ≤ 64 → L.length + M.length ≤ 140737488355328) := fun L M h1 h2 => by omega
        clear tl
        have GO1 : True := trivial
        have GO2 : True := trivial
        have GO3 : True := trivial
        have hu2 := ((unhide Hb2).trans ((unhide BL).mono hs2)).cell (p := ⟨g, off + t, none⟩) hg
        have cu2 := hu2.trans (unhide Hu)
        have HBu2 := hide ((unhide HBu).up ((unhide Hb2).trans ((unhide BL).mono hs2)))
        clear bL hu2
        go_wp2_with (at_builtin; clear GO1; refine wpList_append_bytes rfl _ _ rfl w2.heap.size _ _ rfl (unhide HL) _ _ rfl (unhide HBu2) (unhide O2 _ _ (by decide) (Nat.le_trans (Nat.le_of_eq (unhide Htl)) (by decide))) hLs ?_; intro v3 w3 hL3 hb3; have B23 : Hid (Below w2.heap.size w2 w3) := (unhide BL).trans hb3; obtain ⟨L4, e9⟩ : ∃ L, [1] ++ top = L := ⟨_, rfl⟩; have hL4l : L4.length = 33 := (by rw [← e9, List.length_append, unhide Htl]; rfl); rw [e9] at hL3; have HE4 := hide e9; have HL4l := hide hL4l; obtain ⟨x3, c3, e3⟩ := hL3.slc; subst e3; have HL3 := hide hL3; have clu := ((unhide B23).cell (p := ⟨og, oo + l0.length, none⟩) hog).trans (unhide Hlu); have hs3 := (unhide B23).size; clear hL3 hb3 e9 hL4l)
        have hsu := sum_any (hK.up ((unhide Hb2).trans ((unhide B23).mono hs2))) (hS.up ((unhide Hb2).trans ((unhide B23).mono hs2))) ((unhide HBl).up (unhide B23)) hxb.1 (by omega)
        have Hsu := hide hsu
        clear hsu HL BL cu2 HBu2
        refine (unhide Hsu).mono ?_
        rintro e w4 ⟨v4, rfl, hB4, hb4⟩
        have HL4 := hide ((unhide HL3).upw hb4)
        have B24 : Hid (Below w2.heap.size w2 w4) := (unhide B23).trans (hb4.mono hs3)
        have hs4 := (unhide B24).size
        have HB4 := hide hB4.has
        obtain ⟨x4, c4, e4⟩ := hB4.slc
        subst e4
        clear hB4 hb4 Hsu HL3 B23 clu
        go_wp2_with (first | (at_builtin; clear GO2; refine wpList_append_bytes rfl _ _ rfl w2.heap.size _ _ rfl (unhide HL4) _ _ rfl (unhide HB4) (unhide O2 _ _ (Nat.le_trans (Nat.le_of_eq (unhide HL4l)) (by decide)) (Nat.le_trans (Nat.le_of_eq (unhide Hcl)) (by decide))) hs4 ?_; intro v5 w5 hL5 hb5; have B25 : Hid (Below w2.heap.size w2 w5) := (unhide B24).trans hb5; obtain ⟨L5, e9⟩ : ∃ L, L4 ++ sha x = L := ⟨_, rfl⟩; rw [e9] at hL5; have HE5 := hide e9; obtain ⟨x5, c5, e5⟩ := hL5.slc; subst e5; have HO5 := hide ((unhide HO2).up (unhide B25)); have Hli := hide (lies_mid (unhide HO2) hL5 hs2); have HH5 := hide hL5.has; have B05 : Hid (Below W.heap.size W w5) := (unhide Hb2).trans ((unhide B25).mono hs2); have hs05 := (unhide B05).size; clear hL5 hb5 e9) | (at_builtin; clear GO3; refine wpList_append_own_at _ rfl _ _ 27 rfl W.heap.size 28 i0 (.slice none 0 0) 1 24 Tryd.underlying27 hi hz0 hz1 hz2 rfl (by decide) _ _ _ rfl ((unhide HO5).row.alloc _) ⟨w5.heap.size, 0, none⟩ 1 1 [.slice x5 L5.length c5] rfl rfl (cell_one_new _ _ _) (by simp [Value.oneCell']) (unhide O3) (unhide O4) (by rw [World.size_alloc]; omega) ?_; intro v9 w9 hown9 hgrow9 hdrop9 hat9; clear hdrop9; have HP9 := hide ((unhide HO5).push (unhide HH5) (unhide Hli) hown9 hgrow9 hat9); have Hb9 : Hid (Below W.heap.size W w9) := below_grow0 (unhide B05) hs05 hgrow9 (fun b hb => ((unhide HO5).row.lt b hb).1); clear hown9 hgrow9 hat9))
        have en : L5 = (1 :: (top ++ sha x)) := by rw [← unhide HE5, ← unhide HE4]; simp
        go_ret
        exact ⟨_, rfl, ⟨_, en ▸ unhide HP9⟩, unhide Hb9⟩
end Go.Proofs.YtoojchjfmnbdpabDoor
