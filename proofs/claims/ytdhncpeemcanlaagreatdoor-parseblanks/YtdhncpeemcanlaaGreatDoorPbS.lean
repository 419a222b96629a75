import Derived.Test.YtdhncpeemcanlaaGreatDoorJ33

namespace Go.Proofs.YtdhncpeemcanlaaGreatDoor
open Go.RowKit
attribute [local go_sem ↓] Go.wp_at_zero Go.wp_at_succ

theorem Ap.set7 {lo b g T : Nat} {nm : ByteArray} {ss : List Slot} {N : (Nat → Prop) → World → Prop} {V W w : World} {s : PSt} {i k n : Nat} {t : TypeId} {v : Value} {xs : List Value} {z : Slot} (hz : ss[i]? = some z) (h : Ap lo b g T nm (ss.set i ⟨t, 7, v, n + 1, xs ++ zeroM.toList⟩) N V W s w) (hN : Stable N) (hk : v.ownBlock = some k) (hn : xs.length = n * 7) (u0 u1 u2 u3 u4 u5 u6 : Value) :
    Ap lo b g T nm (ss.set i ⟨t, 7, v, n + 1, xs ++ [u0, u1, u2, u3, u4, u5, u6]⟩) N V W s (set7 w k (n * 7) u0 u1 u2 u3 u4 u5 u6) := by
  have h0 := h.setRow hN (get_set' hz _) hk (n * 7) u0
  rw [set_set'] at h0
  have h1 := h0.setRow hN (get_set' hz _) hk (n * 7 + 1) u1
  rw [set_set'] at h1
  have h2 := h1.setRow hN (get_set' hz _) hk (n * 7 + 2) u2
  rw [set_set'] at h2
  have h3 := h2.setRow hN (get_set' hz _) hk (n * 7 + 3) u3
  rw [set_set'] at h3
  have h4 := h3.setRow hN (get_set' hz _) hk (n * 7 + 4) u4
  rw [set_set'] at h4
  have h5 := h4.setRow hN (get_set' hz _) hk (n * 7 + 5) u5
  rw [set_set'] at h5
  have h6 := h5.setRow hN (get_set' hz _) hk (n * 7 + 6) u6
  rw [set_set'] at h6
  simp only at h6
  rw [show zeroM.toList = [.string ⟨#[]⟩, .slice none 0 0, .slice none 0 0, .slice none 0 0, .slice none 0 0, .slice none 0 0, .slice none 0 0] from rfl, set_seven xs n hn] at h6
  exact h6
set_option maxRecDepth 100000 in
theorem frame27 {tm : Array Value} (h : tm.size = 27) : ∃ u : Nat → Value, tm = #[u 0, u 1, u 2, u 3, u 4, u 5, u 6, u 7, u 8, u 9, u 10, u 11, u 12, u 13, u 14, u 15, u 16, u 17, u 18, u 19, u 20, u 21, u 22, u 23, u 24, u 25, u 26] := by
  refine ⟨fun i => tm.getD i undef, ?_⟩
  have e : tm = ((List.range 27).map fun i => tm.getD i undef).toArray := by
    apply Array.ext
    · simp [h]
    · intro i h1 h2
      simp [Array.getD, h1]
  exact e.trans rfl
noncomputable def bmR0 : Code := match Tryz.f107.body with
  | some (.seq r _) => r
  | _ => .skip
noncomputable def bmC : Code := match Tryz.f107.body with
  | some (.seq _ c) => c
  | _ => .skip
theorem bm_split : Tryz.f107.body = some (.seq bmR0 bmC) := rfl
noncomputable def bmR1 : Code := match bmC with
  | .cond _ (.seq r _) _ => r
  | _ => .skip
noncomputable def bmR2 : Code := match bmC with
  | .cond _ (.seq _ r) _ => r
  | _ => .skip
noncomputable def bmR3 : Code := match bmC with
  | .cond _ _ r => r
  | _ => .skip
theorem bm_splitC : bmC = .cond (.tmp 3) (.seq bmR1 bmR2) bmR3 := rfl
section
variable {lo b g : Nat} {nm : ByteArray} {ss : List Slot} {N : (Nat → Prop) → World → Prop} {V W w0 : World} {s : PSt} {sl : Slot} {r : Except (Int × Int) (Ms × PSt)} {pm pr : Nat} {tm0 : Array Value} {R : Ending → World → Prop}
set_option maxRecDepth 100000 in
set_option maxHeartbeats 4000000 in
theorem bmR3_any (h : Ap lo b g 51 nm ss N V W s w0) (hN : Stable N) (hi : ss[2]? = some sl) (hfit : Fit 31 sl 160 (NML g)) (hn : sl.n ≤ 100000) (hcs : ∀ P w, N P w → ∀ c ∈ ([(pm, #[.pointer (some ⟨g, 0, none⟩)], 128), (pr, #[.pointer (some ⟨b, 0, none⟩)], 80)] : List (Nat × Array Value × TypeId)), Cell1 c.1 c.2.1 c.2.2 P w) (hcall : ∀ w s2 M, Stable M → Ap lo b g 51 nm ss (fun P w => N P w ∧ M P w) V W s2 w → s2 = s → Calls Tryz.prog 71 #[.pointer (some ⟨b, 0, none⟩)] w (CR lo b (NML g) w r))
    (hR : ∀ e w, CP lo b g 51 nm ss N V W 2 sl r (NML g) e w → R e w) (hsz0 : tm0.size = 27) (k0 : tm0.getD 0 undef = .pointer (some ⟨pm, 0, none⟩)) (k1 : tm0.getD 1 undef = .pointer (some ⟨pr, 0, none⟩)) : bmR3.wp Tryz.prog (bodyPost Tryz.prog Tryz.f107 R) ⟨tm0, []⟩ w0 := by
  obtain ⟨va, vn, vc, hv⟩ := row_shape (h.bx.own 2 sl hi)
  obtain ⟨ei, und, sz0, bt0, fx⟩ := hfit
  have hbase := Ph.base (lo := lo) (b := b) (g := g) (T := 51) (nm := nm) (V := V) (W := W) (s := s) (r := r) (N1 := NML g) hcs hi
  have hd := h.up hN (Below.refl w0.heap.size w0).drew
  obtain ⟨Qb, hQb⟩ : ∃ Q, bodyPost Tryz.prog Tryz.f107 R = Q := ⟨_, rfl⟩
  rw [hQb]
  unfold bmR3 bmC
  dsimp only [Tryz.f107]
  refine region_app (z := 11) (N := 27) (c := 6) (by kernel_rfl) (fun k => k + 16) (fun k => [.pointer (some ⟨g, 0, none⟩), .pointer (some ⟨g, 0, none⟩), .pointer (some ⟨g, 0, none⟩), .pointer (some ⟨g, 3, none⟩), sl.v, .pointer (some ⟨b, 0, none⟩), undef, undef, undef, .pointer (some ⟨g, 0, none⟩), .pointer (some ⟨g, 3, none⟩)].getD k undef) (Ph lo b g 51 nm ss N V W s sl r (NML g)) _ w0 rfl hsz0 (fun i j _ _ e => by omega) (fun i hi => by omega) (by kernel_rfl) (by omega) (by kernel_rfl) (by kernel_rfl) (by kernel_rfl) hd ?_ ?_ ?_ ?_ ?_
  · intro k tm w hk hq hsz hun hdep hph
    obtain ⟨ph, x, hph⟩ := hph
    have hB := hbase ph x w hph
    match k, hk with
    | 0, _ => exact op_load rfl rfl _ (.tmp 0) rfl ((hun 0 (by intro i hi; omega)).trans k0) (ld_msgptr w (hB.cell (List.mem_cons_self ..) rfl)) ⟨rfl, rfl⟩
    | 1, _ => exact op_load rfl rfl _ (.tmp 0) rfl ((hun 0 (by intro i hi; omega)).trans k0) (ld_msgptr w (hB.cell (List.mem_cons_self ..) rfl)) ⟨rfl, rfl⟩
    | 2, _ => exact op_nilCheck rfl rfl (.tmp 17) rfl (hdep 1 (by omega) (by kernel_rfl)) ⟨rfl, rfl⟩
    | 3, _ => exact op_field rfl rfl _ (.tmp 18) _ rfl (hdep 2 (by omega) (by kernel_rfl)) (fa_msg3 w) ⟨rfl, rfl⟩
    | 4, _ => exact op_load rfl rfl _ (.tmp 19) rfl (hdep 3 (by omega) (by kernel_rfl)) (by rw [hv]; exact ld_msgs w (by rw [← hv]; exact hB.row hi)) ⟨rfl, rfl⟩
    | 5, _ => exact op_load rfl rfl _ (.tmp 1) rfl ((hun 1 (by intro i hi; omega)).trans k1) (ld_rptr w (hB.cell (List.mem_cons_of_mem _ (List.mem_cons_self ..)) rfl)) ⟨rfl, rfl⟩
    | 6, _ => omega
    | 7, _ => omega
    | 8, _ => omega
    | 9, _ => exact op_nilCheck rfl rfl (.tmp 16) rfl (hdep 0 (by omega) (by kernel_rfl)) ⟨rfl, rfl⟩
    | 10, _ => exact op_field rfl rfl _ (.tmp 25) _ rfl (hdep 9 (by omega) (by kernel_rfl)) (fa_msg3 w) ⟨rfl, rfl⟩
  · intro tm w hsz hun hdep hph
    have hap : Ap lo b g 51 nm ss N V W s w := hph
    refine op_callP rfl rfl 71 (cf_rmessage w) _ _ rfl #[.pointer (some ⟨b, 0, none⟩)] ?_ (hcall w s (fun _ _ => True) stable_true (hap.imp (fun h => ⟨h, trivial⟩)) rfl) ?_
    · simp only [List.map_toArray, List.map_cons, List.map_nil, Act.eval]
      rw [show tm.getD 21 undef = _ from hdep 5 (by omega) (by kernel_rfl)]
      rfl
    · intro e w' hcr
      rcases Ph.call hN (stable_nml g) hph hcr with ⟨x, rfl, h1⟩ | ⟨y, hr, rfl, hs⟩
      · exact .inl ⟨x, rfl, x, rfl, h1⟩
      · exact .inr ⟨_, rfl, by rw [← hQb]; exact ⟨rfl, hR _ _ (by unfold CP; rw [hr]; exact ⟨rfl, hs⟩)⟩⟩
  · intro tm w x hsz hx hph
    obtain ⟨a, s', hr, hn1, hap⟩ := id hph
    obtain ⟨f1, f2, f3⟩ := fx a x _ _ hn1
    exact op_bs rfl rfl _ _ _ rfl #[(0, x)] (by simp only [List.map_toArray, List.map_cons, List.map_nil, Act.eval]; rw [show tm.getD 22 undef = x from hx]) (f3 w) ⟨_, rfl, Ph.bs hN (stable_nml g) hph⟩
  · intro tm w y hsz hdep hy hph
    obtain ⟨a, s', x, gy, hr, rfl, hgy, hn1, hap⟩ := id hph
    obtain ⟨f1, f2, f3⟩ := fx a x _ _ hn1
    have hl := hap.bx.lt
    refine op_append_at w rfl rfl (.tmp 20) (.tmp 23) 31 rfl (g + 1) sl.t sl.sz 160 und ei sz0 sl.v sl.n sl.xs (hdep 4 (by omega) (by kernel_rfl)) (hap.bx.own 2 sl hi) ⟨gy, 0, none⟩ 1 1 x.cells.toList hy (by rw [Array.length_toList, f1]; omega) (row_news hgy) f2 (by unfold maxLen; omega) (by omega) (by omega) ?_
    intro v' w' h1 h2 h3
    exact ⟨v', rfl, Ph.app hr hap h2 h1 h3⟩
  · intro tm w y hsz hun hval hy hph
    have hB := hbase 3 y w hph
    obtain ⟨a, s', x, w2, hr, h1, h2, h3, h4⟩ := id hph
    obtain ⟨ya, yn, yc, rfl⟩ := row_shape h3
    refine op_store rfl rfl _ (.tmp 26) (.tmp 24) rfl (hval 10 (by omega) (by omega)) hy (st_msgs w (hB.row hi) (hB.frozen _)) ?_
    rw [← hQb]
    go_end0
    exact hR _ _ (Ph.last hN (stable_nml g) hi hph)
set_option maxRecDepth 100000 in
set_option maxHeartbeats 4000000 in
theorem bmR1_any (h : Ap lo b g 51 nm ss N V W s w0) (hN : Stable N) (hi : ss[2]? = some sl) (hfit : Fit 31 sl 160 (NML g)) (hn : sl.n ≤ 100000) (hcs : ∀ P w, N P w → ∀ c ∈ ([(pm, #[.pointer (some ⟨g, 0, none⟩)], 128), (pr, #[.pointer (some ⟨b, 0, none⟩)], 80)] : List (Nat × Array Value × TypeId)), Cell1 c.1 c.2.1 c.2.2 P w) (hcall : ∀ w s2 M, Stable M → Ap lo b g 51 nm ss (fun P w => N P w ∧ M P w) V W s2 w → s2 = s → Calls Tryz.prog 71 #[.pointer (some ⟨b, 0, none⟩)] w (CR lo b (NML g) w r))
    (hR : ∀ e w, CP lo b g 51 nm ss N V W 2 sl r (NML g) e w → R e w) (hsz0 : tm0.size = 27) (k0 : tm0.getD 0 undef = .pointer (some ⟨pm, 0, none⟩)) (k1 : tm0.getD 1 undef = .pointer (some ⟨pr, 0, none⟩)) : (Code.seq bmR1 bmR2).wp Tryz.prog (bodyPost Tryz.prog Tryz.f107 R) ⟨tm0, []⟩ w0 := by
  obtain ⟨va, vc, hv⟩ := row_shape2 (h.bx.own 2 sl hi)
  obtain ⟨ei, und, sz0, bt0, fx⟩ := hfit
  have e7 : sl.sz = 7 := by
    obtain ⟨i1, z1, h1, h2, h3, h4, h5⟩ := ei
    obtain ⟨i2, z2, g1, g2, g3, g4, g5⟩ := eiMsg
    have : sl.t = 51 := by
      have h9 : Tryz.prog.underlying 31 = some (.slice 51) := by kernel_rfl
      rw [h9] at und
      simpa using und.symm
    rw [this] at h1
    rw [h1] at g1
    obtain rfl := Option.some.inj g1
    omega
  have et : sl.t = 51 := by
    have h9 : Tryz.prog.underlying 31 = some (.slice 51) := by kernel_rfl
    rw [h9] at und
    simpa using und.symm
  refine wp_seq ?_
  obtain ⟨R2, hR2⟩ : ∃ c, bmR2 = c := ⟨_, rfl⟩
  rw [hR2]
  obtain ⟨Qb, hQb⟩ : ∃ Q, bodyPost Tryz.prog Tryz.f107 R = Q := ⟨_, rfl⟩
  rw [hQb]
  unfold bmR1 bmC
  dsimp only [Tryz.f107]
  refine region_gen (z := 11) (N := 27) (by kernel_rfl) (fun k => k + 4) (fun d tm w => (∀ j, j < 11 → j ≠ 5 → j ≠ 7 → j ≠ 8 → d.getD j false = true → tm.getD (j + 4) undef = [.pointer (some ⟨g, 0, none⟩), .pointer (some ⟨g, 0, none⟩), .pointer (some ⟨g, 3, none⟩), sl.v, .pointer (some ⟨b, 0, none⟩), undef, .int .i64 (sl.n : Int), undef, undef, .pointer (some ⟨g, 0, none⟩), .pointer (some ⟨g, 3, none⟩)].getD j undef) ∧ ((d.getD 8 false = false ∧ PA lo b g 51 nm ss N V W s r (d.getD 5 false) (tm.getD 9 undef) (d.getD 7 false) (tm.getD 11 undef) w) ∨ (d.getD 8 false = true ∧ d.getD 5 false = true ∧ d.getD 7 false = true ∧ PB lo b g 51 nm ss N V W sl r (tm.getD 9 undef) (tm.getD 12 undef) w))) _ w0 rfl hsz0 (fun i hi => by omega) (by kernel_rfl) (by kernel_rfl) ?_ ?_ ?_
  · intro d hd _
    refine ⟨fun j _ _ _ _ h => (by rw [hd j] at h; cases h), .inl ⟨hd 8, ?_⟩⟩
    rw [hd 5, hd 7]
    obtain ⟨M, s2, q1, q2, q3, q4⟩ := PA.drew (r := r) hN h
    exact ⟨M, s2, q1, q2, q3, q4⟩
  · intro k d tm w hk hd hcl hnd hw hsz hun hG
    obtain ⟨hG1, hG2⟩ := hG
    have hB : Bs g 51 nm ss [(pm, #[.pointer (some ⟨g, 0, none⟩)], 128), (pr, #[.pointer (some ⟨b, 0, none⟩)], 80)] w := by
      rcases hG2 with ⟨_, q⟩ | ⟨_, _, _, q⟩
      · exact q.base hcs
      · exact q.base hcs hi
    have hq : ∀ v, v = [.pointer (some ⟨g, 0, none⟩), .pointer (some ⟨g, 0, none⟩), .pointer (some ⟨g, 3, none⟩), sl.v, .pointer (some ⟨b, 0, none⟩), undef, .int .i64 (sl.n : Int), undef, undef, .pointer (some ⟨g, 0, none⟩), .pointer (some ⟨g, 3, none⟩)].getD k undef → k ≠ 5 → k ≠ 7 → k ≠ 8 → (∀ j, j < 11 → j ≠ 5 → j ≠ 7 → j ≠ 8 → (d.setIfInBounds k true).getD j false = true → (tm.setIfInBounds (k + 4) v).getD (j + 4) undef = [.pointer (some ⟨g, 0, none⟩), .pointer (some ⟨g, 0, none⟩), .pointer (some ⟨g, 3, none⟩), sl.v, .pointer (some ⟨b, 0, none⟩), undef, .int .i64 (sl.n : Int), undef, undef, .pointer (some ⟨g, 0, none⟩), .pointer (some ⟨g, 3, none⟩)].getD j undef) ∧ (((d.setIfInBounds k true).getD 8 false = false ∧ PA lo b g 51 nm ss N V W s r ((d.setIfInBounds k true).getD 5 false) ((tm.setIfInBounds (k + 4) v).getD 9 undef) ((d.setIfInBounds k true).getD 7 false) ((tm.setIfInBounds (k + 4) v).getD 11 undef) w) ∨ ((d.setIfInBounds k true).getD 8 false = true ∧ (d.setIfInBounds k true).getD 5 false = true ∧ (d.setIfInBounds k true).getD 7 false = true ∧ PB lo b g 51 nm ss N V W sl r ((tm.setIfInBounds (k + 4) v).getD 9 undef) ((tm.setIfInBounds (k + 4) v).getD 12 undef) w)) := by
      intro v hv h5 h7 h8
      refine ⟨fun j hj n5 n7 n8 hdj => ?_, ?_⟩
      · by_cases e : j = k
        · subst e
          rw [getD_new (by omega)]
          exact hv
        · rw [getD_keep (Ne.symm e)] at hdj
          rw [getD_keep (by omega)]
          exact hG1 j hj n5 n7 n8 hdj
      · rw [getD_keep h8, getD_keep h5, getD_keep h7, getD_keep (show k + 4 ≠ 9 by omega), getD_keep (show k + 4 ≠ 11 by omega), getD_keep (show k + 4 ≠ 12 by omega)]
        exact hG2
    match k, hk with
    | 0, _ => exact op_load rfl rfl _ (.tmp 0) rfl ((hun 0 (by intro i hi; omega)).trans k0) (ld_msgptr w (hB.cell (List.mem_cons_self ..) rfl)) ⟨_, rfl, hq _ rfl (by omega) (by omega) (by omega)⟩
    | 1, _ => exact op_nilCheck rfl rfl (.tmp 4) rfl (hG1 0 (by omega) (by omega) (by omega) (by omega) (hw 0 (by kernel_rfl)).2) ⟨_, rfl, hq _ rfl (by omega) (by omega) (by omega)⟩
    | 2, _ => exact op_field rfl rfl _ (.tmp 5) _ rfl (hG1 1 (by omega) (by omega) (by omega) (by omega) (hw 1 (by kernel_rfl)).2) (fa_msg3 w) ⟨_, rfl, hq _ rfl (by omega) (by omega) (by omega)⟩
    | 3, _ => exact op_load rfl rfl _ (.tmp 6) rfl (hG1 2 (by omega) (by omega) (by omega) (by omega) (hw 2 (by kernel_rfl)).2) (by rw [hv]; exact ld_msgs w (by rw [← hv]; exact hB.row hi)) ⟨_, rfl, hq _ hv.symm (by omega) (by omega) (by omega)⟩
    | 4, _ => exact op_load rfl rfl _ (.tmp 1) rfl ((hun 1 (by intro i hi; omega)).trans k1) (ld_rptr w (hB.cell (List.mem_cons_of_mem _ (List.mem_cons_self ..)) rfl)) ⟨_, rfl, hq _ rfl (by omega) (by omega) (by omega)⟩
    | 5, _ =>
      have hd8 : d.getD 8 false = false ∧ PA lo b g 51 nm ss N V W s r false (tm.getD 9 undef) (d.getD 7 false) (tm.getD 11 undef) w := by
        rcases hG2 with ⟨q1, q2⟩ | ⟨_, q, _⟩
        · rw [hnd] at q2
          exact ⟨q1, q2⟩
        · rw [q] at hnd; cases hnd
      obtain ⟨hd8, hpa⟩ := hd8
      obtain ⟨M, s2, hM, hap, hs2, _⟩ := id hpa
      rw [if_neg (by simp)] at hs2
      refine op_callP rfl rfl 71 (cf_rmessage w) _ _ rfl #[.pointer (some ⟨b, 0, none⟩)] ?_ (hcall w s2 M hM hap hs2) ?_
      · simp only [List.map_toArray, List.map_cons, List.map_nil, Act.eval]
        rw [show tm.getD 8 undef = _ from hG1 4 (by omega) (by omega) (by omega) (by omega) (hw 4 (by kernel_rfl)).2]
        rfl
      · intro e w' hcr
        rcases PA.call hN hpa hcr with ⟨x, rfl, h1⟩ | ⟨y, hr, rfl, hs⟩
        · refine .inl ⟨x, rfl, x, rfl, fun j hj n5 n7 n8 hdj => ?_, .inl ⟨?_, ?_⟩⟩
          · rw [getD_keep (Ne.symm n5)] at hdj
            rw [getD_keep (by omega)]
            exact hG1 j hj n5 n7 n8 hdj
          · rw [getD_keep (by omega)]
            exact hd8
          · rw [getD_new (by omega), getD_new (by omega), getD_keep (by omega), getD_keep (by omega)]
            exact h1
        · exact .inr ⟨_, rfl, by show Qb (Exit.panic _) _ _; rw [← hQb]; exact ⟨rfl, hR _ _ (by unfold CP; rw [hr]; exact ⟨rfl, hs⟩)⟩⟩
    | 6, _ => exact op_len rfl rfl (.tmp 7) 31 51 rfl Tryz.underlying31 ((hG1 3 (by omega) (by omega) (by omega) (by omega) (hw 3 (by kernel_rfl)).2).trans hv) ⟨_, rfl, hq _ rfl (by omega) (by omega) (by omega)⟩
    | 7, _ =>
      have hd8 : d.getD 8 false = false ∧ PA lo b g 51 nm ss N V W s r (d.getD 5 false) (tm.getD 9 undef) false (tm.getD 11 undef) w := by
        rcases hG2 with ⟨q1, q2⟩ | ⟨_, _, q, _⟩
        · rw [hnd] at q2
          exact ⟨q1, q2⟩
        · rw [q] at hnd; cases hnd
      obtain ⟨hd8, hpa⟩ := hd8
      refine op_bs rfl rfl _ _ _ rfl #[(0, .agg zeroM)] (by simp only [List.map_toArray, List.map_cons, List.map_nil, Act.eval]; rfl) (bs_zero w) ⟨_, rfl, fun j hj n5 n7 n8 hdj => ?_, .inl ⟨?_, ?_⟩⟩
      · rw [getD_keep (Ne.symm n7)] at hdj
        rw [getD_keep (by omega)]
        exact hG1 j hj n5 n7 n8 hdj
      · rw [getD_keep (by omega)]
        exact hd8
      · rw [getD_keep (by omega), getD_keep (by omega), getD_new (by omega), getD_new (by omega)]
        exact hpa.bs hN
    | 8, _ =>
      have hd5 := (hw 5 (by kernel_rfl)).2
      have hd7 := (hw 7 (by kernel_rfl)).2
      have hpa : PA lo b g 51 nm ss N V W s r true (tm.getD 9 undef) true (tm.getD 11 undef) w := by
        rcases hG2 with ⟨_, q⟩ | ⟨q, _⟩
        · rw [hd5, hd7] at q
          exact q
        · rw [q] at hnd; cases hnd
      obtain ⟨M, s2, hM, hap, hx, hy⟩ := hpa
      rw [if_pos rfl] at hx hy
      obtain ⟨a, hr, hnm⟩ := hx
      obtain ⟨gy, hy, hz⟩ := hy
      have hl := hap.bx.lt
      refine op_append_at w rfl rfl (.tmp 7) (.tmp 11) 31 rfl (g + 1) sl.t sl.sz 160 und ei sz0 sl.v sl.n sl.xs (hG1 3 (by omega) (by omega) (by omega) (by omega) (hw 3 (by kernel_rfl)).2) (hap.bx.own 2 sl hi) ⟨gy, 0, none⟩ 1 1 zeroM.toList hy (by rw [e7]; rfl) (row_news (x := .agg zeroM) (hz _ _ hap.nx.2).1) ?_ (by unfold maxLen; omega) (by omega) (by omega) ?_
      · intro u hu
        simp only [zeroM, List.mem_cons, List.not_mem_nil, or_false] at hu
        rcases hu with rfl | rfl | rfl | rfl | rfl | rfl | rfl <;> rfl
      · intro v' w' h1 h2 h3
        refine ⟨v', rfl, fun j hj n5 n7 n8 hdj => ?_, .inr ⟨getD_new (by omega), ?_, ?_, ?_⟩⟩
        · rw [getD_keep (Ne.symm n8)] at hdj
          rw [getD_keep (by omega)]
          exact hG1 j hj n5 n7 n8 hdj
        · rw [getD_keep (by omega)]
          exact hd5
        · rw [getD_keep (by omega)]
          exact hd7
        · rw [getD_keep (by omega), getD_new (by omega)]
          exact ⟨M, a, s2, w, hr, hM, hnm, hap, h2, h1, h3⟩
    | 9, _ => exact op_nilCheck rfl rfl (.tmp 4) rfl (hG1 0 (by omega) (by omega) (by omega) (by omega) (hw 0 (by kernel_rfl)).2) ⟨_, rfl, hq _ rfl (by omega) (by omega) (by omega)⟩
    | 10, _ => exact op_field rfl rfl _ (.tmp 13) _ rfl (hG1 9 (by omega) (by omega) (by omega) (by omega) (hw 9 (by kernel_rfl)).2) (fa_msg3 w) ⟨_, rfl, hq _ rfl (by omega) (by omega) (by omega)⟩
  · intro d tm w hdone hsz hun hG
    obtain ⟨hG1, hG2⟩ := hG
    have hpb : PB lo b g 51 nm ss N V W sl r (tm.getD 9 undef) (tm.getD 12 undef) w := by
      rcases hG2 with ⟨q, _⟩ | ⟨_, _, _, q⟩
      · rw [hdone 8 (by omega)] at q; cases q
      · exact q
    have hB := hpb.base hcs hi
    obtain ⟨M, a, s2, w2, hr, hM, hnm, hap, hg, ho, hl⟩ := hpb
    have h10 := hG1 6 (by omega) (by omega) (by omega) (by omega) (hdone 6 (by omega))
    have h14 := hG1 10 (by omega) (by omega) (by omega) (by omega) (hdone 10 (by omega))
    obtain ⟨k, c, hvk⟩ : ∃ k c, tm.getD 12 undef = .slice (some ⟨k, 0, none⟩) (sl.n + 1) c := by
      rcases ho.2 with ⟨_, e0⟩ | ⟨k, c, _, e, _⟩
      · omega
      · exact ⟨k, c, e⟩
    have hlen := (h.bx.own 2 sl hi).1
    rw [e7] at hlen
    refine op_store rfl rfl _ (.tmp 14) (.tmp 12) rfl h14 hvk (st_msgs w (hB.row hi) (hB.frozen _)) ?_
    have hap2 := hap.app (hN.and hM) hi hg ho hl
    rw [hvk] at hap2
    show R2.wp Tryz.prog Qb ⟨tm, []⟩ _
    obtain ⟨⟨l⟩, hx9, hms⟩ := hnm _ _ hap2.nx.2
    obtain ⟨wz, hwz⟩ : ∃ wz, w.setCell ⟨g, 3, none⟩ (.slice (some ⟨k, 0, none⟩) (sl.n + 1) c) = wz := ⟨_, rfl⟩
    rw [hwz] at hap2 hms ⊢
    cases hms with
    | cons hf ho' hm hms he hes hr' hg' ht =>
      cases ht
      obtain ⟨fa, fn, fc, rfl⟩ := row_shape hf.1
      obtain ⟨oa, on, oc, rfl⟩ := row_shape ho'.1
      obtain ⟨ma, mn, mc, rfl⟩ := row_shape hm.1
      obtain ⟨ea, en, ec, rfl⟩ := row_shape he.1
      obtain ⟨ra, rn, rc, rfl⟩ := row_shape hr'.1
      obtain ⟨ga, gn, gc, rfl⟩ := row_shape hg'.1
      rename_i nm9 _ _ _ _ _ _ _ _
      have hrow := hap2.bx.own 2 _ (get_set' hi _)
      simp only [e7, et] at hrow hap2
      have hcell : ∀ t u, zeroM.toList[t]? = some u → wz.cell? ⟨k, sl.n * 7 + t, none⟩ = some u := fun t u ht => by
        have hlt : t < 7 := (List.getElem?_eq_some_iff.1 ht).1
        rw [World.ownsRow.cellAt hrow (sl.n * 7 + t) (by omega), ← hlen, List.getElem?_append_right (Nat.le_add_right _ _), Nat.add_sub_cancel_left]
        exact ht
      have y0 := hcell 0 _ rfl
      have y1 := hcell 1 _ rfl
      have y2 := hcell 2 _ rfl
      have y3 := hcell 3 _ rfl
      have y4 := hcell 4 _ rfl
      have y5 := hcell 5 _ rfl
      have y6 := hcell 6 _ rfl
      have z0 := World.ownsRow.frozenAt hrow (sl.n * 7)
      have z1 := World.ownsRow.frozenAt hrow (sl.n * 7 + 1)
      have z2 := World.ownsRow.frozenAt hrow (sl.n * 7 + 2)
      have z3 := World.ownsRow.frozenAt hrow (sl.n * 7 + 3)
      have z4 := World.ownsRow.frozenAt hrow (sl.n * 7 + 4)
      have z5 := World.ownsRow.frozenAt hrow (sl.n * 7 + 5)
      have z6 := World.ownsRow.frozenAt hrow (sl.n * 7 + 6)
      rw [Nat.add_zero] at y0
      have hap3 := Ap.set7 hi hap2 (hN.and hM) rfl hlen (.string nm9) (.slice fa fn fc) (.slice oa on oc) (.slice ma mn mc) (.slice ea en ec) (.slice ra rn rc) (.slice ga gn gc)
      have HE : Hid (R (.returned (.tuple #[])) (set7 wz k (sl.n * 7) (.string nm9) (.slice fa fn fc) (.slice oa on oc) (.slice ma mn mc) (.slice ea en ec) (.slice ra rn rc) (.slice ga gn gc))) := by
        refine hR _ _ ?_
        unfold CP
        rw [hr]
        refine ⟨rfl, tm.getD 9 undef, .slice (some ⟨k, 0, none⟩) (sl.n + 1) c, ?_⟩
        rw [e7, et]
        have hxl : (tm.getD 9 undef).cells.toList = [.string nm9, .slice fa fn fc, .slice oa on oc, .slice ma mn mc, .slice ea en ec, .slice ra rn rc, .slice ga gn gc] := by rw [hx9]; rfl
        rw [hxl]
        exact hap3.imp (fun h => ⟨h.1, hnm _ _ h.2⟩)
      obtain ⟨u, hu⟩ := frame27 hsz
      have q9 : u 9 = .agg #[.string nm9, .slice fa fn fc, .slice oa on oc, .slice ma mn mc, .slice ea en ec, .slice ra rn rc, .slice ga gn gc] := by rw [hu] at hx9; exact hx9
      have q10 : u 10 = .int .i64 (sl.n : Int) := by rw [hu] at h10; exact h10
      have q12 : u 12 = .slice (some ⟨k, 0, none⟩) (sl.n + 1) c := by rw [hu] at hvk; exact hvk
      rw [hu, q9, q10, q12, ← hR2]
      obtain ⟨L, hL⟩ : ∃ L, sl.n + 1 = L := ⟨_, rfl⟩
      rw [hL]
      obtain ⟨n, hn9⟩ : ∃ n, sl.n = n := ⟨_, rfl⟩
      rw [hn9] at y0 y1 y2 y3 y4 y5 y6 z0 z1 z2 z3 z4 z5 z6 HE hL hn ⊢
      have n0 : (0 : Int) ≤ (n : Int) := Int.natCast_nonneg _
      have n1 : (n : Int) < (L : Int) := by omega
      have n2 : n ≤ 100000 := hn
      unfold set7 at HE
      unfold bmR2 bmC
      dsimp only [Tryz.f107]
      clear hap3 hap2 hrow hcell hx9 h10 hvk q9 q10 q12 hu hf ho' hm hms he hes hr' hg' hG1 hG2 hun hdone hsz hB hap hg ho hl h14 hwz hL hn9 hlen hnm hM hr h hN hi ei und sz0 bt0 fx hcs hcall hR hv e7 et hn k0 k1 hsz0
      go_wp2
      rw [← hQb]
      go_end0
      exact unhide HE
set_option maxRecDepth 100000 in
set_option maxHeartbeats 4000000 in
theorem bm_any (h : Ap lo b g 51 nm ss N V W s w0) (hN : Stable N) (hi : ss[2]? = some sl) (hfit : Fit 31 sl 160 (NML g)) (hn : sl.n ≤ 100000) (hcs : ∀ P w, N P w → ∀ c ∈ ([(pm, #[.pointer (some ⟨g, 0, none⟩)], 128), (pr, #[.pointer (some ⟨b, 0, none⟩)], 80)] : List (Nat × Array Value × TypeId)), Cell1 c.1 c.2.1 c.2.2 P w) (hcall : ∀ w s2 M, Stable M → Ap lo b g 51 nm ss (fun P w => N P w ∧ M P w) V W s2 w → s2 = s → Calls Tryz.prog 71 #[.pointer (some ⟨b, 0, none⟩)] w (CR lo b (NML g) w r)) :
    Calls Tryz.prog 107 #[.pointer (some ⟨pm, 0, none⟩), .pointer (some ⟨pr, 0, none⟩)] w0 (CP lo b g 51 nm ss N V W 2 sl r (NML g)) := by
  have HX : ∀ w, Below w0.heap.size w0 w → ∀ tm0 : Array Value, tm0.size = 27 → tm0.getD 0 undef = .pointer (some ⟨pm, 0, none⟩) → tm0.getD 1 undef = .pointer (some ⟨pr, 0, none⟩) → (Code.seq bmR1 bmR2).wp Tryz.prog (bodyPost Tryz.prog Tryz.f107 (CP lo b g 51 nm ss N V W 2 sl r (NML g))) ⟨tm0, []⟩ w ∧ bmR3.wp Tryz.prog (bodyPost Tryz.prog Tryz.f107 (CP lo b g 51 nm ss N V W 2 sl r (NML g))) ⟨tm0, []⟩ w := fun w hb tm0 h1 h2 h3 =>
    ⟨bmR1_any (h.up hN hb) hN hi hfit hn hcs hcall (fun _ _ h => h) h1 h2 h3, bmR3_any (h.up hN hb) hN hi hfit hn hcs hcall (fun _ _ h => h) h1 h2 h3⟩
  have HXh := hide HX
  have HB := hide (Below.refl w0.heap.size w0)
  clear HX h hN hi hfit hn hcs hcall
  refine calls_of_wp Tryz.func107 bm_split ?_
  rw [bm_splitC]
  obtain ⟨X, hX⟩ : ∃ X, Code.seq bmR1 bmR2 = X := ⟨_, rfl⟩
  obtain ⟨Y, hY⟩ : ∃ Y, bmR3 = Y := ⟨_, rfl⟩
  rw [hX, hY] at HXh
  rw [hX, hY]
  obtain ⟨Q, hQ⟩ : ∃ Q, bodyPost Tryz.prog Tryz.f107 (CP lo b g 51 nm ss N V W 2 sl r (NML g)) = Q := ⟨_, rfl⟩
  rw [hQ] at HXh ⊢
  unfold bmR0
  dsimp only [Tryz.f107]
  simp only [List.size_toArray, List.length_cons, List.length_nil, Nat.reduceAdd, Nat.reduceSub, Array.replicate_succ, Array.replicate_zero, List.push_toArray, List.append_toArray, List.nil_append, List.cons_append]
  clear hX hY hQ
  go_wp2
  go_region
  all_goals (try go_wp2)
  · exact (unhide HXh _ ((unhide HB).alloc (Nat.le_refl _) _).drew _ rfl rfl rfl).2
  · exact (unhide HXh _ ((unhide HB).alloc (Nat.le_refl _) _).drew _ rfl rfl rfl).1
end
noncomputable def btR0 : Code := match Tryz.f70.body with
  | some (.seq r _) => r
  | _ => .skip
noncomputable def btC : Code := match Tryz.f70.body with
  | some (.seq _ c) => c
  | _ => .skip
theorem bt_split : Tryz.f70.body = some (.seq btR0 btC) := rfl
noncomputable def btR1 : Code := match btC with
  | .cond _ (.seq r _) _ => r
  | _ => .skip
noncomputable def btR2 : Code := match btC with
  | .cond _ (.seq _ r) _ => r
  | _ => .skip
noncomputable def btR3 : Code := match btC with
  | .cond _ _ r => r
  | _ => .skip
theorem bt_splitC : btC = .cond (.tmp 3) (.seq btR1 btR2) btR3 := rfl
section
variable {lo b g : Nat} {nm : ByteArray} {ss : List Slot} {N : (Nat → Prop) → World → Prop} {V W w0 : World} {s : PSt} {sl : Slot} {r : Except (Int × Int) (Ms × PSt)} {pm pr : Nat} {tm0 : Array Value} {R : Ending → World → Prop}
set_option maxRecDepth 100000 in
set_option maxHeartbeats 4000000 in
theorem btR3_any (h : Ap lo b g 34 nm ss N V W s w0) (hN : Stable N) (hi : ss[1]? = some sl) (hfit : Fit 31 sl 160 (NML g)) (hn : sl.n ≤ 100000) (hcs : ∀ P w, N P w → ∀ c ∈ ([(pm, #[.pointer (some ⟨g, 0, none⟩)], 104), (pr, #[.pointer (some ⟨b, 0, none⟩)], 80)] : List (Nat × Array Value × TypeId)), Cell1 c.1 c.2.1 c.2.2 P w) (hcall : ∀ w s2 M, Stable M → Ap lo b g 34 nm ss (fun P w => N P w ∧ M P w) V W s2 w → s2 = s → Calls Tryz.prog 71 #[.pointer (some ⟨b, 0, none⟩)] w (CR lo b (NML g) w r))
    (hR : ∀ e w, CP lo b g 34 nm ss N V W 1 sl r (NML g) e w → R e w) (hsz0 : tm0.size = 27) (k0 : tm0.getD 0 undef = .pointer (some ⟨pm, 0, none⟩)) (k1 : tm0.getD 1 undef = .pointer (some ⟨pr, 0, none⟩)) : btR3.wp Tryz.prog (bodyPost Tryz.prog Tryz.f70 R) ⟨tm0, []⟩ w0 := by
  obtain ⟨va, vn, vc, hv⟩ := row_shape (h.bx.own 1 sl hi)
  obtain ⟨ei, und, sz0, bt0, fx⟩ := hfit
  have hbase := Ph.base (lo := lo) (b := b) (g := g) (T := 34) (nm := nm) (V := V) (W := W) (s := s) (r := r) (N1 := NML g) hcs hi
  have hd := h.up hN (Below.refl w0.heap.size w0).drew
  obtain ⟨Qb, hQb⟩ : ∃ Q, bodyPost Tryz.prog Tryz.f70 R = Q := ⟨_, rfl⟩
  rw [hQb]
  unfold btR3 btC
  dsimp only [Tryz.f70]
  refine region_app (z := 11) (N := 27) (c := 6) (by kernel_rfl) (fun k => k + 16) (fun k => [.pointer (some ⟨g, 0, none⟩), .pointer (some ⟨g, 0, none⟩), .pointer (some ⟨g, 0, none⟩), .pointer (some ⟨g, 2, none⟩), sl.v, .pointer (some ⟨b, 0, none⟩), undef, undef, undef, .pointer (some ⟨g, 0, none⟩), .pointer (some ⟨g, 2, none⟩)].getD k undef) (Ph lo b g 34 nm ss N V W s sl r (NML g)) _ w0 rfl hsz0 (fun i j _ _ e => by omega) (fun i hi => by omega) (by kernel_rfl) (by omega) (by kernel_rfl) (by kernel_rfl) (by kernel_rfl) hd ?_ ?_ ?_ ?_ ?_
  · intro k tm w hk hq hsz hun hdep hph
    obtain ⟨ph, x, hph⟩ := hph
    have hB := hbase ph x w hph
    match k, hk with
    | 0, _ => exact op_load rfl rfl _ (.tmp 0) rfl ((hun 0 (by intro i hi; omega)).trans k0) (ld_fileptr w (hB.cell (List.mem_cons_self ..) rfl)) ⟨rfl, rfl⟩
    | 1, _ => exact op_load rfl rfl _ (.tmp 0) rfl ((hun 0 (by intro i hi; omega)).trans k0) (ld_fileptr w (hB.cell (List.mem_cons_self ..) rfl)) ⟨rfl, rfl⟩
    | 2, _ => exact op_nilCheck rfl rfl (.tmp 17) rfl (hdep 1 (by omega) (by kernel_rfl)) ⟨rfl, rfl⟩
    | 3, _ => exact op_field rfl rfl _ (.tmp 18) _ rfl (hdep 2 (by omega) (by kernel_rfl)) (fa_file2 w) ⟨rfl, rfl⟩
    | 4, _ => exact op_load rfl rfl _ (.tmp 19) rfl (hdep 3 (by omega) (by kernel_rfl)) (by rw [hv]; exact ld_msgs w (by rw [← hv]; exact hB.row hi)) ⟨rfl, rfl⟩
    | 5, _ => exact op_load rfl rfl _ (.tmp 1) rfl ((hun 1 (by intro i hi; omega)).trans k1) (ld_rptr w (hB.cell (List.mem_cons_of_mem _ (List.mem_cons_self ..)) rfl)) ⟨rfl, rfl⟩
    | 6, _ => omega
    | 7, _ => omega
    | 8, _ => omega
    | 9, _ => exact op_nilCheck rfl rfl (.tmp 16) rfl (hdep 0 (by omega) (by kernel_rfl)) ⟨rfl, rfl⟩
    | 10, _ => exact op_field rfl rfl _ (.tmp 25) _ rfl (hdep 9 (by omega) (by kernel_rfl)) (fa_file2 w) ⟨rfl, rfl⟩
  · intro tm w hsz hun hdep hph
    have hap : Ap lo b g 34 nm ss N V W s w := hph
    refine op_callP rfl rfl 71 (cf_rmessage w) _ _ rfl #[.pointer (some ⟨b, 0, none⟩)] ?_ (hcall w s (fun _ _ => True) stable_true (hap.imp (fun h => ⟨h, trivial⟩)) rfl) ?_
    · simp only [List.map_toArray, List.map_cons, List.map_nil, Act.eval]
      rw [show tm.getD 21 undef = _ from hdep 5 (by omega) (by kernel_rfl)]
      rfl
    · intro e w' hcr
      rcases Ph.call hN (stable_nml g) hph hcr with ⟨x, rfl, h1⟩ | ⟨y, hr, rfl, hs⟩
      · exact .inl ⟨x, rfl, x, rfl, h1⟩
      · exact .inr ⟨_, rfl, by rw [← hQb]; exact ⟨rfl, hR _ _ (by unfold CP; rw [hr]; exact ⟨rfl, hs⟩)⟩⟩
  · intro tm w x hsz hx hph
    obtain ⟨a, s', hr, hn1, hap⟩ := id hph
    obtain ⟨f1, f2, f3⟩ := fx a x _ _ hn1
    exact op_bs rfl rfl _ _ _ rfl #[(0, x)] (by simp only [List.map_toArray, List.map_cons, List.map_nil, Act.eval]; rw [show tm.getD 22 undef = x from hx]) (f3 w) ⟨_, rfl, Ph.bs hN (stable_nml g) hph⟩
  · intro tm w y hsz hdep hy hph
    obtain ⟨a, s', x, gy, hr, rfl, hgy, hn1, hap⟩ := id hph
    obtain ⟨f1, f2, f3⟩ := fx a x _ _ hn1
    have hl := hap.bx.lt
    refine op_append_at w rfl rfl (.tmp 20) (.tmp 23) 31 rfl (g + 1) sl.t sl.sz 160 und ei sz0 sl.v sl.n sl.xs (hdep 4 (by omega) (by kernel_rfl)) (hap.bx.own 1 sl hi) ⟨gy, 0, none⟩ 1 1 x.cells.toList hy (by rw [Array.length_toList, f1]; omega) (row_news hgy) f2 (by unfold maxLen; omega) (by omega) (by omega) ?_
    intro v' w' h1 h2 h3
    exact ⟨v', rfl, Ph.app hr hap h2 h1 h3⟩
  · intro tm w y hsz hun hval hy hph
    have hB := hbase 3 y w hph
    obtain ⟨a, s', x, w2, hr, h1, h2, h3, h4⟩ := id hph
    obtain ⟨ya, yn, yc, rfl⟩ := row_shape h3
    refine op_store rfl rfl _ (.tmp 26) (.tmp 24) rfl (hval 10 (by omega) (by omega)) hy (st_msgs w (hB.row hi) (hB.frozen _)) ?_
    rw [← hQb]
    go_end0
    exact hR _ _ (Ph.last hN (stable_nml g) hi hph)
set_option maxRecDepth 100000 in
set_option maxHeartbeats 4000000 in
theorem btR1_any (h : Ap lo b g 34 nm ss N V W s w0) (hN : Stable N) (hi : ss[1]? = some sl) (hfit : Fit 31 sl 160 (NML g)) (hn : sl.n ≤ 100000) (hcs : ∀ P w, N P w → ∀ c ∈ ([(pm, #[.pointer (some ⟨g, 0, none⟩)], 104), (pr, #[.pointer (some ⟨b, 0, none⟩)], 80)] : List (Nat × Array Value × TypeId)), Cell1 c.1 c.2.1 c.2.2 P w) (hcall : ∀ w s2 M, Stable M → Ap lo b g 34 nm ss (fun P w => N P w ∧ M P w) V W s2 w → s2 = s → Calls Tryz.prog 71 #[.pointer (some ⟨b, 0, none⟩)] w (CR lo b (NML g) w r))
    (hR : ∀ e w, CP lo b g 34 nm ss N V W 1 sl r (NML g) e w → R e w) (hsz0 : tm0.size = 27) (k0 : tm0.getD 0 undef = .pointer (some ⟨pm, 0, none⟩)) (k1 : tm0.getD 1 undef = .pointer (some ⟨pr, 0, none⟩)) : (Code.seq btR1 btR2).wp Tryz.prog (bodyPost Tryz.prog Tryz.f70 R) ⟨tm0, []⟩ w0 := by
  obtain ⟨va, vc, hv⟩ := row_shape2 (h.bx.own 1 sl hi)
  obtain ⟨ei, und, sz0, bt0, fx⟩ := hfit
  have e7 : sl.sz = 7 := by
    obtain ⟨i1, z1, h1, h2, h3, h4, h5⟩ := ei
    obtain ⟨i2, z2, g1, g2, g3, g4, g5⟩ := eiMsg
    have : sl.t = 51 := by
      have h9 : Tryz.prog.underlying 31 = some (.slice 51) := by kernel_rfl
      rw [h9] at und
      simpa using und.symm
    rw [this] at h1
    rw [h1] at g1
    obtain rfl := Option.some.inj g1
    omega
  have et : sl.t = 51 := by
    have h9 : Tryz.prog.underlying 31 = some (.slice 51) := by kernel_rfl
    rw [h9] at und
    simpa using und.symm
  refine wp_seq ?_
  obtain ⟨R2, hR2⟩ : ∃ c, btR2 = c := ⟨_, rfl⟩
  rw [hR2]
  obtain ⟨Qb, hQb⟩ : ∃ Q, bodyPost Tryz.prog Tryz.f70 R = Q := ⟨_, rfl⟩
  rw [hQb]
  unfold btR1 btC
  dsimp only [Tryz.f70]
  refine region_gen (z := 11) (N := 27) (by kernel_rfl) (fun k => k + 4) (fun d tm w => (∀ j, j < 11 → j ≠ 5 → j ≠ 7 → j ≠ 8 → d.getD j false = true → tm.getD (j + 4) undef = [.pointer (some ⟨g, 0, none⟩), .pointer (some ⟨g, 0, none⟩), .pointer (some ⟨g, 2, none⟩), sl.v, .pointer (some ⟨b, 0, none⟩), undef, .int .i64 (sl.n : Int), undef, undef, .pointer (some ⟨g, 0, none⟩), .pointer (some ⟨g, 2, none⟩)].getD j undef) ∧ ((d.getD 8 false = false ∧ PA lo b g 34 nm ss N V W s r (d.getD 5 false) (tm.getD 9 undef) (d.getD 7 false) (tm.getD 11 undef) w) ∨ (d.getD 8 false = true ∧ d.getD 5 false = true ∧ d.getD 7 false = true ∧ PB lo b g 34 nm ss N V W sl r (tm.getD 9 undef) (tm.getD 12 undef) w))) _ w0 rfl hsz0 (fun i hi => by omega) (by kernel_rfl) (by kernel_rfl) ?_ ?_ ?_
  · intro d hd _
    refine ⟨fun j _ _ _ _ h => (by rw [hd j] at h; cases h), .inl ⟨hd 8, ?_⟩⟩
    rw [hd 5, hd 7]
    obtain ⟨M, s2, q1, q2, q3, q4⟩ := PA.drew (r := r) hN h
    exact ⟨M, s2, q1, q2, q3, q4⟩
  · intro k d tm w hk hd hcl hnd hw hsz hun hG
    obtain ⟨hG1, hG2⟩ := hG
    have hB : Bs g 34 nm ss [(pm, #[.pointer (some ⟨g, 0, none⟩)], 104), (pr, #[.pointer (some ⟨b, 0, none⟩)], 80)] w := by
      rcases hG2 with ⟨_, q⟩ | ⟨_, _, _, q⟩
      · exact q.base hcs
      · exact q.base hcs hi
    have hq : ∀ v, v = [.pointer (some ⟨g, 0, none⟩), .pointer (some ⟨g, 0, none⟩), .pointer (some ⟨g, 2, none⟩), sl.v, .pointer (some ⟨b, 0, none⟩), undef, .int .i64 (sl.n : Int), undef, undef, .pointer (some ⟨g, 0, none⟩), .pointer (some ⟨g, 2, none⟩)].getD k undef → k ≠ 5 → k ≠ 7 → k ≠ 8 → (∀ j, j < 11 → j ≠ 5 → j ≠ 7 → j ≠ 8 → (d.setIfInBounds k true).getD j false = true → (tm.setIfInBounds (k + 4) v).getD (j + 4) undef = [.pointer (some ⟨g, 0, none⟩), .pointer (some ⟨g, 0, none⟩), .pointer (some ⟨g, 2, none⟩), sl.v, .pointer (some ⟨b, 0, none⟩), undef, .int .i64 (sl.n : Int), undef, undef, .pointer (some ⟨g, 0, none⟩), .pointer (some ⟨g, 2, none⟩)].getD j undef) ∧ (((d.setIfInBounds k true).getD 8 false = false ∧ PA lo b g 34 nm ss N V W s r ((d.setIfInBounds k true).getD 5 false) ((tm.setIfInBounds (k + 4) v).getD 9 undef) ((d.setIfInBounds k true).getD 7 false) ((tm.setIfInBounds (k + 4) v).getD 11 undef) w) ∨ ((d.setIfInBounds k true).getD 8 false = true ∧ (d.setIfInBounds k true).getD 5 false = true ∧ (d.setIfInBounds k true).getD 7 false = true ∧ PB lo b g 34 nm ss N V W sl r ((tm.setIfInBounds (k + 4) v).getD 9 undef) ((tm.setIfInBounds (k + 4) v).getD 12 undef) w)) := by
      intro v hv h5 h7 h8
      refine ⟨fun j hj n5 n7 n8 hdj => ?_, ?_⟩
      · by_cases e : j = k
        · subst e
          rw [getD_new (by omega)]
          exact hv
        · rw [getD_keep (Ne.symm e)] at hdj
          rw [getD_keep (by omega)]
          exact hG1 j hj n5 n7 n8 hdj
      · rw [getD_keep h8, getD_keep h5, getD_keep h7, getD_keep (show k + 4 ≠ 9 by omega), getD_keep (show k + 4 ≠ 11 by omega), getD_keep (show k + 4 ≠ 12 by omega)]
        exact hG2
    match k, hk with
    | 0, _ => exact op_load rfl rfl _ (.tmp 0) rfl ((hun 0 (by intro i hi; omega)).trans k0) (ld_fileptr w (hB.cell (List.mem_cons_self ..) rfl)) ⟨_, rfl, hq _ rfl (by omega) (by omega) (by omega)⟩
    | 1, _ => exact op_nilCheck rfl rfl (.tmp 4) rfl (hG1 0 (by omega) (by omega) (by omega) (by omega) (hw 0 (by kernel_rfl)).2) ⟨_, rfl, hq _ rfl (by omega) (by omega) (by omega)⟩
    | 2, _ => exact op_field rfl rfl _ (.tmp 5) _ rfl (hG1 1 (by omega) (by omega) (by omega) (by omega) (hw 1 (by kernel_rfl)).2) (fa_file2 w) ⟨_, rfl, hq _ rfl (by omega) (by omega) (by omega)⟩
    | 3, _ => exact op_load rfl rfl _ (.tmp 6) rfl (hG1 2 (by omega) (by omega) (by omega) (by omega) (hw 2 (by kernel_rfl)).2) (by rw [hv]; exact ld_msgs w (by rw [← hv]; exact hB.row hi)) ⟨_, rfl, hq _ hv.symm (by omega) (by omega) (by omega)⟩
    | 4, _ => exact op_load rfl rfl _ (.tmp 1) rfl ((hun 1 (by intro i hi; omega)).trans k1) (ld_rptr w (hB.cell (List.mem_cons_of_mem _ (List.mem_cons_self ..)) rfl)) ⟨_, rfl, hq _ rfl (by omega) (by omega) (by omega)⟩
    | 5, _ =>
      have hd8 : d.getD 8 false = false ∧ PA lo b g 34 nm ss N V W s r false (tm.getD 9 undef) (d.getD 7 false) (tm.getD 11 undef) w := by
        rcases hG2 with ⟨q1, q2⟩ | ⟨_, q, _⟩
        · rw [hnd] at q2
          exact ⟨q1, q2⟩
        · rw [q] at hnd; cases hnd
      obtain ⟨hd8, hpa⟩ := hd8
      obtain ⟨M, s2, hM, hap, hs2, _⟩ := id hpa
      rw [if_neg (by simp)] at hs2
      refine op_callP rfl rfl 71 (cf_rmessage w) _ _ rfl #[.pointer (some ⟨b, 0, none⟩)] ?_ (hcall w s2 M hM hap hs2) ?_
      · simp only [List.map_toArray, List.map_cons, List.map_nil, Act.eval]
        rw [show tm.getD 8 undef = _ from hG1 4 (by omega) (by omega) (by omega) (by omega) (hw 4 (by kernel_rfl)).2]
        rfl
      · intro e w' hcr
        rcases PA.call hN hpa hcr with ⟨x, rfl, h1⟩ | ⟨y, hr, rfl, hs⟩
        · refine .inl ⟨x, rfl, x, rfl, fun j hj n5 n7 n8 hdj => ?_, .inl ⟨?_, ?_⟩⟩
          · rw [getD_keep (Ne.symm n5)] at hdj
            rw [getD_keep (by omega)]
            exact hG1 j hj n5 n7 n8 hdj
          · rw [getD_keep (by omega)]
            exact hd8
          · rw [getD_new (by omega), getD_new (by omega), getD_keep (by omega), getD_keep (by omega)]
            exact h1
        · exact .inr ⟨_, rfl, by show Qb (Exit.panic _) _ _; rw [← hQb]; exact ⟨rfl, hR _ _ (by unfold CP; rw [hr]; exact ⟨rfl, hs⟩)⟩⟩
    | 6, _ => exact op_len rfl rfl (.tmp 7) 31 51 rfl Tryz.underlying31 ((hG1 3 (by omega) (by omega) (by omega) (by omega) (hw 3 (by kernel_rfl)).2).trans hv) ⟨_, rfl, hq _ rfl (by omega) (by omega) (by omega)⟩
    | 7, _ =>
      have hd8 : d.getD 8 false = false ∧ PA lo b g 34 nm ss N V W s r (d.getD 5 false) (tm.getD 9 undef) false (tm.getD 11 undef) w := by
        rcases hG2 with ⟨q1, q2⟩ | ⟨_, _, q, _⟩
        · rw [hnd] at q2
          exact ⟨q1, q2⟩
        · rw [q] at hnd; cases hnd
      obtain ⟨hd8, hpa⟩ := hd8
      refine op_bs rfl rfl _ _ _ rfl #[(0, .agg zeroM)] (by simp only [List.map_toArray, List.map_cons, List.map_nil, Act.eval]; rfl) (bs_zero w) ⟨_, rfl, fun j hj n5 n7 n8 hdj => ?_, .inl ⟨?_, ?_⟩⟩
      · rw [getD_keep (Ne.symm n7)] at hdj
        rw [getD_keep (by omega)]
        exact hG1 j hj n5 n7 n8 hdj
      · rw [getD_keep (by omega)]
        exact hd8
      · rw [getD_keep (by omega), getD_keep (by omega), getD_new (by omega), getD_new (by omega)]
        exact hpa.bs hN
    | 8, _ =>
      have hd5 := (hw 5 (by kernel_rfl)).2
      have hd7 := (hw 7 (by kernel_rfl)).2
      have hpa : PA lo b g 34 nm ss N V W s r true (tm.getD 9 undef) true (tm.getD 11 undef) w := by
        rcases hG2 with ⟨_, q⟩ | ⟨q, _⟩
        · rw [hd5, hd7] at q
          exact q
        · rw [q] at hnd; cases hnd
      obtain ⟨M, s2, hM, hap, hx, hy⟩ := hpa
      rw [if_pos rfl] at hx hy
      obtain ⟨a, hr, hnm⟩ := hx
      obtain ⟨gy, hy, hz⟩ := hy
      have hl := hap.bx.lt
      refine op_append_at w rfl rfl (.tmp 7) (.tmp 11) 31 rfl (g + 1) sl.t sl.sz 160 und ei sz0 sl.v sl.n sl.xs (hG1 3 (by omega) (by omega) (by omega) (by omega) (hw 3 (by kernel_rfl)).2) (hap.bx.own 1 sl hi) ⟨gy, 0, none⟩ 1 1 zeroM.toList hy (by rw [e7]; rfl) (row_news (x := .agg zeroM) (hz _ _ hap.nx.2).1) ?_ (by unfold maxLen; omega) (by omega) (by omega) ?_
      · intro u hu
        simp only [zeroM, List.mem_cons, List.not_mem_nil, or_false] at hu
        rcases hu with rfl | rfl | rfl | rfl | rfl | rfl | rfl <;> rfl
      · intro v' w' h1 h2 h3
        refine ⟨v', rfl, fun j hj n5 n7 n8 hdj => ?_, .inr ⟨getD_new (by omega), ?_, ?_, ?_⟩⟩
        · rw [getD_keep (Ne.symm n8)] at hdj
          rw [getD_keep (by omega)]
          exact hG1 j hj n5 n7 n8 hdj
        · rw [getD_keep (by omega)]
          exact hd5
        · rw [getD_keep (by omega)]
          exact hd7
        · rw [getD_keep (by omega), getD_new (by omega)]
          exact ⟨M, a, s2, w, hr, hM, hnm, hap, h2, h1, h3⟩
    | 9, _ => exact op_nilCheck rfl rfl (.tmp 4) rfl (hG1 0 (by omega) (by omega) (by omega) (by omega) (hw 0 (by kernel_rfl)).2) ⟨_, rfl, hq _ rfl (by omega) (by omega) (by omega)⟩
    | 10, _ => exact op_field rfl rfl _ (.tmp 13) _ rfl (hG1 9 (by omega) (by omega) (by omega) (by omega) (hw 9 (by kernel_rfl)).2) (fa_file2 w) ⟨_, rfl, hq _ rfl (by omega) (by omega) (by omega)⟩
  · intro d tm w hdone hsz hun hG
    obtain ⟨hG1, hG2⟩ := hG
    have hpb : PB lo b g 34 nm ss N V W sl r (tm.getD 9 undef) (tm.getD 12 undef) w := by
      rcases hG2 with ⟨q, _⟩ | ⟨_, _, _, q⟩
      · rw [hdone 8 (by omega)] at q; cases q
      · exact q
    have hB := hpb.base hcs hi
    obtain ⟨M, a, s2, w2, hr, hM, hnm, hap, hg, ho, hl⟩ := hpb
    have h10 := hG1 6 (by omega) (by omega) (by omega) (by omega) (hdone 6 (by omega))
    have h14 := hG1 10 (by omega) (by omega) (by omega) (by omega) (hdone 10 (by omega))
    obtain ⟨k, c, hvk⟩ : ∃ k c, tm.getD 12 undef = .slice (some ⟨k, 0, none⟩) (sl.n + 1) c := by
      rcases ho.2 with ⟨_, e0⟩ | ⟨k, c, _, e, _⟩
      · omega
      · exact ⟨k, c, e⟩
    have hlen := (h.bx.own 1 sl hi).1
    rw [e7] at hlen
    refine op_store rfl rfl _ (.tmp 14) (.tmp 12) rfl h14 hvk (st_msgs w (hB.row hi) (hB.frozen _)) ?_
    have hap2 := hap.app (hN.and hM) hi hg ho hl
    rw [hvk] at hap2
    show R2.wp Tryz.prog Qb ⟨tm, []⟩ _
    obtain ⟨⟨l⟩, hx9, hms⟩ := hnm _ _ hap2.nx.2
    obtain ⟨wz, hwz⟩ : ∃ wz, w.setCell ⟨g, 2, none⟩ (.slice (some ⟨k, 0, none⟩) (sl.n + 1) c) = wz := ⟨_, rfl⟩
    rw [hwz] at hap2 hms ⊢
    cases hms with
    | cons hf ho' hm hms he hes hr' hg' ht =>
      cases ht
      obtain ⟨fa, fn, fc, rfl⟩ := row_shape hf.1
      obtain ⟨oa, on, oc, rfl⟩ := row_shape ho'.1
      obtain ⟨ma, mn, mc, rfl⟩ := row_shape hm.1
      obtain ⟨ea, en, ec, rfl⟩ := row_shape he.1
      obtain ⟨ra, rn, rc, rfl⟩ := row_shape hr'.1
      obtain ⟨ga, gn, gc, rfl⟩ := row_shape hg'.1
      rename_i nm9 _ _ _ _ _ _ _ _
      have hrow := hap2.bx.own 1 _ (get_set' hi _)
      simp only [e7, et] at hrow hap2
      have hcell : ∀ t u, zeroM.toList[t]? = some u → wz.cell? ⟨k, sl.n * 7 + t, none⟩ = some u := fun t u ht => by
        have hlt : t < 7 := (List.getElem?_eq_some_iff.1 ht).1
        rw [World.ownsRow.cellAt hrow (sl.n * 7 + t) (by omega), ← hlen, List.getElem?_append_right (Nat.le_add_right _ _), Nat.add_sub_cancel_left]
        exact ht
      have y0 := hcell 0 _ rfl
      have y1 := hcell 1 _ rfl
      have y2 := hcell 2 _ rfl
      have y3 := hcell 3 _ rfl
      have y4 := hcell 4 _ rfl
      have y5 := hcell 5 _ rfl
      have y6 := hcell 6 _ rfl
      have z0 := World.ownsRow.frozenAt hrow (sl.n * 7)
      have z1 := World.ownsRow.frozenAt hrow (sl.n * 7 + 1)
      have z2 := World.ownsRow.frozenAt hrow (sl.n * 7 + 2)
      have z3 := World.ownsRow.frozenAt hrow (sl.n * 7 + 3)
      have z4 := World.ownsRow.frozenAt hrow (sl.n * 7 + 4)
      have z5 := World.ownsRow.frozenAt hrow (sl.n * 7 + 5)
      have z6 := World.ownsRow.frozenAt hrow (sl.n * 7 + 6)
      rw [Nat.add_zero] at y0
      have hap3 := Ap.set7 hi hap2 (hN.and hM) rfl hlen (.string nm9) (.slice fa fn fc) (.slice oa on oc) (.slice ma mn mc) (.slice ea en ec) (.slice ra rn rc) (.slice ga gn gc)
      have HE : Hid (R (.returned (.tuple #[])) (set7 wz k (sl.n * 7) (.string nm9) (.slice fa fn fc) (.slice oa on oc) (.slice ma mn mc) (.slice ea en ec) (.slice ra rn rc) (.slice ga gn gc))) := by
        refine hR _ _ ?_
        unfold CP
        rw [hr]
        refine ⟨rfl, tm.getD 9 undef, .slice (some ⟨k, 0, none⟩) (sl.n + 1) c, ?_⟩
        rw [e7, et]
        have hxl : (tm.getD 9 undef).cells.toList = [.string nm9, .slice fa fn fc, .slice oa on oc, .slice ma mn mc, .slice ea en ec, .slice ra rn rc, .slice ga gn gc] := by rw [hx9]; rfl
        rw [hxl]
        exact hap3.imp (fun h => ⟨h.1, hnm _ _ h.2⟩)
      obtain ⟨u, hu⟩ := frame27 hsz
      have q9 : u 9 = .agg #[.string nm9, .slice fa fn fc, .slice oa on oc, .slice ma mn mc, .slice ea en ec, .slice ra rn rc, .slice ga gn gc] := by rw [hu] at hx9; exact hx9
      have q10 : u 10 = .int .i64 (sl.n : Int) := by rw [hu] at h10; exact h10
      have q12 : u 12 = .slice (some ⟨k, 0, none⟩) (sl.n + 1) c := by rw [hu] at hvk; exact hvk
      rw [hu, q9, q10, q12, ← hR2]
      obtain ⟨L, hL⟩ : ∃ L, sl.n + 1 = L := ⟨_, rfl⟩
      rw [hL]
      obtain ⟨n, hn9⟩ : ∃ n, sl.n = n := ⟨_, rfl⟩
      rw [hn9] at y0 y1 y2 y3 y4 y5 y6 z0 z1 z2 z3 z4 z5 z6 HE hL hn ⊢
      have n0 : (0 : Int) ≤ (n : Int) := Int.natCast_nonneg _
      have n1 : (n : Int) < (L : Int) := by omega
      have n2 : n ≤ 100000 := hn
      unfold set7 at HE
      unfold btR2 btC
      dsimp only [Tryz.f70]
      clear hap3 hap2 hrow hcell hx9 h10 hvk q9 q10 q12 hu hf ho' hm hms he hes hr' hg' hG1 hG2 hun hdone hsz hB hap hg ho hl h14 hwz hL hn9 hlen hnm hM hr h hN hi ei und sz0 bt0 fx hcs hcall hR hv e7 et hn k0 k1 hsz0
      go_wp2
      rw [← hQb]
      go_end0
      exact unhide HE
set_option maxRecDepth 100000 in
set_option maxHeartbeats 4000000 in
theorem bt_any (h : Ap lo b g 34 nm ss N V W s w0) (hN : Stable N) (hi : ss[1]? = some sl) (hfit : Fit 31 sl 160 (NML g)) (hn : sl.n ≤ 100000) (hcs : ∀ P w, N P w → ∀ c ∈ ([(pm, #[.pointer (some ⟨g, 0, none⟩)], 104), (pr, #[.pointer (some ⟨b, 0, none⟩)], 80)] : List (Nat × Array Value × TypeId)), Cell1 c.1 c.2.1 c.2.2 P w) (hcall : ∀ w s2 M, Stable M → Ap lo b g 34 nm ss (fun P w => N P w ∧ M P w) V W s2 w → s2 = s → Calls Tryz.prog 71 #[.pointer (some ⟨b, 0, none⟩)] w (CR lo b (NML g) w r)) :
    Calls Tryz.prog 70 #[.pointer (some ⟨pm, 0, none⟩), .pointer (some ⟨pr, 0, none⟩)] w0 (CP lo b g 34 nm ss N V W 1 sl r (NML g)) := by
  have HX : ∀ w, Below w0.heap.size w0 w → ∀ tm0 : Array Value, tm0.size = 27 → tm0.getD 0 undef = .pointer (some ⟨pm, 0, none⟩) → tm0.getD 1 undef = .pointer (some ⟨pr, 0, none⟩) → (Code.seq btR1 btR2).wp Tryz.prog (bodyPost Tryz.prog Tryz.f70 (CP lo b g 34 nm ss N V W 1 sl r (NML g))) ⟨tm0, []⟩ w ∧ btR3.wp Tryz.prog (bodyPost Tryz.prog Tryz.f70 (CP lo b g 34 nm ss N V W 1 sl r (NML g))) ⟨tm0, []⟩ w := fun w hb tm0 h1 h2 h3 =>
    ⟨btR1_any (h.up hN hb) hN hi hfit hn hcs hcall (fun _ _ h => h) h1 h2 h3, btR3_any (h.up hN hb) hN hi hfit hn hcs hcall (fun _ _ h => h) h1 h2 h3⟩
  have HXh := hide HX
  have HB := hide (Below.refl w0.heap.size w0)
  clear HX h hN hi hfit hn hcs hcall
  refine calls_of_wp Tryz.func70 bt_split ?_
  rw [bt_splitC]
  obtain ⟨X, hX⟩ : ∃ X, Code.seq btR1 btR2 = X := ⟨_, rfl⟩
  obtain ⟨Y, hY⟩ : ∃ Y, btR3 = Y := ⟨_, rfl⟩
  rw [hX, hY] at HXh
  rw [hX, hY]
  obtain ⟨Q, hQ⟩ : ∃ Q, bodyPost Tryz.prog Tryz.f70 (CP lo b g 34 nm ss N V W 1 sl r (NML g)) = Q := ⟨_, rfl⟩
  rw [hQ] at HXh ⊢
  unfold btR0
  dsimp only [Tryz.f70]
  simp only [List.size_toArray, List.length_cons, List.length_nil, Nat.reduceAdd, Nat.reduceSub, Array.replicate_succ, Array.replicate_zero, List.push_toArray, List.append_toArray, List.nil_append, List.cons_append]
  clear hX hY hQ
  go_wp2
  go_region
  all_goals (try go_wp2)
  · exact (unhide HXh _ ((unhide HB).alloc (Nat.le_refl _) _).drew _ rfl rfl rfl).2
  · exact (unhide HXh _ ((unhide HB).alloc (Nat.le_refl _) _).drew _ rfl rfl rfl).1
end
end Go.Proofs.YtdhncpeemcanlaaGreatDoor
