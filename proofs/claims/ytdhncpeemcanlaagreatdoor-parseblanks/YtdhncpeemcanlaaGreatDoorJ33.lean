import Derived.Test.YtdhncpeemcanlaaGreatDoorJ32

namespace Go.Proofs.YtdhncpeemcanlaaGreatDoor
open Go.RowKit
attribute [local go_sem ↓] Go.wp_at_zero Go.wp_at_succ

theorem at_of {tm : Array Value} {j : Nat} {v : Value} (hj : j < tm.size) (e : tm.getD j undef = v) : tm[j]? = some v := by
  rw [← e]
  simp [Array.getD_eq_getD_getElem?, Array.getElem?_eq_getElem hj]
theorem at_get {tm : Array Value} {j : Nat} {v : Value} (h : tm[j]? = some v) : tm.getD j undef = v := by
  rw [Array.getD_eq_getD_getElem?, h]; rfl
noncomputable def enBody (nm : ByteArray) (s : PSt) : Except (Int × Int) (En × PSt) := match bodyF (stmtF enW enO) ⟨nm, [], [], []⟩ s with
  | .error e => .error e
  | .ok (x, s3) => enEnd x s3
set_option maxRecDepth 100000 in
set_option maxHeartbeats 4000000 in
theorem enT4_any {lo b g p1 p2 : Nat} {nm : ByteArray} {V W0 W1 w : World} {s : PSt} {e0 e1 e2 e3 : Value} (h : EnI lo b g nm (fun P w => Cell1 p1 #[.pointer (some ⟨b, 0, none⟩)] 80 P w ∧ Cell1 p2 #[e0, e1, e2, e3] 66 P w) V W1 ⟨nm, [], [], []⟩ s w)
    (hgr : W0.grownBy W1 (some b)) (hlo : lo ≤ W0.heap.size ∧ W0.heap.size ≤ p2 ∧ p2 < g) {tm : Array Value} (hsz : tm.size = 25) (hchk : chk tm [(1, .pointer (some ⟨p1, 0, none⟩)), (2, .pointer (some ⟨p2, 0, none⟩)), (3, .pointer (some ⟨g, 0, none⟩))]) {R : Ending → World → Prop}
    (hR : ∀ e w, CR lo b NE W0 (enBody nm s) e w → R e w) : enT4.wp Tryz.prog (bodyPost Tryz.prog Tryz.f73 R) ⟨tm, []⟩ w := by
  obtain ⟨f1, f2, f3, _⟩ := hchk
  have k1 := at_get f1
  have k2 := at_get f2
  have k3 := at_get f3
  simp only at k1 k2 k3
  rw [en_split4]
  refine wp_seq ?_
  obtain ⟨T5, hT5⟩ : ∃ T, enT5 = T := ⟨_, rfl⟩
  rw [hT5]
  obtain ⟨Qb, hQb⟩ : ∃ Q, bodyPost Tryz.prog Tryz.f73 R = Q := ⟨_, rfl⟩
  rw [hQb]
  unfold enR4 enT4
  dsimp only [Tryz.f73]
  have hS0 : Stable (fun P w => Cell1 p1 #[.pointer (some ⟨b, 0, none⟩)] 80 P w ∧ Cell1 p2 #[e0, e1, e2, e3] 66 P w) := (stable_cell _ _ _).and (stable_cell _ _ _)
  refine region_call1 (z := 4) (N := 25) 2 (by kernel_rfl) (fun k => k + 11) (fun k => [.pointer (some ⟨b, 0, none⟩), .pointer (some ⟨b, 0, none⟩), undef, .func (.func 96) #[] #[.pointer (some ⟨g, 0, none⟩), .pointer (some ⟨p1, 0, none⟩)]].getD k undef)
    (fun w => EnI lo b g nm (fun P w => Cell1 p1 #[.pointer (some ⟨b, 0, none⟩)] 80 P w ∧ Cell1 p2 #[e0, e1, e2, e3] 66 P w) V W1 ⟨nm, [], [], []⟩ s w)
    (fun x w => ∃ pv, x = .map (some (pv + 2)) ∧ EnI lo b g nm (fun P w => (Cell1 p1 #[.pointer (some ⟨b, 0, none⟩)] 80 P w ∧ Cell1 p2 #[e0, e1, e2, e3] 66 P w) ∧ (Cell1 pv #[.pointer (some ⟨b, 0, none⟩)] 80 P w ∧ Cell1 (pv + 1) #[.pointer (some ⟨g, 0, none⟩)] 131 P w ∧ WMap (pv + 2) (valuesT pv b) P w)) V W1 ⟨nm, [], [], []⟩ s w)
    _ w rfl hsz (fun i j _ _ e => by omega) (fun i hi => by omega) (by kernel_rfl) (by kernel_rfl) ?_ ?_ ?_ ?_
  · have hb := (Below.refl w.heap.size w).drew
    obtain ⟨_, ⟨vv, vr, vg, hap⟩, _⟩ := id h
    exact h.step hS0 (hap.rd.up hb) (below_grown b hb) (.refl _)
  · intro k tm' w' hk hkc hsz' hun hdep hw
    have hcell : w'.cell? ⟨p1, 0, none⟩ = some (.pointer (some ⟨b, 0, none⟩)) := by
      rcases hw with ⟨_, ⟨vv, vr, vg, hap⟩, _⟩ | ⟨_, pv, _, _, ⟨vv, vr, vg, hap⟩, _⟩
      · rw [cell_of_row _ _ _ _ _ _ hap.nx.1.1]; rfl
      · rw [cell_of_row _ _ _ _ _ _ hap.nx.1.1.1]; rfl
    match k, hk with
    | 0, _ => exact op_load rfl rfl _ (.tmp 1) rfl ((hun 1 (by intro i hi; omega)).trans k1) (ld_rptr _ hcell) ⟨rfl, rfl⟩
    | 1, _ => exact op_load rfl rfl _ (.tmp 1) rfl ((hun 1 (by intro i hi; omega)).trans k1) (ld_rptr _ hcell) ⟨rfl, rfl⟩
    | 2, _ => omega
    | 3, _ => exact op_makeFunc rfl rfl _ _ _ rfl #[] #[.pointer (some ⟨g, 0, none⟩), .pointer (some ⟨p1, 0, none⟩)] (by simp) (by simp only [List.map_toArray, List.map_cons, List.map_nil, Act.eval]; rw [show tm'.getD 3 undef = _ from (hun 3 (by intro i hi; omega)).trans k3, show tm'.getD 1 undef = _ from (hun 1 (by intro i hi; omega)).trans k1]) ⟨rfl, rfl⟩
  · intro _ tm' w' hsz' hun hdep hw
    refine op_callP rfl rfl 95 (cf_rvalues w') _ _ rfl #[.pointer (some ⟨b, 0, none⟩), .pointer (some ⟨g, 0, none⟩)] ?_ (values_any w' b g) ?_
    · simp only [List.map_toArray, List.map_cons, List.map_nil, Act.eval]
      rw [show tm'.getD 12 undef = _ from hdep 1 (by omega) (by kernel_rfl), show tm'.getD 3 undef = _ from (hun 3 (by intro i hi; omega)).trans k3]
      rfl
    · rintro e w2 ⟨rfl, hb, hcs⟩
      refine .inl ⟨_, rfl, _, rfl, w'.heap.size, rfl, ?_⟩
      obtain ⟨q0, ⟨vv, vr, vg, hap⟩, q2⟩ := hw
      exact ⟨q0, ⟨vv, vr, vg, hap.join hS0 ((stable_cell _ _ _).and ((stable_cell _ _ _).and (stable_map _ _))) (hap.rd.up hb) (below_grown b hb) hcs⟩, q2⟩
  · intro tm' w' hsz' hun hval hw
    rcases hw with ⟨_, pv, hx, hi⟩ | ⟨hc, _⟩
    rotate_left
    · omega
    have hS1 : Stable (fun P w => (Cell1 p1 #[.pointer (some ⟨b, 0, none⟩)] 80 P w ∧ Cell1 p2 #[e0, e1, e2, e3] 66 P w) ∧ (Cell1 pv #[.pointer (some ⟨b, 0, none⟩)] 80 P w ∧ Cell1 (pv + 1) #[.pointer (some ⟨g, 0, none⟩)] 131 P w ∧ WMap (pv + 2) (valuesT pv b) P w)) := hS0.and ((stable_cell _ _ _).and ((stable_cell _ _ _).and (stable_map _ _)))
    have htab := en_tab (lo := lo) (g := g) (p1 := p1) (pv := pv) (nm := nm) (V := V) (W := W1) hS1 (fun P w h => h.1.1) (fun P w h => h.2.1) (fun P w h => h.2.2.1) (fun P w h => h.2.2.2)
    have hbd := body_any htab (fun x s w x' s' hI hst => stmt_lt enW_gt enO_gt (htab.rd x s w hI).grown hst) hi
    refine op_callP rfl rfl 91 (cf_rbody w') _ _ rfl #[.pointer (some ⟨b, 0, none⟩), .map (some (pv + 2)), .func (.func 96) #[] #[.pointer (some ⟨g, 0, none⟩), .pointer (some ⟨p1, 0, none⟩)]] ?_ hbd ?_
    · simp only [List.map_toArray, List.map_cons, List.map_nil, Act.eval]
      rw [show tm'.getD 11 undef = _ from hval 0 (by omega) (by omega), show tm'.getD 13 undef = _ from hx, show tm'.getD 14 undef = _ from hval 3 (by omega) (by omega)]
      rfl
    · intro e w2 hip
      have hbf : ∀ z, bodyF (stmtF enW enO) ⟨nm, [], [], []⟩ s = z → enBody nm s = (match z with | .error e => .error e | .ok (x, s3) => enEnd x s3) := fun z hz => by unfold enBody; rw [hz]
      rcases hip.split with ⟨y, hr, rfl, he⟩ | ⟨x, s3, hr, rfl, hi3⟩
      · refine .inr ⟨_, rfl, ?_⟩
        show Qb (Exit.panic _) _ _
        rw [← hQb]
        refine ⟨rfl, hR _ _ ?_⟩
        rw [hbf _ hr]
        exact ⟨rfl, grown_sv hgr he (by omega)⟩
      · refine .inl ⟨_, rfl, ?_⟩
        show T5.wp Tryz.prog Qb ⟨tm'.setIfInBounds 15 (.tuple #[]), []⟩ w2
        rw [← hT5, ← hQb]
        have hend := (suf_body (fun x s x' s' h => (gt_stmt enW_gt enO_gt h).1.suf) hr).2
        refine enT5_any (p1 := p1) (p2 := p2) hi3 hS1 (fun P w h => h.1.1) (fun P w h => h.1.2) hend hgr hlo (by rw [Array.size_setIfInBounds]; exact hsz') ⟨?_, ?_, ?_, trivial⟩ ?_
        · exact at_of (by rw [Array.size_setIfInBounds, hsz']; omega) (by rw [getD_keep (by omega)]; exact (hun 1 (by intro i hi; omega)).trans k1)
        · exact at_of (by rw [Array.size_setIfInBounds, hsz']; omega) (by rw [getD_keep (by omega)]; exact (hun 2 (by intro i hi; omega)).trans k2)
        · exact at_of (by rw [Array.size_setIfInBounds, hsz']; omega) (by rw [getD_keep (by omega)]; exact (hun 3 (by intro i hi; omega)).trans k3)
        · intro e w3 hcr
          refine hR e w3 ?_
          rw [hbf _ hr]
          exact hcr
theorem enumF_eq (s : PSt) : enumF s = match pnextF s.begun with | .error e => .error e | .ok (_, s1) => match pnameF s1 with | .error e => .error e | .ok (nm, s2) => enBody nm s2 := by
  unfold enumF
  cases pnextF s.begun with
  | error e => rfl
  | ok y =>
    simp only
    cases pnameF y.2 with
    | error e => rfl
    | ok z =>
      simp only
      unfold enBody enEnd
      cases bodyF (stmtF enW enO) ⟨z.1, [], [], []⟩ z.2 <;> rfl
set_option maxRecDepth 100000 in
set_option maxHeartbeats 4000000 in
theorem enum_any {lo b : Nat} {V W : World} {s : PSt} (hv : Env V W b) (h : Rd lo W b s) (hs : Sm s) (hn : s.ts.length ≤ 16384) (hp : 0 < s.ts.length) : Calls Tryz.prog 73 #[.pointer (some ⟨b, 0, none⟩)] W (CR lo b NE W (enumF s)) := by
  have hlow := h.low
  have hb2 : Below W.heap.size W ((W.alloc (.cells #[.pointer (some ⟨b, 0, none⟩)] 80)).alloc (.cells #[.string ⟨#[]⟩, .slice none 0 0, .slice none 0 0, .slice none 0 0] 66)) := ((Below.refl _ _).alloc (Nat.le_refl _) _).alloc (by rw [World.size_alloc]; omega) _
  have hx1 : ((W.alloc (.cells #[.pointer (some ⟨b, 0, none⟩)] 80)).alloc (.cells #[.string ⟨#[]⟩, .slice none 0 0, .slice none 0 0, .slice none 0 0] 66)).heap[W.heap.size]? = some (.cells #[.pointer (some ⟨b, 0, none⟩)] 80 (0, 0)) := (Below.heap_alloc _ _ _ (by rw [World.size_alloc]; omega)).trans (heap_new _ _)
  have hx2 : ((W.alloc (.cells #[.pointer (some ⟨b, 0, none⟩)] 80)).alloc (.cells #[.string ⟨#[]⟩, .slice none 0 0, .slice none 0 0, .slice none 0 0] 66)).heap[W.heap.size + 1]? = some (.cells #[.string ⟨#[]⟩, .slice none 0 0, .slice none 0 0, .slice none 0 0] 66 (0, 0)) := by
    have := heap_new (W.alloc (.cells #[.pointer (some ⟨b, 0, none⟩)] 80)) (.cells #[.string ⟨#[]⟩, .slice none 0 0, .slice none 0 0, .slice none 0 0] 66)
    rw [World.size_alloc] at this
    exact this
  have l2 : W.heap.size + 1 < ((W.alloc (.cells #[.pointer (some ⟨b, 0, none⟩)] 80)).alloc (.cells #[.string ⟨#[]⟩, .slice none 0 0, .slice none 0 0, .slice none 0 0] 66)).heap.size := by simp only [World.size_alloc]; omega
  have hd0 := h.up hb2
  have hbk : ∀ w, ((W.alloc (.cells #[.pointer (some ⟨b, 0, none⟩)] 80)).alloc (.cells #[.string ⟨#[]⟩, .slice none 0 0, .slice none 0 0, .slice none 0 0] 66)).grownBy w (some b) → w.heap[W.heap.size]? = some (.cells #[.pointer (some ⟨b, 0, none⟩)] 80 (0, 0)) ∧ w.heap[W.heap.size + 1]? = some (.cells #[.string ⟨#[]⟩, .slice none 0 0, .slice none 0 0, .slice none 0 0] 66 (0, 0)) ∧ w.cell? ⟨W.heap.size, 0, none⟩ = some (.pointer (some ⟨b, 0, none⟩)) := fun w hg => by
    have e1 := (hg.block W.heap.size (by omega) (by simp; omega)).trans hx1
    exact ⟨e1, (hg.block (W.heap.size + 1) l2 (by simp; omega)).trans hx2, by rw [cell_of_row _ _ _ _ _ _ e1]; rfl⟩
  have HBK := hide hbk
  have HG0 := hide (below_grown b hb2)
  have HV := hide hv
  have HS := hide hs
  have Hn := hide hn
  have HC := hide (begun_any hd0)
  have Hlow := hide hlow
  have HFq := hide (enumF_eq s)
  obtain ⟨W9, hW9⟩ : ∃ W9, (W.alloc (.cells #[.pointer (some ⟨b, 0, none⟩)] 80)).alloc (.cells #[.string ⟨#[]⟩, .slice none 0 0, .slice none 0 0, .slice none 0 0] 66) = W9 := ⟨_, rfl⟩
  have c0 := (hbk _ (World.grownBy.refl _ _)).2.2
  clear hx1 hx2 l2 hd0 hbk hb2 h hv hs hn hlow
  refine calls_of_wp Tryz.func73 en_split ?_
  obtain ⟨tl, htl⟩ : ∃ t, enT4 = t := ⟨_, rfl⟩
  rw [htl]
  obtain ⟨Q, hQ⟩ : ∃ Q, bodyPost Tryz.prog Tryz.f73 (CR lo b NE W (enumF s)) = Q := ⟨_, rfl⟩
  rw [hQ]
  unfold enWith
  dsimp only [Tryz.f73]
  simp only [List.size_toArray, List.length_cons, List.length_nil, Nat.reduceAdd, Nat.reduceSub, Array.replicate_succ, Array.replicate_zero, List.push_toArray, List.append_toArray, List.nil_append, List.cons_append]
  clear hW9
  go_wp2_with fail
  refine (unhide HC).mono ?_
  rintro e w1 ⟨rfl, h1, hg1⟩
  have c1 := (unhide HBK _ hg1).2.2
  have HN := hide (next_any h1 hp)
  have Hg1 := hide hg1
  clear h1 hg1 HC c0
  go_wp2_with fail
  refine (unhide HN).mono ?_
  intro e w2 hw
  rcases hw.split with ⟨y, hr, rfl, hg⟩ | ⟨_, s1, hr, rfl, h2, hg⟩
  · show Q (Exit.panic _) _ _
    rw [← hQ]
    refine ⟨rfl, ?_⟩
    rw [unhide HFq, hr]
    exact ⟨rfl, ((unhide HG0).trans (unhide Hg1)).trans hg⟩
  · have Hg2 := hide ((unhide Hg1).trans hg)
    have Hsf := hide (suf_begun hr)
    have HF1 : Hid (enumF s = match pnameF s1 with | .error e => .error e | .ok (nm, s2) => enBody nm s2) := by show _ = _; rw [unhide HFq, hr]
    have HNm := hide (name_any h2 ((suf_begun hr).sm (unhide HS)))
    have c2 := (unhide HBK _ ((unhide Hg1).trans hg)).2.2
    clear hw hr h2 hg HN HFq c1
    go_wp2_with fail
    refine (unhide HNm).mono ?_
    intro e w3 hw
    rcases hw.split with ⟨y, hr, rfl, hg⟩ | ⟨nm, s2, hr, rfl, h3, hg⟩
    · show Q (Exit.panic _) _ _
      rw [← hQ]
      refine ⟨rfl, ?_⟩
      rw [unhide HF1, hr]
      exact ⟨rfl, ((unhide HG0).trans (unhide Hg2)).trans hg⟩
    · have hg3 := (unhide Hg2).trans hg
      obtain ⟨k1, k2, _⟩ := unhide HBK _ hg3
      have hlow := unhide Hlow
      have hsz3 : W.heap.size + 2 ≤ w3.heap.size := by
        have := (Array.getElem?_eq_some_iff.1 k2).1
        omega
      have hsf := (unhide Hsf).trans (gt_name hr).suf
      have hb4 := (Below.refl w3.heap.size w3).alloc (Nat.le_refl _) (.cells #[.string nm, .slice none 0 0, .slice none 0 0, .slice none 0 0] 66)
      have hap : Ap lo b w3.heap.size 66 nm (ESl ⟨nm, [], [], []⟩ (.slice none 0 0) (.slice none 0 0) (.slice none 0 0)) (fun P w => Cell1 W.heap.size #[.pointer (some ⟨b, 0, none⟩)] 80 P w ∧ Cell1 (W.heap.size + 1) #[.string ⟨#[]⟩, .slice none 0 0, .slice none 0 0, .slice none 0 0] 66 P w) V w3 s2 (w3.alloc (.cells #[.string nm, .slice none 0 0, .slice none 0 0, .slice none 0 0] 66)) := by
        have hno : ∀ (i : Nat) (sl : Slot), (ESl ⟨nm, [], [], []⟩ (.slice none 0 0) (.slice none 0 0) (.slice none 0 0))[i]? = some sl → sl.v = .slice none 0 0 ∧ sl.n = 0 ∧ sl.xs = [] := fun i sl hi => by
          match i, hi with
          | 0, hi => obtain rfl := Option.some.inj hi; exact ⟨rfl, rfl, rfl⟩
          | 1, hi => obtain rfl := Option.some.inj hi; exact ⟨rfl, rfl, rfl⟩
          | 2, hi => obtain rfl := Option.some.inj hi; exact ⟨rfl, rfl, rfl⟩
          | k + 3, hi => cases hi
        refine ⟨⟨heap_new _ _, fun i sl hi => ?_, fun i j a c hne ha hc k hk => ?_⟩, ⟨⟨(hb4.block _ (by omega)).trans k1, ?_⟩, ⟨(hb4.block _ (by omega)).trans k2, ?_⟩⟩, h3.up hb4, by have := h3.low; omega, ⟨hb4.os, hb4.tape, hb4.output, hb4.size, fun k hk _ => hb4.block k hk⟩, ?_⟩
        · obtain ⟨q1, q2, q3⟩ := hno i sl hi
          exact ⟨by rw [q2, q3]; simp, .inl ⟨q1, q2⟩⟩
        · rw [(hno i a ha).1] at hk
          cases hk
        · refine ⟨by omega, by omega, fun i sl hi e => ?_⟩
          rw [(hno i sl hi).1] at e
          cases e
        · refine ⟨by omega, by omega, fun i sl hi e => ?_⟩
          rw [(hno i sl hi).1] at e
          cases e
        · exact ((unhide HV).step ((unhide HG0).trans hg3)).step (below_grown b hb4)
      have HI : Hid (EnI lo b w3.heap.size nm (fun P w => Cell1 W.heap.size #[.pointer (some ⟨b, 0, none⟩)] 80 P w ∧ Cell1 (W.heap.size + 1) #[.string ⟨#[]⟩, .slice none 0 0, .slice none 0 0, .slice none 0 0] 66 P w) V w3 ⟨nm, [], [], []⟩ s2 (w3.alloc (.cells #[.string nm, .slice none 0 0, .slice none 0 0, .slice none 0 0] 66))) := by
        have h5 := unhide Hn
        have h6 := hsf.len
        exact ⟨rfl, ⟨_, _, _, hap⟩, ⟨by simp only [List.length_nil]; omega, by simp only [List.length_nil]; omega, by simp only [List.length_nil]; omega⟩, hsf.sm (unhide HS), by omega⟩
      have HF2 : Hid (enumF s = enBody nm s2) := by show _ = _; rw [unhide HF1, hr]
      have HG3 := hide ((unhide HG0).trans hg3)
      have Hz := hide hsz3
      clear hw hr h3 hg hg3 k1 k2 hsz3 hsf hb4 hap HNm HF1 hlow c2
      go_wp2
      rw [← htl, ← hQ]
      refine enT4_any (p1 := W.heap.size) (p2 := W.heap.size + 1) (unhide HI) (unhide HG3) ⟨(unhide Hlow).2, by omega, by have := unhide Hz; omega⟩ rfl ⟨rfl, rfl, rfl, trivial⟩ ?_
      intro e w5 hcr
      rw [unhide HF2]
      exact hcr
end Go.Proofs.YtdhncpeemcanlaaGreatDoor

namespace Go.Proofs.YtdhncpeemcanlaaGreatDoor
open Go.RowKit
attribute [local go_sem ↓] Go.wp_at_zero Go.wp_at_succ

/-- As NE and NM, in blocks from L on. -/
def NEL (L : Nat) (a : En) (x : Value) (P : Nat → Prop) (w : World) : Prop := NE a x (fun k => P k ∧ L ≤ k) w
def NML (L : Nat) (a : Ms) (x : Value) (P : Nat → Prop) (w : World) : Prop := NM a x (fun k => P k ∧ L ≤ k) w
theorem Goes.low {P P' : Nat → Prop} {w w' : World} (h : Goes P P' w w') (L : Nat) : Goes (fun k => P k ∧ L ≤ k) (fun k => P' k ∧ L ≤ k) w w' := fun k hk hl => ⟨⟨(h k hk.1 hl).1, hk.2⟩, (h k hk.1 hl).2⟩
theorem stable_nel (L : Nat) (a : En) (x : Value) : Stable (NEL L a x) := fun _ _ _ _ hg h => stable_ne a x _ _ _ _ (hg.low L) h
theorem stable_nml (L : Nat) (a : Ms) (x : Value) : Stable (NML L a x) := fun _ _ _ _ hg h => stable_nm a x _ _ _ _ (hg.low L) h
theorem fit_enumL {sl : Slot} (L : Nat) (h1 : sl.t = 66) (h2 : sl.sz = 4) : Fit 32 sl 88 (NEL L) := by
  obtain ⟨q1, q2, q3, q4, q5⟩ := fit_enum h1 h2
  exact ⟨q1, q2, q3, q4, fun a x P w h => q5 a x _ w h⟩
theorem fit_msgL {sl : Slot} (L : Nat) (h1 : sl.t = 51) (h2 : sl.sz = 7) : Fit 31 sl 160 (NML L) := by
  obtain ⟨q1, q2, q3, q4, q5⟩ := fit_msg h1 h2
  exact ⟨q1, q2, q3, q4, fun a x P w h => q5 a x _ w h⟩
theorem CR.enumL {lo b L : Nat} {w0 w : World} {r : Except (Int × Int) (En × PSt)} {e : Ending} (h : CR lo b NE w0 r e w) (hL : L ≤ w0.heap.size) : CR lo b (NEL L) w0 r e w := by
  unfold CR at *
  cases r with
  | error y => exact h
  | ok y =>
    obtain ⟨x, he, h1, h2⟩ := h
    exact ⟨x, he, stable_ne _ _ _ _ _ _ (fun k hk _ => ⟨⟨hk, Nat.le_trans hL hk⟩, rfl⟩) h1, h2⟩
theorem CR.msgL {lo b L : Nat} {w0 w : World} {r : Except (Int × Int) (Ms × PSt)} {e : Ending} (h : CR lo b NM w0 r e w) (hL : L ≤ w0.heap.size) : CR lo b (NML L) w0 r e w := by
  unfold CR at *
  cases r with
  | error y => exact h
  | ok y =>
    obtain ⟨x, he, h1, h2⟩ := h
    exact ⟨x, he, stable_nm _ _ _ _ _ _ (fun k hk _ => ⟨⟨hk, Nat.le_trans hL hk⟩, rfl⟩) h1, h2⟩
def fltC (er sp : Int) : List PanicEntry := [{ v := .iface 36 (.agg #[.int .i64 er, .int .i64 0, .int .i64 sp, .string ⟨#[]⟩]), recovered := false }]
theorem flt_c (er sp : Int) : flt er sp = .panicked (fltC er sp) := rfl
def zeroM : Array Value := #[.string ⟨#[]⟩, .slice none 0 0, .slice none 0 0, .slice none 0 0, .slice none 0 0, .slice none 0 0, .slice none 0 0]
theorem bs_zero (w : World) : (Instr.buildSlice 31 1 #[(0, .agg zeroM)]).run Tryz.prog w = .ok (.slice (some ⟨w.heap.size, 0, none⟩) 1 1) (w.alloc (.cells zeroM 51)) := bs_msg w _ _ _ _ _ _ _ ⟨_, _, _, rfl⟩ ⟨_, _, _, rfl⟩ ⟨_, _, _, rfl⟩ ⟨_, _, _, rfl⟩ ⟨_, _, _, rfl⟩ ⟨_, _, _, rfl⟩
section
variable {lo b g : Nat} {T : TypeId} {nm : ByteArray} {ss : List Slot} {N : (Nat → Prop) → World → Prop} {V W : World} {s : PSt} {i : Nat} {sl : Slot} {r : Except (Int × Int) (Ms × PSt)}
/-- Ahead of the append: the call is done or not, the row of nought is made or not. -/
def PA (lo b g : Nat) (T : TypeId) (nm : ByteArray) (ss : List Slot) (N : (Nat → Prop) → World → Prop) (V W : World) (s : PSt) (r : Except (Int × Int) (Ms × PSt)) (dc : Bool) (x : Value) (dy : Bool) (y : Value) (w : World) : Prop :=
  ∃ (M : (Nat → Prop) → World → Prop) (s2 : PSt), Stable M ∧ Ap lo b g T nm ss (fun P w => N P w ∧ M P w) V W s2 w ∧ (if dc = true then ∃ a, r = .ok (a, s2) ∧ ∀ P w, M P w → NML g a x P w else s2 = s) ∧ (if dy = true then ∃ gy, y = .slice (some ⟨gy, 0, none⟩) 1 1 ∧ ∀ P w, M P w → Cell1 gy zeroM 51 P w else True)
def PB (lo b g : Nat) (T : TypeId) (nm : ByteArray) (ss : List Slot) (N : (Nat → Prop) → World → Prop) (V W : World) (sl : Slot) (r : Except (Int × Int) (Ms × PSt)) (x v : Value) (w : World) : Prop :=
  ∃ (M : (Nat → Prop) → World → Prop) (a : Ms) (s2 : PSt) (w2 : World), r = .ok (a, s2) ∧ Stable M ∧ (∀ P w, M P w → NML g a x P w) ∧ Ap lo b g T nm ss (fun P w => N P w ∧ M P w) V W s2 w2 ∧ w2.grownBy w sl.v.ownBlock ∧ w.ownsRow (g + 1) sl.t sl.sz v (sl.n + 1) (sl.xs ++ zeroM.toList) ∧ (v.ownBlock = sl.v.ownBlock ∨ v.ownBlock = some w2.heap.size)
theorem PA.base {cs : List (Nat × Array Value × TypeId)} (hcs : ∀ P w, N P w → ∀ c ∈ cs, Cell1 c.1 c.2.1 c.2.2 P w) {dc dy : Bool} {x y : Value} {w : World} (h : PA lo b g T nm ss N V W s r dc x dy y w) : Bs g T nm ss cs w := by
  obtain ⟨M, s2, _, h, _⟩ := h
  exact ⟨h.bx.blk, fun c hc => (hcs _ _ h.nx.1 c hc).1⟩
theorem PB.base {cs : List (Nat × Array Value × TypeId)} (hcs : ∀ P w, N P w → ∀ c ∈ cs, Cell1 c.1 c.2.1 c.2.2 P w) (hi : ss[i]? = some sl) {x v : Value} {w : World} (h : PB lo b g T nm ss N V W sl r x v w) : Bs g T nm ss cs w := by
  obtain ⟨M, a, s2, w2, _, _, _, h, hg, _, _⟩ := h
  refine ⟨(hg.block g h.bx.lt (fun e => ?_)).trans h.bx.blk, fun c hc => ?_⟩
  · have := ((h.bx.own i sl hi).lt g e.symm).1; omega
  · obtain ⟨h1, h2⟩ := hcs _ _ h.nx.1 c hc
    exact (hg.block c.1 (Array.getElem?_eq_some_iff.1 h1).1 (fun e => h2.2.2 i sl hi e.symm)).trans h1
theorem PA.call (hN : Stable N) {dy : Bool} {x y : Value} {w w' : World} {e : Ending} (h : PA lo b g T nm ss N V W s r false x dy y w) (hc : CR lo b (NML g) w r e w') : (∃ x, e = .returned x ∧ PA lo b g T nm ss N V W s r true x dy y w') ∨ ∃ y, r = .error y ∧ e = flt y.1 y.2 ∧ Sv g b W w' := by
  obtain ⟨M, s2, hM, h0, h1, h2⟩ := h
  unfold CR at hc
  cases hr : r with
  | error y =>
    rw [hr] at hc
    exact .inr ⟨y, rfl, hc.1, h0.sv.trans (Sv.of hc.2 (by have := h0.bx.lt; omega))⟩
  | ok z =>
    rw [hr] at hc
    obtain ⟨x, rfl, k1, k2, k3⟩ := hc
    have h4 := h0.join (hN.and hM) (stable_nml g z.1 x) k2 k3 k1
    refine .inl ⟨x, rfl, fun P w => M P w ∧ NML g z.1 x P w, z.2, hM.and (stable_nml _ _ _), h4.imp (fun h => ⟨h.1.1, h.1.2, h.2⟩), ?_, ?_⟩
    · rw [if_pos rfl]
      exact ⟨z.1, rfl, fun P w h => h.2⟩
    · cases dy with
      | false => trivial
      | true =>
        rw [if_pos rfl] at h2 ⊢
        obtain ⟨gy, e, h5⟩ := h2
        exact ⟨gy, e, fun P w h => h5 P w h.1⟩
theorem PA.bs (hN : Stable N) {dc : Bool} {x y : Value} {w : World} (h : PA lo b g T nm ss N V W s r dc x false y w) : PA lo b g T nm ss N V W s r dc x true (.slice (some ⟨w.heap.size, 0, none⟩) 1 1) (w.alloc (.cells zeroM 51)) := by
  obtain ⟨M, s2, hM, h0, h1, h2⟩ := h
  have hb := (Below.refl w.heap.size w).alloc (Nat.le_refl _) (.cells zeroM 51)
  have h4 := h0.join (hN.and hM) (stable_cell w.heap.size zeroM 51) (h0.rd.up hb) (below_grown b hb) ⟨heap_new _ _, Nat.le_refl _⟩
  refine ⟨fun P w' => M P w' ∧ Cell1 w.heap.size zeroM 51 P w', s2, hM.and (stable_cell _ _ _), h4.imp (fun h => ⟨h.1.1, h.1.2, h.2⟩), ?_, ?_⟩
  · cases dc with
    | false => exact h1
    | true =>
      rw [if_pos rfl] at h1 ⊢
      obtain ⟨a, e, h5⟩ := h1
      exact ⟨a, e, fun P w h => h5 P w h.1⟩
  · rw [if_pos rfl]
    exact ⟨_, rfl, fun P w h => h.2⟩
theorem PA.drew (hN : Stable N) {w : World} (h : Ap lo b g T nm ss N V W s w) : PA lo b g T nm ss N V W s r false undef false undef w.drew := ⟨fun _ _ => True, s, stable_true, (h.up hN (Below.refl w.heap.size w).drew).imp (fun h => ⟨h, trivial⟩), by simp, by simp⟩
theorem set_seven (xs : List Value) (n : Nat) (hn : xs.length = n * 7) (z0 z1 z2 z3 z4 z5 z6 u0 u1 u2 u3 u4 u5 u6 : Value) : (((((((xs ++ [z0, z1, z2, z3, z4, z5, z6]).set (n * 7) u0).set (n * 7 + 1) u1).set (n * 7 + 2) u2).set (n * 7 + 3) u3).set (n * 7 + 4) u4).set (n * 7 + 5) u5).set (n * 7 + 6) u6 = xs ++ [u0, u1, u2, u3, u4, u5, u6] := by
  rw [← hn]
  rw [show xs.length = xs.length + 0 from rfl]
  simp only [Nat.add_assoc, Nat.reduceAdd, List.set_append_right _ _ (Nat.le_add_right _ _), Nat.add_sub_cancel_left]
  rfl
def set7 (w : World) (p j : Nat) (u0 u1 u2 u3 u4 u5 u6 : Value) : World := ((((((w.setCell ⟨p, j, none⟩ u0).setCell ⟨p, j + 1, none⟩ u1).setCell ⟨p, j + 2, none⟩ u2).setCell ⟨p, j + 3, none⟩ u3).setCell ⟨p, j + 4, none⟩ u4).setCell ⟨p, j + 5, none⟩ u5).setCell ⟨p, j + 6, none⟩ u6
end
end Go.Proofs.YtdhncpeemcanlaaGreatDoor
