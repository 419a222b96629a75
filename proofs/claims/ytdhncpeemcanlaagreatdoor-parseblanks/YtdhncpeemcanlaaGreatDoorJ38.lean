import Derived.Test.YtdhncpeemcanlaaGreatDoorPbW

namespace Go.Proofs.YtdhncpeemcanlaaGreatDoor
open Go.RowKit
attribute [local go_sem ↓] Go.wp_at_zero Go.wp_at_succ

set_option maxRecDepth 100000 in
theorem frame40 {tm : Array Value} (h : tm.size = 40) : ∃ u : Nat → Value, tm = #[u 0, u 1, u 2, u 3, u 4, u 5, u 6, u 7, u 8, u 9, u 10, u 11, u 12, u 13, u 14, u 15, u 16, u 17, u 18, u 19, u 20, u 21, u 22, u 23, u 24, u 25, u 26, u 27, u 28, u 29, u 30, u 31, u 32, u 33, u 34, u 35, u 36, u 37, u 38, u 39] := by
  refine ⟨fun i => tm.getD i undef, ?_⟩
  have e : tm = ((List.range 40).map fun i => tm.getD i undef).toArray := by
    apply Array.ext
    · simp [h]
    · intro i h1 h2
      simp [Array.getD, h1]
  exact e.trans rfl
theorem sizeMs : (Tryz.prog.info? 51).map (·.size) = some 7 := by kernel_rfl
theorem cells7 {w : World} {g : Nat} {a0 a1 a2 a3 a4 a5 a6 : Value} {t : TypeId} (h : w.heap[g]? = some (.cells #[a0, a1, a2, a3, a4, a5, a6] t (0, 0))) : (w.cell? ⟨g, 0, none⟩ = some a0 ∧ w.cell? ⟨g, 1, none⟩ = some a1 ∧ w.cell? ⟨g, 2, none⟩ = some a2 ∧ w.cell? ⟨g, 3, none⟩ = some a3 ∧ w.cell? ⟨g, 4, none⟩ = some a4 ∧ w.cell? ⟨g, 5, none⟩ = some a5 ∧ w.cell? ⟨g, 6, none⟩ = some a6) ∧ ∀ j, w.frozen? ⟨g, j, none⟩ = false := by
  refine ⟨⟨?_, ?_, ?_, ?_, ?_, ?_, ?_⟩, fun j => by simp [World.frozen?, h]⟩ <;> rw [cell_of_row _ _ _ _ _ _ h] <;> rfl
def put7 (w : World) (g : Nat) (a0 a1 a2 a3 a4 a5 a6 : Value) : World := ((((((w.setCell ⟨g, 0, none⟩ a0).setCell ⟨g, 1, none⟩ a1).setCell ⟨g, 2, none⟩ a2).setCell ⟨g, 3, none⟩ a3).setCell ⟨g, 4, none⟩ a4).setCell ⟨g, 5, none⟩ a5).setCell ⟨g, 6, none⟩ a6
theorem put7_block {w : World} {g : Nat} {b0 b1 b2 b3 b4 b5 b6 : Value} {t : TypeId} (h : w.heap[g]? = some (.cells #[b0, b1, b2, b3, b4, b5, b6] t (0, 0))) (a0 a1 a2 a3 a4 a5 a6 : Value) : (put7 w g a0 a1 a2 a3 a4 a5 a6).heap[g]? = some (.cells #[a0, a1, a2, a3, a4, a5, a6] t (0, 0)) ∧ w.grownBy (put7 w g a0 a1 a2 a3 a4 a5 a6) (some g) := by
  obtain ⟨h0, g0⟩ := set_block (j := 0) h a0
  obtain ⟨h1, g1⟩ := set_block (j := 1) h0 a1
  obtain ⟨h2, g2⟩ := set_block (j := 2) h1 a2
  obtain ⟨h3, g3⟩ := set_block (j := 3) h2 a3
  obtain ⟨h4, g4⟩ := set_block (j := 4) h3 a4
  obtain ⟨h5, g5⟩ := set_block (j := 5) h4 a5
  obtain ⟨h6, g6⟩ := set_block (j := 6) h5 a6
  exact ⟨h6, (((((g0.trans g1).trans g2).trans g3).trans g4).trans g5).trans g6⟩
/-- How many messages are open. -/
theorem rd_op {lo b n : Nat} {W : World} {s : PSt} (h : Rd lo W b s) (hn : n ≤ 32) : Rd lo (W.setCell ⟨b, 6, none⟩ (.int .i64 (n : Int))) b { s with op := n } ∧ W.grownBy (W.setCell ⟨b, 6, none⟩ (.int .i64 (n : Int))) (some b) := by
  obtain ⟨v, h1, h2, h3, h4, h5, h6⟩ := h
  obtain ⟨k1, k2⟩ := set_block (j := 6) h1 (.int .i64 (n : Int))
  exact ⟨⟨v, k1, h2.far h3.2 k2, ⟨h3.1, Nat.le_trans h3.2 k2.size⟩, h4, hn, h6⟩, k2⟩
noncomputable def msT7 : Code := match Tryz.f71.body with
  | some (.seq _ (.seq _ (.seq _ (.seq _ (.seq _ (.seq _ t)))))) => t
  | _ => .skip
noncomputable def msWith (t : Code) : Code := match Tryz.f71.body with
  | some (.seq a (.seq b (.seq c (.seq d (.seq e (.seq f _)))))) => .seq a (.seq b (.seq c (.seq d (.seq e (.seq f t)))))
  | _ => .skip
theorem ms_split : Tryz.f71.body = some (msWith msT7) := rfl
noncomputable def msT8 : Code := match msT7 with
  | .seq _ t => t
  | _ => .skip
noncomputable def msR7 : Code := match msT7 with
  | .seq a _ => a
  | _ => .skip
theorem ms_split7 : msT7 = .seq msR7 msT8 := rfl
set_option maxRecDepth 100000 in
set_option maxHeartbeats 4000000 in
theorem msT8_any {lo b g K op p1 p2 : Nat} {nm : ByteArray} {N : (Nat → Prop) → World → Prop} {V W0 W1 w : World} {x : Mp} {s : PSt} {e0 e1 e2 e3 e4 e5 e6 : Value} (h : MsI lo b g K (op + 1) nm N V W1 x s w) (hN : Stable N) (hc1 : ∀ P w, N P w → Cell1 p1 #[.pointer (some ⟨b, 0, none⟩)] 80 P w) (hc2 : ∀ P w, N P w → Cell1 p2 #[e0, e1, e2, e3, e4, e5, e6] 51 P w)
    (hend : pisB s.here 4 ⟨#[125]⟩ = true) (hgr : W0.grownBy W1 (some b)) (hlo : lo ≤ W0.heap.size ∧ W0.heap.size ≤ p2 ∧ p2 < g) (hop : op ≤ 31) {tm : Array Value} (hsz : tm.size = 40) (hchk : chk tm [(1, .pointer (some ⟨p1, 0, none⟩)), (2, .pointer (some ⟨p2, 0, none⟩)), (3, .pointer (some ⟨g, 0, none⟩))]) {R : Ending → World → Prop}
    (hR : ∀ e w, CR lo b NM W0 (msEnd x s) e w → R e w) : msT8.wp Tryz.prog (bodyPost Tryz.prog Tryz.f71 R) ⟨tm, []⟩ w := by
  have HR := hide hR
  have HI := hide h
  obtain ⟨hnm, ⟨vf, vo, vm, ve, vr, vg, cm, ce, hap⟩, hk⟩ := h
  obtain ⟨fa, fc, q1⟩ := row_shape2 (hap.bx.own 0 _ rfl)
  obtain ⟨oa, oc, q2⟩ := row_shape2 (hap.bx.own 1 _ rfl)
  obtain ⟨ma, mc, q3⟩ := row_shape2 (hap.bx.own 2 _ rfl)
  obtain ⟨ea, ec, q4⟩ := row_shape2 (hap.bx.own 3 _ rfl)
  obtain ⟨ra, rc, q5⟩ := row_shape2 (hap.bx.own 4 _ rfl)
  obtain ⟨ga, gc, q6⟩ := row_shape2 (hap.bx.own 5 _ rfl)
  simp only at q1 q2 q3 q4 q5 q6
  subst q1 q2 q3 q4 q5 q6
  have c1 : w.cell? ⟨p1, 0, none⟩ = some (.pointer (some ⟨b, 0, none⟩)) := by rw [cell_of_row _ _ _ _ _ _ (hc1 _ _ hap.nx.1).1]; rfl
  have HA := hide hap
  have HN := hide (MsN.st (g := g) hN x cm ce)
  have HC1 := hide hc1
  have HC2 := hide hc2
  have Hgr := hide hgr
  have Hlo := hide hlo
  have Hnm := hide hnm
  have Hop := hide hk.2.2.2
  have HC := hide (next_any hap.rd (here_pos hap.rd.grown (by rw [pisB_kind hend]; decide)))
  obtain ⟨u, rfl⟩ := frame40 hsz
  obtain ⟨f1, f2, f3, _⟩ := hchk
  replace f1 : u 1 = .pointer (some ⟨p1, 0, none⟩) := Option.some.inj f1
  replace f2 : u 2 = .pointer (some ⟨p2, 0, none⟩) := Option.some.inj f2
  replace f3 : u 3 = .pointer (some ⟨g, 0, none⟩) := Option.some.inj f3
  rw [f1, f2, f3]
  clear f1 f2 f3 hsz hR hap hN hc1 hc2 hend hgr hlo hk hnm
  obtain ⟨Q, hQ⟩ : ∃ Q, bodyPost Tryz.prog Tryz.f71 R = Q := ⟨_, rfl⟩
  rw [hQ]
  unfold msT8 msT7
  dsimp only [Tryz.f71]
  go_wp2_with fail
  refine (unhide HC).mono ?_
  intro e w2 hw
  rcases hw.split with ⟨y, hr, rfl, hg⟩ | ⟨_, s4, hr, rfl, h4, hg⟩
  · show Q (Exit.panic _) _ _
    rw [← hQ]
    refine ⟨rfl, unhide HR _ _ ?_⟩
    unfold msEnd
    rw [hr]
    exact ⟨rfl, grown_sv (unhide Hgr) ((unhide HI).er hg) (by have := unhide Hlo; omega)⟩
  · have hlo := unhide Hlo
    have hap4 := (unhide HA).read (unhide HN) h4 hg
    obtain ⟨_, _, _, _, _, _, o6, of⟩ := h4.cells
    have f6 := of 6
    have hop4 : s4.op = op + 1 := (next_op hr).1.trans (unhide Hop)
    rw [hop4] at o6
    obtain ⟨m, hm⟩ : ∃ m, op + 1 = m := ⟨_, rfl⟩
    rw [hm] at o6
    have m1 : (1 : Int) ≤ (m : Int) := by omega
    have m2 : (m : Int) ≤ 32 := by omega
    have hm1 : ((op : Nat) : Int) = (m : Int) - 1 := by omega
    obtain ⟨h5, g5⟩ := rd_op h4 (n := op) (by omega)
    rw [hm1] at h5 g5
    have hap5 := hap4.read (unhide HN) h5 g5
    have c14 : w2.cell? ⟨p1, 0, none⟩ = some (.pointer (some ⟨b, 0, none⟩)) := by rw [cell_of_row _ _ _ _ _ _ (unhide HC1 _ _ hap4.nx.1).1]; rfl
    obtain ⟨⟨d0, d1, d2, d3, d4, d5, d6⟩, _⟩ := cells7 hap5.bx.blk
    have hp2 := (unhide HC2 _ _ hap5.nx.1).1
    obtain ⟨⟨y0, y1, y2, y3, y4, y5, y6⟩, yf⟩ := cells7 hp2
    have f20 := yf 0
    have f21 := yf 1
    have f22 := yf 2
    have f23 := yf 3
    have f24 := yf 4
    have f25 := yf 5
    have f26 := yf 6
    obtain ⟨r1, r2⟩ := put7_block hp2 (.string nm) (.slice fa x.fs.length fc) (.slice oa x.os.length oc) (.slice ma x.ms.length mc) (.slice ea x.es.length ec) (.slice ra x.rs.length rc) (.slice ga x.gs.length gc)
    have hrow : ∀ (i : Nat) (sl : Slot), (MSl x (.slice fa x.fs.length fc) (.slice oa x.os.length oc) (.slice ma x.ms.length mc) (.slice ea x.es.length ec) (.slice ra x.rs.length rc) (.slice ga x.gs.length gc) cm ce)[i]? = some sl → RowR (fun k => W0.heap.size ≤ k) (put7 (w2.setCell ⟨b, 6, none⟩ (.int .i64 ((m : Int) - 1))) p2 (.string nm) (.slice fa x.fs.length fc) (.slice oa x.os.length oc) (.slice ma x.ms.length mc) (.slice ea x.es.length ec) (.slice ra x.rs.length rc) (.slice ga x.gs.length gc)) sl.t sl.sz sl.v sl.n sl.xs := fun i sl hi => by
      have h1 := hap5.bx.own i sl hi
      refine ⟨ownsRow_mono (World.ownsRow.kept h1 r2 ?_) (Nat.zero_le _), fun k hk => ?_⟩
      · right
        intro e
        have := (h1.lt p2 e).1
        omega
      · have := (h1.lt k hk).1
        omega
    have hgoes : Goes (fun k => Fz (MSl x (.slice fa x.fs.length fc) (.slice oa x.os.length oc) (.slice ma x.ms.length mc) (.slice ea x.es.length ec) (.slice ra x.rs.length rc) (.slice ga x.gs.length gc) cm ce) g b k ∧ g ≤ k) (fun k => W0.heap.size ≤ k) (w2.setCell ⟨b, 6, none⟩ (.int .i64 ((m : Int) - 1))) (put7 (w2.setCell ⟨b, 6, none⟩ (.int .i64 ((m : Int) - 1))) p2 (.string nm) (.slice fa x.fs.length fc) (.slice oa x.os.length oc) (.slice ma x.ms.length mc) (.slice ea x.es.length ec) (.slice ra x.rs.length rc) (.slice ga x.gs.length gc)) := fun k hk hl => ⟨by omega, r2.block k hl (by simp; omega)⟩
    have HE : Hid (R (.returned (.agg #[.string nm, .slice fa x.fs.length fc, .slice oa x.os.length oc, .slice ma x.ms.length mc, .slice ea x.es.length ec, .slice ra x.rs.length rc, .slice ga x.gs.length gc])) (put7 (w2.setCell ⟨b, 6, none⟩ (.int .i64 ((m : Int) - 1))) p2 (.string nm) (.slice fa x.fs.length fc) (.slice oa x.os.length oc) (.slice ma x.ms.length mc) (.slice ea x.es.length ec) (.slice ra x.rs.length rc) (.slice ga x.gs.length gc))) := by
      refine unhide HR _ _ ?_
      unfold msEnd
      rw [hr]
      have hs4 : s4.down1 = { s4 with op := op } := by unfold PSt.down1; rw [hop4]; rfl
      show CR lo b NM W0 (.ok (x.done, s4.down1)) _ _
      rw [hs4]
      refine ⟨_, rfl, ⟨_, rfl, ?_⟩, rd_new h5 r2 (by omega), grown_new (grown_sv (unhide Hgr) hap5.sv (by omega)) r2 (by omega)⟩
      have hn2 := unhide Hnm
      unfold Mp.done
      rw [hn2]
      exact .cons (hrow 0 _ rfl) (hrow 1 _ rfl) (hrow 2 _ rfl) (stable_ms _ _ _ _ _ _ hgoes hap5.nx.2.1) (hrow 3 _ rfl) (stable_es _ _ _ _ _ _ hgoes hap5.nx.2.2) (hrow 4 _ rfl) (hrow 5 _ rfl) .nil
    have R1 := hide r1
    have c15 : (w2.setCell ⟨b, 6, none⟩ (.int .i64 ((m : Int) - 1))).cell? ⟨p1, 0, none⟩ = some (.pointer (some ⟨b, 0, none⟩)) := by rw [cell_of_row _ _ _ _ _ _ (unhide HC1 _ _ hap5.nx.1).1]; rfl
    unfold put7 at HE R1
    clear hw hr h4 hg hap4 hap5 yf r1 r2 hrow hgoes HC c1 h5 g5 hp2 of hop4 hm hm1 hlo hop
    go_wp2
    rw [← hQ]
    exact bodyPost_ret (results_cell_row rfl _ _ p2 51 #[.string nm, .slice fa x.fs.length fc, .slice oa x.os.length oc, .slice ma x.ms.length mc, .slice ea x.es.length ec, .slice ra x.rs.length rc, .slice ga x.gs.length gc] (0, 0) _ rfl (unhide R1) Tryz.underlying51 rfl sizeMs) rfl (unhide HE)
/-- Messages are read, up to so many tokens. -/
def MsgOk (n : Nat) : Prop := ∀ lo b V W s, Env V W b → Rd lo W b s → Sm s → s.ts.length ≤ n → s.ts.length ≤ 16384 → 0 < s.ts.length → Calls Tryz.prog 71 #[.pointer (some ⟨b, 0, none⟩)] W (CR lo b NM W (messageF n s))
set_option maxRecDepth 100000 in
set_option maxHeartbeats 4000000 in
theorem msT7_any {lo b g K op p1 p2 n : Nat} {nm : ByteArray} {V W0 W1 w : World} {s : PSt} {e0 e1 e2 e3 e4 e5 e6 : Value} (hM : MsgOk n) (hK : K ≤ n ∧ K ≤ 16384) (h : MsI lo b g K (op + 1) nm (fun P w => Cell1 p1 #[.pointer (some ⟨b, 0, none⟩)] 80 P w ∧ Cell1 p2 #[e0, e1, e2, e3, e4, e5, e6] 51 P w) V W1 ⟨nm, [], [], [], [], [], []⟩ s.up1 w)
    (hgr : W0.grownBy W1 (some b)) (hlo : lo ≤ W0.heap.size ∧ W0.heap.size ≤ p2 ∧ p2 < g) (hop : op ≤ 31) {tm : Array Value} (hsz : tm.size = 40) (hchk : chk tm [(1, .pointer (some ⟨p1, 0, none⟩)), (2, .pointer (some ⟨p2, 0, none⟩)), (3, .pointer (some ⟨g, 0, none⟩))]) {R : Ending → World → Prop}
    (hR : ∀ e w, CR lo b NM W0 (msBody (messageF n) nm s) e w → R e w) : msT7.wp Tryz.prog (bodyPost Tryz.prog Tryz.f71 R) ⟨tm, []⟩ w := by
  obtain ⟨f1, f2, f3, _⟩ := hchk
  have k1 := at_get f1
  have k2 := at_get f2
  have k3 := at_get f3
  simp only at k1 k2 k3
  rw [ms_split7]
  refine wp_seq ?_
  obtain ⟨T8, hT8⟩ : ∃ T, msT8 = T := ⟨_, rfl⟩
  rw [hT8]
  obtain ⟨Qb, hQb⟩ : ∃ Q, bodyPost Tryz.prog Tryz.f71 R = Q := ⟨_, rfl⟩
  rw [hQb]
  unfold msR7 msT7
  dsimp only [Tryz.f71]
  have hS0 : Stable (fun P w => Cell1 p1 #[.pointer (some ⟨b, 0, none⟩)] 80 P w ∧ Cell1 p2 #[e0, e1, e2, e3, e4, e5, e6] 51 P w) := (stable_cell _ _ _).and (stable_cell _ _ _)
  refine region_call1 (z := 4) (N := 40) 2 (by kernel_rfl) (fun k => k + 25) (fun k => [.pointer (some ⟨b, 0, none⟩), .pointer (some ⟨b, 0, none⟩), undef, .func (.func 93) #[] #[.pointer (some ⟨g, 0, none⟩), .pointer (some ⟨p1, 0, none⟩)]].getD k undef)
    (fun w => MsI lo b g K (op + 1) nm (fun P w => Cell1 p1 #[.pointer (some ⟨b, 0, none⟩)] 80 P w ∧ Cell1 p2 #[e0, e1, e2, e3, e4, e5, e6] 51 P w) V W1 ⟨nm, [], [], [], [], [], []⟩ s.up1 w)
    (fun x w => ∃ pv, x = .map (some (pv + 2)) ∧ MsI lo b g K (op + 1) nm (fun P w => (Cell1 p1 #[.pointer (some ⟨b, 0, none⟩)] 80 P w ∧ Cell1 p2 #[e0, e1, e2, e3, e4, e5, e6] 51 P w) ∧ (Cell1 pv #[.pointer (some ⟨b, 0, none⟩)] 80 P w ∧ Cell1 (pv + 1) #[.pointer (some ⟨g, 0, none⟩)] 128 P w ∧ WMap (pv + 2) (membersT pv b) P w)) V W1 ⟨nm, [], [], [], [], [], []⟩ s.up1 w)
    _ w rfl hsz (fun i j _ _ e => by omega) (fun i hi => by omega) (by kernel_rfl) (by kernel_rfl) ?_ ?_ ?_ ?_
  · have hb := (Below.refl w.heap.size w).drew
    exact h.step hS0 (h.rd.up hb) (below_grown b hb) (.refl _)
  · intro k tm' w' hk hkc hsz' hun hdep hw
    have hcell : w'.cell? ⟨p1, 0, none⟩ = some (.pointer (some ⟨b, 0, none⟩)) := by
      rcases hw with ⟨_, ⟨vf, vo, vm, ve, vr, vg, cm, ce, hap⟩, _⟩ | ⟨_, pv, _, _, ⟨vf, vo, vm, ve, vr, vg, cm, ce, hap⟩, _⟩
      · rw [cell_of_row _ _ _ _ _ _ hap.nx.1.1.1]; rfl
      · rw [cell_of_row _ _ _ _ _ _ hap.nx.1.1.1.1]; rfl
    match k, hk with
    | 0, _ => exact op_load rfl rfl _ (.tmp 1) rfl ((hun 1 (by intro i hi; omega)).trans k1) (ld_rptr _ hcell) ⟨rfl, rfl⟩
    | 1, _ => exact op_load rfl rfl _ (.tmp 1) rfl ((hun 1 (by intro i hi; omega)).trans k1) (ld_rptr _ hcell) ⟨rfl, rfl⟩
    | 2, _ => omega
    | 3, _ => exact op_makeFunc rfl rfl _ _ _ rfl #[] #[.pointer (some ⟨g, 0, none⟩), .pointer (some ⟨p1, 0, none⟩)] (by simp) (by simp only [List.map_toArray, List.map_cons, List.map_nil, Act.eval]; rw [show tm'.getD 3 undef = _ from (hun 3 (by intro i hi; omega)).trans k3, show tm'.getD 1 undef = _ from (hun 1 (by intro i hi; omega)).trans k1]) ⟨rfl, rfl⟩
  · intro _ tm' w' hsz' hun hdep hw
    refine op_callP rfl rfl 92 (cf_rmembers w') _ _ rfl #[.pointer (some ⟨b, 0, none⟩), .pointer (some ⟨g, 0, none⟩)] ?_ (members_any w' b g) ?_
    · simp only [List.map_toArray, List.map_cons, List.map_nil, Act.eval]
      rw [show tm'.getD 26 undef = _ from hdep 1 (by omega) (by kernel_rfl), show tm'.getD 3 undef = _ from (hun 3 (by intro i hi; omega)).trans k3]
      rfl
    · rintro e w2 ⟨rfl, hb, hcs⟩
      exact .inl ⟨_, rfl, _, rfl, w'.heap.size, rfl, hw.join hS0 ((stable_cell _ _ _).and ((stable_cell _ _ _).and (stable_map _ _))) hb hcs⟩
  · intro tm' w' hsz' hun hval hw
    rcases hw with ⟨_, pv, hx, hi⟩ | ⟨hc, _⟩
    rotate_left
    · omega
    have hS1 : Stable (fun P w => (Cell1 p1 #[.pointer (some ⟨b, 0, none⟩)] 80 P w ∧ Cell1 p2 #[e0, e1, e2, e3, e4, e5, e6] 51 P w) ∧ (Cell1 pv #[.pointer (some ⟨b, 0, none⟩)] 80 P w ∧ Cell1 (pv + 1) #[.pointer (some ⟨g, 0, none⟩)] 128 P w ∧ WMap (pv + 2) (membersT pv b) P w)) := hS0.and ((stable_cell _ _ _).and ((stable_cell _ _ _).and (stable_map _ _)))
    have htab := ms_tab (lo := lo) (g := g) (K := K) (op := op + 1) (p1 := p1) (pv := pv) (nm := nm) (V := V) (W := W1) (mf := messageF n) hS1 hK.2 (fun P w h => h.1.1) (fun P w h => h.2.1) (fun P w h => h.2.2.1) (fun P w h => h.2.2.2) (msg_gt n) (fun lo b V W s q1 q2 q3 q4 q5 => hM lo b V W s q1 q2 q3 (by omega) (by omega) q5)
    have hstg : ∀ x s x' s', stmtF (msW (messageF n)) msO x s = .ok (x', s') → Suf s s' := fun x s x' s' h => (gt_stmt (msW_gt _ (msg_gt n)) (fun x s x' s' h => fldR_pos h) h).1.suf
    have hbd := body_any htab (fun x s w x' s' hI hst => stmt_lt (msW_gt _ (msg_gt n)) (fun x s x' s' h => fldR_pos h) (htab.rd x s w hI).grown hst) hi
    refine op_callP rfl rfl 91 (cf_rbody w') _ _ rfl #[.pointer (some ⟨b, 0, none⟩), .map (some (pv + 2)), .func (.func 93) #[] #[.pointer (some ⟨g, 0, none⟩), .pointer (some ⟨p1, 0, none⟩)]] ?_ hbd ?_
    · simp only [List.map_toArray, List.map_cons, List.map_nil, Act.eval]
      rw [show tm'.getD 25 undef = _ from hval 0 (by omega) (by omega), show tm'.getD 27 undef = _ from hx, show tm'.getD 28 undef = _ from hval 3 (by omega) (by omega)]
      rfl
    · intro e w2 hip
      have hbf : ∀ z, bodyF (stmtF (msW (messageF n)) msO) ⟨nm, [], [], [], [], [], []⟩ s.up1 = z → msBody (messageF n) nm s = (match z with | .error e => .error e | .ok (x, s3) => msEnd x s3) := fun z hz => by unfold msBody; rw [hz]; cases z <;> rfl
      rcases hip.split with ⟨y, hr, rfl, he⟩ | ⟨x, s3, hr, rfl, hi3⟩
      · refine .inr ⟨_, rfl, ?_⟩
        show Qb (Exit.panic _) _ _
        rw [← hQb]
        refine ⟨rfl, hR _ _ ?_⟩
        rw [hbf _ hr]
        exact ⟨rfl, grown_sv hgr he (by omega)⟩
      · refine .inl ⟨_, rfl, ?_⟩
        show T8.wp Tryz.prog Qb ⟨tm'.setIfInBounds 29 (.tuple #[]), []⟩ w2
        rw [← hT8, ← hQb]
        have hend := (suf_body hstg hr).2
        refine msT8_any (p1 := p1) (p2 := p2) hi3 hS1 (fun P w h => h.1.1) (fun P w h => h.1.2) hend hgr hlo hop (by rw [Array.size_setIfInBounds]; exact hsz') ⟨?_, ?_, ?_, trivial⟩ ?_
        · exact at_of (by rw [Array.size_setIfInBounds, hsz']; omega) (by rw [getD_keep (by omega)]; exact (hun 1 (by intro i hi; omega)).trans k1)
        · exact at_of (by rw [Array.size_setIfInBounds, hsz']; omega) (by rw [getD_keep (by omega)]; exact (hun 2 (by intro i hi; omega)).trans k2)
        · exact at_of (by rw [Array.size_setIfInBounds, hsz']; omega) (by rw [getD_keep (by omega)]; exact (hun 3 (by intro i hi; omega)).trans k3)
        · intro e w3 hcr
          refine hR e w3 ?_
          rw [hbf _ hr]
          exact hcr
end Go.Proofs.YtdhncpeemcanlaaGreatDoor

namespace Go.Proofs.YtdhncpeemcanlaaGreatDoor
open Go.RowKit
attribute [local go_sem ↓] Go.wp_at_zero Go.wp_at_succ

set_option maxRecDepth 100000 in
set_option maxHeartbeats 4000000 in
theorem message_step {n : Nat} (hM : MsgOk n) : MsgOk (n + 1) := by
  intro lo b V W s hv h hs hn1 hn hp
  have hlow := h.low
  have hb2 : Below W.heap.size W ((W.alloc (.cells #[.pointer (some ⟨b, 0, none⟩)] 80)).alloc (.cells #[.string ⟨#[]⟩, .slice none 0 0, .slice none 0 0, .slice none 0 0, .slice none 0 0, .slice none 0 0, .slice none 0 0] 51)) := ((Below.refl _ _).alloc (Nat.le_refl _) _).alloc (by rw [World.size_alloc]; omega) _
  have hx1 : ((W.alloc (.cells #[.pointer (some ⟨b, 0, none⟩)] 80)).alloc (.cells #[.string ⟨#[]⟩, .slice none 0 0, .slice none 0 0, .slice none 0 0, .slice none 0 0, .slice none 0 0, .slice none 0 0] 51)).heap[W.heap.size]? = some (.cells #[.pointer (some ⟨b, 0, none⟩)] 80 (0, 0)) := (Below.heap_alloc _ _ _ (by rw [World.size_alloc]; omega)).trans (heap_new _ _)
  have hx2 : ((W.alloc (.cells #[.pointer (some ⟨b, 0, none⟩)] 80)).alloc (.cells #[.string ⟨#[]⟩, .slice none 0 0, .slice none 0 0, .slice none 0 0, .slice none 0 0, .slice none 0 0, .slice none 0 0] 51)).heap[W.heap.size + 1]? = some (.cells #[.string ⟨#[]⟩, .slice none 0 0, .slice none 0 0, .slice none 0 0, .slice none 0 0, .slice none 0 0, .slice none 0 0] 51 (0, 0)) := by
    have := heap_new (W.alloc (.cells #[.pointer (some ⟨b, 0, none⟩)] 80)) (.cells #[.string ⟨#[]⟩, .slice none 0 0, .slice none 0 0, .slice none 0 0, .slice none 0 0, .slice none 0 0, .slice none 0 0] 51)
    rw [World.size_alloc] at this
    exact this
  have l2 : W.heap.size + 1 < ((W.alloc (.cells #[.pointer (some ⟨b, 0, none⟩)] 80)).alloc (.cells #[.string ⟨#[]⟩, .slice none 0 0, .slice none 0 0, .slice none 0 0, .slice none 0 0, .slice none 0 0, .slice none 0 0] 51)).heap.size := by simp only [World.size_alloc]; omega
  have hd0 := h.up hb2
  have hbk : ∀ w, ((W.alloc (.cells #[.pointer (some ⟨b, 0, none⟩)] 80)).alloc (.cells #[.string ⟨#[]⟩, .slice none 0 0, .slice none 0 0, .slice none 0 0, .slice none 0 0, .slice none 0 0, .slice none 0 0] 51)).grownBy w (some b) → w.heap[W.heap.size]? = some (.cells #[.pointer (some ⟨b, 0, none⟩)] 80 (0, 0)) ∧ w.heap[W.heap.size + 1]? = some (.cells #[.string ⟨#[]⟩, .slice none 0 0, .slice none 0 0, .slice none 0 0, .slice none 0 0, .slice none 0 0, .slice none 0 0] 51 (0, 0)) ∧ w.cell? ⟨W.heap.size, 0, none⟩ = some (.pointer (some ⟨b, 0, none⟩)) := fun w hg => by
    have e1 := (hg.block W.heap.size (by omega) (by simp; omega)).trans hx1
    exact ⟨e1, (hg.block (W.heap.size + 1) l2 (by simp; omega)).trans hx2, by rw [cell_of_row _ _ _ _ _ _ e1]; rfl⟩
  have HBK := hide hbk
  have HG0 := hide (below_grown b hb2)
  have HV := hide hv
  have HS := hide hs
  have Hn := hide hn
  have Hn1 := hide hn1
  have Hp := hide hp
  have HM := hide hM
  have HC := hide (begun_any hd0)
  have Hlow := hide hlow
  have hop0 : s.op ≤ 32 := by obtain ⟨_, _, _, _, _, h9, _⟩ := h; exact h9
  have c0 := (hbk _ (World.grownBy.refl _ _)).2.2
  clear hx1 hx2 l2 hd0 hbk hb2 h hv hs hn hn1 hlow hM
  refine calls_of_wp Tryz.func71 ms_split ?_
  obtain ⟨tl, htl⟩ : ∃ t, msT7 = t := ⟨_, rfl⟩
  rw [htl]
  obtain ⟨Q, hQ⟩ : ∃ Q, bodyPost Tryz.prog Tryz.f71 (CR lo b NM W (messageF (n + 1) s)) = Q := ⟨_, rfl⟩
  rw [hQ]
  unfold msWith
  dsimp only [Tryz.f71]
  simp only [List.size_toArray, List.length_cons, List.length_nil, Nat.reduceAdd, Nat.reduceSub, Array.replicate_succ, Array.replicate_zero, List.push_toArray, List.append_toArray, List.nil_append, List.cons_append]
  go_wp2_with fail
  refine (unhide HC).mono ?_
  rintro e w1 ⟨rfl, h1, hg1⟩
  have c1 := (unhide HBK _ hg1).2.2
  have HN := hide (next_any h1 hp)
  have HFl := hide (fail_any h1 53)
  have Hg1 := hide hg1
  obtain ⟨_, _, _, _, _, _, o6, _⟩ := h1.cells
  have o6' : w1.cell? ⟨b, 6, none⟩ = some (.int .i64 (s.op : Int)) := o6
  obtain ⟨op, hop⟩ : ∃ op, s.op = op := ⟨_, rfl⟩
  have Hop := hide hop
  rw [hop] at o6' hop0
  clear h1 hg1 HC c0 o6 hop
  by_cases h32 : op = 32
  · subst h32
    go_wp2_with fail
    refine (unhide HFl).mono ?_
    rintro e w2 ⟨rfl, hb2⟩
    show Q (Exit.panic _) _ _
    rw [← hQ]
    refine ⟨rfl, ?_⟩
    unfold messageF
    rw [if_pos (unhide Hop)]
    exact ⟨rfl, ((unhide HG0).trans (unhide Hg1)).trans (below_grown b hb2)⟩
  · have q32 : ((op : Int) == 32) = false := beq_eq_false_iff_ne.2 (by omega)
    have h31 : op ≤ 31 := by omega
    have HFq : Hid (messageF (n + 1) s = match pnextF s.begun with | .error e => .error e | .ok (_, s1) => match pnameF s1 with | .error e => .error e | .ok (nm, s2) => msBody (messageF n) nm s2) := by
      show _ = _
      conv => lhs; unfold messageF
      rw [if_neg (by rw [unhide Hop]; exact h32)]
      cases pnextF s.begun with
      | error e => rfl
      | ok y =>
        simp only
        cases pnameF y.2 <;> rfl
    clear h32 hop0
    go_wp2_with fail
    refine (unhide HN).mono ?_
    intro e w2 hw
    rcases hw.split with ⟨y, hr, rfl, hg⟩ | ⟨_, s1, hr, rfl, h2, hg⟩
    · show Q (Exit.panic _) _ _
      rw [← hQ]
      refine ⟨rfl, ?_⟩
      rw [unhide HFq, hr]
      exact ⟨rfl, ((unhide HG0).trans (unhide Hg1)).trans hg⟩
    · have Hg2 := hide ((unhide Hg1).trans hg)
      have Hgt := hide (gt_next (s := s.begun) hr)
      have HF1 : Hid (messageF (n + 1) s = match pnameF s1 with | .error e => .error e | .ok (nm, s2) => msBody (messageF n) nm s2) := by show _ = _; rw [unhide HFq, hr]
      have HNm := hide (name_any h2 ((suf_begun hr).sm (unhide HS)))
      have c2 := (unhide HBK _ ((unhide Hg1).trans hg)).2.2
      clear hw hr h2 hg HN HFq c1 o6' HFl
      go_wp2_with fail
      refine (unhide HNm).mono ?_
      intro e w3 hw
      rcases hw.split with ⟨y, hr, rfl, hg⟩ | ⟨nm, s2, hr, rfl, h3, hg⟩
      · show Q (Exit.panic _) _ _
        rw [← hQ]
        refine ⟨rfl, ?_⟩
        rw [unhide HF1, hr]
        exact ⟨rfl, ((unhide HG0).trans (unhide Hg2)).trans hg⟩
      · have hg3 := (unhide Hg2).trans hg
        obtain ⟨k1, k2, _⟩ := unhide HBK _ hg3
        have hlow := unhide Hlow
        have hsz3 : W.heap.size + 2 ≤ w3.heap.size := by
          have := (Array.getElem?_eq_some_iff.1 k2).1
          omega
        have hgt2 : Gt s s2 := (show Gt s s1 from unhide Hgt).suf_r (gt_name hr).suf
        have hop2 : s2.op = op := hgt2.suf.op.trans (unhide Hop)
        have hb4 := (Below.refl w3.heap.size w3).alloc (Nat.le_refl _) (.cells #[.string nm, .slice none 0 0, .slice none 0 0, .slice none 0 0, .slice none 0 0, .slice none 0 0, .slice none 0 0] 51)
        have h4 := h3.up hb4
        obtain ⟨h5, g5⟩ := rd_op h4 (n := op + 1) (by omega)
        have hs5 : { s2 with op := op + 1 } = s2.up1 := by unfold PSt.up1; rw [hop2]
        rw [hs5] at h5
        have hap : Ap lo b w3.heap.size 51 nm (MSl ⟨nm, [], [], [], [], [], []⟩ (.slice none 0 0) (.slice none 0 0) (.slice none 0 0) (.slice none 0 0) (.slice none 0 0) (.slice none 0 0) [] []) (MsN w3.heap.size (fun P w => Cell1 W.heap.size #[.pointer (some ⟨b, 0, none⟩)] 80 P w ∧ Cell1 (W.heap.size + 1) #[.string ⟨#[]⟩, .slice none 0 0, .slice none 0 0, .slice none 0 0, .slice none 0 0, .slice none 0 0, .slice none 0 0] 51 P w) ⟨nm, [], [], [], [], [], []⟩ [] []) V w3 s2 (w3.alloc (.cells #[.string nm, .slice none 0 0, .slice none 0 0, .slice none 0 0, .slice none 0 0, .slice none 0 0, .slice none 0 0] 51)) := by
          have hno : ∀ (i : Nat) (sl : Slot), (MSl ⟨nm, [], [], [], [], [], []⟩ (.slice none 0 0) (.slice none 0 0) (.slice none 0 0) (.slice none 0 0) (.slice none 0 0) (.slice none 0 0) [] [])[i]? = some sl → sl.v = .slice none 0 0 ∧ sl.n = 0 ∧ sl.xs = [] := fun i sl hi => by
            match i, hi with
            | 0, hi => obtain rfl := Option.some.inj hi; exact ⟨rfl, rfl, rfl⟩
            | 1, hi => obtain rfl := Option.some.inj hi; exact ⟨rfl, rfl, rfl⟩
            | 2, hi => obtain rfl := Option.some.inj hi; exact ⟨rfl, rfl, rfl⟩
            | 3, hi => obtain rfl := Option.some.inj hi; exact ⟨rfl, rfl, rfl⟩
            | 4, hi => obtain rfl := Option.some.inj hi; exact ⟨rfl, rfl, rfl⟩
            | 5, hi => obtain rfl := Option.some.inj hi; exact ⟨rfl, rfl, rfl⟩
            | k + 6, hi => cases hi
          have hfz : ∀ k, k ≠ b → k ≠ w3.heap.size → Fz (MSl ⟨nm, [], [], [], [], [], []⟩ (.slice none 0 0) (.slice none 0 0) (.slice none 0 0) (.slice none 0 0) (.slice none 0 0) (.slice none 0 0) [] []) w3.heap.size b k := fun k q1 q2 => ⟨q1, q2, fun i sl hi e => by
            rw [(hno i sl hi).1] at e
            cases e⟩
          refine ⟨⟨heap_new _ _, fun i sl hi => ?_, fun i j a c hne ha hc k hk => ?_⟩, ⟨⟨⟨(hb4.block _ (by omega)).trans k1, hfz _ (by omega) (by omega)⟩, ⟨(hb4.block _ (by omega)).trans k2, hfz _ (by omega) (by omega)⟩⟩, .nil, .nil⟩, h4, by have := h3.low; omega, ⟨hb4.os, hb4.tape, hb4.output, hb4.size, fun k hk _ => hb4.block k hk⟩, ?_⟩
          · obtain ⟨q1, q2, q3⟩ := hno i sl hi
            exact ⟨by rw [q2, q3]; simp, .inl ⟨q1, q2⟩⟩
          · rw [(hno i a ha).1] at hk
            cases hk
          · exact ((unhide HV).step ((unhide HG0).trans hg3)).step (below_grown b hb4)
        have hap5 := hap.read (MsN.st ((stable_cell _ _ _).and (stable_cell _ _ _)) _ _ _) h5 g5
        have hlt := hgt2.lt (unhide Hp)
        have HI : Hid (MsI lo b w3.heap.size s2.ts.length (op + 1) nm (fun P w => Cell1 W.heap.size #[.pointer (some ⟨b, 0, none⟩)] 80 P w ∧ Cell1 (W.heap.size + 1) #[.string ⟨#[]⟩, .slice none 0 0, .slice none 0 0, .slice none 0 0, .slice none 0 0, .slice none 0 0, .slice none 0 0] 51 P w) V w3 ⟨nm, [], [], [], [], [], []⟩ s2.up1 ((w3.alloc (.cells #[.string nm, .slice none 0 0, .slice none 0 0, .slice none 0 0, .slice none 0 0, .slice none 0 0, .slice none 0 0] 51)).setCell ⟨b, 6, none⟩ (.int .i64 ((op + 1 : Nat) : Int)))) := by
          have h7 := unhide Hn
          have h8 : s2.up1.ts.length = s2.ts.length := rfl
          exact ⟨rfl, ⟨_, _, _, _, _, _, _, _, hap5⟩, ⟨⟨by simp only [List.length_nil]; omega, by simp only [List.length_nil]; omega, by simp only [List.length_nil]; omega, by simp only [List.length_nil]; omega, by simp only [List.length_nil]; omega, by simp only [List.length_nil]; omega⟩, hgt2.suf.sm (unhide HS), by omega, by show s2.op + 1 = op + 1; rw [hop2]⟩⟩
        obtain ⟨_, _, _, _, _, _, o6, of⟩ := h4.cells
        rw [hop2] at o6
        have f6 := of 6
        have c4 : (w3.alloc (.cells #[.string nm, .slice none 0 0, .slice none 0 0, .slice none 0 0, .slice none 0 0, .slice none 0 0, .slice none 0 0] 51)).cell? ⟨W.heap.size, 0, none⟩ = some (.pointer (some ⟨b, 0, none⟩)) := by rw [cell_of_row _ _ _ _ _ _ ((hb4.block _ (by omega)).trans k1)]; rfl
        have HF2 : Hid (messageF (n + 1) s = msBody (messageF n) nm s2) := by show _ = _; rw [unhide HF1, hr]
        have HG3 := hide ((unhide HG0).trans hg3)
        have Hz := hide hsz3
        have HKl : Hid (s2.ts.length ≤ n ∧ s2.ts.length ≤ 16384) := by have := unhide Hn; have := unhide Hn1; exact ⟨by omega, by omega⟩
        have e1 : ((op + 1 : Nat) : Int) = (op : Int) + 1 := by omega
        rw [e1] at HI
        have p31 : (op : Int) ≤ 31 := by omega
        clear hw hr h3 hg hg3 k1 k2 hsz3 hb4 hap hap5 HNm HF1 hlow c2 h4 h5 g5 hs5 of hgt2 hop2 hlt e1 Hgt
        go_wp2
        rw [← htl, ← hQ]
        refine msT7_any (p1 := W.heap.size) (p2 := W.heap.size + 1) (unhide HM) (unhide HKl) (unhide HI) (unhide HG3) ⟨(unhide Hlow).2, by omega, by have := unhide Hz; omega⟩ h31 rfl ⟨rfl, rfl, rfl, trivial⟩ ?_
        intro e w5 hcr
        rw [unhide HF2]
        exact hcr
theorem message_ok : ∀ n, MsgOk n
  | 0 => fun _ _ _ _ s _ _ _ h1 _ h2 => absurd h2 (by omega)
  | n + 1 => message_step (message_ok n)
end Go.Proofs.YtdhncpeemcanlaaGreatDoor
