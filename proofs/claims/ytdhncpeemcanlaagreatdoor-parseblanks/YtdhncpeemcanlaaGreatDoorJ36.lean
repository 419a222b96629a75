import Derived.Test.YtdhncpeemcanlaaGreatDoorPbT

namespace Go.Proofs.YtdhncpeemcanlaaGreatDoor
open Go.RowKit
attribute [local go_sem ↓] Go.wp_at_zero Go.wp_at_succ

set_option maxRecDepth 10000 in
theorem cho_tab {lo b g K op p2 p3 mb : Nat} {nm : ByteArray} {N : (Nat → Prop) → World → Prop} {V W : World} (hN : Stable N) (hK : K ≤ 16384) (hc2 : ∀ P w, N P w → Cell1 p2 #[.pointer (some ⟨b, 0, none⟩)] 80 P w) (hc3 : ∀ P w, N P w → Cell1 p3 #[.pointer (some ⟨g, 0, none⟩)] 128 P w) (hm : ∀ P w, N P w → WMap mb (choicesT b) P w) :
    WTab (MsI lo b g K op nm N V W) (Sv g b W) lo b mb (choicesT b) (.func (.func 125) #[] #[.pointer (some ⟨p3, 0, none⟩), .pointer (some ⟨p2, 0, none⟩)]) choW oneO := by
  refine ⟨fun x s w h => h.rd, fun x s w s' w' h hr hg hs => h.step hN hr hg hs, fun x s w w' h hg => h.er hg, fun x s w h => ?_, fun k => ?_, fun k v f hv hf x s w h hk ht => ?_, fun x s w h => ?_⟩
  · obtain ⟨_, ⟨vf, vo, vm, ve, vr, vg, cm, ce, hap⟩, _⟩ := h
    exact ⟨_, hm _ _ hap.nx.1⟩
  · unfold choicesT choW
    simp only [findW]
    by_cases q0 : (k == ⟨#[111, 112, 116, 105, 111, 110]⟩) = true
    · exact .inr ⟨_, _, _, _, by rw [if_pos q0], by rw [if_pos q0]⟩
    rw [if_neg q0, if_neg q0]
    by_cases q1 : (k == ⟨#[103, 114, 111, 117, 112]⟩) = true
    · exact .inr ⟨_, _, _, _, by rw [if_pos q1], by rw [if_pos q1]⟩
    rw [if_neg q1, if_neg q1]
    by_cases q2 : (k == ⟨#[111, 112, 116, 105, 111, 110, 97, 108]⟩) = true
    · exact .inr ⟨_, _, _, _, by rw [if_pos q2], by rw [if_pos q2]⟩
    rw [if_neg q2, if_neg q2]
    by_cases q3 : (k == ⟨#[114, 101, 112, 101, 97, 116, 101, 100]⟩) = true
    · exact .inr ⟨_, _, _, _, by rw [if_pos q3], by rw [if_pos q3]⟩
    rw [if_neg q3, if_neg q3]
    by_cases q4 : (k == ⟨#[114, 101, 113, 117, 105, 114, 101, 100]⟩) = true
    · exact .inr ⟨_, _, _, _, by rw [if_pos q4], by rw [if_pos q4]⟩
    rw [if_neg q4, if_neg q4]
    by_cases q5 : (k == ⟨#[111, 110, 101, 111, 102]⟩) = true
    · exact .inr ⟨_, _, _, _, by rw [if_pos q5], by rw [if_pos q5]⟩
    rw [if_neg q5, if_neg q5]
    by_cases q6 : (k == ⟨#[109, 101, 115, 115, 97, 103, 101]⟩) = true
    · exact .inr ⟨_, _, _, _, by rw [if_pos q6], by rw [if_pos q6]⟩
    rw [if_neg q6, if_neg q6]
    by_cases q7 : (k == ⟨#[101, 110, 117, 109]⟩) = true
    · exact .inr ⟨_, _, _, _, by rw [if_pos q7], by rw [if_pos q7]⟩
    rw [if_neg q7, if_neg q7]
    by_cases q8 : (k == ⟨#[114, 101, 115, 101, 114, 118, 101, 100]⟩) = true
    · exact .inr ⟨_, _, _, _, by rw [if_pos q8], by rw [if_pos q8]⟩
    rw [if_neg q8, if_neg q8]
    exact .inl ⟨rfl, rfl⟩
  · unfold choicesT at hv
    unfold choW at hf
    simp only [findW] at hv
    by_cases q0 : (k == ⟨#[111, 112, 116, 105, 111, 110]⟩) = true
    · rw [if_pos q0] at hv hf
      obtain rfl := Option.some.inj hv
      obtain rfl := Option.some.inj hf
      exact refuse_v h.rd (fun w' hg => h.er hg)
    rw [if_neg q0] at hv hf
    by_cases q1 : (k == ⟨#[103, 114, 111, 117, 112]⟩) = true
    · rw [if_pos q1] at hv hf
      obtain rfl := Option.some.inj hv
      obtain rfl := Option.some.inj hf
      exact refuse_v h.rd (fun w' hg => h.er hg)
    rw [if_neg q1] at hv hf
    by_cases q2 : (k == ⟨#[111, 112, 116, 105, 111, 110, 97, 108]⟩) = true
    · rw [if_pos q2] at hv hf
      obtain rfl := Option.some.inj hv
      obtain rfl := Option.some.inj hf
      exact refuse_v h.rd (fun w' hg => h.er hg)
    rw [if_neg q2] at hv hf
    by_cases q3 : (k == ⟨#[114, 101, 112, 101, 97, 116, 101, 100]⟩) = true
    · rw [if_pos q3] at hv hf
      obtain rfl := Option.some.inj hv
      obtain rfl := Option.some.inj hf
      exact refuse_v h.rd (fun w' hg => h.er hg)
    rw [if_neg q3] at hv hf
    by_cases q4 : (k == ⟨#[114, 101, 113, 117, 105, 114, 101, 100]⟩) = true
    · rw [if_pos q4] at hv hf
      obtain rfl := Option.some.inj hv
      obtain rfl := Option.some.inj hf
      exact refuse_v h.rd (fun w' hg => h.er hg)
    rw [if_neg q4] at hv hf
    by_cases q5 : (k == ⟨#[111, 110, 101, 111, 102]⟩) = true
    · rw [if_pos q5] at hv hf
      obtain rfl := Option.some.inj hv
      obtain rfl := Option.some.inj hf
      exact refuse_v h.rd (fun w' hg => h.er hg)
    rw [if_neg q5] at hv hf
    by_cases q6 : (k == ⟨#[109, 101, 115, 115, 97, 103, 101]⟩) = true
    · rw [if_pos q6] at hv hf
      obtain rfl := Option.some.inj hv
      obtain rfl := Option.some.inj hf
      exact refuse_v h.rd (fun w' hg => h.er hg)
    rw [if_neg q6] at hv hf
    by_cases q7 : (k == ⟨#[101, 110, 117, 109]⟩) = true
    · rw [if_pos q7] at hv hf
      obtain rfl := Option.some.inj hv
      obtain rfl := Option.some.inj hf
      exact refuse_v h.rd (fun w' hg => h.er hg)
    rw [if_neg q7] at hv hf
    by_cases q8 : (k == ⟨#[114, 101, 115, 101, 114, 118, 101, 100]⟩) = true
    · rw [if_pos q8] at hv hf
      obtain rfl := Option.some.inj hv
      obtain rfl := Option.some.inj hf
      exact refuse_v h.rd (fun w' hg => h.er hg)
    rw [if_neg q8] at hv hf
    cases hv
  · obtain ⟨hnm, ⟨vf, vo, vm, ve, vr, vg, cm, ce, hap⟩, hk⟩ := h
    have hk0 := hk
    obtain ⟨⟨l1, l2, l3, l4, l5, l6⟩, hsm, hn, hop⟩ := hk
    refine ⟨_, _, _, rfl, cf_roneof_1 w, ?_⟩
    refine (oneof1_any (pm := p3) (pr := p2) (bt := 72) (r := plainF (x.os.length : Int) s) (sl := ⟨47, 6, vf, x.fs.length, fldC x.fs⟩) (so := ⟨9, 1, vo, x.os.length, strC x.os⟩) (N1 := fun a x _ _ => x = a.val) rfl hap (MsN.st hN _ _ _) (fun _ _ => fun _ _ _ _ _ h => h) rfl (fit_fld rfl rfl) (by simp only; omega) (fun P w hw c hc => ?_) (fun w' hw' => (plain_any (x.os.length : Int) hw'.ev hw'.rd hsm (by omega)).mono fun e w2 h2 => h2.cr)).mono ?_
    · simp only [List.mem_cons, List.not_mem_nil, or_false] at hc
      rcases hc with rfl | rfl
      · exact hc3 P w hw.1
      · exact hc2 P w hw.1
    · intro e w' hw
      exact ms_fld hnm hk0 (.inr (fun d s' hr => (gt_plain hr).2 hap.rd.grown)) (fun d s' hr => (gt_plain hr).1) hw
noncomputable def onT3 : Code := match Tryz.f110.body with
  | some (.seq _ (.seq _ (.seq _ t))) => t
  | _ => .skip
noncomputable def onWith (t : Code) : Code := match Tryz.f110.body with
  | some (.seq a (.seq b (.seq c _))) => .seq a (.seq b (.seq c t))
  | _ => .skip
theorem on_split : Tryz.f110.body = some (onWith onT3) := rfl
noncomputable def onR3 : Code := match onT3 with
  | .seq a _ => a
  | _ => .skip
noncomputable def onT4 : Code := match onT3 with
  | .seq _ t => t
  | _ => .skip
theorem on_split3 : onT3 = .seq onR3 onT4 := rfl
noncomputable def onR4 : Code := match onT4 with
  | .seq a _ => a
  | _ => .skip
noncomputable def onT5 : Code := match onT4 with
  | .seq _ t => t
  | _ => .skip
theorem on_split4 : onT4 = .seq onR4 onT5 := rfl
noncomputable def onR5 : Code := match onT5 with
  | .seq a _ => a
  | _ => .skip
noncomputable def onT6 : Code := match onT5 with
  | .seq _ t => t
  | _ => .skip
theorem on_split5 : onT5 = .seq onR5 onT6 := rfl
section
variable {lo b g K op p2 p3 : Nat} {nm : ByteArray} {N : (Nat → Prop) → World → Prop} {V W w : World} {x : Mp} {s : PSt} {R : Ending → World → Prop}
set_option maxRecDepth 100000 in
set_option maxHeartbeats 4000000 in
theorem onT6_any {k : Nat} (h : MsI lo b g K op nm N V W x s w) (hN : Stable N) (hc2 : ∀ P w, N P w → Cell1 p2 #[.pointer (some ⟨b, 0, none⟩)] 80 P w) (hc3 : ∀ P w, N P w → Cell1 p3 #[.pointer (some ⟨g, 0, none⟩)] 128 P w) (hend : pisB s.here 4 ⟨#[125]⟩ = true) {tm : Array Value} (hsz : tm.size = 41) (hchk : chk tm [(2, .pointer (some ⟨p2, 0, none⟩)), (3, .pointer (some ⟨p3, 0, none⟩)), (4, .int .i64 (k : Int))])
    (hR : ∀ e w, IP (MsI lo b g K op nm N V W) (Sv g b W) (oneEnd k x s) e w → R e w) : onT6.wp Tryz.prog (bodyPost Tryz.prog Tryz.f110 R) ⟨tm, []⟩ w := by
  have HR := hide hR
  have HI := hide h
  obtain ⟨hnm, ⟨vf, vo, vm, ve, vr, vg, cm, ce, hap⟩, hk⟩ := h
  obtain ⟨va, vc, hvf⟩ := row_shape2 (hap.bx.own 0 _ rfl)
  simp only at hvf
  have b1 : w.cell? ⟨g, 1, none⟩ = some (.slice va x.fs.length vc) := by
    rw [cell_of_row _ _ _ _ _ _ hap.bx.blk, ← hvf]
    rfl
  have c2 : w.cell? ⟨p2, 0, none⟩ = some (.pointer (some ⟨b, 0, none⟩)) := by rw [cell_of_row _ _ _ _ _ _ (hc2 _ _ hap.nx.1).1]; rfl
  have c3 : w.cell? ⟨p3, 0, none⟩ = some (.pointer (some ⟨g, 0, none⟩)) := by rw [cell_of_row _ _ _ _ _ _ (hc3 _ _ hap.nx.1).1]; rfl
  have hlen : x.fs.length ≤ 20000 := by have := hk.1.1; omega
  have HN := hide hN
  have HEnd := hide hend
  obtain ⟨L, hL⟩ : ∃ L, x.fs.length = L := ⟨_, rfl⟩
  have HL := hide hL
  rw [hL] at b1 hlen
  obtain ⟨u, rfl⟩ := frame41 hsz
  obtain ⟨f2, f3, f4, _⟩ := hchk
  replace f2 : u 2 = .pointer (some ⟨p2, 0, none⟩) := Option.some.inj f2
  replace f3 : u 3 = .pointer (some ⟨p3, 0, none⟩) := Option.some.inj f3
  replace f4 : u 4 = .int .i64 (k : Int) := Option.some.inj f4
  rw [f2, f3, f4]
  clear f2 f3 f4 hsz hR hap hN hc2 hc3 hend hL hvf hk hnm
  obtain ⟨Q, hQ⟩ : ∃ Q, bodyPost Tryz.prog Tryz.f110 R = Q := ⟨_, rfl⟩
  rw [hQ]
  unfold onT6 onT5 onT4 onT3
  dsimp only [Tryz.f110]
  by_cases hz : L = k
  · have hz2 : ((L : Int) == (k : Int)) = true := by simp [hz]
    have HW := hide (wrong_any (unhide HI).rd)
    have HEq : Hid (oneEnd k x s = .error (wrongE s)) := by show _ = _; unfold oneEnd; rw [if_pos ((unhide HL).trans hz)]
    clear hz
    go_wp2_with fail
    refine (unhide HW).mono ?_
    rintro e w2 ⟨rfl, hb2⟩
    rw [← hQ]
    refine ⟨rfl, unhide HR _ _ ?_⟩
    rw [unhide HEq]
    exact ⟨rfl, (unhide HI).er (below_grown b hb2)⟩
  · have hz2 : ((L : Int) == (k : Int)) = false := beq_eq_false_iff_ne.2 (by omega)
    have HC := hide (next_any (unhide HI).rd (here_pos (unhide HI).rd.grown (by rw [pisB_kind (unhide HEnd)]; decide)))
    have HEq : Hid (oneEnd k x s = match pnextF s with | .error e => .error e | .ok (_, s4) => .ok (x, s4)) := by
      show _ = _
      unfold oneEnd
      rw [if_neg (by rw [unhide HL]; exact hz)]
      cases pnextF s <;> rfl
    clear hz
    go_wp2_with fail
    refine (unhide HC).mono ?_
    intro e w2 hw
    rcases hw.split with ⟨y, hr, rfl, hg⟩ | ⟨_, s4, hr, rfl, h4, hg⟩
    · rw [← hQ]
      refine ⟨rfl, unhide HR _ _ ?_⟩
      rw [unhide HEq, hr]
      exact ⟨rfl, (unhide HI).er hg⟩
    · have HE : Hid (R (.returned (.tuple #[])) w2) := by
        refine unhide HR _ _ ?_
        rw [unhide HEq, hr]
        exact ⟨rfl, (unhide HI).step (unhide HN) h4 hg (gt_next hr).suf⟩
      clear hw hr h4 hg HC HEq
      go_wp2
      rw [← hQ]
      go_end0
      exact unhide HE
end
end Go.Proofs.YtdhncpeemcanlaaGreatDoor

namespace Go.Proofs.YtdhncpeemcanlaaGreatDoor
open Go.RowKit
attribute [local go_sem ↓] Go.wp_at_zero Go.wp_at_succ

theorem MsI.imp {lo b g K op : Nat} {nm : ByteArray} {N N' : (Nat → Prop) → World → Prop} {V W w : World} {x : Mp} {s : PSt} (h : MsI lo b g K op nm N V W x s w) (hi : ∀ P w, N P w → N' P w) : MsI lo b g K op nm N' V W x s w := by
  obtain ⟨h0, ⟨vf, vo, vm, ve, vr, vg, cm, ce, hap⟩, hk⟩ := h
  exact ⟨h0, ⟨vf, vo, vm, ve, vr, vg, cm, ce, hap.imp (fun h => ⟨hi _ _ h.1, h.2⟩)⟩, hk⟩
theorem MsI.join {lo b g K op : Nat} {nm : ByteArray} {N M : (Nat → Prop) → World → Prop} {V W w w' : World} {x : Mp} {s : PSt} (h : MsI lo b g K op nm N V W x s w) (hN : Stable N) (hM : Stable M) (hb : Below w.heap.size w w') (h1 : M (fun k => w.heap.size ≤ k) w') : MsI lo b g K op nm (fun P w => N P w ∧ M P w) V W x s w' := by
  obtain ⟨h0, ⟨vf, vo, vm, ve, vr, vg, cm, ce, hap⟩, hk⟩ := h
  exact ⟨h0, ⟨vf, vo, vm, ve, vr, vg, cm, ce, (hap.join (MsN.st hN _ _ _) hM (hap.rd.up hb) (below_grown b hb) h1).imp (fun h => ⟨⟨h.1.1, h.2⟩, h.1.2⟩)⟩, hk⟩
theorem IP.imp {σ : Type} {I J : σ → PSt → World → Prop} {Er : World → Prop} {r : Except (Int × Int) (σ × PSt)} {e : Ending} {w : World} (h : IP I Er r e w) (hi : ∀ x s, I x s w → J x s w) : IP J Er r e w := by
  unfold IP at *
  cases r with
  | error y => exact h
  | ok y => exact ⟨h.1, hi _ _ h.2⟩
section
variable {lo b g K op p2 p3 : Nat} {nm : ByteArray} {N : (Nat → Prop) → World → Prop} {V W w : World} {x : Mp} {s : PSt} {R : Ending → World → Prop}
set_option maxRecDepth 100000 in
set_option maxHeartbeats 4000000 in
theorem onT5_any {k : Nat} (h : MsI lo b g K op nm N V W x s w) (hN : Stable N) (hK : K ≤ 16384) (hc2 : ∀ P w, N P w → Cell1 p2 #[.pointer (some ⟨b, 0, none⟩)] 80 P w) (hc3 : ∀ P w, N P w → Cell1 p3 #[.pointer (some ⟨g, 0, none⟩)] 128 P w) {tm : Array Value} (hsz : tm.size = 41) (hchk : chk tm [(2, .pointer (some ⟨p2, 0, none⟩)), (3, .pointer (some ⟨p3, 0, none⟩)), (4, .int .i64 (k : Int))])
    (hR : ∀ e w, IP (MsI lo b g K op nm N V W) (Sv g b W) (oneBody k x s) e w → R e w) : onT5.wp Tryz.prog (bodyPost Tryz.prog Tryz.f110 R) ⟨tm, []⟩ w := by
  obtain ⟨f2, f3, f4, _⟩ := hchk
  have k2 := at_get f2
  have k3 := at_get f3
  have k4 := at_get f4
  simp only at k2 k3 k4
  rw [on_split5]
  refine wp_seq ?_
  obtain ⟨T6, hT6⟩ : ∃ T, onT6 = T := ⟨_, rfl⟩
  rw [hT6]
  obtain ⟨Qb, hQb⟩ : ∃ Q, bodyPost Tryz.prog Tryz.f110 R = Q := ⟨_, rfl⟩
  rw [hQb]
  unfold onR5 onT5 onT4 onT3
  dsimp only [Tryz.f110]
  refine region_call1 (z := 4) (N := 41) 2 (by kernel_rfl) (fun k => k + 25) (fun k => [.pointer (some ⟨b, 0, none⟩), .pointer (some ⟨b, 0, none⟩), undef, .func (.func 125) #[] #[.pointer (some ⟨p3, 0, none⟩), .pointer (some ⟨p2, 0, none⟩)]].getD k undef)
    (fun w => MsI lo b g K op nm N V W x s w)
    (fun y w => ∃ mb, y = .map (some mb) ∧ MsI lo b g K op nm (fun P w => N P w ∧ WMap mb (choicesT b) P w) V W x s w)
    _ w rfl hsz (fun i j _ _ e => by omega) (fun i hi => by omega) (by kernel_rfl) (by kernel_rfl) ?_ ?_ ?_ ?_
  · have hb := (Below.refl w.heap.size w).drew
    exact h.step hN (h.rd.up hb) (below_grown b hb) (.refl _)
  · intro k tm' w' hk hkc hsz' hun hdep hw
    have hcell : w'.cell? ⟨p2, 0, none⟩ = some (.pointer (some ⟨b, 0, none⟩)) := by
      rcases hw with ⟨_, ⟨vf, vo, vm, ve, vr, vg, cm, ce, hap⟩, _⟩ | ⟨_, mb, _, _, ⟨vf, vo, vm, ve, vr, vg, cm, ce, hap⟩, _⟩
      · rw [cell_of_row _ _ _ _ _ _ (hc2 _ _ hap.nx.1).1]; rfl
      · rw [cell_of_row _ _ _ _ _ _ (hc2 _ _ hap.nx.1.1).1]; rfl
    match k, hk with
    | 0, _ => exact op_load rfl rfl _ (.tmp 2) rfl ((hun 2 (by intro i hi; omega)).trans k2) (ld_rptr _ hcell) ⟨rfl, rfl⟩
    | 1, _ => exact op_load rfl rfl _ (.tmp 2) rfl ((hun 2 (by intro i hi; omega)).trans k2) (ld_rptr _ hcell) ⟨rfl, rfl⟩
    | 2, _ => omega
    | 3, _ => exact op_makeFunc rfl rfl _ _ _ rfl #[] #[.pointer (some ⟨p3, 0, none⟩), .pointer (some ⟨p2, 0, none⟩)] (by simp) (by simp only [List.map_toArray, List.map_cons, List.map_nil, Act.eval]; rw [show tm'.getD 3 undef = _ from (hun 3 (by intro i hi; omega)).trans k3, show tm'.getD 2 undef = _ from (hun 2 (by intro i hi; omega)).trans k2]) ⟨rfl, rfl⟩
  · intro _ tm' w' hsz' hun hdep hw
    refine op_callP rfl rfl 124 (cf_rchoices w') _ _ rfl #[.pointer (some ⟨b, 0, none⟩)] ?_ (choices_any w' b) ?_
    · simp only [List.map_toArray, List.map_cons, List.map_nil, Act.eval]
      rw [show tm'.getD 26 undef = _ from hdep 1 (by omega) (by kernel_rfl)]
      rfl
    · rintro e w2 ⟨rfl, hb, hcs⟩
      exact .inl ⟨_, rfl, _, rfl, w'.heap.size, rfl, hw.join hN (stable_map _ _) hb hcs⟩
  · intro tm' w' hsz' hun hval hw
    rcases hw with ⟨_, mb, hx, hi⟩ | ⟨hc, _⟩
    rotate_left
    · omega
    have hS1 : Stable (fun P w => N P w ∧ WMap mb (choicesT b) P w) := hN.and (stable_map _ _)
    have htab := cho_tab (lo := lo) (g := g) (op := op) (p2 := p2) (p3 := p3) (nm := nm) (V := V) (W := W) hS1 hK (fun P w h => hc2 P w h.1) (fun P w h => hc3 P w h.1) (fun P w h => h.2)
    have hbd := body_any htab (fun x s w x' s' hI hst => stmt_lt choW_gt (fun x s x' s' h => fldR_pos h) (htab.rd x s w hI).grown hst) hi
    refine op_callP rfl rfl 91 (cf_rbody w') _ _ rfl #[.pointer (some ⟨b, 0, none⟩), .map (some mb), .func (.func 125) #[] #[.pointer (some ⟨p3, 0, none⟩), .pointer (some ⟨p2, 0, none⟩)]] ?_ hbd ?_
    · simp only [List.map_toArray, List.map_cons, List.map_nil, Act.eval]
      rw [show tm'.getD 25 undef = _ from hval 0 (by omega) (by omega), show tm'.getD 27 undef = _ from hx, show tm'.getD 28 undef = _ from hval 3 (by omega) (by omega)]
      rfl
    · intro e w2 hip
      have hbf : ∀ z, bodyF (stmtF choW oneO) x s = z → oneBody k x s = (match z with | .error e => .error e | .ok (x2, s2) => oneEnd k x2 s2) := fun z hz => by unfold oneBody; rw [hz]; cases z <;> rfl
      rcases hip.split with ⟨y, hr, rfl, he⟩ | ⟨x3, s3, hr, rfl, hi3⟩
      · refine .inr ⟨_, rfl, ?_⟩
        show Qb (Exit.panic _) _ _
        rw [← hQb]
        refine ⟨rfl, hR _ _ ?_⟩
        rw [hbf _ hr]
        exact ⟨rfl, he⟩
      · refine .inl ⟨_, rfl, ?_⟩
        show T6.wp Tryz.prog Qb ⟨tm'.setIfInBounds 29 (.tuple #[]), []⟩ w2
        rw [← hT6, ← hQb]
        have hend := (suf_body (fun x s x' s' h => (gt_stmt choW_gt (fun x s x' s' h => fldR_pos h) h).1.suf) hr).2
        refine onT6_any (p2 := p2) (p3 := p3) (k := k) hi3 hS1 (fun P w h => hc2 P w h.1) (fun P w h => hc3 P w h.1) hend (by rw [Array.size_setIfInBounds]; exact hsz') ⟨?_, ?_, ?_, trivial⟩ ?_
        · exact at_of (by rw [Array.size_setIfInBounds, hsz']; omega) (by rw [getD_keep (by omega)]; exact (hun 2 (by intro i hi; omega)).trans k2)
        · exact at_of (by rw [Array.size_setIfInBounds, hsz']; omega) (by rw [getD_keep (by omega)]; exact (hun 3 (by intro i hi; omega)).trans k3)
        · exact at_of (by rw [Array.size_setIfInBounds, hsz']; omega) (by rw [getD_keep (by omega)]; exact (hun 4 (by intro i hi; omega)).trans k4)
        · intro e w3 hcr
          refine hR e w3 ?_
          rw [hbf _ hr]
          exact hcr.imp (fun x s h => h.imp (fun P w h => h.1))
set_option maxRecDepth 100000 in
set_option maxHeartbeats 4000000 in
theorem onT4_any {k : Nat} (h : MsI lo b g K op nm N V W x s w) (hN : Stable N) (hK : K ≤ 16384) (hc2 : ∀ P w, N P w → Cell1 p2 #[.pointer (some ⟨b, 0, none⟩)] 80 P w) (hc3 : ∀ P w, N P w → Cell1 p3 #[.pointer (some ⟨g, 0, none⟩)] 128 P w) (hkf : x.fs.length = k) {tm : Array Value} (hsz : tm.size = 41) (hchk : chk tm [(2, .pointer (some ⟨p2, 0, none⟩)), (3, .pointer (some ⟨p3, 0, none⟩))])
    (hR : ∀ e w, IP (MsI lo b g K op nm N V W) (Sv g b W) (oneBody k x s) e w → R e w) : onT4.wp Tryz.prog (bodyPost Tryz.prog Tryz.f110 R) ⟨tm, []⟩ w := by
  have HI := hide h
  have HN := hide hN
  have HC2 := hide hc2
  have HC3 := hide hc3
  have HR := hide hR
  have HK := hide hK
  obtain ⟨hnm, ⟨vf, vo, vm, ve, vr, vg, cm, ce, hap⟩, hk⟩ := h
  obtain ⟨va, vc, hvf⟩ := row_shape2 (hap.bx.own 0 _ rfl)
  simp only at hvf
  have b1 : w.cell? ⟨g, 1, none⟩ = some (.slice va k vc) := by
    rw [cell_of_row _ _ _ _ _ _ hap.bx.blk, ← hkf, ← hvf]
    rfl
  have c3 : w.cell? ⟨p3, 0, none⟩ = some (.pointer (some ⟨g, 0, none⟩)) := by rw [cell_of_row _ _ _ _ _ _ (hc3 _ _ hap.nx.1).1]; rfl
  have hkb : k ≤ 20000 := by have := hk.1.1; omega
  obtain ⟨u, rfl⟩ := frame41 hsz
  obtain ⟨f2, f3, _⟩ := hchk
  replace f2 : u 2 = .pointer (some ⟨p2, 0, none⟩) := Option.some.inj f2
  replace f3 : u 3 = .pointer (some ⟨p3, 0, none⟩) := Option.some.inj f3
  rw [f2, f3, on_split4]
  clear f2 f3 hsz hR hap hN hc2 hc3 hvf hk hnm hkf hK
  obtain ⟨Q, hQ⟩ : ∃ Q, bodyPost Tryz.prog Tryz.f110 R = Q := ⟨_, rfl⟩
  obtain ⟨T5, hT5⟩ : ∃ T, onT5 = T := ⟨_, rfl⟩
  rw [hQ, hT5]
  unfold onR4 onT4 onT3
  dsimp only [Tryz.f110]
  go_wp2
  rw [← hQ, ← hT5]
  exact onT5_any (unhide HI) (unhide HN) (unhide HK) (unhide HC2) (unhide HC3) rfl ⟨rfl, rfl, rfl, trivial⟩ (unhide HR)
set_option maxRecDepth 100000 in
set_option maxHeartbeats 4000000 in
theorem onT3_any (h : MsI lo b g K op nm N V W x s w) (hN : Stable N) (hK : K ≤ 16384) (hc2 : ∀ P w, N P w → Cell1 p2 #[.pointer (some ⟨b, 0, none⟩)] 80 P w) (hc3 : ∀ P w, N P w → Cell1 p3 #[.pointer (some ⟨g, 0, none⟩)] 128 P w) {tm0 : Array Value} (hsz0 : tm0.size = 41) (hchk : chk tm0 [(2, .pointer (some ⟨p2, 0, none⟩)), (3, .pointer (some ⟨p3, 0, none⟩))])
    (hR : ∀ e w, IP (MsI lo b g K op nm N V W) (Sv g b W) (match pnameF s with | .error e => .error e | .ok (a, s2) => oneBody x.fs.length { x with os := x.os ++ [a] } s2) e w → R e w) : onT3.wp Tryz.prog (bodyPost Tryz.prog Tryz.f110 R) ⟨tm0, []⟩ w := by
  obtain ⟨f2, f3, _⟩ := hchk
  have k2 := at_get f2
  have k3 := at_get f3
  simp only at k2 k3
  obtain ⟨hnm, ⟨vf, vo, vm, ve, vr, vg, cm, ce, hap⟩, hk⟩ := h
  have hk0 := hk
  obtain ⟨⟨l1, l2, l3, l4, l5, l6⟩, hsm, hn, hop⟩ := hk
  have hS := MsN.st (g := g) hN x cm ce
  have hi : (MSl x vf vo vm ve vr vg cm ce)[1]? = some ⟨9, 1, vo, x.os.length, strC x.os⟩ := rfl
  obtain ⟨va, vn, vc, hv⟩ := row_shape (hap.bx.own 1 _ hi)
  simp only at hv
  obtain ⟨ei, und, sz0, bt0, fx⟩ := fit_str (sl := ⟨9, 1, vo, x.os.length, strC x.os⟩) rfl rfl
  have hcs : ∀ P w, MsN g N x cm ce P w → ∀ c ∈ ([(p3, #[.pointer (some ⟨g, 0, none⟩)], 128), (p2, #[.pointer (some ⟨b, 0, none⟩)], 80)] : List (Nat × Array Value × TypeId)), Cell1 c.1 c.2.1 c.2.2 P w := fun P w hw c hc => by
    simp only [List.mem_cons, List.not_mem_nil, or_false] at hc
    rcases hc with rfl | rfl
    · exact hc3 P w hw.1
    · exact hc2 P w hw.1
  have hbase := Ph.base (lo := lo) (b := b) (g := g) (T := 51) (nm := nm) (V := V) (W := W) (s := s) (r := pnameF s) (N1 := fun (a : ByteArray) x _ _ => x = Value.string a) hcs hi
  have hN1 : ∀ (a : ByteArray) (x : Value), Stable (fun (_ : Nat → Prop) (_ : World) => x = Value.string a) := fun _ _ => fun _ _ _ _ _ h => h
  have hd := hap.up hS (Below.refl w.heap.size w).drew
  rw [on_split3]
  refine wp_seq ?_
  obtain ⟨T4, hT4⟩ : ∃ T, onT4 = T := ⟨_, rfl⟩
  rw [hT4]
  obtain ⟨Qb, hQb⟩ : ∃ Q, bodyPost Tryz.prog Tryz.f110 R = Q := ⟨_, rfl⟩
  rw [hQb]
  unfold onR3 onT3
  dsimp only [Tryz.f110]
  refine region_app (z := 11) (N := 41) (c := 6) (by kernel_rfl) (fun k => k + 9) (fun k => [.pointer (some ⟨g, 0, none⟩), .pointer (some ⟨g, 0, none⟩), .pointer (some ⟨g, 0, none⟩), .pointer (some ⟨g, 2, none⟩), vo, .pointer (some ⟨b, 0, none⟩), undef, undef, undef, .pointer (some ⟨g, 0, none⟩), .pointer (some ⟨g, 2, none⟩)].getD k undef) (Ph lo b g 51 nm (MSl x vf vo vm ve vr vg cm ce) (MsN g N x cm ce) V W s ⟨9, 1, vo, x.os.length, strC x.os⟩ (pnameF s) (fun a x _ _ => x = Value.string a)) _ w rfl hsz0 (fun i j _ _ e => by omega) (fun i hi => by omega) (by kernel_rfl) (by omega) (by kernel_rfl) (by kernel_rfl) (by kernel_rfl) hd ?_ ?_ ?_ ?_ ?_
  · intro k tm w hk hq hsz hun hdep hph
    obtain ⟨ph, y, hph⟩ := hph
    have hB := hbase ph y w hph
    match k, hk with
    | 0, _ => exact op_load rfl rfl _ (.tmp 3) rfl ((hun 3 (by intro i hi; omega)).trans k3) (ld_msgptr w (hB.cell (List.mem_cons_self ..) rfl)) ⟨rfl, rfl⟩
    | 1, _ => exact op_load rfl rfl _ (.tmp 3) rfl ((hun 3 (by intro i hi; omega)).trans k3) (ld_msgptr w (hB.cell (List.mem_cons_self ..) rfl)) ⟨rfl, rfl⟩
    | 2, _ => exact op_nilCheck rfl rfl (.tmp 10) rfl (hdep 1 (by omega) (by kernel_rfl)) ⟨rfl, rfl⟩
    | 3, _ => exact op_field rfl rfl _ (.tmp 11) _ rfl (hdep 2 (by omega) (by kernel_rfl)) (fa_msg2 w) ⟨rfl, rfl⟩
    | 4, _ => exact op_load rfl rfl _ (.tmp 12) rfl (hdep 3 (by omega) (by kernel_rfl)) (by rw [hv]; exact ld_strs w (by rw [← hv]; exact hB.row hi)) ⟨rfl, rfl⟩
    | 5, _ => exact op_load rfl rfl _ (.tmp 2) rfl ((hun 2 (by intro i hi; omega)).trans k2) (ld_rptr w (hB.cell (List.mem_cons_of_mem _ (List.mem_cons_self ..)) rfl)) ⟨rfl, rfl⟩
    | 6, _ => omega
    | 7, _ => omega
    | 8, _ => omega
    | 9, _ => exact op_nilCheck rfl rfl (.tmp 9) rfl (hdep 0 (by omega) (by kernel_rfl)) ⟨rfl, rfl⟩
    | 10, _ => exact op_field rfl rfl _ (.tmp 18) _ rfl (hdep 9 (by omega) (by kernel_rfl)) (fa_msg2 w) ⟨rfl, rfl⟩
  · intro tm w hsz hun hdep hph
    have hap' : Ap lo b g 51 nm (MSl x vf vo vm ve vr vg cm ce) (MsN g N x cm ce) V W s w := hph
    refine op_callP rfl rfl 90 (cf_rname w) _ _ rfl #[.pointer (some ⟨b, 0, none⟩)] ?_ ((name_any hap'.rd hsm).mono fun e w2 h2 => h2.cr) ?_
    · simp only [List.map_toArray, List.map_cons, List.map_nil, Act.eval]
      rw [show tm.getD 14 undef = _ from hdep 5 (by omega) (by kernel_rfl)]
      rfl
    · intro e w' hcr
      rcases Ph.call hS hN1 hph hcr with ⟨y, rfl, h1⟩ | ⟨y, hr, rfl, hs⟩
      · exact .inl ⟨y, rfl, y, rfl, h1⟩
      · exact .inr ⟨_, rfl, by show Qb (Exit.panic _) _ _; rw [← hQb]; exact ⟨rfl, hR _ _ (by rw [hr]; exact ⟨rfl, hs⟩)⟩⟩
  · intro tm w y hsz hx hph
    obtain ⟨a, s', hr, hn1, hap'⟩ := id hph
    obtain ⟨f1, f2, f3⟩ := fx a y (fun _ => True) w hn1
    exact op_bs rfl rfl _ _ _ rfl #[(0, y)] (by simp only [List.map_toArray, List.map_cons, List.map_nil, Act.eval]; rw [show tm.getD 15 undef = y from hx]) (f3 w) ⟨_, rfl, Ph.bs hS hN1 hph⟩
  · intro tm w y hsz hdep hy hph
    obtain ⟨a, s', z, gy, hr, rfl, hgy, hn1, hap'⟩ := id hph
    obtain ⟨f1, f2, f3⟩ := fx a z (fun _ => True) w hn1
    have hl := hap'.bx.lt
    refine op_append_at w rfl rfl (.tmp 13) (.tmp 16) 30 rfl (g + 1) 9 1 16 und ei sz0 vo x.os.length (strC x.os) (hdep 4 (by omega) (by kernel_rfl)) (hap'.bx.own 1 _ hi) ⟨gy, 0, none⟩ 1 1 z.cells.toList hy (by rw [Array.length_toList, f1]) (row_news hgy) f2 (by unfold maxLen; omega) (by omega) (by omega) ?_
    intro v' w' h1 h2 h3
    exact ⟨v', rfl, Ph.app hr hap' h2 h1 h3⟩
  · intro tm w y hsz hun hval hy hph
    have hB := hbase 3 y w hph
    obtain ⟨a, s', z, w2, hr, h1, h2, h3, h4⟩ := id hph
    obtain ⟨ya, yn, yc, rfl⟩ := row_shape h3
    refine op_store rfl rfl _ (.tmp 19) (.tmp 17) rfl (hval 10 (by omega) (by omega)) hy (st_strs w (hB.row hi) (hB.frozen _)) ?_
    show T4.wp Tryz.prog Qb ⟨tm, []⟩ _
    rw [← hT4, ← hQb]
    rcases CP.plain strC_one (Ph.last hS hN1 hi hph) with ⟨y', hr', he, _⟩ | ⟨a', s2, v2, hr', _, hap2⟩
    · rw [hr] at hr'; cases hr'
    · have hgt := gt_name hr'
      have hlt := hgt.lt (pos_name hr' hap.rd.grown)
      refine onT4_any (x := { x with os := x.os ++ [a'] }) (s := s2) (k := x.fs.length) ⟨hnm, ⟨vf, v2, vm, ve, vr, vg, cm, ce, hap2⟩, ⟨⟨by simp only; omega, by simp only [List.length_append, List.length_singleton]; omega, by simp only; omega, by simp only; omega, by simp only; omega, by simp only; omega⟩, hgt.suf.sm hsm, by omega, hgt.suf.op.trans hop⟩⟩ hN hK hc2 hc3 rfl hsz ⟨?_, ?_, trivial⟩ ?_
      · exact at_of (by rw [hsz]; omega) ((hun 2 (by intro i hi; omega)).trans k2)
      · exact at_of (by rw [hsz]; omega) ((hun 3 (by intro i hi; omega)).trans k3)
      · intro e w3 hip
        refine hR e w3 ?_
        rw [hr']
        exact hip
end
end Go.Proofs.YtdhncpeemcanlaaGreatDoor
