import Derived.Test.YtdhncpeemcanlaaGreatDoorJ36

namespace Go.Proofs.YtdhncpeemcanlaaGreatDoor
open Go.RowKit
attribute [local go_sem ↓] Go.wp_at_zero Go.wp_at_succ

section
variable {lo b g K op : Nat} {nm : ByteArray} {N : (Nat → Prop) → World → Prop} {V W w0 : World} {x : Mp} {s : PSt}
set_option maxRecDepth 100000 in
set_option maxHeartbeats 4000000 in
theorem oneof_any (h : MsI lo b g K op nm N V W x s w0) (hN : Stable N) (hK : K ≤ 16384) (hp : 0 < s.ts.length) : Calls Tryz.prog 110 #[.pointer (some ⟨b, 0, none⟩), .pointer (some ⟨g, 0, none⟩)] w0 (IP (MsI lo b g K op nm N V W) (Sv g b W) (oneofF x s)) := by
  have hb2 : Below w0.heap.size w0 ((w0.alloc (.cells #[.pointer (some ⟨b, 0, none⟩)] 80)).alloc (.cells #[.pointer (some ⟨g, 0, none⟩)] 128)) := ((Below.refl _ _).alloc (Nat.le_refl _) _).alloc (by rw [World.size_alloc]; omega) _
  have hx1 : ((w0.alloc (.cells #[.pointer (some ⟨b, 0, none⟩)] 80)).alloc (.cells #[.pointer (some ⟨g, 0, none⟩)] 128)).heap[w0.heap.size]? = some (.cells #[.pointer (some ⟨b, 0, none⟩)] 80 (0, 0)) := (Below.heap_alloc _ _ _ (by rw [World.size_alloc]; omega)).trans (heap_new _ _)
  have hx2 : ((w0.alloc (.cells #[.pointer (some ⟨b, 0, none⟩)] 80)).alloc (.cells #[.pointer (some ⟨g, 0, none⟩)] 128)).heap[w0.heap.size + 1]? = some (.cells #[.pointer (some ⟨g, 0, none⟩)] 128 (0, 0)) := by
    have := heap_new (w0.alloc (.cells #[.pointer (some ⟨b, 0, none⟩)] 80)) (.cells #[.pointer (some ⟨g, 0, none⟩)] 128)
    rw [World.size_alloc] at this
    exact this
  have hS : Stable (fun P w => Cell1 w0.heap.size #[.pointer (some ⟨b, 0, none⟩)] 80 P w ∧ Cell1 (w0.heap.size + 1) #[.pointer (some ⟨g, 0, none⟩)] 128 P w) := (stable_cell _ _ _).and (stable_cell _ _ _)
  have hj := h.join hN hS hb2 ⟨⟨hx1, Nat.le_refl _⟩, ⟨hx2, by omega⟩⟩
  have HS := hide (hN.and hS)
  have HI := hide hj
  have c0 : ((w0.alloc (.cells #[.pointer (some ⟨b, 0, none⟩)] 80)).alloc (.cells #[.pointer (some ⟨g, 0, none⟩)] 128)).cell? ⟨w0.heap.size, 0, none⟩ = some (.pointer (some ⟨b, 0, none⟩)) := by rw [cell_of_row _ _ _ _ _ _ hx1]; rfl
  have hcl : ∀ s' w', MsI lo b g K op nm (fun P w => N P w ∧ (Cell1 w0.heap.size #[.pointer (some ⟨b, 0, none⟩)] 80 P w ∧ Cell1 (w0.heap.size + 1) #[.pointer (some ⟨g, 0, none⟩)] 128 P w)) V W x s' w' → w'.cell? ⟨w0.heap.size, 0, none⟩ = some (.pointer (some ⟨b, 0, none⟩)) := by
    rintro s' w' ⟨_, ⟨vf, vo, vm, ve, vr, vg, cm, ce, hap⟩, _⟩
    rw [cell_of_row _ _ _ _ _ _ hap.nx.1.2.1.1]; rfl
  have HCl := hide hcl
  have HC := hide (begun_any hj.rd)
  have HK := hide hK
  clear h hN hS hb2 hx1 hx2 hj hcl hK
  refine calls_of_wp Tryz.func110 on_split ?_
  obtain ⟨tl, htl⟩ : ∃ t, onT3 = t := ⟨_, rfl⟩
  rw [htl]
  obtain ⟨Q, hQ⟩ : ∃ Q, bodyPost Tryz.prog Tryz.f110 (IP (MsI lo b g K op nm N V W) (Sv g b W) (oneofF x s)) = Q := ⟨_, rfl⟩
  rw [hQ]
  unfold onWith
  dsimp only [Tryz.f110]
  simp only [List.size_toArray, List.length_cons, List.length_nil, Nat.reduceAdd, Nat.reduceSub, Array.replicate_succ, Array.replicate_zero, List.push_toArray, List.append_toArray, List.nil_append, List.cons_append]
  go_wp2_with fail
  refine (unhide HC).mono ?_
  rintro e w1 ⟨rfl, h1, hg1⟩
  have HI1 := hide ((unhide HI).step (s' := s.begun) (unhide HS) h1 hg1 ⟨0, rfl, rfl, rfl⟩)
  have c1 := unhide HCl _ _ (unhide HI1)
  have HN := hide (next_any h1 hp)
  clear h1 hg1 HC c0 HI
  go_wp2_with fail
  refine (unhide HN).mono ?_
  intro e w2 hw
  rcases hw.split with ⟨y, hr, rfl, hg⟩ | ⟨_, s1, hr, rfl, h2, hg⟩
  · show Q (Exit.panic _) _ _
    rw [← hQ]
    refine ⟨rfl, ?_⟩
    unfold oneofF
    rw [hr]
    exact ⟨rfl, (unhide HI1).er hg⟩
  · have HI2 := hide ((unhide HI1).step (unhide HS) h2 hg (gt_next hr).suf)
    have HF : Hid (oneofF x s = match pnameF s1 with | .error e => .error e | .ok (a, s2) => oneBody x.fs.length { x with os := x.os ++ [a] } s2) := by
      show _ = _
      unfold oneofF
      rw [hr]
      simp only
      cases pnameF s1 <;> rfl
    clear hw hr h2 hg HN HI1 c1
    go_wp2
    rw [← htl, ← hQ]
    refine onT3_any (p2 := w0.heap.size) (p3 := w0.heap.size + 1) (unhide HI2) (unhide HS) (unhide HK) (fun P w h => h.2.1) (fun P w h => h.2.2) rfl ⟨rfl, rfl, trivial⟩ ?_
    intro e w3 hip
    rw [unhide HF]
    exact hip.imp (fun x s h => h.imp (fun P w h => h.1))
set_option maxRecDepth 100000 in
theorem mem3_any {pm pr : Nat} (h : MsI lo b g K op nm N V W x s w0) (hN : Stable N) (hK : K ≤ 16384) (hc1 : ∀ P w, N P w → Cell1 pr #[.pointer (some ⟨b, 0, none⟩)] 80 P w) (hc2 : ∀ P w, N P w → Cell1 pm #[.pointer (some ⟨g, 0, none⟩)] 128 P w) (hp : 0 < s.ts.length) : Calls Tryz.prog 109 #[.pointer (some ⟨pr, 0, none⟩), .pointer (some ⟨pm, 0, none⟩)] w0 (IP (MsI lo b g K op nm N V W) (Sv g b W) (oneofF x s)) := by
  have HC := hide (oneof_any h hN hK hp)
  obtain ⟨_, ⟨vf, vo, vm, ve, vr, vg, cm, ce, hap⟩, _⟩ := h
  have c1 : w0.cell? ⟨pr, 0, none⟩ = some (.pointer (some ⟨b, 0, none⟩)) := by rw [cell_of_row _ _ _ _ _ _ (hc1 _ _ hap.nx.1).1]; rfl
  have c2 : w0.cell? ⟨pm, 0, none⟩ = some (.pointer (some ⟨g, 0, none⟩)) := by rw [cell_of_row _ _ _ _ _ _ (hc2 _ _ hap.nx.1).1]; rfl
  clear hap hN hc1 hc2
  go_enter Tryz.func109, Tryz.ntmps109
  go_wp2_with fail
  refine (unhide HC).mono ?_
  intro e w1 hw
  have HW := hide hw
  rcases hw.split with ⟨y, hr, rfl, he⟩ | ⟨x', s', hr, rfl, hi⟩
  · exact ⟨rfl, unhide HW⟩
  · clear hr hi hw HC c1 c2
    go_wp2
    go_end0
    exact unhide HW
end
set_option maxRecDepth 10000 in
set_option maxHeartbeats 1000000 in
theorem ms_tab {lo b g K op p1 pv : Nat} {nm : ByteArray} {N : (Nat → Prop) → World → Prop} {V W : World} {mf : PSt → Except (Int × Int) (Ms × PSt)} (hN : Stable N) (hK : K ≤ 16384) (hc1 : ∀ P w, N P w → Cell1 p1 #[.pointer (some ⟨b, 0, none⟩)] 80 P w) (hc2 : ∀ P w, N P w → Cell1 pv #[.pointer (some ⟨b, 0, none⟩)] 80 P w) (hc3 : ∀ P w, N P w → Cell1 (pv + 1) #[.pointer (some ⟨g, 0, none⟩)] 128 P w) (hm : ∀ P w, N P w → WMap (pv + 2) (membersT pv b) P w)
    (hgt : ∀ s m s', mf s = .ok (m, s') → Gt s s') (hmf : ∀ lo b V W s, Env V W b → Rd lo W b s → Sm s → s.ts.length ≤ K → 0 < s.ts.length → Calls Tryz.prog 71 #[.pointer (some ⟨b, 0, none⟩)] W (CR lo b NM W (mf s))) :
    WTab (MsI lo b g K op nm N V W) (Sv g b W) lo b (pv + 2) (membersT pv b) (.func (.func 93) #[] #[.pointer (some ⟨g, 0, none⟩), .pointer (some ⟨p1, 0, none⟩)]) (msW mf) msO := by
  refine ⟨fun x s w h => h.rd, fun x s w s' w' h hr hg hs => h.step hN hr hg hs, fun x s w w' h hg => h.er hg, fun x s w h => ?_, fun k => ?_, fun k v f hv hf x s w h hk ht => ?_, fun x s w h => ?_⟩
  · obtain ⟨_, ⟨vf, vo, vm, ve, vr, vg, cm, ce, hap⟩, _⟩ := h
    exact ⟨_, hm _ _ hap.nx.1⟩
  · unfold membersT msW
    simp only [findW]
    by_cases q0 : (k == ⟨#[109, 101, 115, 115, 97, 103, 101]⟩) = true
    · exact .inr ⟨_, _, _, _, by rw [if_pos q0], by rw [if_pos q0]⟩
    rw [if_neg q0, if_neg q0]
    by_cases q1 : (k == ⟨#[101, 110, 117, 109]⟩) = true
    · exact .inr ⟨_, _, _, _, by rw [if_pos q1], by rw [if_pos q1]⟩
    rw [if_neg q1, if_neg q1]
    by_cases q2 : (k == ⟨#[111, 110, 101, 111, 102]⟩) = true
    · exact .inr ⟨_, _, _, _, by rw [if_pos q2], by rw [if_pos q2]⟩
    rw [if_neg q2, if_neg q2]
    by_cases q3 : (k == ⟨#[114, 101, 115, 101, 114, 118, 101, 100]⟩) = true
    · exact .inr ⟨_, _, _, _, by rw [if_pos q3], by rw [if_pos q3]⟩
    rw [if_neg q3, if_neg q3]
    by_cases q4 : (k == ⟨#[111, 112, 116, 105, 111, 110, 97, 108]⟩) = true
    · exact .inr ⟨_, _, _, _, by rw [if_pos q4], by rw [if_pos q4]⟩
    rw [if_neg q4, if_neg q4]
    by_cases q5 : (k == ⟨#[114, 101, 112, 101, 97, 116, 101, 100]⟩) = true
    · exact .inr ⟨_, _, _, _, by rw [if_pos q5], by rw [if_pos q5]⟩
    rw [if_neg q5, if_neg q5]
    by_cases q6 : (k == ⟨#[109, 97, 112]⟩) = true
    · exact .inr ⟨_, _, _, _, by rw [if_pos q6], by rw [if_pos q6]⟩
    rw [if_neg q6, if_neg q6]
    by_cases q7 : (k == ⟨#[111, 112, 116, 105, 111, 110]⟩) = true
    · exact .inr ⟨_, _, _, _, by rw [if_pos q7], by rw [if_pos q7]⟩
    rw [if_neg q7, if_neg q7]
    by_cases q8 : (k == ⟨#[101, 120, 116, 101, 110, 100]⟩) = true
    · exact .inr ⟨_, _, _, _, by rw [if_pos q8], by rw [if_pos q8]⟩
    rw [if_neg q8, if_neg q8]
    by_cases q9 : (k == ⟨#[101, 120, 116, 101, 110, 115, 105, 111, 110, 115]⟩) = true
    · exact .inr ⟨_, _, _, _, by rw [if_pos q9], by rw [if_pos q9]⟩
    rw [if_neg q9, if_neg q9]
    by_cases q10 : (k == ⟨#[103, 114, 111, 117, 112]⟩) = true
    · exact .inr ⟨_, _, _, _, by rw [if_pos q10], by rw [if_pos q10]⟩
    rw [if_neg q10, if_neg q10]
    by_cases q11 : (k == ⟨#[114, 101, 113, 117, 105, 114, 101, 100]⟩) = true
    · exact .inr ⟨_, _, _, _, by rw [if_pos q11], by rw [if_pos q11]⟩
    rw [if_neg q11, if_neg q11]
    exact .inl ⟨rfl, rfl⟩
  · unfold membersT at hv
    unfold msW at hf
    simp only [findW] at hv
    by_cases q0 : (k == ⟨#[109, 101, 115, 115, 97, 103, 101]⟩) = true
    · rw [if_pos q0] at hv hf
      obtain rfl := Option.some.inj hv
      obtain rfl := Option.some.inj hf
      obtain ⟨hnm, ⟨vf, vo, vm, ve, vr, vg, cm, ce, hap⟩, hk0⟩ := h
      have hk1 := hk0
      obtain ⟨⟨l1, l2, l3, l4, l5, l6⟩, hsm, hn, hop⟩ := hk1
      have hpos := here_pos hap.rd.grown (by rw [hk]; decide)
      refine ⟨_, _, _, rfl, cf_rmembers_1 w, ?_⟩
      refine (bm_any (pm := pv + 1) (pr := pv) (r := mf s) (sl := ⟨51, 7, vm, x.ms.length, cm⟩) hap (MsN.st hN _ _ _) rfl (fit_msgL g rfl rfl) (by simp only; omega) (fun P w hw c hc => by
        simp only [List.mem_cons, List.not_mem_nil, or_false] at hc
        rcases hc with rfl | rfl
        · exact hc3 P w hw.1
        · exact hc2 P w hw.1) (fun w' s2 M _ hw' e => by
        subst e
        exact (hmf lo b V w' s2 hw'.ev hw'.rd hsm (by omega) hpos).mono fun e w3 h3 => h3.msgL (by have := hw'.bx.lt; omega))).mono ?_
      intro e w' hw
      exact ms_msg hnm hk0 hpos (fun d s' hr => hgt _ _ _ hr) hw
    rw [if_neg q0] at hv hf
    by_cases q1 : (k == ⟨#[101, 110, 117, 109]⟩) = true
    · rw [if_pos q1] at hv hf
      obtain rfl := Option.some.inj hv
      obtain rfl := Option.some.inj hf
      obtain ⟨hnm, ⟨vf, vo, vm, ve, vr, vg, cm, ce, hap⟩, hk0⟩ := h
      have hk1 := hk0
      obtain ⟨⟨l1, l2, l3, l4, l5, l6⟩, hsm, hn, hop⟩ := hk1
      have hpos := here_pos hap.rd.grown (by rw [hk]; decide)
      refine ⟨_, _, _, rfl, cf_rmembers_2 w, ?_⟩
      refine (mem2_any (pm := pv + 1) (pr := pv) (bt := 88) (r := enumF s) (sl := ⟨66, 4, ve, x.es.length, ce⟩) (N1 := NEL g) hap (MsN.st hN _ _ _) (stable_nel g) rfl (fit_enumL g rfl rfl) (by simp only; omega) (fun P w hw c hc => by
        simp only [List.mem_cons, List.not_mem_nil, or_false] at hc
        rcases hc with rfl | rfl
        · exact hc3 P w hw.1
        · exact hc2 P w hw.1) (fun w' hw' => (enum_any hw'.ev hw'.rd hsm (by omega) hpos).mono fun e w3 h3 => h3.enumL (by have := hw'.bx.lt; omega))).mono ?_
      intro e w' hw
      exact ms_enum hnm hk0 hpos (fun d s' hr => gt_enum hr) hw
    rw [if_neg q1] at hv hf
    by_cases q2 : (k == ⟨#[111, 110, 101, 111, 102]⟩) = true
    · rw [if_pos q2] at hv hf
      obtain rfl := Option.some.inj hv
      obtain rfl := Option.some.inj hf
      exact ⟨_, _, _, rfl, cf_rmembers_3 w, mem3_any h hN hK hc2 hc3 (here_pos h.rd.grown (by rw [hk]; decide))⟩
    rw [if_neg q2] at hv hf
    by_cases q3 : (k == ⟨#[114, 101, 115, 101, 114, 118, 101, 100]⟩) = true
    · rw [if_pos q3] at hv hf
      obtain rfl := Option.some.inj hv
      obtain rfl := Option.some.inj hf
      obtain ⟨hnm, ⟨vf, vo, vm, ve, vr, vg, cm, ce, hap⟩, hk0⟩ := h
      have hk1 := hk0
      obtain ⟨⟨l1, l2, l3, l4, l5, l6⟩, hsm, hn, hop⟩ := hk1
      have hpos := here_pos hap.rd.grown (by rw [hk]; decide)
      refine ⟨_, _, _, rfl, cf_rmembers_4 w, ?_⟩
      refine (mem4_any (pm := pv + 1) (pr := pv) (rs := x.rs) (gs := x.gs) (vr := vr) (vg := vg) hap (MsN.st hN _ _ _) rfl rfl hpos hsm l5 l6 (fun P w h => hc2 P w h.1) (fun P w h => hc3 P w h.1)).mono ?_
      intro e w' hw
      exact ms_res hnm hk0 hw
    rw [if_neg q3] at hv hf
    by_cases q4 : (k == ⟨#[111, 112, 116, 105, 111, 110, 97, 108]⟩) = true
    · rw [if_pos q4] at hv hf
      obtain rfl := Option.some.inj hv
      obtain rfl := Option.some.inj hf
      obtain ⟨hnm, ⟨vf, vo, vm, ve, vr, vg, cm, ce, hap⟩, hk0⟩ := h
      have hk1 := hk0
      obtain ⟨⟨l1, l2, l3, l4, l5, l6⟩, hsm, hn, hop⟩ := hk1
      have hpos := here_pos hap.rd.grown (by rw [hk]; decide)
      refine ⟨_, _, _, rfl, cf_rmembers_5 w, ?_⟩
      refine (mem5_any (pm := pv + 1) (pr := pv) (bt := 72) (r := labelledF 2 s) (sl := ⟨47, 6, vf, x.fs.length, fldC x.fs⟩) (N1 := fun a x _ _ => x = a.val) hap (MsN.st hN _ _ _) (fun _ _ => fun _ _ _ _ _ h => h) rfl (fit_fld rfl rfl) (by simp only; omega) (fun P w hw c hc => by
        simp only [List.mem_cons, List.not_mem_nil, or_false] at hc
        rcases hc with rfl | rfl
        · exact hc3 P w hw.1
        · exact hc2 P w hw.1) (fun w' hw' => (labelled_any 2 hw'.ev hw'.rd hsm (by omega) hpos).mono fun e w2 h2 => h2.cr)).mono ?_
      intro e w' hw
      exact ms_fld hnm hk0 (.inl hpos) (fun d s' hr => gt_labelled hr) hw
    rw [if_neg q4] at hv hf
    by_cases q5 : (k == ⟨#[114, 101, 112, 101, 97, 116, 101, 100]⟩) = true
    · rw [if_pos q5] at hv hf
      obtain rfl := Option.some.inj hv
      obtain rfl := Option.some.inj hf
      obtain ⟨hnm, ⟨vf, vo, vm, ve, vr, vg, cm, ce, hap⟩, hk0⟩ := h
      have hk1 := hk0
      obtain ⟨⟨l1, l2, l3, l4, l5, l6⟩, hsm, hn, hop⟩ := hk1
      have hpos := here_pos hap.rd.grown (by rw [hk]; decide)
      refine ⟨_, _, _, rfl, cf_rmembers_6 w, ?_⟩
      refine (mem6_any (pm := pv + 1) (pr := pv) (bt := 72) (r := labelledF 3 s) (sl := ⟨47, 6, vf, x.fs.length, fldC x.fs⟩) (N1 := fun a x _ _ => x = a.val) hap (MsN.st hN _ _ _) (fun _ _ => fun _ _ _ _ _ h => h) rfl (fit_fld rfl rfl) (by simp only; omega) (fun P w hw c hc => by
        simp only [List.mem_cons, List.not_mem_nil, or_false] at hc
        rcases hc with rfl | rfl
        · exact hc3 P w hw.1
        · exact hc2 P w hw.1) (fun w' hw' => (labelled_any 3 hw'.ev hw'.rd hsm (by omega) hpos).mono fun e w2 h2 => h2.cr)).mono ?_
      intro e w' hw
      exact ms_fld hnm hk0 (.inl hpos) (fun d s' hr => gt_labelled hr) hw
    rw [if_neg q5] at hv hf
    by_cases q6 : (k == ⟨#[109, 97, 112]⟩) = true
    · rw [if_pos q6] at hv hf
      obtain rfl := Option.some.inj hv
      obtain rfl := Option.some.inj hf
      obtain ⟨hnm, ⟨vf, vo, vm, ve, vr, vg, cm, ce, hap⟩, hk0⟩ := h
      have hk1 := hk0
      obtain ⟨⟨l1, l2, l3, l4, l5, l6⟩, hsm, hn, hop⟩ := hk1
      have hpos := here_pos hap.rd.grown (by rw [hk]; decide)
      refine ⟨_, _, _, rfl, cf_rmembers_7 w, ?_⟩
      refine (mem7_any (pm := pv + 1) (pr := pv) (bt := 72) (r := mapOrFieldF s) (sl := ⟨47, 6, vf, x.fs.length, fldC x.fs⟩) (N1 := fun a x _ _ => x = a.val) hap (MsN.st hN _ _ _) (fun _ _ => fun _ _ _ _ _ h => h) rfl (fit_fld rfl rfl) (by simp only; omega) (fun P w hw c hc => by
        simp only [List.mem_cons, List.not_mem_nil, or_false] at hc
        rcases hc with rfl | rfl
        · exact hc3 P w hw.1
        · exact hc2 P w hw.1) (fun w' hw' => (mapOrField_any hw'.ev hw'.rd hsm (by omega) hpos).mono fun e w2 h2 => h2.cr)).mono ?_
      intro e w' hw
      exact ms_fld hnm hk0 (.inl hpos) (fun d s' hr => gt_map hr) hw
    rw [if_neg q6] at hv hf
    by_cases q7 : (k == ⟨#[111, 112, 116, 105, 111, 110]⟩) = true
    · rw [if_pos q7] at hv hf
      obtain rfl := Option.some.inj hv
      obtain rfl := Option.some.inj hf
      exact refuse_v h.rd (fun w' hg => h.er hg)
    rw [if_neg q7] at hv hf
    by_cases q8 : (k == ⟨#[101, 120, 116, 101, 110, 100]⟩) = true
    · rw [if_pos q8] at hv hf
      obtain rfl := Option.some.inj hv
      obtain rfl := Option.some.inj hf
      exact refuse_v h.rd (fun w' hg => h.er hg)
    rw [if_neg q8] at hv hf
    by_cases q9 : (k == ⟨#[101, 120, 116, 101, 110, 115, 105, 111, 110, 115]⟩) = true
    · rw [if_pos q9] at hv hf
      obtain rfl := Option.some.inj hv
      obtain rfl := Option.some.inj hf
      exact refuse_v h.rd (fun w' hg => h.er hg)
    rw [if_neg q9] at hv hf
    by_cases q10 : (k == ⟨#[103, 114, 111, 117, 112]⟩) = true
    · rw [if_pos q10] at hv hf
      obtain rfl := Option.some.inj hv
      obtain rfl := Option.some.inj hf
      exact refuse_v h.rd (fun w' hg => h.er hg)
    rw [if_neg q10] at hv hf
    by_cases q11 : (k == ⟨#[114, 101, 113, 117, 105, 114, 101, 100]⟩) = true
    · rw [if_pos q11] at hv hf
      obtain rfl := Option.some.inj hv
      obtain rfl := Option.some.inj hf
      exact refuse_v h.rd (fun w' hg => h.er hg)
    rw [if_neg q11] at hv hf
    cases hv
  · obtain ⟨hnm, ⟨vf, vo, vm, ve, vr, vg, cm, ce, hap⟩, hk⟩ := h
    have hk0 := hk
    obtain ⟨⟨l1, l2, l3, l4, l5, l6⟩, hsm, hn, hop⟩ := hk
    refine ⟨_, _, _, rfl, cf_rmessage_1 w, ?_⟩
    refine (msg1_any (pr := p1) (bt := 72) (r := plainF 0 s) (sl := ⟨47, 6, vf, x.fs.length, fldC x.fs⟩) (N1 := fun a x _ _ => x = a.val) hap (MsN.st hN _ _ _) (fun _ _ => fun _ _ _ _ _ h => h) rfl (fit_fld rfl rfl) (by simp only; omega) (fun P w hw c hc => ?_) (fun w' hw' => (plain_any 0 hw'.ev hw'.rd hsm (by omega)).mono fun e w2 h2 => h2.cr)).mono ?_
    · simp only [List.mem_cons, List.not_mem_nil, or_false] at hc
      subst hc
      exact hc1 P w hw.1
    · intro e w' hw
      exact ms_fld hnm hk0 (.inr (fun d s' hr => (gt_plain hr).2 hap.rd.grown)) (fun d s' hr => (gt_plain hr).1) hw
end Go.Proofs.YtdhncpeemcanlaaGreatDoor
