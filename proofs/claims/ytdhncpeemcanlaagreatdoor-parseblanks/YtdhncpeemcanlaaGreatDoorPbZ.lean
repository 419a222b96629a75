import Derived.Test.YtdhncpeemcanlaaGreatDoorJ38

namespace Go.Proofs.YtdhncpeemcanlaaGreatDoor
open Go.RowKit
attribute [local go_sem ↓] Go.wp_at_zero Go.wp_at_succ

theorem Ap.setName {lo b g T : Nat} {nm nm' : ByteArray} {ss : List Slot} {N : (Nat → Prop) → World → Prop} {V W w : World} {s : PSt} (h : Ap lo b g T nm ss N V W s w) (hN : Stable N) : Ap lo b g T nm' ss N V W s (w.setCell ⟨g, 0, none⟩ (.string nm')) := by
  obtain ⟨l1, l2, l3, l4⟩ := h.below
  obtain ⟨q1, q2⟩ := set_block (j := 0) h.bx.blk (.string nm')
  have hgo : ∀ k, k < w.heap.size → k ≠ g → (w.setCell ⟨g, 0, none⟩ (.string nm')).heap[k]? = w.heap[k]? := fun k h1 h2 => q2.block k h1 (by simpa using h2)
  refine ⟨⟨q1, fun i sl hi => ?_, h.bx.apart⟩, ?_, ?_, h.lg, ?_, ?_⟩
  · have h1 := h.bx.own i sl hi
    refine World.ownsRow.kept h1 q2 (.inr ?_)
    intro e
    have := (h1.lt g e).1
    omega
  · exact hN _ _ w _ (fun k hk hl => ⟨hk, hgo k hl hk.2.1⟩) h.nx
  · exact h.rd.up' ⟨q2.os, q2.tape, q2.output, q2.size, fun k hk => hgo k (by omega) (by omega)⟩
  · exact h.sv.trans ⟨q2.os, q2.tape, q2.output, q2.size, fun k hk _ => hgo k (by omega) (by omega)⟩
  · have := h.ev.lo
    exact ⟨h.ev.f, h.ev.e, h.ev.m, h.ev.below.trans ⟨q2.os, q2.tape, q2.output, q2.size, fun k hk => hgo k (by omega) (by omega)⟩, h.ev.lo⟩
theorem gt_dotted {da : Bool} {s s1 : PSt} {x : ByteArray} (h : dottedF da s = .ok (x, s1)) : Suf s s1 := suf_dotted h
theorem gt_imported {s s1 : PSt} {x : ByteArray} (h : importedF s = .ok (x, s1)) : Gt s s1 := by
  unfold importedF at h
  split at h
  · cases h
  · rename_i u s2 h2
    split at h
    · cases h
    · split at h
      · cases h
      · rename_i y s3 h3
        split at h
        · cases h
        · rename_i u4 s4 h4
          simp only [Except.ok.injEq, Prod.mk.injEq] at h
          obtain ⟨_, rfl⟩ := h
          exact ((gt_next (s := s.begun) h2).suf_r (gt_meaning h3).1.suf).suf_r (suf_needSign h4)
/-- A file. -/
noncomputable def pkgF : Stp Fl := fun x s => if (x.pkg.toList == []) = true then (match pnextF s with
  | .error e => .error e
  | .ok (_, s1) => match dottedF false s1 with
    | .error e => .error e
    | .ok (p, s2) => match pneedSignF ⟨#[59]⟩ s2 with
      | .error e => .error e
      | .ok (_, s3) => .ok ({ x with pkg := p }, s3)) else .error (wrongE s)
noncomputable def impS : Stp Fl := fun x s => match importedF s with
  | .error e => .error e
  | .ok (d, s') => .ok ({ x with imps := x.imps ++ [d] }, s')
noncomputable def fmS : Stp Fl := fun x s => match messageF 16384 s with
  | .error e => .error e
  | .ok (d, s') => .ok ({ x with ms := x.ms ++ [d] }, s')
noncomputable def feS : Stp Fl := fun x s => match enumF s with
  | .error e => .error e
  | .ok (d, s') => .ok ({ x with es := x.es ++ [d] }, s')
def flO : Stp Fl := fun _ s => .error (wrongE s)
noncomputable def flW : ByteArray → Option (Stp Fl) := fun k => if (k == ⟨#[112, 97, 99, 107, 97, 103, 101]⟩) = true then some pkgF else if (k == ⟨#[105, 109, 112, 111, 114, 116]⟩) = true then some impS else if (k == ⟨#[109, 101, 115, 115, 97, 103, 101]⟩) = true then some fmS else if (k == ⟨#[101, 110, 117, 109]⟩) = true then some feS else if (k == ⟨#[111, 112, 116, 105, 111, 110]⟩) = true then some refuseF else if (k == ⟨#[115, 101, 114, 118, 105, 99, 101]⟩) = true then some refuseF else if (k == ⟨#[101, 120, 116, 101, 110, 100]⟩) = true then some refuseF else none
theorem gt_pkg (x : Fl) (s : PSt) (x' : Fl) (s' : PSt) (h : pkgF x s = .ok (x', s')) : Gt s s' := by
  unfold pkgF at h
  split at h
  · split at h
    · cases h
    · rename_i u s1 h1
      split at h
      · cases h
      · rename_i p s2 h2
        split at h
        · cases h
        · rename_i u3 s3 h3
          simp only [Except.ok.injEq, Prod.mk.injEq] at h
          obtain ⟨_, rfl⟩ := h
          exact ((gt_next h1).suf_r (suf_dotted h2)).suf_r (suf_needSign h3)
  · cases h
theorem flW_gt (k : ByteArray) (f : Stp Fl) (hf : flW k = some f) (x : Fl) (s : PSt) (x' : Fl) (s' : PSt) (h : f x s = .ok (x', s')) : Gt s s' := by
  unfold flW at hf
  by_cases q0 : (k == ⟨#[112, 97, 99, 107, 97, 103, 101]⟩) = true
  · rw [if_pos q0] at hf
    obtain rfl := Option.some.inj hf
    exact gt_pkg _ _ _ _ h
  rw [if_neg q0] at hf
  by_cases q1 : (k == ⟨#[105, 109, 112, 111, 114, 116]⟩) = true
  · rw [if_pos q1] at hf
    obtain rfl := Option.some.inj hf
    unfold impS at h
    split at h
    · cases h
    · rename_i d s1 h1
      simp only [Except.ok.injEq, Prod.mk.injEq] at h
      obtain ⟨_, rfl⟩ := h
      exact gt_imported h1
  rw [if_neg q1] at hf
  by_cases q2 : (k == ⟨#[109, 101, 115, 115, 97, 103, 101]⟩) = true
  · rw [if_pos q2] at hf
    obtain rfl := Option.some.inj hf
    unfold fmS at h
    split at h
    · cases h
    · rename_i d s1 h1
      simp only [Except.ok.injEq, Prod.mk.injEq] at h
      obtain ⟨_, rfl⟩ := h
      exact msg_gt _ _ _ _ h1
  rw [if_neg q2] at hf
  by_cases q3 : (k == ⟨#[101, 110, 117, 109]⟩) = true
  · rw [if_pos q3] at hf
    obtain rfl := Option.some.inj hf
    unfold feS at h
    split at h
    · cases h
    · rename_i d s1 h1
      simp only [Except.ok.injEq, Prod.mk.injEq] at h
      obtain ⟨_, rfl⟩ := h
      exact gt_enum h1
  rw [if_neg q3] at hf
  by_cases q4 : (k == ⟨#[111, 112, 116, 105, 111, 110]⟩) = true
  · rw [if_pos q4] at hf
    obtain rfl := Option.some.inj hf
    cases h
  rw [if_neg q4] at hf
  by_cases q5 : (k == ⟨#[115, 101, 114, 118, 105, 99, 101]⟩) = true
  · rw [if_pos q5] at hf
    obtain rfl := Option.some.inj hf
    cases h
  rw [if_neg q5] at hf
  by_cases q6 : (k == ⟨#[101, 120, 116, 101, 110, 100]⟩) = true
  · rw [if_pos q6] at hf
    obtain rfl := Option.some.inj hf
    cases h
  rw [if_neg q6] at hf
  cases hf
theorem flO_gt (x : Fl) (s : PSt) (x' : Fl) (s' : PSt) (h : flO x s = .ok (x', s')) : Gt s s' ∧ (s.en.kind = 5 → 0 < s.ts.length) := by cases h
def FSl (x : Fl) (vi vm ve : Value) (cm ce : List Value) : List Slot := [⟨9, 1, vi, x.imps.length, strC x.imps⟩, ⟨51, 7, vm, x.ms.length, cm⟩, ⟨66, 4, ve, x.es.length, ce⟩]
def FlN (g : Nat) (N : (Nat → Prop) → World → Prop) (x : Fl) (cm ce : List Value) (P : Nat → Prop) (w : World) : Prop := N P w ∧ HasMs (fun k => P k ∧ g ≤ k) w cm x.ms ∧ HasEs (fun k => P k ∧ g ≤ k) w ce x.es
theorem FlN.st {g : Nat} {N : (Nat → Prop) → World → Prop} (hN : Stable N) (x : Fl) (cm ce : List Value) : Stable (FlN g N x cm ce) := hN.and (Stable.and (fun _ _ _ _ hg h => stable_ms _ _ _ _ _ _ (hg.low g) h) (fun _ _ _ _ hg h => stable_es _ _ _ _ _ _ (hg.low g) h))
def FlI (lo b g : Nat) (N : (Nat → Prop) → World → Prop) (V W : World) (x : Fl) (s : PSt) (w : World) : Prop := (∃ vi vm ve cm ce, Ap lo b g 34 x.pkg (FSl x vi vm ve cm ce) (FlN g N x cm ce) V W s w) ∧ (x.imps.length + s.ts.length ≤ 20000 ∧ x.ms.length + s.ts.length ≤ 20000 ∧ x.es.length + s.ts.length ≤ 20000) ∧ Sm s ∧ s.ts.length ≤ 16384
theorem FlI.step {lo b g : Nat} {N : (Nat → Prop) → World → Prop} {V W w w' : World} {x : Fl} {s s' : PSt} (h : FlI lo b g N V W x s w) (hN : Stable N) (hr : Rd lo w' b s') (hg : w.grownBy w' (some b)) (hs : Suf s s') : FlI lo b g N V W x s' w' := by
  obtain ⟨⟨vi, vm, ve, cm, ce, hap⟩, ⟨l1, l2, l3⟩, hsm, hn⟩ := h
  have := hs.len
  exact ⟨⟨vi, vm, ve, cm, ce, hap.read (FlN.st hN _ _ _) hr hg⟩, ⟨by omega, by omega, by omega⟩, hs.sm hsm, by omega⟩
theorem FlI.er {lo b g : Nat} {N : (Nat → Prop) → World → Prop} {V W w w' : World} {x : Fl} {s : PSt} (h : FlI lo b g N V W x s w) (hg : w.grownBy w' (some b)) : Sv g b W w' := by
  obtain ⟨⟨vi, vm, ve, cm, ce, hap⟩, _⟩ := h
  exact hap.sv.trans (Sv.of hg (by have := hap.bx.lt; omega))
theorem FlI.rd {lo b g : Nat} {N : (Nat → Prop) → World → Prop} {V W w : World} {x : Fl} {s : PSt} (h : FlI lo b g N V W x s w) : Rd lo w b s := by
  obtain ⟨⟨vi, vm, ve, cm, ce, hap⟩, _⟩ := h
  exact hap.rd
section
variable {lo b g : Nat} {N : (Nat → Prop) → World → Prop} {V W w : World} {x : Fl} {s : PSt} {vi vm ve : Value} {cm ce : List Value} {e : Ending}
theorem fl_imp (hl : x.imps.length + s.ts.length ≤ 20000 ∧ x.ms.length + s.ts.length ≤ 20000 ∧ x.es.length + s.ts.length ≤ 20000) (hsm : Sm s) (hn : s.ts.length ≤ 16384) (hp : 0 < s.ts.length) (h : CP lo b g 34 x.pkg (FSl x vi vm ve cm ce) (FlN g N x cm ce) V W 0 ⟨9, 1, vi, x.imps.length, strC x.imps⟩ (importedF s) (fun a x _ _ => x = Value.string a) e w) : IP (FlI lo b g N V W) (Sv g b W) (impS x s) e w := by
  unfold impS
  rcases CP.plain strC_one h with ⟨y, hr, rfl, hs⟩ | ⟨a, s', y, hr, rfl, h2⟩
  · rw [hr]
    exact ⟨rfl, hs⟩
  · have h3 := gt_imported hr
    have h4 := h3.lt hp
    rw [hr]
    exact ⟨rfl, ⟨y, vm, ve, cm, ce, h2⟩, ⟨by simp only [List.length_append, List.length_singleton]; omega, by simp only; omega, by simp only; omega⟩, h3.suf.sm hsm, by omega⟩
theorem fl_enum (hl : x.imps.length + s.ts.length ≤ 20000 ∧ x.ms.length + s.ts.length ≤ 20000 ∧ x.es.length + s.ts.length ≤ 20000) (hsm : Sm s) (hn : s.ts.length ≤ 16384) (hp : 0 < s.ts.length) (h : CP lo b g 34 x.pkg (FSl x vi vm ve cm ce) (FlN g N x cm ce) V W 2 ⟨66, 4, ve, x.es.length, ce⟩ (enumF s) (NEL g) e w) : IP (FlI lo b g N V W) (Sv g b W) (feS x s) e w := by
  unfold CP at h
  unfold feS
  cases hr : enumF s with
  | error y =>
    rw [hr] at h
    exact h
  | ok z =>
    rw [hr] at h
    obtain ⟨he, v, y, hap⟩ := h
    have h3 := gt_enum hr
    have h4 := h3.lt hp
    refine ⟨he, ⟨vi, vm, y, cm, ce ++ v.cells.toList, ?_⟩, ⟨by simp only; omega, by simp only; omega, by simp only [List.length_append, List.length_singleton]; omega⟩, h3.suf.sm hsm, by omega⟩
    have h5 := hap.imp (N' := FlN g N { x with es := x.es ++ [z.1] } cm (ce ++ v.cells.toList)) (fun hh => by
      obtain ⟨⟨q1, q2, q3⟩, cs, e1, q4⟩ := hh
      have e2 : cs.toList = v.cells.toList := by rw [e1]; rfl
      have h9 := q3.app q4
      rw [e2] at h9
      exact ⟨q1, q2, h9⟩)
    unfold FSl
    simp only [List.length_append, List.length_singleton]
    exact h5
theorem fl_msg (hl : x.imps.length + s.ts.length ≤ 20000 ∧ x.ms.length + s.ts.length ≤ 20000 ∧ x.es.length + s.ts.length ≤ 20000) (hsm : Sm s) (hn : s.ts.length ≤ 16384) (hp : 0 < s.ts.length) (h : CP lo b g 34 x.pkg (FSl x vi vm ve cm ce) (FlN g N x cm ce) V W 1 ⟨51, 7, vm, x.ms.length, cm⟩ (messageF 16384 s) (NML g) e w) : IP (FlI lo b g N V W) (Sv g b W) (fmS x s) e w := by
  unfold CP at h
  unfold fmS
  cases hr : messageF 16384 s with
  | error y =>
    rw [hr] at h
    exact h
  | ok z =>
    rw [hr] at h
    obtain ⟨he, v, y, hap⟩ := h
    have h3 := msg_gt _ _ _ _ hr
    have h4 := h3.lt hp
    refine ⟨he, ⟨vi, y, ve, cm ++ v.cells.toList, ce, ?_⟩, ⟨by simp only; omega, by simp only [List.length_append, List.length_singleton]; omega, by simp only; omega⟩, h3.suf.sm hsm, by omega⟩
    have h5 := hap.imp (N' := FlN g N { x with ms := x.ms ++ [z.1] } (cm ++ v.cells.toList) ce) (fun hh => by
      obtain ⟨⟨q1, q2, q3⟩, cs, e1, q4⟩ := hh
      have e2 : cs.toList = v.cells.toList := by rw [e1]; rfl
      have h9 := q2.app q4
      rw [e2] at h9
      exact ⟨q1, h9, q3⟩)
    unfold FSl
    simp only [List.length_append, List.length_singleton]
    exact h5
set_option maxRecDepth 100000 in
set_option maxHeartbeats 4000000 in
theorem package_any (h : FlI lo b g N V W x s w) (hN : Stable N) (hp : 0 < s.ts.length) : Calls Tryz.prog 67 #[.pointer (some ⟨b, 0, none⟩), .pointer (some ⟨g, 0, none⟩)] w (IP (FlI lo b g N V W) (Sv g b W) (pkgF x s)) := by
  have HI := hide h
  obtain ⟨⟨vi, vm, ve, cm, ce, hap⟩, ⟨l1, l2, l3⟩, hsm, hn⟩ := h
  have b0 : w.cell? ⟨g, 0, none⟩ = some (.string x.pkg) := by rw [cell_of_row _ _ _ _ _ _ hap.bx.blk]; rfl
  have HN := hide (FlN.st (g := g) hN x cm ce)
  have HN0 := hide hN
  have HA := hide hap
  have HSm := hide hsm
  have Hn := hide hn
  have Hl := hide (show x.imps.length + s.ts.length ≤ 20000 ∧ x.ms.length + s.ts.length ≤ 20000 ∧ x.es.length + s.ts.length ≤ 20000 from ⟨l1, l2, l3⟩)
  have HC := hide (next_any hap.rd hp)
  have HW := hide (wrong_any hap.rd)
  obtain ⟨pk, hpk⟩ : ∃ pk, x.pkg = pk := ⟨_, rfl⟩
  have Hpk := hide hpk
  rw [hpk] at b0
  clear hap hN hsm hn l1 l2 l3 hpk
  cases hz : (pk.toList == []) with
  | false =>
    have hz2 : (pk.toList != []) = true := by unfold bne; rw [hz]; rfl
    have HF : Hid (pkgF x s = .error (wrongE s)) := by show _ = _; unfold pkgF; rw [if_neg (by rw [unhide Hpk, hz]; simp)]
    go_enter Tryz.func67, Tryz.ntmps67
    go_wp2_with fail
    refine (unhide HW).mono ?_
    rintro e w1 ⟨rfl, hb⟩
    refine ⟨rfl, ?_⟩
    rw [unhide HF]
    exact ⟨rfl, (unhide HI).er (below_grown b hb)⟩
  | true =>
    have hz2 : (pk.toList != []) = false := by unfold bne; rw [hz]; rfl
    have HF : Hid (pkgF x s = match pnextF s with | .error e => .error e | .ok (_, s1) => match dottedF false s1 with | .error e => .error e | .ok (p, s2) => match pneedSignF ⟨#[59]⟩ s2 with | .error e => .error e | .ok (_, s3) => .ok ({ x with pkg := p }, s3)) := by
      show _ = _
      unfold pkgF
      rw [if_pos (by rw [unhide Hpk, hz])]
    go_enter Tryz.func67, Tryz.ntmps67
    go_wp2_with fail
    refine (unhide HC).mono ?_
    intro e w1 hw
    rcases hw.split with ⟨y, hr, rfl, hg⟩ | ⟨_, s1, hr, rfl, h1, hg⟩
    · refine ⟨rfl, ?_⟩
      rw [unhide HF, hr]
      exact ⟨rfl, (unhide HI).er hg⟩
    · have hgt := gt_next hr
      have hlt := hgt.lt hp
      have HD := hide (dotted_any false h1 (hgt.suf.sm (unhide HSm)) (by have := unhide Hn; omega))
      have HA1 := hide ((unhide HA).read (unhide HN) h1 hg)
      have HF1 : Hid (pkgF x s = match dottedF false s1 with | .error e => .error e | .ok (p, s2) => match pneedSignF ⟨#[59]⟩ s2 with | .error e => .error e | .ok (_, s3) => .ok ({ x with pkg := p }, s3)) := by show _ = _; rw [unhide HF, hr]
      have Hgt := hide hgt
      clear hw hr h1 hg HC HF HA HI hgt hlt b0
      go_wp2_with fail
      refine (unhide HD).mono ?_
      intro e w2 hw
      rcases hw.split with ⟨y, hr, rfl, hg⟩ | ⟨p, s2, hr, rfl, h2, hg⟩
      · refine ⟨rfl, ?_⟩
        rw [unhide HF1, hr]
        exact ⟨rfl, (unhide HA1).sv.trans (Sv.of hg (by have := (unhide HA1).bx.lt; omega))⟩
      · have hap2 := (unhide HA1).read (unhide HN) h2 hg
        have b2 : w2.cell? ⟨g, 0, none⟩ = some (.string x.pkg) := by rw [cell_of_row _ _ _ _ _ _ hap2.bx.blk]; rfl
        have f2 : w2.frozen? ⟨g, 0, none⟩ = false := by simp [World.frozen?, hap2.bx.blk]
        have hap3 := hap2.setName (nm' := p) (unhide HN)
        have HA3 := hide hap3
        have HNd := hide (needSign_any hap3.rd ⟨#[59]⟩)
        have HF2 : Hid (pkgF x s = match pneedSignF ⟨#[59]⟩ s2 with | .error e => .error e | .ok (_, s3) => .ok ({ x with pkg := p }, s3)) := by show _ = _; rw [unhide HF1, hr]
        have Hg2 := hide ((unhide Hgt).suf_r (suf_dotted hr))
        clear hw hr h2 hg HD HF1 HA1 hap2 hap3 Hgt
        go_wp2_with fail
        refine (unhide HNd).mono ?_
        intro e w3 hw
        rcases hw.split with ⟨y, hr, rfl, hg⟩ | ⟨_, s3, hr, rfl, h3, hg⟩
        · refine ⟨rfl, ?_⟩
          rw [unhide HF2, hr]
          exact ⟨rfl, (unhide HA3).sv.trans (Sv.of hg (by have := (unhide HA3).bx.lt; omega))⟩
        · have HE : Hid (IP (FlI lo b g N V W) (Sv g b W) (pkgF x s) (.returned (.tuple #[])) w3) := by
            show IP (FlI lo b g N V W) (Sv g b W) (pkgF x s) (.returned (.tuple #[])) w3
            rw [unhide HF2, hr]
            have hgt3 := (unhide Hg2).suf_r (suf_needSign hr)
            have hlt := hgt3.lt hp
            have := unhide Hl
            have := unhide Hn
            exact ⟨rfl, ⟨vi, vm, ve, cm, ce, (unhide HA3).read (unhide HN) h3 hg⟩, ⟨by simp only; omega, by simp only; omega, by simp only; omega⟩, hgt3.suf.sm (unhide HSm), by omega⟩
          clear hw hr h3 hg HNd b2 f2
          go_wp2
          go_end0
          exact unhide HE
set_option maxRecDepth 100000 in
theorem top1_any {pm pr : Nat} (h : FlI lo b g N V W x s w) (hN : Stable N) (hc1 : ∀ P w, N P w → Cell1 pr #[.pointer (some ⟨b, 0, none⟩)] 80 P w) (hc2 : ∀ P w, N P w → Cell1 pm #[.pointer (some ⟨g, 0, none⟩)] 104 P w) (hp : 0 < s.ts.length) : Calls Tryz.prog 66 #[.pointer (some ⟨pr, 0, none⟩), .pointer (some ⟨pm, 0, none⟩)] w (IP (FlI lo b g N V W) (Sv g b W) (pkgF x s)) := by
  have HC := hide (package_any h hN hp)
  obtain ⟨⟨vi, vm, ve, cm, ce, hap⟩, _⟩ := h
  have c1 : w.cell? ⟨pr, 0, none⟩ = some (.pointer (some ⟨b, 0, none⟩)) := by rw [cell_of_row _ _ _ _ _ _ (hc1 _ _ hap.nx.1).1]; rfl
  have c2 : w.cell? ⟨pm, 0, none⟩ = some (.pointer (some ⟨g, 0, none⟩)) := by rw [cell_of_row _ _ _ _ _ _ (hc2 _ _ hap.nx.1).1]; rfl
  clear hap hN hc1 hc2
  go_enter Tryz.func66, Tryz.ntmps66
  go_wp2_with fail
  refine (unhide HC).mono ?_
  intro e w1 hw
  have HW := hide hw
  rcases hw.split with ⟨y, hr, rfl, he⟩ | ⟨x', s', hr, rfl, hi⟩
  · exact ⟨rfl, unhide HW⟩
  · clear hr hi hw HC c1 c2
    go_wp2
    go_end0
    exact unhide HW
end
set_option maxRecDepth 10000 in
set_option maxHeartbeats 1000000 in
theorem fl_tab {lo b g pv : Nat} {N : (Nat → Prop) → World → Prop} {V W : World} (hN : Stable N) (hc2 : ∀ P w, N P w → Cell1 pv #[.pointer (some ⟨b, 0, none⟩)] 80 P w) (hc3 : ∀ P w, N P w → Cell1 (pv + 1) #[.pointer (some ⟨g, 0, none⟩)] 104 P w) (hm : ∀ P w, N P w → WMap (pv + 2) (topsT pv b) P w) :
    WTab (FlI lo b g N V W) (Sv g b W) lo b (pv + 2) (topsT pv b) (.func (.func 46) #[.pointer (some ⟨b, 0, none⟩)] #[]) flW flO := by
  refine ⟨fun x s w h => h.rd, fun x s w s' w' h hr hg hs => h.step hN hr hg hs, fun x s w w' h hg => h.er hg, fun x s w h => ?_, fun k => ?_, fun k v f hv hf x s w h hk ht => ?_, fun x s w h => ?_⟩
  · obtain ⟨⟨vi, vm, ve, cm, ce, hap⟩, _⟩ := h
    exact ⟨_, hm _ _ hap.nx.1⟩
  · unfold topsT flW
    simp only [findW]
    by_cases q0 : (k == ⟨#[112, 97, 99, 107, 97, 103, 101]⟩) = true
    · exact .inr ⟨_, _, _, _, by rw [if_pos q0], by rw [if_pos q0]⟩
    rw [if_neg q0, if_neg q0]
    by_cases q1 : (k == ⟨#[105, 109, 112, 111, 114, 116]⟩) = true
    · exact .inr ⟨_, _, _, _, by rw [if_pos q1], by rw [if_pos q1]⟩
    rw [if_neg q1, if_neg q1]
    by_cases q2 : (k == ⟨#[109, 101, 115, 115, 97, 103, 101]⟩) = true
    · exact .inr ⟨_, _, _, _, by rw [if_pos q2], by rw [if_pos q2]⟩
    rw [if_neg q2, if_neg q2]
    by_cases q3 : (k == ⟨#[101, 110, 117, 109]⟩) = true
    · exact .inr ⟨_, _, _, _, by rw [if_pos q3], by rw [if_pos q3]⟩
    rw [if_neg q3, if_neg q3]
    by_cases q4 : (k == ⟨#[111, 112, 116, 105, 111, 110]⟩) = true
    · exact .inr ⟨_, _, _, _, by rw [if_pos q4], by rw [if_pos q4]⟩
    rw [if_neg q4, if_neg q4]
    by_cases q5 : (k == ⟨#[115, 101, 114, 118, 105, 99, 101]⟩) = true
    · exact .inr ⟨_, _, _, _, by rw [if_pos q5], by rw [if_pos q5]⟩
    rw [if_neg q5, if_neg q5]
    by_cases q6 : (k == ⟨#[101, 120, 116, 101, 110, 100]⟩) = true
    · exact .inr ⟨_, _, _, _, by rw [if_pos q6], by rw [if_pos q6]⟩
    rw [if_neg q6, if_neg q6]
    exact .inl ⟨rfl, rfl⟩
  · unfold topsT at hv
    unfold flW at hf
    simp only [findW] at hv
    by_cases q0 : (k == ⟨#[112, 97, 99, 107, 97, 103, 101]⟩) = true
    · rw [if_pos q0] at hv hf
      obtain rfl := Option.some.inj hv
      obtain rfl := Option.some.inj hf
      exact ⟨_, _, _, rfl, cf_rtops_1 w, top1_any h hN hc2 hc3 (here_pos h.rd.grown (by rw [hk]; decide))⟩
    rw [if_neg q0] at hv hf
    by_cases q1 : (k == ⟨#[105, 109, 112, 111, 114, 116]⟩) = true
    · rw [if_pos q1] at hv hf
      obtain rfl := Option.some.inj hv
      obtain rfl := Option.some.inj hf
      obtain ⟨⟨vi, vm, ve, cm, ce, hap⟩, ⟨l1, l2, l3⟩, hsm, hn⟩ := h
      have hpos := here_pos hap.rd.grown (by rw [hk]; decide)
      refine ⟨_, _, _, rfl, cf_rtops_2 w, ?_⟩
      refine (top2_any (pm := pv + 1) (pr := pv) (bt := 16) (r := importedF s) (sl := ⟨9, 1, vi, x.imps.length, strC x.imps⟩) (N1 := fun a x _ _ => x = Value.string a) hap (FlN.st hN _ _ _) (fun _ _ => fun _ _ _ _ _ h => h) rfl (fit_str rfl rfl) (by simp only; omega) (fun P w hw c hc => by
        simp only [List.mem_cons, List.not_mem_nil, or_false] at hc
        rcases hc with rfl | rfl
        · exact hc3 P w hw.1
        · exact hc2 P w hw.1) (fun w' hw' => (imported_any hw'.ev hw'.rd hpos).mono fun e w2 h2 => h2.cr)).mono ?_
      intro e w' hw
      exact fl_imp ⟨l1, l2, l3⟩ hsm hn hpos hw
    rw [if_neg q1] at hv hf
    by_cases q2 : (k == ⟨#[109, 101, 115, 115, 97, 103, 101]⟩) = true
    · rw [if_pos q2] at hv hf
      obtain rfl := Option.some.inj hv
      obtain rfl := Option.some.inj hf
      obtain ⟨⟨vi, vm, ve, cm, ce, hap⟩, ⟨l1, l2, l3⟩, hsm, hn⟩ := h
      have hpos := here_pos hap.rd.grown (by rw [hk]; decide)
      refine ⟨_, _, _, rfl, cf_rtops_3 w, ?_⟩
      refine (bt_any (pm := pv + 1) (pr := pv) (r := messageF 16384 s) (sl := ⟨51, 7, vm, x.ms.length, cm⟩) hap (FlN.st hN _ _ _) rfl (fit_msgL g rfl rfl) (by simp only; omega) (fun P w hw c hc => by
        simp only [List.mem_cons, List.not_mem_nil, or_false] at hc
        rcases hc with rfl | rfl
        · exact hc3 P w hw.1
        · exact hc2 P w hw.1) (fun w' s2 M _ hw' e => by
        subst e
        exact (message_ok 16384 lo b V w' s2 hw'.ev hw'.rd hsm hn hn hpos).mono fun e w3 h3 => h3.msgL (by have := hw'.bx.lt; omega))).mono ?_
      intro e w' hw
      exact fl_msg ⟨l1, l2, l3⟩ hsm hn hpos hw
    rw [if_neg q2] at hv hf
    by_cases q3 : (k == ⟨#[101, 110, 117, 109]⟩) = true
    · rw [if_pos q3] at hv hf
      obtain rfl := Option.some.inj hv
      obtain rfl := Option.some.inj hf
      obtain ⟨⟨vi, vm, ve, cm, ce, hap⟩, ⟨l1, l2, l3⟩, hsm, hn⟩ := h
      have hpos := here_pos hap.rd.grown (by rw [hk]; decide)
      refine ⟨_, _, _, rfl, cf_rtops_4 w, ?_⟩
      refine (top4_any (pm := pv + 1) (pr := pv) (bt := 88) (r := enumF s) (sl := ⟨66, 4, ve, x.es.length, ce⟩) (N1 := NEL g) hap (FlN.st hN _ _ _) (stable_nel g) rfl (fit_enumL g rfl rfl) (by simp only; omega) (fun P w hw c hc => by
        simp only [List.mem_cons, List.not_mem_nil, or_false] at hc
        rcases hc with rfl | rfl
        · exact hc3 P w hw.1
        · exact hc2 P w hw.1) (fun w' hw' => (enum_any hw'.ev hw'.rd hsm hn hpos).mono fun e w3 h3 => h3.enumL (by have := hw'.bx.lt; omega))).mono ?_
      intro e w' hw
      exact fl_enum ⟨l1, l2, l3⟩ hsm hn hpos hw
    rw [if_neg q3] at hv hf
    by_cases q4 : (k == ⟨#[111, 112, 116, 105, 111, 110]⟩) = true
    · rw [if_pos q4] at hv hf
      obtain rfl := Option.some.inj hv
      obtain rfl := Option.some.inj hf
      exact refuse_v h.rd (fun w' hg => h.er hg)
    rw [if_neg q4] at hv hf
    by_cases q5 : (k == ⟨#[115, 101, 114, 118, 105, 99, 101]⟩) = true
    · rw [if_pos q5] at hv hf
      obtain rfl := Option.some.inj hv
      obtain rfl := Option.some.inj hf
      exact refuse_v h.rd (fun w' hg => h.er hg)
    rw [if_neg q5] at hv hf
    by_cases q6 : (k == ⟨#[101, 120, 116, 101, 110, 100]⟩) = true
    · rw [if_pos q6] at hv hf
      obtain rfl := Option.some.inj hv
      obtain rfl := Option.some.inj hf
      exact refuse_v h.rd (fun w' hg => h.er hg)
    rw [if_neg q6] at hv hf
    cases hv
  · refine ⟨_, _, _, rfl, cf_rwrong w, ?_⟩
    refine (wrong_any h.rd).mono ?_
    rintro e w' ⟨rfl, hb⟩
    exact ⟨rfl, h.er (below_grown b hb)⟩
end Go.Proofs.YtdhncpeemcanlaaGreatDoor
