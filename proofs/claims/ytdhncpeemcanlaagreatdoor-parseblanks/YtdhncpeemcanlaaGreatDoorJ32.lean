import Derived.Test.YtdhncpeemcanlaaGreatDoorJ31

namespace Go.Proofs.YtdhncpeemcanlaaGreatDoor
open Go.RowKit
attribute [local go_sem ↓] Go.wp_at_zero Go.wp_at_succ

theorem gt_assigned {lo hi : Int} {mi : Bool} {s s1 : PSt} {n : Int} (h : assignedF lo hi mi s = .ok (n, s1)) : Gt s s1 := by
  unfold assignedF at h
  split at h
  · cases h
  · rename_i u s2 h2
    split at h
    · cases h
    · rename_i m s3 h3
      split at h
      · cases h
      · split at h
        · cases h
        · rename_i u4 s4 h4
          simp only [Except.ok.injEq, Prod.mk.injEq] at h
          obtain ⟨_, rfl⟩ := h
          exact ((suf_needSign h2).gt (gt_number h3)).suf_r (suf_needSign h4)
theorem pos_name {s s1 : PSt} {x : ByteArray} (h : pnameF s = .ok (x, s1)) (he : s.en.kind = 5) : 0 < s.ts.length := here_pos he (by rw [(name_ok h).2.2]; decide)
theorem gt_value {s s1 : PSt} {v : ByteArray × Int} (h : valueF s = .ok (v, s1)) : Gt s s1 ∧ (s.en.kind = 5 → 0 < s.ts.length) := by
  unfold valueF at h
  split at h
  · cases h
  · rename_i x s2 h2
    split at h
    · cases h
    · rename_i n s3 h3
      simp only [Except.ok.injEq, Prod.mk.injEq] at h
      obtain ⟨_, rfl⟩ := h
      exact ⟨(gt_name (s := s.begun) h2).suf_r (gt_assigned h3).suf, fun he => pos_name (s := s.begun) h2 he⟩
theorem gt_res {bl bh : Int} {bm : Bool} {rs : List (Int × Int)} {gs : List ByteArray} {s s' : PSt} {l : List (Int × Int) × List ByteArray} (h : resF bl bh bm rs gs s = .ok (l, s')) : Gt s s' := by
  unfold resF at h
  split at h
  · cases h
  · rename_i u s1 h1
    split at h
    · split at h
      · cases h
      · rename_i l2 s2 h2
        simp only [Except.ok.injEq, Prod.mk.injEq] at h
        obtain ⟨_, rfl⟩ := h
        exact (gt_next h1).suf_r (suf_many (fun s a s1 h => (gt_gone h).suf) h2)
    · split at h
      · cases h
      · rename_i l2 s2 h2
        simp only [Except.ok.injEq, Prod.mk.injEq] at h
        obtain ⟨_, rfl⟩ := h
        exact (gt_next h1).suf_r (suf_many (fun s a s1 h => (gt_row h).suf) h2)
theorem gt_stmt {σ : Type} {F : ByteArray → Option (Stp σ)} {O : Stp σ} (hF : ∀ k f, F k = some f → ∀ x s x' s', f x s = .ok (x', s') → Gt s s') (hO : ∀ x s x' s', O x s = .ok (x', s') → Gt s s' ∧ (s.en.kind = 5 → 0 < s.ts.length)) {x x' : σ} {s s' : PSt} (h : stmtF F O x s = .ok (x', s')) : Gt s s' ∧ (s.en.kind = 5 → 0 < s.ts.length) := by
  unfold stmtF at h
  split at h
  · cases h
  · rename_i s1 h1
    simp only [Except.ok.injEq, Prod.mk.injEq] at h
    obtain ⟨_, rfl⟩ := h
    rcases take_ok h1 with ⟨e, _⟩ | ⟨_, h2, h3⟩
    · cases e
    · exact ⟨.tail h2 (take_op h1), fun he => here_pos he (by rw [h3]; decide)⟩
  · split at h
    · rename_i f hf
      split at h
      · rename_i hk
        exact ⟨hF _ _ hf _ _ _ _ h, fun he => here_pos he (by rw [hk]; decide)⟩
      · exact hO _ _ _ _ h
    · exact hO _ _ _ _ h
theorem stmt_lt {σ : Type} {F : ByteArray → Option (Stp σ)} {O : Stp σ} (hF : ∀ k f, F k = some f → ∀ x s x' s', f x s = .ok (x', s') → Gt s s') (hO : ∀ x s x' s', O x s = .ok (x', s') → Gt s s' ∧ (s.en.kind = 5 → 0 < s.ts.length)) {x x' : σ} {s s' : PSt} (he : s.en.kind = 5) (h : stmtF F O x s = .ok (x', s')) : s'.ts.length < s.ts.length := by
  obtain ⟨h1, h2⟩ := gt_stmt hF hO h
  exact h1.lt (h2 he)
theorem suf_bodyL {σ : Type} {st : Stp σ} (hst : ∀ x s x' s', st x s = .ok (x', s') → Suf s s') : ∀ (n : Nat) (x : σ) (s : PSt) (x' : σ) (s' : PSt), bodyLF st n x s = .ok (x', s') → Suf s s' ∧ pisB s'.here 4 ⟨#[125]⟩ = true
  | 0, _, _, _, _, h => by cases h
  | n + 1, x, s, x', s', h => by
    unfold bodyLF at h
    split at h
    · rename_i hp
      simp only [Except.ok.injEq, Prod.mk.injEq] at h
      obtain ⟨_, rfl⟩ := h
      exact ⟨.refl _, hp⟩
    · split at h
      · cases h
      · rename_i x1 s1 h1
        obtain ⟨h2, h3⟩ := suf_bodyL hst n _ _ _ _ h
        exact ⟨(hst _ _ _ _ h1).trans h2, h3⟩
theorem suf_body {σ : Type} {st : Stp σ} (hst : ∀ x s x' s', st x s = .ok (x', s') → Suf s s') {x x' : σ} {s s' : PSt} (h : bodyF st x s = .ok (x', s')) : Suf s s' ∧ pisB s'.here 4 ⟨#[125]⟩ = true := by
  unfold bodyF at h
  split at h
  · cases h
  · rename_i u s1 h1
    obtain ⟨h2, h3⟩ := suf_bodyL hst _ _ _ _ _ h
    exact ⟨(suf_needSign h1).trans h2, h3⟩
theorem pisB_kind {t : Tk} {k : Int} {x : ByteArray} (h : pisB t k x = true) : t.kind = k := by
  unfold pisB at h
  rw [Bool.and_eq_true] at h
  exact eq_of_beq h.1
def refuseF {σ : Type} : Stp σ := fun _ s => .error (52, s.here.spot)
/-- An enum. -/
noncomputable def enO : Stp En := fun x s => match valueF s with
  | .error e => .error e
  | .ok (v, s') => .ok ({ x with vals := x.vals ++ [v] }, s')
noncomputable def enR : Stp En := fun x s => match resF (-2147483648) 2147483647 true x.res x.gone s with
  | .error e => .error e
  | .ok (l, s') => .ok ({ x with res := l.1, gone := l.2 }, s')
noncomputable def enW : ByteArray → Option (Stp En) := fun k => if (k == ⟨#[114, 101, 115, 101, 114, 118, 101, 100]⟩) = true then some enR else if (k == ⟨#[111, 112, 116, 105, 111, 110]⟩) = true then some refuseF else none
theorem enO_gt (x : En) (s : PSt) (x' : En) (s' : PSt) (h : enO x s = .ok (x', s')) : Gt s s' ∧ (s.en.kind = 5 → 0 < s.ts.length) := by
  unfold enO at h
  split at h
  · cases h
  · rename_i v s1 h1
    simp only [Except.ok.injEq, Prod.mk.injEq] at h
    obtain ⟨_, rfl⟩ := h
    exact gt_value h1
theorem enW_gt (k : ByteArray) (f : Stp En) (hf : enW k = some f) (x : En) (s : PSt) (x' : En) (s' : PSt) (h : f x s = .ok (x', s')) : Gt s s' := by
  unfold enW at hf
  split at hf
  · obtain rfl := Option.some.inj hf
    unfold enR at h
    split at h
    · cases h
    · rename_i l s1 h1
      simp only [Except.ok.injEq, Prod.mk.injEq] at h
      obtain ⟨_, rfl⟩ := h
      exact gt_res h1
  · split at hf
    · obtain rfl := Option.some.inj hf
      cases h
    · cases hf
noncomputable def enumF (s : PSt) : Except (Int × Int) (En × PSt) := match pnextF s.begun with
  | .error e => .error e
  | .ok (_, s1) => match pnameF s1 with
    | .error e => .error e
    | .ok (nm, s2) => match bodyF (stmtF enW enO) ⟨nm, [], [], []⟩ s2 with
      | .error e => .error e
      | .ok (x, s3) => if x.vals.length = 0 then .error (wrongE s3) else match pnextF s3 with
        | .error e => .error e
        | .ok (_, s4) => .ok (x, s4)
theorem gt_enum {s s' : PSt} {x : En} (h : enumF s = .ok (x, s')) : Gt s s' := by
  unfold enumF at h
  split at h
  · cases h
  · rename_i u s1 h1
    split at h
    · cases h
    · rename_i nm s2 h2
      split at h
      · cases h
      · rename_i x3 s3 h3
        split at h
        · cases h
        · split at h
          · cases h
          · rename_i u4 s4 h4
            simp only [Except.ok.injEq, Prod.mk.injEq] at h
            obtain ⟨_, rfl⟩ := h
            exact (((gt_next (s := s.begun) h1).suf_r (gt_name h2).suf).suf_r (suf_body (fun x s x' s' h => (gt_stmt enW_gt enO_gt h).1.suf) h3).1).suf_r (gt_next h4).suf
def ESl (x : En) (vv vr vg : Value) : List Slot := [⟨68, 2, vv, x.vals.length, evC x.vals⟩, ⟨84, 2, vr, x.res.length, rgC x.res⟩, ⟨9, 1, vg, x.gone.length, strC x.gone⟩]
/-- An enum that is read. -/
def EnI (lo b g : Nat) (nm : ByteArray) (N : (Nat → Prop) → World → Prop) (V W : World) (x : En) (s : PSt) (w : World) : Prop := x.name = nm ∧ (∃ vv vr vg, Ap lo b g 66 nm (ESl x vv vr vg) N V W s w) ∧ (x.vals.length + s.ts.length ≤ 20000 ∧ x.res.length + s.ts.length ≤ 20000 ∧ x.gone.length + s.ts.length ≤ 20000) ∧ Sm s ∧ s.ts.length ≤ 16384
theorem EnI.step {lo b g : Nat} {nm : ByteArray} {N : (Nat → Prop) → World → Prop} {V W w w' : World} {x : En} {s s' : PSt} (h : EnI lo b g nm N V W x s w) (hN : Stable N) (hr : Rd lo w' b s') (hg : w.grownBy w' (some b)) (hs : Suf s s') : EnI lo b g nm N V W x s' w' := by
  obtain ⟨h0, ⟨vv, vr, vg, hap⟩, hl, hsm, hn⟩ := h
  have := hs.len
  exact ⟨h0, ⟨vv, vr, vg, hap.read hN hr hg⟩, ⟨by omega, by omega, by omega⟩, hs.sm hsm, by omega⟩
theorem refuse_v {σ : Type} {I : σ → PSt → World → Prop} {Er : World → Prop} {lo b : Nat} {x : σ} {s : PSt} {w : World} (hr : Rd lo w b s) (he : ∀ w', w.grownBy w' (some b) → Er w') : CallsV (.func (.func 74) #[.pointer (some ⟨b, 0, none⟩)] #[]) #[] w (IP I Er (refuseF x s)) := by
  refine ⟨_, _, _, rfl, cf_rrefuse w, ?_⟩
  refine (refuse_any hr).mono ?_
  rintro e w' ⟨rfl, hb⟩
  exact ⟨rfl, he w' (below_grown b hb)⟩
set_option maxRecDepth 10000 in
theorem en_tab {lo b g p1 pv : Nat} {nm : ByteArray} {N : (Nat → Prop) → World → Prop} {V W : World} (hN : Stable N) (hc1 : ∀ P w, N P w → Cell1 p1 #[.pointer (some ⟨b, 0, none⟩)] 80 P w) (hc2 : ∀ P w, N P w → Cell1 pv #[.pointer (some ⟨b, 0, none⟩)] 80 P w) (hc3 : ∀ P w, N P w → Cell1 (pv + 1) #[.pointer (some ⟨g, 0, none⟩)] 131 P w) (hm : ∀ P w, N P w → WMap (pv + 2) (valuesT pv b) P w) :
    WTab (EnI lo b g nm N V W) (Sv g b W) lo b (pv + 2) (valuesT pv b) (.func (.func 96) #[] #[.pointer (some ⟨g, 0, none⟩), .pointer (some ⟨p1, 0, none⟩)]) enW enO := by
  have her : ∀ x s w w', EnI lo b g nm N V W x s w → w.grownBy w' (some b) → Sv g b W w' := by
    rintro x s w w' ⟨_, ⟨vv, vr, vg, hap⟩, _⟩ hg
    exact hap.sv.trans (Sv.of hg (by have := hap.bx.lt; omega))
  refine ⟨fun x s w h => ?_, fun x s w s' w' h hr hg hs => h.step hN hr hg hs, her, fun x s w h => ?_, fun k => ?_, fun k v f hv hf x s w h hk ht => ?_, fun x s w h => ?_⟩
  · obtain ⟨_, ⟨vv, vr, vg, hap⟩, _⟩ := h
    exact hap.rd
  · obtain ⟨_, ⟨vv, vr, vg, hap⟩, _⟩ := h
    exact ⟨_, hm _ _ hap.nx⟩
  · unfold valuesT enW
    simp only [findW]
    by_cases q1 : (k == ⟨#[114, 101, 115, 101, 114, 118, 101, 100]⟩) = true
    · exact .inr ⟨_, _, _, _, by rw [if_pos q1], by rw [if_pos q1]⟩
    · rw [if_neg q1, if_neg q1]
      by_cases q2 : (k == ⟨#[111, 112, 116, 105, 111, 110]⟩) = true
      · exact .inr ⟨_, _, _, _, by rw [if_pos q2], by rw [if_pos q2]⟩
      · exact .inl ⟨by rw [if_neg q2], by rw [if_neg q2]⟩
  · unfold valuesT at hv
    unfold enW at hf
    simp only [findW] at hv
    have h0 := h
    obtain ⟨hnm, ⟨vv, vr, vg, hap⟩, ⟨l1, l2, l3⟩, hsm, hn⟩ := h
    by_cases q1 : (k == ⟨#[114, 101, 115, 101, 114, 118, 101, 100]⟩) = true
    · rw [if_pos q1] at hv hf
      obtain rfl := Option.some.inj hv
      obtain rfl := Option.some.inj hf
      refine ⟨_, _, _, rfl, cf_rvalues_1 w, ?_⟩
      refine (val1_any (pm := pv + 1) (pr := pv) (rs := x.res) (gs := x.gone) (vr := vr) (vg := vg) hap hN rfl rfl (here_pos hap.rd.grown (by rw [hk]; decide)) hsm l2 l3 hc2 hc3).mono ?_
      intro e w' hr
      unfold ResP at hr
      unfold enR
      cases hq : resF (-2147483648) 2147483647 true x.res x.gone s with
      | error y =>
        rw [hq] at hr
        exact hr
      | ok y =>
        rw [hq] at hr
        obtain ⟨he, ⟨v1, v2, hap2⟩, k1, k2, k3⟩ := hr
        have hlt := (gt_res hq).suf.len
        exact ⟨he, hnm, ⟨vv, v1, v2, hap2⟩, ⟨by simp only; omega, k1, k2⟩, k3, by omega⟩
    · rw [if_neg q1] at hv hf
      by_cases q2 : (k == ⟨#[111, 112, 116, 105, 111, 110]⟩) = true
      · rw [if_pos q2] at hv hf
        obtain rfl := Option.some.inj hv
        obtain rfl := Option.some.inj hf
        exact refuse_v hap.rd (fun w' hg => her x s w w' h0 hg)
      · rw [if_neg q2] at hv
        cases hv
  · have h0 := h
    obtain ⟨hnm, ⟨vv, vr, vg, hap⟩, ⟨l1, l2, l3⟩, hsm, hn⟩ := h
    refine ⟨_, _, _, rfl, cf_renum_1 w, ?_⟩
    refine (enum1_any (pr := p1) (bt := 24) (r := valueF s) (sl := ⟨68, 2, vv, x.vals.length, evC x.vals⟩) (N1 := fun a x _ _ => x = evV a) hap hN (fun _ _ => fun _ _ _ _ _ h => h) rfl (fit_val rfl rfl) (by simp only; omega) (fun P w hw c hc => ?_) (fun w' hw' => (value_any hw'.ev hw'.rd hsm).mono fun e w2 h2 => h2.cr)).mono ?_
    · simp only [List.mem_cons, List.not_mem_nil, or_false] at hc
      subst hc
      exact hc1 P w hw
    · intro e w' hw
      unfold enO
      rcases CP.plain evC_one hw with ⟨y, hr, rfl, hs⟩ | ⟨a, s', y, hr, rfl, h2⟩
      · rw [hr]
        exact ⟨rfl, hs⟩
      · rw [hr]
        obtain ⟨h3, h4⟩ := gt_value hr
        have h5 := h3.lt (h4 hap.rd.grown)
        refine ⟨rfl, hnm, ⟨y, vr, vg, h2⟩, ⟨?_, by simp only; omega, by simp only; omega⟩, h3.suf.sm hsm, by omega⟩
        simp only [List.length_append, List.length_singleton]
        omega
end Go.Proofs.YtdhncpeemcanlaaGreatDoor

namespace Go.Proofs.YtdhncpeemcanlaaGreatDoor
open Go.RowKit
attribute [local go_sem ↓] Go.wp_at_zero Go.wp_at_succ

theorem sizeEn : (Tryz.prog.info? 66).map (·.size) = some 4 := by kernel_rfl
theorem cells4 {w : World} {g : Nat} {a0 a1 a2 a3 : Value} {t : TypeId} (h : w.heap[g]? = some (.cells #[a0, a1, a2, a3] t (0, 0))) : (w.cell? ⟨g, 0, none⟩ = some a0 ∧ w.cell? ⟨g, 1, none⟩ = some a1 ∧ w.cell? ⟨g, 2, none⟩ = some a2 ∧ w.cell? ⟨g, 3, none⟩ = some a3) ∧ ∀ j, w.frozen? ⟨g, j, none⟩ = false := by
  refine ⟨⟨?_, ?_, ?_, ?_⟩, fun j => by simp [World.frozen?, h]⟩ <;> rw [cell_of_row _ _ _ _ _ _ h] <;> rfl
def set4 (w : World) (g : Nat) (a0 a1 a2 a3 : Value) : World := (((w.setCell ⟨g, 0, none⟩ a0).setCell ⟨g, 1, none⟩ a1).setCell ⟨g, 2, none⟩ a2).setCell ⟨g, 3, none⟩ a3
theorem set4_block {w : World} {g : Nat} {b0 b1 b2 b3 : Value} {t : TypeId} (h : w.heap[g]? = some (.cells #[b0, b1, b2, b3] t (0, 0))) (a0 a1 a2 a3 : Value) : (set4 w g a0 a1 a2 a3).heap[g]? = some (.cells #[a0, a1, a2, a3] t (0, 0)) ∧ w.grownBy (set4 w g a0 a1 a2 a3) (some g) := by
  obtain ⟨h0, g0⟩ := set_block (j := 0) h a0
  obtain ⟨h1, g1⟩ := set_block (j := 1) h0 a1
  obtain ⟨h2, g2⟩ := set_block (j := 2) h1 a2
  obtain ⟨h3, g3⟩ := set_block (j := 3) h2 a3
  exact ⟨h3, ((g0.trans g1).trans g2).trans g3⟩
theorem grown_sv {W0 W1 w : World} {g b : Nat} (h : W0.grownBy W1 (some b)) (k : Sv g b W1 w) (hl : W0.heap.size ≤ g) : W0.grownBy w (some b) := ⟨k.os.trans h.os, k.tape.trans h.tape, k.output.trans h.output, Nat.le_trans h.size k.size, fun i h1 h2 => (k.block i (by omega) (by simpa using h2)).trans (h.block i h1 h2)⟩
noncomputable def enT4 : Code := match Tryz.f73.body with
  | some (.seq _ (.seq _ (.seq _ (.seq _ t)))) => t
  | _ => .skip
noncomputable def enWith (t : Code) : Code := match Tryz.f73.body with
  | some (.seq a (.seq b (.seq c (.seq d _)))) => .seq a (.seq b (.seq c (.seq d t)))
  | _ => .skip
theorem en_split : Tryz.f73.body = some (enWith enT4) := rfl
noncomputable def enT5 : Code := match enT4 with
  | .seq _ t => t
  | _ => .skip
noncomputable def enR4 : Code := match enT4 with
  | .seq a _ => a
  | _ => .skip
theorem en_split4 : enT4 = .seq enR4 enT5 := rfl
noncomputable def enEnd (x : En) (s : PSt) : Except (Int × Int) (En × PSt) := if x.vals.length = 0 then .error (wrongE s) else match pnextF s with
  | .error e => .error e
  | .ok (_, s4) => .ok (x, s4)
set_option maxRecDepth 100000 in
set_option maxHeartbeats 4000000 in
theorem enT5_any {lo b g p1 p2 : Nat} {nm : ByteArray} {N : (Nat → Prop) → World → Prop} {V W0 W1 w : World} {x : En} {s : PSt} {e0 e1 e2 e3 : Value} (h : EnI lo b g nm N V W1 x s w) (hN : Stable N) (hc1 : ∀ P w, N P w → Cell1 p1 #[.pointer (some ⟨b, 0, none⟩)] 80 P w) (hc2 : ∀ P w, N P w → Cell1 p2 #[e0, e1, e2, e3] 66 P w)
    (hend : pisB s.here 4 ⟨#[125]⟩ = true) (hgr : W0.grownBy W1 (some b)) (hlo : lo ≤ W0.heap.size ∧ W0.heap.size ≤ p2 ∧ p2 < g) {tm : Array Value} (hsz : tm.size = 25) (hchk : chk tm [(1, .pointer (some ⟨p1, 0, none⟩)), (2, .pointer (some ⟨p2, 0, none⟩)), (3, .pointer (some ⟨g, 0, none⟩))]) {R : Ending → World → Prop}
    (hR : ∀ e w, CR lo b NE W0 (enEnd x s) e w → R e w) : enT5.wp Tryz.prog (bodyPost Tryz.prog Tryz.f73 R) ⟨tm, []⟩ w := by
  have HR := hide hR
  obtain ⟨hnm, ⟨vv, vr, vg, hap⟩, hl, hsm, hn⟩ := h
  obtain ⟨va, vc, hvv⟩ := row_shape2 (hap.bx.own 0 _ rfl)
  obtain ⟨ra, rc, hvr⟩ := row_shape2 (hap.bx.own 1 _ rfl)
  obtain ⟨ga, gc, hvg⟩ := row_shape2 (hap.bx.own 2 _ rfl)
  simp only at hvv hvr hvg
  subst hvv hvr hvg
  obtain ⟨⟨b0, b1, b2, b3⟩, bf⟩ := cells4 hap.bx.blk
  have c1 : w.cell? ⟨p1, 0, none⟩ = some (.pointer (some ⟨b, 0, none⟩)) := by rw [cell_of_row _ _ _ _ _ _ (hc1 _ _ hap.nx).1]; rfl
  have HA := hide hap
  have HN := hide hN
  have HC1 := hide hc1
  have HC2 := hide hc2
  have HEnd := hide hend
  have Hgr := hide hgr
  have Hlo := hide hlo
  have Hnm := hide hnm
  have hlen : x.vals.length ≤ 20000 := by omega
  obtain ⟨L, hL⟩ : ∃ L, x.vals.length = L := ⟨_, rfl⟩
  have HL := hide hL
  rw [hL] at b1 hlen
  obtain ⟨u, rfl⟩ := frame25 hsz
  obtain ⟨f1, f2, f3, _⟩ := hchk
  replace f1 : u 1 = .pointer (some ⟨p1, 0, none⟩) := Option.some.inj f1
  replace f2 : u 2 = .pointer (some ⟨p2, 0, none⟩) := Option.some.inj f2
  replace f3 : u 3 = .pointer (some ⟨g, 0, none⟩) := Option.some.inj f3
  rw [f1, f2, f3]
  clear f1 f2 f3 hsz hR hap hN hc1 hc2 hend hgr hlo hl hsm hn hnm hL bf
  obtain ⟨Q, hQ⟩ : ∃ Q, bodyPost Tryz.prog Tryz.f73 R = Q := ⟨_, rfl⟩
  rw [hQ]
  unfold enT5 enT4
  dsimp only [Tryz.f73]
  have herr : ∀ y w', enEnd x s = .error y → w.grownBy w' (some b) → R (flt y.1 y.2) w' := fun y w' hy hg => unhide HR _ _ (by rw [hy]; exact ⟨rfl, grown_sv (unhide Hgr) ((unhide HA).sv.trans (Sv.of hg (by have := (unhide HA).bx.lt; omega))) (by have := unhide Hlo; omega)⟩)
  have HErr := hide herr
  clear herr
  by_cases hz : L = 0
  · subst hz
    have HW := hide (wrong_any (unhide HA).rd)
    go_wp2_with fail
    refine (unhide HW).mono ?_
    rintro e w2 ⟨rfl, hb2⟩
    rw [← hQ]
    refine ⟨rfl, unhide HErr (wrongE s) w2 ?_ (below_grown b hb2)⟩
    unfold enEnd
    rw [if_pos (unhide HL)]
  · have hz2 : ((L : Int) == 0) = false := beq_eq_false_iff_ne.2 (by omega)
    have HC := hide (next_any (unhide HA).rd (here_pos (unhide HA).rd.grown (by rw [pisB_kind (unhide HEnd)]; decide)))
    have HEq : Hid (enEnd x s = match pnextF s with | .error e => .error e | .ok (_, s4) => .ok (x, s4)) := by
      show _ = _
      unfold enEnd
      rw [if_neg (by rw [unhide HL]; exact hz)]
    clear hz
    go_wp2_with fail
    refine (unhide HC).mono ?_
    intro e w2 hw
    rcases hw.split with ⟨y, hr, rfl, hg⟩ | ⟨_, s4, hr, rfl, h4, hg⟩
    · rw [← hQ]
      refine ⟨rfl, unhide HErr y w2 ?_ hg⟩
      rw [unhide HEq, hr]
    · have hap4 := (unhide HA).read (unhide HN) h4 hg
      obtain ⟨⟨d0, d1, d2, d3⟩, _⟩ := cells4 hap4.bx.blk
      obtain ⟨⟨y0, y1, y2, y3⟩, yf⟩ := cells4 (unhide HC2 _ _ hap4.nx).1
      have f0 := yf 0
      have f1 := yf 1
      have f2 := yf 2
      have f3 := yf 3
      obtain ⟨r1, r2⟩ := set4_block (unhide HC2 _ _ hap4.nx).1 (.string nm) (.slice va x.vals.length vc) (.slice ra x.res.length rc) (.slice ga x.gone.length gc)
      have hrow : ∀ (i : Nat) (sl : Slot), (ESl x (.slice va x.vals.length vc) (.slice ra x.res.length rc) (.slice ga x.gone.length gc))[i]? = some sl → RowR (fun k => W0.heap.size ≤ k) (set4 w2 p2 (.string nm) (.slice va x.vals.length vc) (.slice ra x.res.length rc) (.slice ga x.gone.length gc)) sl.t sl.sz sl.v sl.n sl.xs := fun i sl hi => by
        have h1 := hap4.bx.own i sl hi
        have h2 := unhide Hlo
        refine ⟨ownsRow_mono (World.ownsRow.kept h1 r2 ?_) (Nat.zero_le _), fun k hk => ?_⟩
        · right
          intro e
          have := (h1.lt p2 e).1
          omega
        · have := (h1.lt k hk).1
          omega
      have HE : Hid (R (.returned (.agg #[.string nm, .slice va x.vals.length vc, .slice ra x.res.length rc, .slice ga x.gone.length gc])) (set4 w2 p2 (.string nm) (.slice va x.vals.length vc) (.slice ra x.res.length rc) (.slice ga x.gone.length gc))) := by
        refine unhide HR _ _ ?_
        rw [unhide HEq, hr]
        refine ⟨_, rfl, ⟨_, rfl, ?_⟩, rd_new h4 r2 (by have := unhide Hlo; omega), grown_new (grown_sv (unhide Hgr) hap4.sv (by have := unhide Hlo; omega)) r2 (by have := unhide Hlo; omega)⟩
        have hn2 := unhide Hnm
        rw [← hn2] at hrow ⊢
        exact .cons (hrow 0 _ rfl) (hrow 1 _ rfl) (hrow 2 _ rfl) .nil
      have R1 := hide r1
      have c14 : w2.cell? ⟨p1, 0, none⟩ = some (.pointer (some ⟨b, 0, none⟩)) := by rw [cell_of_row _ _ _ _ _ _ (unhide HC1 _ _ hap4.nx).1]; rfl
      unfold set4 at HE R1
      clear hw hr h4 hg hap4 yf r1 r2 hrow HC HEq HErr c1 b0 b1 b2 b3
      go_wp2
      rw [← hQ]
      exact bodyPost_ret (results_cell_row rfl _ _ p2 66 #[.string nm, .slice va x.vals.length vc, .slice ra x.res.length rc, .slice ga x.gone.length gc] (0, 0) _ rfl (unhide R1) Tryz.underlying66 rfl sizeEn) rfl (unhide HE)
end Go.Proofs.YtdhncpeemcanlaaGreatDoor
