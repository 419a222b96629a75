import Derived.Test.YtdhncpeemcanlaaGreatDoorPbS

namespace Go.Proofs.YtdhncpeemcanlaaGreatDoor
open Go.RowKit
attribute [local go_sem ↓] Go.wp_at_zero Go.wp_at_succ

theorem gt_nn {d x : Fd} {s s' : PSt} (h : nnF d s = .ok (x, s')) : Gt s s' ∧ (s.en.kind = 5 → 0 < s.ts.length) := by
  unfold nnF at h
  split at h
  · cases h
  · rename_i n s1 h1
    split at h
    · cases h
    · rename_i m s2 h2
      simp only [Except.ok.injEq, Prod.mk.injEq] at h
      obtain ⟨_, rfl⟩ := h
      exact ⟨(gt_name h1).suf_r (gt_assigned h2).suf, pos_name h1⟩
theorem pos_dotted {da : Bool} {s s1 : PSt} {x : ByteArray} (h : dottedF da s = .ok (x, s1)) (he : s.en.kind = 5) : 0 < s.ts.length := by
  unfold dottedF at h
  split at h
  · cases h
  · rename_i d s2 h2
    unfold dtailF at h
    split at h
    · cases h
    · rename_i y s3 h3
      split at h2
      · rcases take_ok h2 with ⟨_, rfl⟩ | ⟨_, _, hk⟩
        · exact pos_name h3 he
        · exact here_pos he (by rw [hk]; decide)
      · simp only [Except.ok.injEq, Prod.mk.injEq] at h2
        rw [← h2.2] at h3
        exact pos_name h3 he
theorem gt_field {d x : Fd} {s s' : PSt} (h : fieldF d s = .ok (x, s')) : Gt s s' ∧ (s.en.kind = 5 → 0 < s.ts.length) := by
  unfold fieldF at h
  split at h
  · cases h
  · rename_i y s1 h1
    exact ⟨(suf_dotted h1).gt (gt_nn h).1, pos_dotted h1⟩
theorem gt_plain {o : Int} {x : Fd} {s s' : PSt} (h : plainF o s = .ok (x, s')) : Gt s s' ∧ (s.en.kind = 5 → 0 < s.ts.length) := gt_field (s := s.begun) h
theorem gt_labelled {c : Int} {x : Fd} {s s' : PSt} (h : labelledF c s = .ok (x, s')) : Gt s s' := by
  unfold labelledF at h
  split at h
  · cases h
  · rename_i u s1 h1
    split at h
    · cases h
    · exact (gt_next (s := s.begun) h1).suf_r (gt_field h).1.suf
theorem gt_map {x : Fd} {s s' : PSt} (h : mapOrFieldF s = .ok (x, s')) : Gt s s' := by
  unfold mapOrFieldF at h
  split at h
  · unfold mapF at h
    split at h
    · cases h
    · rename_i u s1 h1
      split at h
      · cases h
      · rename_i u2 s2 h2
        split at h
        · cases h
        · rename_i k s3 h3
          split at h
          · cases h
          · rename_i u4 s4 h4
            split at h
            · cases h
            · rename_i t s5 h5
              split at h
              · cases h
              · rename_i u6 s6 h6
                exact (((((gt_next (s := s.begun) h1).suf_r (suf_needSign h2)).suf_r (suf_dotted h3)).suf_r (suf_needSign h4)).suf_r (suf_dotted h5)).suf_r ((suf_needSign h6).trans (gt_nn h).1.suf)
  · exact (gt_plain h).1
/-- A message that is read. -/
structure Mp where
  name : ByteArray
  fs : List Fd
  os : List ByteArray
  ms : List Ms
  es : List En
  rs : List (Int × Int)
  gs : List ByteArray
def Mp.done (x : Mp) : Ms := .mk x.name x.fs x.os x.ms x.es x.rs x.gs
def fldR (x : Mp) : Except (Int × Int) (Fd × PSt) → Except (Int × Int) (Mp × PSt)
  | .error e => .error e
  | .ok (d, s') => .ok ({ x with fs := x.fs ++ [d] }, s')
noncomputable def oneO : Stp Mp := fun x s => fldR x (plainF (x.os.length : Int) s)
noncomputable def msO : Stp Mp := fun x s => fldR x (plainF 0 s)
noncomputable def msL (c : Int) : Stp Mp := fun x s => fldR x (labelledF c s)
noncomputable def msMap : Stp Mp := fun x s => fldR x (mapOrFieldF s)
def enmR (x : Mp) : Except (Int × Int) (En × PSt) → Except (Int × Int) (Mp × PSt)
  | .error e => .error e
  | .ok (d, s') => .ok ({ x with es := x.es ++ [d] }, s')
def msgR (x : Mp) : Except (Int × Int) (Ms × PSt) → Except (Int × Int) (Mp × PSt)
  | .error e => .error e
  | .ok (d, s') => .ok ({ x with ms := x.ms ++ [d] }, s')
noncomputable def msE : Stp Mp := fun x s => enmR x (enumF s)
def msM (mf : PSt → Except (Int × Int) (Ms × PSt)) : Stp Mp := fun x s => msgR x (mf s)
noncomputable def msR : Stp Mp := fun x s => match resF 1 536870911 false x.rs x.gs s with
  | .error e => .error e
  | .ok (l, s') => .ok ({ x with rs := l.1, gs := l.2 }, s')
def choW : ByteArray → Option (Stp Mp) := fun k => if (k == ⟨#[111, 112, 116, 105, 111, 110]⟩) = true then some refuseF else if (k == ⟨#[103, 114, 111, 117, 112]⟩) = true then some refuseF else if (k == ⟨#[111, 112, 116, 105, 111, 110, 97, 108]⟩) = true then some refuseF else if (k == ⟨#[114, 101, 112, 101, 97, 116, 101, 100]⟩) = true then some refuseF else if (k == ⟨#[114, 101, 113, 117, 105, 114, 101, 100]⟩) = true then some refuseF else if (k == ⟨#[111, 110, 101, 111, 102]⟩) = true then some refuseF else if (k == ⟨#[109, 101, 115, 115, 97, 103, 101]⟩) = true then some refuseF else if (k == ⟨#[101, 110, 117, 109]⟩) = true then some refuseF else if (k == ⟨#[114, 101, 115, 101, 114, 118, 101, 100]⟩) = true then some refuseF else none
def oneEnd (k : Nat) (x : Mp) (s : PSt) : Except (Int × Int) (Mp × PSt) := if x.fs.length = k then .error (wrongE s) else match pnextF s with
  | .error e => .error e
  | .ok (_, s') => .ok (x, s')
noncomputable def oneBody (k : Nat) (x : Mp) (s : PSt) : Except (Int × Int) (Mp × PSt) := match bodyF (stmtF choW oneO) x s with
  | .error e => .error e
  | .ok (x2, s2) => oneEnd k x2 s2
noncomputable def oneofF : Stp Mp := fun x s => match pnextF s.begun with
  | .error e => .error e
  | .ok (_, s1) => match pnameF s1 with
    | .error e => .error e
    | .ok (nm, s2) => oneBody x.fs.length { x with os := x.os ++ [nm] } s2
noncomputable def msW (mf : PSt → Except (Int × Int) (Ms × PSt)) : ByteArray → Option (Stp Mp) := fun k => if (k == ⟨#[109, 101, 115, 115, 97, 103, 101]⟩) = true then some (msM mf) else if (k == ⟨#[101, 110, 117, 109]⟩) = true then some msE else if (k == ⟨#[111, 110, 101, 111, 102]⟩) = true then some oneofF else if (k == ⟨#[114, 101, 115, 101, 114, 118, 101, 100]⟩) = true then some msR else if (k == ⟨#[111, 112, 116, 105, 111, 110, 97, 108]⟩) = true then some (msL 2) else if (k == ⟨#[114, 101, 112, 101, 97, 116, 101, 100]⟩) = true then some (msL 3) else if (k == ⟨#[109, 97, 112]⟩) = true then some msMap else if (k == ⟨#[111, 112, 116, 105, 111, 110]⟩) = true then some refuseF else if (k == ⟨#[101, 120, 116, 101, 110, 100]⟩) = true then some refuseF else if (k == ⟨#[101, 120, 116, 101, 110, 115, 105, 111, 110, 115]⟩) = true then some refuseF else if (k == ⟨#[103, 114, 111, 117, 112]⟩) = true then some refuseF else if (k == ⟨#[114, 101, 113, 117, 105, 114, 101, 100]⟩) = true then some refuseF else none
def PSt.up1 (s : PSt) : PSt := { s with op := s.op + 1 }
def PSt.down1 (s : PSt) : PSt := { s with op := s.op - 1 }
def msEnd (x : Mp) (s : PSt) : Except (Int × Int) (Ms × PSt) := match pnextF s with
  | .error e => .error e
  | .ok (_, s') => .ok (x.done, s'.down1)
noncomputable def msBody (mf : PSt → Except (Int × Int) (Ms × PSt)) (nm : ByteArray) (s : PSt) : Except (Int × Int) (Ms × PSt) := match bodyF (stmtF (msW mf) msO) ⟨nm, [], [], [], [], [], []⟩ s.up1 with
  | .error e => .error e
  | .ok (x, s3) => msEnd x s3
noncomputable def messageF : Nat → PSt → Except (Int × Int) (Ms × PSt)
  | 0, _ => .error (0, 0)
  | n + 1, s => if s.op = 32 then .error (53, s.here.spot) else match pnextF s.begun with
    | .error e => .error e
    | .ok (_, s1) => match pnameF s1 with
      | .error e => .error e
      | .ok (nm, s2) => msBody (messageF n) nm s2
theorem fldR_gt {x x' : Mp} {s s' : PSt} {r : Except (Int × Int) (Fd × PSt)} (h : fldR x r = .ok (x', s')) (hg : ∀ d s1, r = .ok (d, s1) → Gt s s1) : Gt s s' := by
  cases r with
  | error e => cases h
  | ok y =>
    simp only [fldR, Except.ok.injEq, Prod.mk.injEq] at h
    obtain ⟨_, rfl⟩ := h
    exact hg _ _ rfl
theorem fldR_pos {x x' : Mp} {s s' : PSt} {o : Int} (h : fldR x (plainF o s) = .ok (x', s')) : Gt s s' ∧ (s.en.kind = 5 → 0 < s.ts.length) := by
  cases hr : plainF o s with
  | error e => rw [hr] at h; cases h
  | ok y =>
    rw [hr] at h
    simp only [fldR, Except.ok.injEq, Prod.mk.injEq] at h
    obtain ⟨_, rfl⟩ := h
    exact gt_plain hr
theorem choW_gt (k : ByteArray) (f : Stp Mp) (hf : choW k = some f) (x : Mp) (s : PSt) (x' : Mp) (s' : PSt) (h : f x s = .ok (x', s')) : Gt s s' := by
  unfold choW at hf
  by_cases q0 : (k == ⟨#[111, 112, 116, 105, 111, 110]⟩) = true
  · rw [if_pos q0] at hf
    obtain rfl := Option.some.inj hf
    cases h
  rw [if_neg q0] at hf
  by_cases q1 : (k == ⟨#[103, 114, 111, 117, 112]⟩) = true
  · rw [if_pos q1] at hf
    obtain rfl := Option.some.inj hf
    cases h
  rw [if_neg q1] at hf
  by_cases q2 : (k == ⟨#[111, 112, 116, 105, 111, 110, 97, 108]⟩) = true
  · rw [if_pos q2] at hf
    obtain rfl := Option.some.inj hf
    cases h
  rw [if_neg q2] at hf
  by_cases q3 : (k == ⟨#[114, 101, 112, 101, 97, 116, 101, 100]⟩) = true
  · rw [if_pos q3] at hf
    obtain rfl := Option.some.inj hf
    cases h
  rw [if_neg q3] at hf
  by_cases q4 : (k == ⟨#[114, 101, 113, 117, 105, 114, 101, 100]⟩) = true
  · rw [if_pos q4] at hf
    obtain rfl := Option.some.inj hf
    cases h
  rw [if_neg q4] at hf
  by_cases q5 : (k == ⟨#[111, 110, 101, 111, 102]⟩) = true
  · rw [if_pos q5] at hf
    obtain rfl := Option.some.inj hf
    cases h
  rw [if_neg q5] at hf
  by_cases q6 : (k == ⟨#[109, 101, 115, 115, 97, 103, 101]⟩) = true
  · rw [if_pos q6] at hf
    obtain rfl := Option.some.inj hf
    cases h
  rw [if_neg q6] at hf
  by_cases q7 : (k == ⟨#[101, 110, 117, 109]⟩) = true
  · rw [if_pos q7] at hf
    obtain rfl := Option.some.inj hf
    cases h
  rw [if_neg q7] at hf
  by_cases q8 : (k == ⟨#[114, 101, 115, 101, 114, 118, 101, 100]⟩) = true
  · rw [if_pos q8] at hf
    obtain rfl := Option.some.inj hf
    cases h
  rw [if_neg q8] at hf
  cases hf
theorem oneof_gt (x : Mp) (s : PSt) (x' : Mp) (s' : PSt) (h : oneofF x s = .ok (x', s')) : Gt s s' := by
  unfold oneofF at h
  split at h
  · cases h
  · rename_i u s1 h1
    split at h
    · cases h
    · rename_i nm s2 h2
      unfold oneBody at h
      split at h
      · cases h
      · rename_i x3 s3 h3
        unfold oneEnd at h
        split at h
        · cases h
        · split at h
          · cases h
          · rename_i u4 s4 h4
            simp only [Except.ok.injEq, Prod.mk.injEq] at h
            obtain ⟨_, rfl⟩ := h
            exact (((gt_next (s := s.begun) h1).suf_r (gt_name h2).suf).suf_r (suf_body (fun x s x' s' h => (gt_stmt choW_gt (fun x s x' s' h => fldR_pos h) h).1.suf) h3).1).suf_r (gt_next h4).suf
theorem msW_gt (mf : PSt → Except (Int × Int) (Ms × PSt)) (hmf : ∀ s m s', mf s = .ok (m, s') → Gt s s') (k : ByteArray) (f : Stp Mp) (hf : msW mf k = some f) (x : Mp) (s : PSt) (x' : Mp) (s' : PSt) (h : f x s = .ok (x', s')) : Gt s s' := by
  unfold msW at hf
  by_cases q0 : (k == ⟨#[109, 101, 115, 115, 97, 103, 101]⟩) = true
  · rw [if_pos q0] at hf
    obtain rfl := Option.some.inj hf
    unfold msM at h
    cases hr : mf s with
    | error e => rw [hr] at h; cases h
    | ok y =>
      rw [hr] at h
      simp only [msgR, Except.ok.injEq, Prod.mk.injEq] at h
      obtain ⟨_, rfl⟩ := h
      exact hmf _ _ _ hr
  rw [if_neg q0] at hf
  by_cases q1 : (k == ⟨#[101, 110, 117, 109]⟩) = true
  · rw [if_pos q1] at hf
    obtain rfl := Option.some.inj hf
    unfold msE at h
    cases hr : enumF s with
    | error e => rw [hr] at h; cases h
    | ok y =>
      rw [hr] at h
      simp only [enmR, Except.ok.injEq, Prod.mk.injEq] at h
      obtain ⟨_, rfl⟩ := h
      exact gt_enum hr
  rw [if_neg q1] at hf
  by_cases q2 : (k == ⟨#[111, 110, 101, 111, 102]⟩) = true
  · rw [if_pos q2] at hf
    obtain rfl := Option.some.inj hf
    exact oneof_gt _ _ _ _ h
  rw [if_neg q2] at hf
  by_cases q3 : (k == ⟨#[114, 101, 115, 101, 114, 118, 101, 100]⟩) = true
  · rw [if_pos q3] at hf
    obtain rfl := Option.some.inj hf
    unfold msR at h
    split at h
    · cases h
    · rename_i d s1 h1
      simp only [Except.ok.injEq, Prod.mk.injEq] at h
      obtain ⟨_, rfl⟩ := h
      exact gt_res h1
  rw [if_neg q3] at hf
  by_cases q4 : (k == ⟨#[111, 112, 116, 105, 111, 110, 97, 108]⟩) = true
  · rw [if_pos q4] at hf
    obtain rfl := Option.some.inj hf
    exact fldR_gt h (fun d s1 hr => gt_labelled hr)
  rw [if_neg q4] at hf
  by_cases q5 : (k == ⟨#[114, 101, 112, 101, 97, 116, 101, 100]⟩) = true
  · rw [if_pos q5] at hf
    obtain rfl := Option.some.inj hf
    exact fldR_gt h (fun d s1 hr => gt_labelled hr)
  rw [if_neg q5] at hf
  by_cases q6 : (k == ⟨#[109, 97, 112]⟩) = true
  · rw [if_pos q6] at hf
    obtain rfl := Option.some.inj hf
    exact fldR_gt h (fun d s1 hr => gt_map hr)
  rw [if_neg q6] at hf
  by_cases q7 : (k == ⟨#[111, 112, 116, 105, 111, 110]⟩) = true
  · rw [if_pos q7] at hf
    obtain rfl := Option.some.inj hf
    cases h
  rw [if_neg q7] at hf
  by_cases q8 : (k == ⟨#[101, 120, 116, 101, 110, 100]⟩) = true
  · rw [if_pos q8] at hf
    obtain rfl := Option.some.inj hf
    cases h
  rw [if_neg q8] at hf
  by_cases q9 : (k == ⟨#[101, 120, 116, 101, 110, 115, 105, 111, 110, 115]⟩) = true
  · rw [if_pos q9] at hf
    obtain rfl := Option.some.inj hf
    cases h
  rw [if_neg q9] at hf
  by_cases q10 : (k == ⟨#[103, 114, 111, 117, 112]⟩) = true
  · rw [if_pos q10] at hf
    obtain rfl := Option.some.inj hf
    cases h
  rw [if_neg q10] at hf
  by_cases q11 : (k == ⟨#[114, 101, 113, 117, 105, 114, 101, 100]⟩) = true
  · rw [if_pos q11] at hf
    obtain rfl := Option.some.inj hf
    cases h
  rw [if_neg q11] at hf
  cases hf
theorem msg_gt : ∀ (n : Nat) (s : PSt) (m : Ms) (s' : PSt), messageF n s = .ok (m, s') → Gt s s'
  | 0, s, m, s', h => by cases h
  | n + 1, s, m, s', h => by
    unfold messageF at h
    split at h
    · cases h
    · split at h
      · cases h
      · rename_i u s1 h1
        split at h
        · cases h
        · rename_i nm s2 h2
          unfold msBody at h
          split at h
          · cases h
          · rename_i x s3 h3
            unfold msEnd at h
            split at h
            · cases h
            · rename_i u4 s4 h4
              simp only [Except.ok.injEq, Prod.mk.injEq] at h
              obtain ⟨_, rfl⟩ := h
              obtain ⟨k1, a1, b1, c1⟩ := (gt_next (s := s.begun) h1).suf_r (gt_name h2).suf
              obtain ⟨k2, a2, b2, c2⟩ := (suf_body (fun x s x' s' h => (gt_stmt (msW_gt _ (msg_gt n)) (fun x s x' s' h => fldR_pos h) h).1.suf) h3).1.trans (gt_next h4).suf
              refine ⟨k1 + k2, ?_, ?_, ?_⟩
              · show s4.ts = _
                rw [a2]
                show s2.ts.drop k2 = _
                rw [a1, List.drop_drop]
                congr 1
                omega
              · show s4.op - 1 = s.op
                rw [b2]
                show s2.op + 1 - 1 = s.op
                rw [b1]
                rfl
              · show s4.en = s.en
                rw [c2]
                exact c1
def MSl (x : Mp) (vf vo vm ve vr vg : Value) (cm ce : List Value) : List Slot := [⟨47, 6, vf, x.fs.length, fldC x.fs⟩, ⟨9, 1, vo, x.os.length, strC x.os⟩, ⟨51, 7, vm, x.ms.length, cm⟩, ⟨66, 4, ve, x.es.length, ce⟩, ⟨84, 2, vr, x.rs.length, rgC x.rs⟩, ⟨9, 1, vg, x.gs.length, strC x.gs⟩]
def MsN (g : Nat) (N : (Nat → Prop) → World → Prop) (x : Mp) (cm ce : List Value) (P : Nat → Prop) (w : World) : Prop := N P w ∧ HasMs (fun k => P k ∧ g ≤ k) w cm x.ms ∧ HasEs (fun k => P k ∧ g ≤ k) w ce x.es
theorem MsN.st {g : Nat} {N : (Nat → Prop) → World → Prop} (hN : Stable N) (x : Mp) (cm ce : List Value) : Stable (MsN g N x cm ce) := hN.and (Stable.and (fun _ _ _ _ hg h => stable_ms _ _ _ _ _ _ (hg.low g) h) (fun _ _ _ _ hg h => stable_es _ _ _ _ _ _ (hg.low g) h))
def MsK (K op : Nat) (x : Mp) (s : PSt) : Prop := (x.fs.length + s.ts.length ≤ 20000 ∧ x.os.length + s.ts.length ≤ 20000 ∧ x.ms.length + s.ts.length ≤ 20000 ∧ x.es.length + s.ts.length ≤ 20000 ∧ x.rs.length + s.ts.length ≤ 20000 ∧ x.gs.length + s.ts.length ≤ 20000) ∧ Sm s ∧ s.ts.length ≤ K ∧ s.op = op
/-- A message that is read, in memory. -/
def MsI (lo b g K op : Nat) (nm : ByteArray) (N : (Nat → Prop) → World → Prop) (V W : World) (x : Mp) (s : PSt) (w : World) : Prop := x.name = nm ∧ (∃ vf vo vm ve vr vg cm ce, Ap lo b g 51 nm (MSl x vf vo vm ve vr vg cm ce) (MsN g N x cm ce) V W s w) ∧ MsK K op x s
theorem MsK.step {K op : Nat} {x : Mp} {s s' : PSt} (h : MsK K op x s) (hs : Suf s s') : MsK K op x s' := by
  obtain ⟨⟨l1, l2, l3, l4, l5, l6⟩, hsm, hn, hop⟩ := h
  have := hs.len
  exact ⟨⟨by omega, by omega, by omega, by omega, by omega, by omega⟩, hs.sm hsm, by omega, hs.op.trans hop⟩
theorem MsI.step {lo b g K op : Nat} {nm : ByteArray} {N : (Nat → Prop) → World → Prop} {V W w w' : World} {x : Mp} {s s' : PSt} (h : MsI lo b g K op nm N V W x s w) (hN : Stable N) (hr : Rd lo w' b s') (hg : w.grownBy w' (some b)) (hs : Suf s s') : MsI lo b g K op nm N V W x s' w' := by
  obtain ⟨h0, ⟨vf, vo, vm, ve, vr, vg, cm, ce, hap⟩, hk⟩ := h
  exact ⟨h0, ⟨vf, vo, vm, ve, vr, vg, cm, ce, hap.read (MsN.st hN _ _ _) hr hg⟩, hk.step hs⟩
theorem MsI.er {lo b g K op : Nat} {nm : ByteArray} {N : (Nat → Prop) → World → Prop} {V W w w' : World} {x : Mp} {s : PSt} (h : MsI lo b g K op nm N V W x s w) (hg : w.grownBy w' (some b)) : Sv g b W w' := by
  obtain ⟨_, ⟨vf, vo, vm, ve, vr, vg, cm, ce, hap⟩, _⟩ := h
  exact hap.sv.trans (Sv.of hg (by have := hap.bx.lt; omega))
theorem MsI.rd {lo b g K op : Nat} {nm : ByteArray} {N : (Nat → Prop) → World → Prop} {V W w : World} {x : Mp} {s : PSt} (h : MsI lo b g K op nm N V W x s w) : Rd lo w b s := by
  obtain ⟨_, ⟨vf, vo, vm, ve, vr, vg, cm, ce, hap⟩, _⟩ := h
  exact hap.rd
section
variable {lo b g K op : Nat} {nm : ByteArray} {N : (Nat → Prop) → World → Prop} {V W w : World} {x : Mp} {s : PSt} {vf vo vm ve vr vg : Value} {cm ce : List Value} {e : Ending}
/-- One field more. -/
theorem ms_fld {r : Except (Int × Int) (Fd × PSt)} (hnm : x.name = nm) (hk : MsK K op x s) (hp : 0 < s.ts.length ∨ ∀ d s', r = .ok (d, s') → 0 < s.ts.length) (hg : ∀ d s', r = .ok (d, s') → Gt s s') (h : CP lo b g 51 nm (MSl x vf vo vm ve vr vg cm ce) (MsN g N x cm ce) V W 0 ⟨47, 6, vf, x.fs.length, fldC x.fs⟩ r (fun a x _ _ => x = a.val) e w) : IP (MsI lo b g K op nm N V W) (Sv g b W) (fldR x r) e w := by
  rcases CP.plain fldC_one h with ⟨y, hr, rfl, hs⟩ | ⟨a, s', y, hr, rfl, h2⟩
  · rw [hr]
    exact ⟨rfl, hs⟩
  · have h3 := hg a s' hr
    have h4 := h3.lt (hp.elim id (fun h => h a s' hr))
    rw [hr]
    obtain ⟨⟨l1, l2, l3, l4, l5, l6⟩, hsm, hn, hop⟩ := hk
    exact ⟨rfl, hnm, ⟨y, vo, vm, ve, vr, vg, cm, ce, h2⟩, ⟨⟨by simp only [List.length_append, List.length_singleton]; omega, by simp only; omega, by simp only; omega, by simp only; omega, by simp only; omega, by simp only; omega⟩, h3.suf.sm hsm, by omega, h3.suf.op.trans hop⟩⟩
theorem ms_enum {r : Except (Int × Int) (En × PSt)} (hnm : x.name = nm) (hk : MsK K op x s) (hp : 0 < s.ts.length) (hg : ∀ d s', r = .ok (d, s') → Gt s s') (h : CP lo b g 51 nm (MSl x vf vo vm ve vr vg cm ce) (MsN g N x cm ce) V W 3 ⟨66, 4, ve, x.es.length, ce⟩ r (NEL g) e w) : IP (MsI lo b g K op nm N V W) (Sv g b W) (enmR x r) e w := by
  unfold CP at h
  cases hr : r with
  | error y =>
    rw [hr] at h
    exact h
  | ok z =>
    rw [hr] at h
    obtain ⟨he, v, y, hap⟩ := h
    have h3 := hg z.1 z.2 hr
    have h4 := h3.lt hp
    obtain ⟨⟨l1, l2, l3, l4, l5, l6⟩, hsm, hn, hop⟩ := hk
    refine ⟨he, hnm, ⟨vf, vo, vm, y, vr, vg, cm, ce ++ v.cells.toList, ?_⟩, ⟨⟨by simp only; omega, by simp only; omega, by simp only; omega, by simp only [List.length_append, List.length_singleton]; omega, by simp only; omega, by simp only; omega⟩, h3.suf.sm hsm, by omega, h3.suf.op.trans hop⟩⟩
    have h5 := hap.imp (N' := MsN g N { x with es := x.es ++ [z.1] } cm (ce ++ v.cells.toList)) (fun hh => by
      obtain ⟨⟨q1, q2, q3⟩, cs, e1, q4⟩ := hh
      have e2 : cs.toList = v.cells.toList := by rw [e1]; rfl
      have h9 := q3.app q4
      rw [e2] at h9
      exact ⟨q1, q2, h9⟩)
    unfold MSl
    simp only [List.length_append, List.length_singleton]
    exact h5
theorem ms_msg {r : Except (Int × Int) (Ms × PSt)} (hnm : x.name = nm) (hk : MsK K op x s) (hp : 0 < s.ts.length) (hg : ∀ d s', r = .ok (d, s') → Gt s s') (h : CP lo b g 51 nm (MSl x vf vo vm ve vr vg cm ce) (MsN g N x cm ce) V W 2 ⟨51, 7, vm, x.ms.length, cm⟩ r (NML g) e w) : IP (MsI lo b g K op nm N V W) (Sv g b W) (msgR x r) e w := by
  unfold CP at h
  cases hr : r with
  | error y =>
    rw [hr] at h
    exact h
  | ok z =>
    rw [hr] at h
    obtain ⟨he, v, y, hap⟩ := h
    have h3 := hg z.1 z.2 hr
    have h4 := h3.lt hp
    obtain ⟨⟨l1, l2, l3, l4, l5, l6⟩, hsm, hn, hop⟩ := hk
    refine ⟨he, hnm, ⟨vf, vo, y, ve, vr, vg, cm ++ v.cells.toList, ce, ?_⟩, ⟨⟨by simp only; omega, by simp only; omega, by simp only [List.length_append, List.length_singleton]; omega, by simp only; omega, by simp only; omega, by simp only; omega⟩, h3.suf.sm hsm, by omega, h3.suf.op.trans hop⟩⟩
    have h5 := hap.imp (N' := MsN g N { x with ms := x.ms ++ [z.1] } (cm ++ v.cells.toList) ce) (fun hh => by
      obtain ⟨⟨q1, q2, q3⟩, cs, e1, q4⟩ := hh
      have e2 : cs.toList = v.cells.toList := by rw [e1]; rfl
      have h9 := q2.app q4
      rw [e2] at h9
      exact ⟨q1, h9, q3⟩)
    unfold MSl
    simp only [List.length_append, List.length_singleton]
    exact h5
theorem ms_res (hnm : x.name = nm) (hk : MsK K op x s) (h : ResP lo b g 51 nm (MSl x vf vo vm ve vr vg cm ce) (MsN g N x cm ce) V W 4 5 (resF 1 536870911 false x.rs x.gs s) e w) : IP (MsI lo b g K op nm N V W) (Sv g b W) (msR x s) e w := by
  unfold ResP at h
  unfold msR
  cases hq : resF 1 536870911 false x.rs x.gs s with
  | error y =>
    rw [hq] at h
    exact h
  | ok y =>
    rw [hq] at h
    obtain ⟨he, ⟨v1, v2, hap2⟩, k1, k2, k3⟩ := h
    have h3 := gt_res hq
    have hlt := h3.suf.len
    obtain ⟨⟨l1, l2, l3, l4, l5, l6⟩, hsm, hn, hop⟩ := hk
    exact ⟨he, hnm, ⟨vf, vo, vm, ve, v1, v2, cm, ce, hap2⟩, ⟨⟨by simp only; omega, by simp only; omega, by simp only; omega, by simp only; omega, k1, k2⟩, k3, by omega, h3.suf.op.trans hop⟩⟩
end
end Go.Proofs.YtdhncpeemcanlaaGreatDoor
