import Derived.Test.YtdhncpeemcanlaaGreatDoorPbG
import Derived.Test.YtdhncpeemcanlaaGreatDoorPbA

namespace Go.Proofs.YtdhncpeemcanlaaGreatDoor
open Go.RowKit
attribute [local go_sem ↓] Go.wp_at_zero Go.wp_at_succ

theorem CP.plain {α : Type} {lo b g i : Nat} {T t : TypeId} {sz : Nat} {nm : ByteArray} {ss : List Slot} {N : (Nat → Prop) → World → Prop} {V W w : World} {r : Except (Int × Int) (α × PSt)} {ret : α → Value} {C : List α → List Value} {acc : List α} {v : Value} {e : Ending} (hC : ∀ acc a, C acc ++ (ret a).cells.toList = C (acc ++ [a])) (h : CP lo b g T nm ss N V W i ⟨t, sz, v, acc.length, C acc⟩ r (fun a x _ _ => x = ret a) e w) :
    (∃ y, r = .error y ∧ e = flt y.1 y.2 ∧ Sv g b W w) ∨ ∃ a s' y, r = .ok (a, s') ∧ e = .returned (.tuple #[]) ∧ Ap lo b g T nm (ss.set i ⟨t, sz, y, (acc ++ [a]).length, C (acc ++ [a])⟩) N V W s' w := by
  unfold CP at h
  cases r with
  | error y => exact .inl ⟨y, rfl, h⟩
  | ok y =>
    obtain ⟨he, x, y', hap⟩ := h
    obtain rfl := hap.nx.2
    refine .inr ⟨y.1, y.2, y', rfl, he, ?_⟩
    rw [← hC, List.length_append, List.length_singleton]
    exact hap.imp (fun h => h.1)
theorem rgC_one (acc : List (Int × Int)) (a : Int × Int) : rgC acc ++ (rgV a).cells.toList = rgC (acc ++ [a]) := by rw [rgC_app]; rfl
theorem strC_one (acc : List ByteArray) (a : ByteArray) : strC acc ++ (Value.string a).cells.toList = strC (acc ++ [a]) := by rw [strC_app]; rfl
theorem fldC_one (acc : List Fd) (a : Fd) : fldC acc ++ a.val.cells.toList = fldC (acc ++ [a]) := by rw [fldC_app]; simp [fldC, Fd.val, Value.cells]
theorem evC_one (acc : List (ByteArray × Int)) (a : ByteArray × Int) : evC acc ++ (evV a).cells.toList = evC (acc ++ [a]) := by rw [evC_app]; rfl
def rowsLF {α : Type} (one : PSt → Except (Int × Int) (α × PSt)) : Nat → List α → PSt → Except (Int × Int) (List α × PSt)
  | 0, _, _ => .error (0, 0)
  | n + 1, acc, s => match ptakeF 4 ⟨#[44]⟩ s with
    | .error e => .error e
    | .ok (false, s1) => .ok (acc, s1)
    | .ok (true, s1) => match one s1 with
      | .error e => .error e
      | .ok (a, s2) => rowsLF one n (acc ++ [a]) s2
def manyF {α : Type} (one : PSt → Except (Int × Int) (α × PSt)) (acc : List α) (s : PSt) : Except (Int × Int) (List α × PSt) := match one s with
  | .error e => .error e
  | .ok (a, s1) => match rowsLF one (s1.ts.length + 1) (acc ++ [a]) s1 with
    | .error e => .error e
    | .ok (l, s2) => match pneedSignF ⟨#[59]⟩ s2 with
      | .error e => .error e
      | .ok (_, s3) => .ok (l, s3)
noncomputable def resF (bl bh : Int) (bm : Bool) (rs : List (Int × Int)) (gs : List ByteArray) (s : PSt) : Except (Int × Int) ((List (Int × Int) × List ByteArray) × PSt) := match pnextF s with
  | .error e => .error e
  | .ok (_, s1) => if s1.here.kind = 3 then (match manyF goneF gs s1 with
      | .error e => .error e
      | .ok (l, s2) => .ok ((rs, l), s2)) else match manyF (rowF bl bh bm) rs s1 with
      | .error e => .error e
      | .ok (l, s2) => .ok ((l, gs), s2)
/-- Further on by a token at least. -/
def Gt (s s1 : PSt) : Prop := ∃ k, s1.ts = s.ts.drop (k + 1) ∧ s1.op = s.op ∧ s1.en = s.en
theorem Gt.suf {s s1 : PSt} (h : Gt s s1) : Suf s s1 := by
  obtain ⟨k, h⟩ := h
  exact ⟨k + 1, h⟩
theorem Gt.lt {s s1 : PSt} (h : Gt s s1) (hp : 0 < s.ts.length) : s1.ts.length < s.ts.length := by
  obtain ⟨k, h, _⟩ := h
  rw [h, List.length_drop]
  omega
theorem Gt.tail {s s1 : PSt} (h : s1.ts = s.ts.tail) (ho : s1.op = s.op ∧ s1.en = s.en) : Gt s s1 := ⟨0, by rw [h, List.drop_one], ho⟩
theorem Gt.suf_r {a b c : PSt} (h : Gt a b) (k : Suf b c) : Gt a c := by
  obtain ⟨m, h⟩ := h
  obtain ⟨n, k⟩ := k
  exact ⟨m + n, by rw [k.1, h.1, List.drop_drop]; congr 1; omega, k.2.1.trans h.2.1, k.2.2.trans h.2.2⟩
theorem Suf.gt {a b c : PSt} (h : Suf a b) (k : Gt b c) : Gt a c := by
  obtain ⟨m, h⟩ := h
  obtain ⟨n, k⟩ := k
  exact ⟨m + n, by rw [k.1, h.1, List.drop_drop]; congr 1, k.2.1.trans h.2.1, k.2.2.trans h.2.2⟩
theorem gt_next {s s1 : PSt} {u : Unit} (h : pnextF s = .ok (u, s1)) : Gt s s1 := .tail (next_ok h) (next_op h)
theorem gt_name {s s1 : PSt} {x : ByteArray} (h : pnameF s = .ok (x, s1)) : Gt s s1 := .tail (name_ok h).1 (name_op h)
theorem gt_meaning {ff : ByteArray → Int} {s s1 : PSt} {x : ByteArray} (h : meaningF ff s = .ok (x, s1)) : Gt s s1 ∧ s.here.kind = 3 := by
  unfold meaningF at h
  split at h
  · rename_i hk
    split at h
    · split at h
      · cases hn : pnextF s with
        | error e => rw [hn] at h; cases h
        | ok y =>
          rw [hn] at h
          simp only [Except.ok.injEq, Prod.mk.injEq] at h
          obtain ⟨_, rfl⟩ := h
          exact ⟨gt_next (s := s) (u := y.1) (s1 := y.2) hn, hk⟩
      · cases h
    · cases h
  · cases h
theorem gt_number {lo hi : Int} {mi : Bool} {s s1 : PSt} {n : Int} (h : numberF lo hi mi s = .ok (n, s1)) : Gt s s1 := by
  have key : ∀ m s0, tailF lo hi m s0 = .ok (n, s1) → Gt s0 s1 := by
    intro m s0 h
    unfold tailF at h
    repeat' (split at h <;> try cases h)
    all_goals (try (rename_i hn; exact gt_next hn))
  unfold numberF at h
  split at h
  · cases h
  · rename_i m s0 hm
    have h1 := key _ _ h
    have h2 : Suf s s0 := by
      split at hm
      · exact suf_take hm
      · simp only [Except.ok.injEq, Prod.mk.injEq] at hm
        rw [hm.2]
        exact .refl _
    exact h2.gt h1
theorem gt_row {lo hi : Int} {mi : Bool} {s s1 : PSt} {p : Int × Int} (h : rowF lo hi mi s = .ok (p, s1)) : Gt s s1 := by
  unfold rowF at h
  split at h
  · cases h
  · rename_i n s2 hn
    have h1 : Gt s s2 := gt_number (s := s.begun) hn
    split at h
    · cases h
    · rename_i s3 h3
      simp only [Except.ok.injEq, Prod.mk.injEq] at h
      obtain ⟨_, rfl⟩ := h
      exact h1.suf_r (suf_take h3)
    · rename_i s3 h3
      split at h
      · cases h
      · rename_i s4 h4
        simp only [Except.ok.injEq, Prod.mk.injEq] at h
        obtain ⟨_, rfl⟩ := h
        exact (h1.suf_r (suf_take h3)).suf_r (suf_take h4)
      · rename_i s4 h4
        split at h
        · cases h
        · rename_i m s5 h5
          simp only [Except.ok.injEq, Prod.mk.injEq] at h
          obtain ⟨_, rfl⟩ := h
          exact ((h1.suf_r (suf_take h3)).suf_r (suf_take h4)).suf_r (gt_number h5).suf
theorem gt_gone {s s1 : PSt} {x : ByteArray} (h : goneF s = .ok (x, s1)) : Gt s s1 := (gt_meaning (s := s.begun) h).1
set_option maxRecDepth 100000 in
theorem frame25 {tm : Array Value} (h : tm.size = 25) : ∃ u : Nat → Value, tm = #[u 0, u 1, u 2, u 3, u 4, u 5, u 6, u 7, u 8, u 9, u 10, u 11, u 12, u 13, u 14, u 15, u 16, u 17, u 18, u 19, u 20, u 21, u 22, u 23, u 24] := by
  refine ⟨fun i => tm.getD i undef, ?_⟩
  have e : tm = ((List.range 25).map fun i => tm.getD i undef).toArray := by
    apply Array.ext
    · simp [h]
    · intro i h1 h2
      simp [Array.getD, h1]
  exact e.trans rfl
noncomputable def rsTail : Code := match Tryz.f112.body with
  | some (.seq _ (.seq _ (.seq _ (.seq _ t)))) => t
  | _ => .skip
noncomputable def rsWith (t : Code) : Code := match Tryz.f112.body with
  | some (.seq a (.seq b (.seq c (.seq d _)))) => .seq a (.seq b (.seq c (.seq d t)))
  | _ => .skip
theorem rs_split : Tryz.f112.body = some (rsWith rsTail) := rfl
section
variable {α : Type} {lo b g i : Nat} {T t : TypeId} {sz : Nat} {nm : ByteArray} {ss : List Slot} {N : (Nat → Prop) → World → Prop} {V W : World} {p4 : Nat} {cv : Value} {C : List α → List Value} {one : PSt → Except (Int × Int) (α × PSt)}
/-- What lies beside the reader while rows are read. -/
def Rs (lo b g : Nat) (T : TypeId) (nm : ByteArray) (ss : List Slot) (N : (Nat → Prop) → World → Prop) (V W : World) (i : Nat) (t : TypeId) (sz : Nat) (C : List α → List Value) (acc : List α) (s : PSt) (w : World) : Prop := (∃ v, Ap lo b g T nm (ss.set i ⟨t, sz, v, acc.length, C acc⟩) N V W s w) ∧ acc.length + s.ts.length ≤ 20000 ∧ Sm s
def OneOk (lo b g : Nat) (T : TypeId) (nm : ByteArray) (ss : List Slot) (N : (Nat → Prop) → World → Prop) (V W : World) (i : Nat) (t : TypeId) (sz : Nat) (C : List α → List Value) (one : PSt → Except (Int × Int) (α × PSt)) (acc : List α) (s : PSt) (e : Ending) (w : World) : Prop := match one s with
  | .error y => e = flt y.1 y.2 ∧ Sv g b W w
  | .ok (a, s') => e = .returned (.tuple #[]) ∧ Rs lo b g T nm ss N V W i t sz C (acc ++ [a]) s' w
def RsJ (lo b g : Nat) (T : TypeId) (nm : ByteArray) (ss : List Slot) (N : (Nat → Prop) → World → Prop) (V W : World) (i : Nat) (t : TypeId) (sz : Nat) (C : List α → List Value) (one : PSt → Except (Int × Int) (α × PSt)) (p4 : Nat) (cv : Value) (R0 : Except (Int × Int) (List α × PSt)) (n : Nat) (a : Act) (w : World) : Prop := ∃ (tm : Array Value) (acc : List α) (s : PSt), a = ⟨tm, []⟩ ∧ tm.size = 25 ∧ chk tm [(4, .pointer (some ⟨p4, 0, none⟩)), (8, cv)] ∧ Rs lo b g T nm ss N V W i t sz C acc s w ∧ s.ts.length < n ∧ (match rowsLF one n acc s with | .error e => .error e | .ok (l, s2) => match pneedSignF ⟨#[59]⟩ s2 with | .error e => .error e | .ok (_, s3) => .ok (l, s3)) = R0
set_option maxRecDepth 100000 in
set_option maxHeartbeats 4000000 in
theorem rsTail_any (hN : Stable N) (hcell : ∀ P w, N P w → Cell1 p4 #[.pointer (some ⟨b, 0, none⟩)] 80 P w) (hgt : ∀ s a s1, one s = .ok (a, s1) → Gt s s1 ∧ (s.en.kind = 5 → 0 < s.ts.length)) (hone : ∀ acc s w, Rs lo b g T nm ss N V W i t sz C acc s w → CallsV cv #[] w (OneOk lo b g T nm ss N V W i t sz C one acc s))
    {acc : List α} {s : PSt} {w0 : World} (h : Rs lo b g T nm ss N V W i t sz C acc s w0) {tm : Array Value} (hsz : tm.size = 25) (hchk : chk tm [(4, .pointer (some ⟨p4, 0, none⟩)), (8, cv)]) {R : Ending → World → Prop}
    (hR1 : ∀ y w, manyF one acc s = .error y → Sv g b W w → R (flt y.1 y.2) w) (hR2 : ∀ l s' w, manyF one acc s = .ok (l, s') → Rs lo b g T nm ss N V W i t sz C l s' w → R (.returned (.tuple #[])) w) : rsTail.wp Tryz.prog (bodyPost Tryz.prog Tryz.f112 R) ⟨tm, []⟩ w0 := by
  have HR1 := hide hR1
  have HR2 := hide hR2
  have HN := hide hN
  have HCe := hide hcell
  have HGt := hide hgt
  have HOne := hide hone
  obtain ⟨n1, fs, cp, rfl, hfn, hcl⟩ := hone acc s w0 h
  have HCL := hide hcl
  obtain ⟨u, rfl⟩ := frame25 hsz
  obtain ⟨e4, e8, _⟩ := hchk
  replace e4 : u 4 = .pointer (some ⟨p4, 0, none⟩) := Option.some.inj e4
  replace e8 : u 8 = .func (.func n1) fs cp := Option.some.inj e8
  rw [e4, e8]
  have HA := hide h
  clear e4 e8 hsz hR1 hR2 hN hcell hgt hone h hcl
  obtain ⟨Q, hQ⟩ : ∃ Q, bodyPost Tryz.prog Tryz.f112 R = Q := ⟨_, rfl⟩
  rw [hQ]
  unfold rsTail
  dsimp only [Tryz.f112]
  go_wp2_with fail
  refine (show Calls Tryz.prog n1 (fs ++ cp) _ _ from by have := unhide HCL; simpa using this).mono ?_
  intro e w1 hw1
  unfold OneOk at hw1
  cases hr : one s with
  | error y =>
    rw [hr] at hw1
    obtain ⟨rfl, hs⟩ := hw1
    rw [← hQ]
    exact ⟨rfl, unhide HR1 y w1 (by unfold manyF; rw [hr]) hs⟩
  | ok y =>
    obtain ⟨a1, s1⟩ := y
    rw [hr] at hw1
    obtain ⟨rfl, h1⟩ := hw1
    have HF : Hid ((match rowsLF one (s1.ts.length + 1) (acc ++ [a1]) s1 with | .error e => .error e | .ok (l, s2) => match pneedSignF ⟨#[59]⟩ s2 with | .error e => .error e | .ok (_, s3) => .ok (l, s3)) = manyF one acc s) := by
      show _ = _
      unfold manyF
      rw [hr]
    have H1 := hide h1
    clear hr h1 HCL HA hfn
    go_wp2
    refine wp_loop_count (RsJ lo b g T nm ss N V W i t sz C one p4 (.func (.func n1) fs cp) (manyF one acc s)) ?_ (s1.ts.length + 1) _ _ ⟨_, acc ++ [a1], s1, rfl, rfl, ⟨rfl, rfl, trivial⟩, unhide H1, by omega, unhide HF⟩
    obtain ⟨R0, hR0⟩ : ∃ R0, manyF one acc s = R0 := ⟨_, rfl⟩
    rw [hR0] at HR1 HR2 ⊢
    clear HF H1 hR0
    rintro n _ wr ⟨tm, ac, sc, rfl, hsz, hchk, hA, hn, hR0⟩
    obtain ⟨n, rfl⟩ : ∃ k, n = k + 1 := ⟨n - 1, by omega⟩
    obtain ⟨u, rfl⟩ := frame25 hsz
    obtain ⟨e4, e8, _⟩ := hchk
    replace e4 : u 4 = .pointer (some ⟨p4, 0, none⟩) := Option.some.inj e4
    replace e8 : u 8 = .func (.func n1) fs cp := Option.some.inj e8
    rw [e4, e8]
    obtain ⟨⟨v, hap⟩, hl, hsm⟩ := hA
    have c4 : wr.cell? ⟨p4, 0, none⟩ = some (.pointer (some ⟨b, 0, none⟩)) := by rw [cell_of_row _ _ _ _ _ _ (unhide HCe _ _ hap.nx).1]; rfl
    have HC2 := hide (takeSign_any hap.rd ⟨#[44]⟩)
    have HA2 := hide hap
    have HR0 := hide hR0
    have HSm := hide hsm
    have Hl := hide hl
    have Hn := hide hn
    clear e4 e8 hsz hap hsm hl hR0 hn
    go_wp2_with fail
    refine (unhide HC2).mono ?_
    intro e w2 hw
    rcases hw.split with ⟨y, hr, rfl, hg⟩ | ⟨fl, s3, hr, rfl, h3, hg⟩
    · show Q (Exit.panic _) _ _
      rw [← hQ]
      refine ⟨rfl, unhide HR1 y _ ?_ ?_⟩
      · rw [← unhide HR0]
        unfold rowsLF
        rw [hr]
      · exact (unhide HA2).sv.trans (Sv.of hg (by have := (unhide HA2).bx.lt; omega))
    · have hap3 := (unhide HA2).read (unhide HN) h3 hg
      have c43 : w2.cell? ⟨p4, 0, none⟩ = some (.pointer (some ⟨b, 0, none⟩)) := by rw [cell_of_row _ _ _ _ _ _ (unhide HCe _ _ hap3.nx).1]; rfl
      have HA3 := hide hap3
      have Hsuf := hide (suf_take hr)
      rcases take_ok hr with ⟨rfl, rfl⟩ | ⟨rfl, ht1, ht2⟩
      · have HEq : Hid ((match pneedSignF ⟨#[59]⟩ s3 with | .error e => .error e | .ok (_, s4) => .ok (ac, s4)) = R0) := by
          show _ = _
          rw [← unhide HR0]
          unfold rowsLF
          rw [hr]
        have HC3 := hide (needSign_any hap3.rd ⟨#[59]⟩)
        clear hw hr h3 hg hap3 HA2 HC2 HR0 c4
        go_wp2_with fail
        refine (unhide HC3).mono ?_
        intro e w3 hw
        rcases hw.split with ⟨y, hr, rfl, hg⟩ | ⟨_, s4, hr, rfl, h4, hg⟩
        · rw [← hQ]
          refine ⟨rfl, unhide HR1 y _ ?_ ?_⟩
          · rw [← unhide HEq, hr]
          · exact (unhide HA3).sv.trans (Sv.of hg (by have := (unhide HA3).bx.lt; omega))
        · have hsf := suf_needSign hr
          have HE : Hid (R (.returned (.tuple #[])) w3) := unhide HR2 ac s4 w3 (by rw [← unhide HEq, hr]) ⟨⟨v, (unhide HA3).read (unhide HN) h4 hg⟩, by have := unhide Hl; have := hsf.len; omega, hsf.sm (unhide HSm)⟩
          clear hw hr h4 hg hsf
          go_wp2
          rw [← hQ]
          go_end0
          exact unhide HE
      · have hsl := tail_len ht1 (unhide HA2).rd.grown ht2 (by decide)
        have hrs3 : Rs lo b g T nm ss N V W i t sz C ac s3 w2 := ⟨⟨v, hap3⟩, by have := unhide Hl; omega, (unhide Hsuf).sm (unhide HSm)⟩
        obtain ⟨n2, fs2, cp2, e2, hfn, hcl⟩ := unhide HOne ac s3 w2 hrs3
        cases e2
        have HCL := hide hcl
        have HEq : Hid (∀ z, one s3 = z → (match (match z with | .error e => Except.error e | .ok (a, s2) => rowsLF one n (ac ++ [a]) s2) with | .error e => .error e | .ok (l, s2) => match pneedSignF ⟨#[59]⟩ s2 with | .error e => .error e | .ok (_, s3) => .ok (l, s3)) = R0) := fun z hz => by
          rw [← unhide HR0]
          conv => rhs; unfold rowsLF
          rw [hr]
          simp only
          rw [hz]
        clear hw hr h3 hg hap3 HA2 HC2 HR0 c4 hcl hrs3 ht1 ht2
        go_wp2_with fail
        refine (show Calls Tryz.prog n1 (fs ++ cp) _ _ from by have := unhide HCL; simpa using this).mono ?_
        intro e w3 hw3
        unfold OneOk at hw3
        cases hr : one s3 with
        | error y =>
          rw [hr] at hw3
          obtain ⟨rfl, hs⟩ := hw3
          show Q (Exit.panic _) _ _
          rw [← hQ]
          exact ⟨rfl, unhide HR1 y w3 (by rw [← unhide HEq _ hr]) hs⟩
        | ok y =>
          obtain ⟨a4, s4⟩ := y
          rw [hr] at hw3
          obtain ⟨rfl, h4⟩ := hw3
          have H4 := hide h4
          have hlt : s4.ts.length < n := by
            have h5 := (unhide HGt _ _ _ hr).1.suf.len
            have := unhide Hn
            omega
          have HEq4 := hide (unhide HEq _ hr)
          clear hr h4 HCL HEq hfn
          go_wp2
          exact ⟨n, rfl, _, ac ++ [a4], s4, rfl, rfl, ⟨rfl, rfl, trivial⟩, unhide H4, hlt, unhide HEq4⟩
end
end Go.Proofs.YtdhncpeemcanlaaGreatDoor

namespace Go.Proofs.YtdhncpeemcanlaaGreatDoor
open Go.RowKit

theorem cf_rreserved_1 (w : World) (vs : Array Value) : (callFunc 126 vs).run Tryz.prog w = .ok (.enter 126 vs) w := by
  have hn : ¬ Tryz.f126.name = "runtime.NumGoroutine" := by decide +kernel
  have hb : Tryz.f126.body.isSome = true := by kernel_rfl
  obtain ⟨c, hc⟩ := Option.isSome_iff_exists.1 hb
  simp [callFunc, Tryz.func126, hn, hc]
theorem cf_rreserved_2 (w : World) (vs : Array Value) : (callFunc 128 vs).run Tryz.prog w = .ok (.enter 128 vs) w := by
  have hn : ¬ Tryz.f128.name = "runtime.NumGoroutine" := by decide +kernel
  have hb : Tryz.f128.body.isSome = true := by kernel_rfl
  obtain ⟨c, hc⟩ := Option.isSome_iff_exists.1 hb
  simp [callFunc, Tryz.func128, hn, hc]
theorem cf_rtops_1 (w : World) (vs : Array Value) : (callFunc 66 vs).run Tryz.prog w = .ok (.enter 66 vs) w := by
  have hn : ¬ Tryz.f66.name = "runtime.NumGoroutine" := by decide +kernel
  have hb : Tryz.f66.body.isSome = true := by kernel_rfl
  obtain ⟨c, hc⟩ := Option.isSome_iff_exists.1 hb
  simp [callFunc, Tryz.func66, hn, hc]
theorem cf_rtops_2 (w : World) (vs : Array Value) : (callFunc 68 vs).run Tryz.prog w = .ok (.enter 68 vs) w := by
  have hn : ¬ Tryz.f68.name = "runtime.NumGoroutine" := by decide +kernel
  have hb : Tryz.f68.body.isSome = true := by kernel_rfl
  obtain ⟨c, hc⟩ := Option.isSome_iff_exists.1 hb
  simp [callFunc, Tryz.func68, hn, hc]
theorem cf_rtops_3 (w : World) (vs : Array Value) : (callFunc 70 vs).run Tryz.prog w = .ok (.enter 70 vs) w := by
  have hn : ¬ Tryz.f70.name = "runtime.NumGoroutine" := by decide +kernel
  have hb : Tryz.f70.body.isSome = true := by kernel_rfl
  obtain ⟨c, hc⟩ := Option.isSome_iff_exists.1 hb
  simp [callFunc, Tryz.func70, hn, hc]
theorem cf_rtops_4 (w : World) (vs : Array Value) : (callFunc 72 vs).run Tryz.prog w = .ok (.enter 72 vs) w := by
  have hn : ¬ Tryz.f72.name = "runtime.NumGoroutine" := by decide +kernel
  have hb : Tryz.f72.body.isSome = true := by kernel_rfl
  obtain ⟨c, hc⟩ := Option.isSome_iff_exists.1 hb
  simp [callFunc, Tryz.func72, hn, hc]
theorem cf_rmembers_1 (w : World) (vs : Array Value) : (callFunc 107 vs).run Tryz.prog w = .ok (.enter 107 vs) w := by
  have hn : ¬ Tryz.f107.name = "runtime.NumGoroutine" := by decide +kernel
  have hb : Tryz.f107.body.isSome = true := by kernel_rfl
  obtain ⟨c, hc⟩ := Option.isSome_iff_exists.1 hb
  simp [callFunc, Tryz.func107, hn, hc]
theorem cf_rmembers_2 (w : World) (vs : Array Value) : (callFunc 108 vs).run Tryz.prog w = .ok (.enter 108 vs) w := by
  have hn : ¬ Tryz.f108.name = "runtime.NumGoroutine" := by decide +kernel
  have hb : Tryz.f108.body.isSome = true := by kernel_rfl
  obtain ⟨c, hc⟩ := Option.isSome_iff_exists.1 hb
  simp [callFunc, Tryz.func108, hn, hc]
theorem cf_rmembers_3 (w : World) (vs : Array Value) : (callFunc 109 vs).run Tryz.prog w = .ok (.enter 109 vs) w := by
  have hn : ¬ Tryz.f109.name = "runtime.NumGoroutine" := by decide +kernel
  have hb : Tryz.f109.body.isSome = true := by kernel_rfl
  obtain ⟨c, hc⟩ := Option.isSome_iff_exists.1 hb
  simp [callFunc, Tryz.func109, hn, hc]
theorem cf_rmembers_4 (w : World) (vs : Array Value) : (callFunc 111 vs).run Tryz.prog w = .ok (.enter 111 vs) w := by
  have hn : ¬ Tryz.f111.name = "runtime.NumGoroutine" := by decide +kernel
  have hb : Tryz.f111.body.isSome = true := by kernel_rfl
  obtain ⟨c, hc⟩ := Option.isSome_iff_exists.1 hb
  simp [callFunc, Tryz.func111, hn, hc]
theorem cf_rmembers_5 (w : World) (vs : Array Value) : (callFunc 113 vs).run Tryz.prog w = .ok (.enter 113 vs) w := by
  have hn : ¬ Tryz.f113.name = "runtime.NumGoroutine" := by decide +kernel
  have hb : Tryz.f113.body.isSome = true := by kernel_rfl
  obtain ⟨c, hc⟩ := Option.isSome_iff_exists.1 hb
  simp [callFunc, Tryz.func113, hn, hc]
theorem cf_rmembers_6 (w : World) (vs : Array Value) : (callFunc 115 vs).run Tryz.prog w = .ok (.enter 115 vs) w := by
  have hn : ¬ Tryz.f115.name = "runtime.NumGoroutine" := by decide +kernel
  have hb : Tryz.f115.body.isSome = true := by kernel_rfl
  obtain ⟨c, hc⟩ := Option.isSome_iff_exists.1 hb
  simp [callFunc, Tryz.func115, hn, hc]
theorem cf_rmembers_7 (w : World) (vs : Array Value) : (callFunc 116 vs).run Tryz.prog w = .ok (.enter 116 vs) w := by
  have hn : ¬ Tryz.f116.name = "runtime.NumGoroutine" := by decide +kernel
  have hb : Tryz.f116.body.isSome = true := by kernel_rfl
  obtain ⟨c, hc⟩ := Option.isSome_iff_exists.1 hb
  simp [callFunc, Tryz.func116, hn, hc]
theorem cf_rrefuse (w : World) (vs : Array Value) : (callFunc 74 vs).run Tryz.prog w = .ok (.enter 74 vs) w := by
  have hn : ¬ Tryz.f74.name = "runtime.NumGoroutine" := by decide +kernel
  have hb : Tryz.f74.body.isSome = true := by kernel_rfl
  obtain ⟨c, hc⟩ := Option.isSome_iff_exists.1 hb
  simp [callFunc, Tryz.func74, hn, hc]
theorem cf_rwrong (w : World) (vs : Array Value) : (callFunc 46 vs).run Tryz.prog w = .ok (.enter 46 vs) w := by
  have hn : ¬ Tryz.f46.name = "runtime.NumGoroutine" := by decide +kernel
  have hb : Tryz.f46.body.isSome = true := by kernel_rfl
  obtain ⟨c, hc⟩ := Option.isSome_iff_exists.1 hb
  simp [callFunc, Tryz.func46, hn, hc]
theorem cf_rmessage_1 (w : World) (vs : Array Value) : (callFunc 93 vs).run Tryz.prog w = .ok (.enter 93 vs) w := by
  have hn : ¬ Tryz.f93.name = "runtime.NumGoroutine" := by decide +kernel
  have hb : Tryz.f93.body.isSome = true := by kernel_rfl
  obtain ⟨c, hc⟩ := Option.isSome_iff_exists.1 hb
  simp [callFunc, Tryz.func93, hn, hc]
theorem cf_renum_1 (w : World) (vs : Array Value) : (callFunc 96 vs).run Tryz.prog w = .ok (.enter 96 vs) w := by
  have hn : ¬ Tryz.f96.name = "runtime.NumGoroutine" := by decide +kernel
  have hb : Tryz.f96.body.isSome = true := by kernel_rfl
  obtain ⟨c, hc⟩ := Option.isSome_iff_exists.1 hb
  simp [callFunc, Tryz.func96, hn, hc]
theorem cf_roneof_1 (w : World) (vs : Array Value) : (callFunc 125 vs).run Tryz.prog w = .ok (.enter 125 vs) w := by
  have hn : ¬ Tryz.f125.name = "runtime.NumGoroutine" := by decide +kernel
  have hb : Tryz.f125.body.isSome = true := by kernel_rfl
  obtain ⟨c, hc⟩ := Option.isSome_iff_exists.1 hb
  simp [callFunc, Tryz.func125, hn, hc]
theorem cf_rvalues_1 (w : World) (vs : Array Value) : (callFunc 119 vs).run Tryz.prog w = .ok (.enter 119 vs) w := by
  have hn : ¬ Tryz.f119.name = "runtime.NumGoroutine" := by decide +kernel
  have hb : Tryz.f119.body.isSome = true := by kernel_rfl
  obtain ⟨c, hc⟩ := Option.isSome_iff_exists.1 hb
  simp [callFunc, Tryz.func119, hn, hc]
end Go.Proofs.YtdhncpeemcanlaaGreatDoor
