import Derived.Test.YtckpainohfhopaaGreatDoorPbZ

namespace Go.Proofs.YtckpainohfhopaaGreatDoor
open Go.RowKit
attribute [local go_sem ↓] Go.wp_at_zero Go.wp_at_succ

/-- A file that was just read. -/
def NF (a : Fl) (x : Value) (P : Nat → Prop) (w : World) : Prop := ∃ vi vm ve cm ce, x = .agg #[.string a.pkg, vi, vm, ve] ∧ RowR P w 9 1 vi a.imps.length (strC a.imps) ∧ RowR P w 49 7 vm a.ms.length cm ∧ HasMs P w cm a.ms ∧ RowR P w 71 4 ve a.es.length ce ∧ HasEs P w ce a.es
def fileLF (st : Stp Fl) : Nat → Stp Fl
  | 0, _, _ => .error (0, 0)
  | n + 1, x, s => if s.here.kind = 5 then .ok (x, s) else match st x s with
    | .error e => .error e
    | .ok (x', s') => fileLF st n x' s'
noncomputable def fileBody (s : PSt) : Except (Int × Int) (Fl × PSt) := fileLF (stmtF flW flO) (s.ts.length + 1) ⟨⟨#[]⟩, [], [], []⟩ s
noncomputable def fileF (s : PSt) : Except (Int × Int) (Fl × PSt) := match ptakeF 1 ⟨#[115, 121, 110, 116, 97, 120]⟩ s with
  | .error e => .error e
  | .ok (false, s1) => .error (wrongE s1)
  | .ok (true, s1) => match pneedSignF ⟨#[61]⟩ s1 with
    | .error e => .error e
    | .ok (_, s2) => match meaningF syntaxF s2 with
      | .error e => .error e
      | .ok (_, s3) => match pneedSignF ⟨#[59]⟩ s3 with
        | .error e => .error e
        | .ok (_, s4) => fileBody s4
noncomputable def flT6 : Code := match Tryz.f33.body with
  | some (.seq _ (.seq _ (.seq _ (.seq _ (.seq _ t))))) => t
  | _ => .skip
noncomputable def flWith (t : Code) : Code := match Tryz.f33.body with
  | some (.seq a (.seq b (.seq c (.seq d (.seq e _))))) => .seq a (.seq b (.seq c (.seq d (.seq e t))))
  | _ => .skip
theorem fl_split : Tryz.f33.body = some (flWith flT6) := rfl
theorem sizeFl : (Tryz.prog.info? 27).map (·.size) = some 4 := by kernel_rfl
def FlJ (lo b g p2 pv : Nat) (N : (Nat → Prop) → World → Prop) (V W : World) (R0 : Except (Int × Int) (Fl × PSt)) (n : Nat) (a : Act) (w : World) : Prop := ∃ (u : Nat → Value) (x : Fl) (s : PSt), a = ⟨#[.pointer (some ⟨b, 0, none⟩), u 1, .pointer (some ⟨p2, 0, none⟩), .pointer (some ⟨g, 0, none⟩), .map (some (pv + 2)), u 5, u 6, u 7, u 8, u 9, u 10, u 11, u 12, u 13, u 14, u 15, u 16, u 17, u 18, u 19, u 20, u 21, u 22, u 23, u 24, u 25, u 26, u 27], []⟩ ∧ FlI lo b g N V W x s w ∧ s.ts.length < n ∧ fileLF (stmtF flW flO) n x s = R0
set_option maxRecDepth 100000 in
set_option maxHeartbeats 4000000 in
theorem flT6_any {lo b p2 : Nat} {V W0 w : World} {s : PSt} (hv : Env V w b) (h : Rd lo w b s) (hs : Sm s) (hn : s.ts.length ≤ 16384) (hgr : W0.grownBy w (some b)) (hp2 : w.heap[p2]? = some (.cells #[.string ⟨#[]⟩, .slice none 0 0, .slice none 0 0, .slice none 0 0] 27 (0, 0))) (hlo : lo ≤ W0.heap.size ∧ W0.heap.size ≤ p2) {u : Nat → Value} {R : Ending → World → Prop} (hR : ∀ e w, CR lo b NF W0 (fileBody s) e w → R e w) :
    flT6.wp Tryz.prog (bodyPost Tryz.prog Tryz.f33 R) ⟨#[.pointer (some ⟨b, 0, none⟩), u 1, .pointer (some ⟨p2, 0, none⟩), u 3, u 4, u 5, u 6, u 7, u 8, u 9, u 10, u 11, u 12, u 13, u 14, u 15, u 16, u 17, u 18, u 19, u 20, u 21, u 22, u 23, u 24, u 25, u 26, u 27], []⟩ w := by
  have hl2 := (Array.getElem?_eq_some_iff.1 hp2).1
  have hlow := h.low
  have hb4 := (Below.refl w.heap.size w).alloc (Nat.le_refl _) (.cells #[.string ⟨#[]⟩, .slice none 0 0, .slice none 0 0, .slice none 0 0] 27)
  have h4 := h.up hb4
  have hap : Ap lo b w.heap.size 27 ⟨#[]⟩ (FSl ⟨⟨#[]⟩, [], [], []⟩ (.slice none 0 0) (.slice none 0 0) (.slice none 0 0) [] []) (FlN w.heap.size (Cell1 p2 #[.string ⟨#[]⟩, .slice none 0 0, .slice none 0 0, .slice none 0 0] 27) ⟨⟨#[]⟩, [], [], []⟩ [] []) V w s (w.alloc (.cells #[.string ⟨#[]⟩, .slice none 0 0, .slice none 0 0, .slice none 0 0] 27)) := by
    have hno : ∀ (i : Nat) (sl : Slot), (FSl ⟨⟨#[]⟩, [], [], []⟩ (.slice none 0 0) (.slice none 0 0) (.slice none 0 0) [] [])[i]? = some sl → sl.v = .slice none 0 0 ∧ sl.n = 0 ∧ sl.xs = [] := fun i sl hi => by
      match i, hi with
      | 0, hi => obtain rfl := Option.some.inj hi; exact ⟨rfl, rfl, rfl⟩
      | 1, hi => obtain rfl := Option.some.inj hi; exact ⟨rfl, rfl, rfl⟩
      | 2, hi => obtain rfl := Option.some.inj hi; exact ⟨rfl, rfl, rfl⟩
      | k + 3, hi => cases hi
    have hfz : ∀ k, k ≠ b → k ≠ w.heap.size → Fz (FSl ⟨⟨#[]⟩, [], [], []⟩ (.slice none 0 0) (.slice none 0 0) (.slice none 0 0) [] []) w.heap.size b k := fun k q1 q2 => ⟨q1, q2, fun i sl hi e => by
      rw [(hno i sl hi).1] at e
      cases e⟩
    refine ⟨⟨heap_new _ _, fun i sl hi => ?_, fun i j a c hne ha hc k hk => ?_⟩, ⟨⟨(hb4.block _ hl2).trans hp2, hfz _ (by omega) (by omega)⟩, .nil, .nil⟩, h4, by omega, ⟨hb4.os, hb4.tape, hb4.output, hb4.size, fun k hk _ => hb4.block k hk⟩, hv.step (below_grown b hb4)⟩
    · obtain ⟨q1, q2, q3⟩ := hno i sl hi
      exact ⟨by rw [q2, q3]; simp, .inl ⟨q1, q2⟩⟩
    · rw [(hno i a ha).1] at hk
      cases hk
  have hI : FlI lo b w.heap.size (Cell1 p2 #[.string ⟨#[]⟩, .slice none 0 0, .slice none 0 0, .slice none 0 0] 27) V w ⟨⟨#[]⟩, [], [], []⟩ s (w.alloc (.cells #[.string ⟨#[]⟩, .slice none 0 0, .slice none 0 0, .slice none 0 0] 27)) := ⟨⟨_, _, _, _, _, hap⟩, ⟨by simp only [List.length_nil]; omega, by simp only [List.length_nil]; omega, by simp only [List.length_nil]; omega⟩, hs, hn⟩
  have HI := hide hI
  have HR := hide hR
  have Hgr := hide hgr
  have Hlo := hide hlo
  have Hl2 := hide hl2
  have HT := hide (tops_any (w.alloc (.cells #[.string ⟨#[]⟩, .slice none 0 0, .slice none 0 0, .slice none 0 0] 27)) b w.heap.size)
  obtain ⟨g, hg⟩ : ∃ g, w.heap.size = g := ⟨_, rfl⟩
  have Hg := hide hg
  rw [hg] at HI HT Hl2
  clear hv h hs hn hgr hp2 hlo hl2 hlow hb4 h4 hap hI hR
  obtain ⟨Q, hQ⟩ : ∃ Q, bodyPost Tryz.prog Tryz.f33 R = Q := ⟨_, rfl⟩
  rw [hQ]
  unfold flT6
  dsimp only [Tryz.f33]
  subst hg
  go_wp2_with fail
  refine (unhide HT).mono ?_
  rintro e w1 ⟨rfl, hb1, hcs⟩
  obtain ⟨pv, hpv⟩ : ∃ pv, (w.alloc (.cells #[.string ⟨#[]⟩, .slice none 0 0, .slice none 0 0, .slice none 0 0] 27)).heap.size = pv := ⟨_, rfl⟩
  rw [hpv] at hcs ⊢
  have hS0 : Stable (Cell1 p2 #[.string ⟨#[]⟩, .slice none 0 0, .slice none 0 0, .slice none 0 0] 27) := stable_cell _ _ _
  have hS1 : Stable (fun P w' => Cell1 p2 #[.string ⟨#[]⟩, .slice none 0 0, .slice none 0 0, .slice none 0 0] 27 P w' ∧ (Cell1 pv #[.pointer (some ⟨b, 0, none⟩)] 74 P w' ∧ Cell1 (pv + 1) #[.pointer (some ⟨w.heap.size, 0, none⟩)] 108 P w' ∧ WMap (pv + 2) (topsT pv b) P w')) := hS0.and ((stable_cell _ _ _).and ((stable_cell _ _ _).and (stable_map _ _)))
  have hI1 : FlI lo b w.heap.size (fun P w' => Cell1 p2 #[.string ⟨#[]⟩, .slice none 0 0, .slice none 0 0, .slice none 0 0] 27 P w' ∧ (Cell1 pv #[.pointer (some ⟨b, 0, none⟩)] 74 P w' ∧ Cell1 (pv + 1) #[.pointer (some ⟨w.heap.size, 0, none⟩)] 108 P w' ∧ WMap (pv + 2) (topsT pv b) P w')) V w ⟨⟨#[]⟩, [], [], []⟩ s w1 := by
    obtain ⟨⟨vi, vm, ve, cm, ce, hap⟩, hl⟩ := unhide HI
    refine ⟨⟨vi, vm, ve, cm, ce, ?_⟩, hl⟩
    have := hap.join (FlN.st hS0 _ _ _) ((stable_cell pv #[.pointer (some ⟨b, 0, none⟩)] 74).and ((stable_cell (pv + 1) #[.pointer (some ⟨w.heap.size, 0, none⟩)] 108).and (stable_map (pv + 2) (topsT pv b)))) (hap.rd.up hb1) (below_grown b hb1) (by rw [hpv]; exact hcs)
    exact this.imp (fun h => ⟨⟨h.1.1, h.2⟩, h.1.2⟩)
  have htab := fl_tab (lo := lo) (b := b) (g := w.heap.size) (pv := pv) (V := V) (W := w) hS1 (fun P w h => h.2.1) (fun P w h => h.2.2.1) (fun P w h => h.2.2.2)
  obtain ⟨N, hNq⟩ : ∃ N : (Nat → Prop) → World → Prop, (fun P w' => Cell1 p2 #[.string ⟨#[]⟩, .slice none 0 0, .slice none 0 0, .slice none 0 0] 27 P w' ∧ (Cell1 pv #[.pointer (some ⟨b, 0, none⟩)] 74 P w' ∧ Cell1 (pv + 1) #[.pointer (some ⟨w.heap.size, 0, none⟩)] 108 P w' ∧ WMap (pv + 2) (topsT pv b) P w')) = N := ⟨_, rfl⟩
  have HCp : Hid (∀ P w', N P w' → Cell1 p2 #[.string ⟨#[]⟩, .slice none 0 0, .slice none 0 0, .slice none 0 0] 27 P w') := fun P w' h => by rw [← hNq] at h; exact h.1
  rw [hNq] at hI1 htab hS1
  have HI1 := hide hI1
  have HTab := hide htab
  have HS1 := hide hS1
  clear hb1 hcs hS0 hS1 hI1 htab HT HI hNq hpv Hg
  obtain ⟨g, hgq⟩ : ∃ g, w.heap.size = g := ⟨_, rfl⟩
  have Hgq := hide hgq
  rw [hgq] at HI1 HTab Hl2 ⊢
  clear hgq
  go_wp2
  refine wp_loop_count (FlJ lo b g p2 pv N V w (fileBody s)) ?_ (s.ts.length + 1) _ _ ⟨fun i => [undef, u 1, undef, undef, undef, u 5, u 6, u 7, u 8, u 9, u 10, u 11, u 12, u 13, u 14, u 15, u 16, u 17, u 18, u 19, u 20, u 21, u 22, u 23, u 24, u 25, u 26, u 27].getD i undef |> fun v => if i = 16 then .pointer (some ⟨b, 0, none⟩) else if i = 17 then .map (some (pv + 2)) else v, _, s, rfl, unhide HI1, by omega, rfl⟩
  obtain ⟨R0, hR0⟩ : ∃ R0, fileBody s = R0 := ⟨_, rfl⟩
  rw [hR0] at HR ⊢
  clear HI1 hR0
  rintro n _ wr ⟨u, x, sc, rfl, hi, hn, hRn⟩
  obtain ⟨n, rfl⟩ : ∃ k, n = k + 1 := ⟨n - 1, by omega⟩
  have HI := hide hi
  have HRn := hide hRn
  have Hn := hide hn
  have HH := hide (here_any hi.rd)
  obtain ⟨t, ht⟩ : ∃ t, sc.here = t := ⟨_, rfl⟩
  have Ht := hide ht
  rw [ht] at HH
  obtain ⟨kd, sp, tx⟩ := t
  unfold Tk.val at HH
  simp only at HH
  have hf : ∀ w, (Instr.field 38 (.agg #[.int .i64 kd, .int .i64 sp, .string tx]) 0).run Tryz.prog w = .ok (.int .i64 kd) w := fun w => (field_any w ⟨kd, sp, tx⟩).1
  clear hi hRn hn ht
  go_wp2_with fail
  refine (unhide HH).mono ?_
  rintro e w2 ⟨rfl, hb2⟩
  have HI2 := hide ((unhide HTab).up (unhide HI) hb2)
  clear hb2 HI HH
  by_cases hk : kd = 5
  · subst hk
    obtain ⟨⟨vi, vm, ve, cm, ce, hap⟩, _⟩ := unhide HI2
    obtain ⟨ia, ic, q1⟩ := row_shape2 (hap.bx.own 0 _ rfl)
    obtain ⟨ma, mc, q2⟩ := row_shape2 (hap.bx.own 1 _ rfl)
    obtain ⟨ea, ec, q3⟩ := row_shape2 (hap.bx.own 2 _ rfl)
    simp only at q1 q2 q3
    subst q1 q2 q3
    have hlo := unhide Hlo
    have hl2 := unhide Hl2
    obtain ⟨⟨d0, d1, d2, d3⟩, _⟩ := cells4 hap.bx.blk
    have hp2 := (unhide HCp _ _ hap.nx.1).1
    obtain ⟨⟨y0, y1, y2, y3⟩, yf⟩ := cells4 hp2
    have f0 := yf 0
    have f1 := yf 1
    have f2 := yf 2
    have f3 := yf 3
    obtain ⟨r1, r2⟩ := set4_block hp2 (.string x.pkg) (.slice ia x.imps.length ic) (.slice ma x.ms.length mc) (.slice ea x.es.length ec)
    have hrow : ∀ (i : Nat) (sl : Slot), (FSl x (.slice ia x.imps.length ic) (.slice ma x.ms.length mc) (.slice ea x.es.length ec) cm ce)[i]? = some sl → RowR (fun k => W0.heap.size ≤ k) (set4 w2 p2 (.string x.pkg) (.slice ia x.imps.length ic) (.slice ma x.ms.length mc) (.slice ea x.es.length ec)) sl.t sl.sz sl.v sl.n sl.xs := fun i sl hi => by
      have h1 := hap.bx.own i sl hi
      refine ⟨ownsRow_mono (World.ownsRow.kept h1 r2 ?_) (Nat.zero_le _), fun k hk => ?_⟩
      · right
        intro e
        have := (h1.lt p2 e).1
        omega
      · have := (h1.lt k hk).1
        omega
    have hgoes : Goes (fun k => Fz (FSl x (.slice ia x.imps.length ic) (.slice ma x.ms.length mc) (.slice ea x.es.length ec) cm ce) g b k ∧ g ≤ k) (fun k => W0.heap.size ≤ k) w2 (set4 w2 p2 (.string x.pkg) (.slice ia x.imps.length ic) (.slice ma x.ms.length mc) (.slice ea x.es.length ec)) := fun k hk hl => ⟨by omega, r2.block k hl (by simp; omega)⟩
    have HE : Hid (R (.returned (.agg #[.string x.pkg, .slice ia x.imps.length ic, .slice ma x.ms.length mc, .slice ea x.es.length ec])) (set4 w2 p2 (.string x.pkg) (.slice ia x.imps.length ic) (.slice ma x.ms.length mc) (.slice ea x.es.length ec))) := by
      refine unhide HR _ _ ?_
      rw [← unhide HRn]
      unfold fileLF
      rw [if_pos (by rw [unhide Ht])]
      exact ⟨_, rfl, ⟨_, _, _, cm, ce, rfl, hrow 0 _ rfl, hrow 1 _ rfl, stable_ms _ _ _ _ _ _ hgoes hap.nx.2.1, hrow 2 _ rfl, stable_es _ _ _ _ _ _ hgoes hap.nx.2.2⟩, rd_new hap.rd r2 (by omega), grown_new (grown_sv (unhide Hgr) hap.sv (by have := (unhide Hgq); omega)) r2 (by omega)⟩
    have R1 := hide r1
    unfold set4 at HE R1
    clear hap yf r1 r2 hrow hgoes hp2 hlo hl2 HI2
    go_wp2
    rw [← hQ]
    exact bodyPost_ret (results_cell_row rfl _ _ p2 27 #[.string x.pkg, .slice ia x.imps.length ic, .slice ma x.ms.length mc, .slice ea x.es.length ec] (0, 0) _ rfl (unhide R1) Tryz.underlying27 rfl sizeFl) rfl (unhide HE)
  · have hk2 : (kd != 5) = true := by simp [hk]
    have HE : Hid (∀ z, stmtF flW flO x sc = z → R0 = match z with | .error e => .error e | .ok (x', s') => fileLF (stmtF flW flO) n x' s') := fun z hz => by
      rw [← unhide HRn]
      conv => lhs; unfold fileLF
      rw [if_neg (by rw [unhide Ht]; exact hk), hz]
    have HC3 := hide (statement_any (unhide HTab) (unhide HI2))
    clear hk
    go_wp2_with fail
    refine (unhide HC3).mono ?_
    intro e w4 hw4
    rcases hw4.split with ⟨y, hr, rfl, he⟩ | ⟨x', s', hr, rfl, hi'⟩
    · show Q (Exit.panic _) _ _
      rw [← hQ]
      refine ⟨rfl, unhide HR _ _ ?_⟩
      rw [unhide HE _ hr]
      exact ⟨rfl, grown_sv (unhide Hgr) he (by have := unhide Hlo; have := unhide Hl2; omega)⟩
    · have hlt := stmt_lt flW_gt flO_gt (unhide HI2).rd.grown hr
      have HE2 := hide (unhide HE _ hr)
      have HI4 := hide hi'
      clear hr hi' hw4 HC3 HE HRn
      go_wp2
      exact ⟨n, rfl, fun i => [undef, u 1, undef, undef, undef, u 5, u 6, u 7, u 8, u 9, u 10, u 11, u 12, u 13, u 14, u 15, u 16, u 17, .pointer (some ⟨b, 0, none⟩), .agg #[.int .i64 kd, .int .i64 sp, .string tx], .int .i64 kd, .bool true, .pointer (some ⟨b, 0, none⟩), .map (some (pv + 2)), .pointer (some ⟨b, 0, none⟩), .func (.func 58) #[.pointer (some ⟨b, 0, none⟩)] #[], .tuple #[], u 27].getD i undef, x', s', rfl, unhide HI4, by have := unhide Hn; omega, (unhide HE2).symm⟩
set_option maxRecDepth 100000 in
set_option maxHeartbeats 4000000 in
theorem file_any {lo b : Nat} {V W : World} {s : PSt} (hv : Env V W b) (h : Rd lo W b s) (hs : Sm s) (hn : s.ts.length ≤ 16384) : Calls Tryz.prog 33 #[.pointer (some ⟨b, 0, none⟩)] W (CR lo b NF W (fileF s)) := by
  have hlow := h.low
  have hb2 : Below W.heap.size W (W.alloc (.cells #[.string ⟨#[]⟩, .slice none 0 0, .slice none 0 0, .slice none 0 0] 27)) := (Below.refl _ _).alloc (Nat.le_refl _) _
  have hx2 : (W.alloc (.cells #[.string ⟨#[]⟩, .slice none 0 0, .slice none 0 0, .slice none 0 0] 27)).heap[W.heap.size]? = some (.cells #[.string ⟨#[]⟩, .slice none 0 0, .slice none 0 0, .slice none 0 0] 27 (0, 0)) := heap_new _ _
  have HC := hide (takeWord_any (h.up hb2) ⟨#[115, 121, 110, 116, 97, 120]⟩)
  have hbk : ∀ w, (W.alloc (.cells #[.string ⟨#[]⟩, .slice none 0 0, .slice none 0 0, .slice none 0 0] 27)).grownBy w (some b) → w.heap[W.heap.size]? = some (.cells #[.string ⟨#[]⟩, .slice none 0 0, .slice none 0 0, .slice none 0 0] 27 (0, 0)) := fun w hg => (hg.block W.heap.size (by simp only [World.size_alloc]; omega) (by simp; omega)).trans hx2
  have HBK := hide hbk
  have HG0 := hide (below_grown b hb2)
  have HV := hide hv
  have HS := hide hs
  have Hn := hide hn
  have Hlow := hide hlow
  clear hx2 hbk hb2 h hv hs hn hlow
  refine calls_of_wp Tryz.func33 fl_split ?_
  obtain ⟨tl, htl⟩ : ∃ t, flT6 = t := ⟨_, rfl⟩
  rw [htl]
  obtain ⟨Q, hQ⟩ : ∃ Q, bodyPost Tryz.prog Tryz.f33 (CR lo b NF W (fileF s)) = Q := ⟨_, rfl⟩
  rw [hQ]
  unfold flWith
  dsimp only [Tryz.f33]
  simp only [List.size_toArray, List.length_cons, List.length_nil, Nat.reduceAdd, Nat.reduceSub, Array.replicate_succ, Array.replicate_zero, List.push_toArray, List.append_toArray, List.nil_append, List.cons_append]
  go_wp2_with fail
  refine (unhide HC).mono ?_
  intro e w1 hw
  rcases hw.split with ⟨y, hr, rfl, hg⟩ | ⟨f, s1, hr, rfl, h1, hg⟩
  · show Q (Exit.panic _) _ _
    rw [← hQ]
    refine ⟨rfl, ?_⟩
    unfold fileF
    rw [hr]
    exact ⟨rfl, (unhide HG0).trans hg⟩
  · cases f with
    | false =>
      have HW := hide (wrong_any h1)
      have HF : Hid (fileF s = .error (wrongE s1)) := by show _ = _; unfold fileF; rw [hr]
      have Hg := hide hg
      clear hw hr hg h1 HC
      go_wp2_with fail
      refine (unhide HW).mono ?_
      rintro e w2 ⟨rfl, hb⟩
      show Q (Exit.panic _) _ _
      rw [← hQ]
      refine ⟨rfl, ?_⟩
      rw [unhide HF]
      exact ⟨rfl, ((unhide HG0).trans (unhide Hg)).trans (below_grown b hb)⟩
    | true =>
      have HF : Hid (fileF s = match pneedSignF ⟨#[61]⟩ s1 with | .error e => .error e | .ok (_, s2) => match meaningF syntaxF s2 with | .error e => .error e | .ok (_, s3) => match pneedSignF ⟨#[59]⟩ s3 with | .error e => .error e | .ok (_, s4) => fileBody s4) := by
        show _ = _
        unfold fileF
        rw [hr]
      have HN1 := hide (needSign_any h1 ⟨#[61]⟩)
      have Hg1 := hide hg
      have Hs1 := hide (suf_take hr)
      clear hw hr hg h1 HC
      go_wp2_with fail
      refine (unhide HN1).mono ?_
      intro e w2 hw
      rcases hw.split with ⟨y, hr, rfl, hg⟩ | ⟨uu2, s2, hr, rfl, h2, hg⟩
      · show Q (Exit.panic _) _ _
        rw [← hQ]
        refine ⟨rfl, ?_⟩
        rw [unhide HF, hr]
        exact ⟨rfl, ((unhide HG0).trans (unhide Hg1)).trans hg⟩
      · have HF2 : Hid (fileF s = match meaningF syntaxF s2 with | .error e => .error e | .ok (_, s3) => match pneedSignF ⟨#[59]⟩ s3 with | .error e => .error e | .ok (_, s4) => fileBody s4) := by show _ = _; rw [unhide HF, hr]
        have Hg2 := hide ((unhide Hg1).trans hg)
        have Hs2 := hide ((unhide Hs1).trans (suf_needSign hr))
        have HM := hide (meaning_syntax_any ((unhide HV).step ((unhide HG0).trans ((unhide Hg1).trans hg))) h2)
        clear hw hr hg h2 HN1 HF Hg1 Hs1
        go_wp2_with fail
        refine (unhide HM).mono ?_
        intro e w3 hw
        rcases hw.split with ⟨y, hr, rfl, hg⟩ | ⟨yy3, s3, hr, rfl, h3, hg⟩
        · show Q (Exit.panic _) _ _
          rw [← hQ]
          refine ⟨rfl, ?_⟩
          rw [unhide HF2, hr]
          exact ⟨rfl, ((unhide HG0).trans (unhide Hg2)).trans hg⟩
        · have HF3 : Hid (fileF s = match pneedSignF ⟨#[59]⟩ s3 with | .error e => .error e | .ok (_, s4) => fileBody s4) := by show _ = _; rw [unhide HF2, hr]
          have Hg3 := hide ((unhide Hg2).trans hg)
          have Hs3 := hide ((unhide Hs2).trans (gt_meaning hr).1.suf)
          have HN4 := hide (needSign_any h3 ⟨#[59]⟩)
          clear hw hr hg h3 HM HF2 Hg2 Hs2
          go_wp2_with fail
          refine (unhide HN4).mono ?_
          intro e w4 hw
          rcases hw.split with ⟨y, hr, rfl, hg⟩ | ⟨uu4, s4, hr, rfl, h4, hg⟩
          · show Q (Exit.panic _) _ _
            rw [← hQ]
            refine ⟨rfl, ?_⟩
            rw [unhide HF3, hr]
            exact ⟨rfl, ((unhide HG0).trans (unhide Hg3)).trans hg⟩
          · have HF4 : Hid (fileF s = fileBody s4) := by show _ = _; rw [unhide HF3, hr]
            have hg4 := (unhide Hg3).trans hg
            have Hg4 := hide hg4
            have Hs4 := hide ((unhide Hs3).trans (suf_needSign hr))
            have Hp2 := hide (unhide HBK _ hg4)
            have H4 := hide h4
            clear hw hr hg h4 hg4 HN4 HF3 Hg3 Hs3
            go_wp2
            rw [← htl, ← hQ]
            refine flT6_any (p2 := W.heap.size) (u := fun i => [undef, undef, undef, undef, undef, .pointer (some ⟨b, 0, none⟩), .bool true, .bool false, undef, undef, .pointer (some ⟨b, 0, none⟩), noV uu2, .pointer (some ⟨b, 0, none⟩), .string yy3, .pointer (some ⟨b, 0, none⟩), noV uu4].getD i undef) ((unhide HV).step ((unhide HG0).trans (unhide Hg4))) (unhide H4) ((unhide Hs4).sm (unhide HS)) (by have := (unhide Hs4).len; have := unhide Hn; omega) ((unhide HG0).trans (unhide Hg4)) (unhide Hp2) ⟨(unhide Hlow).2, Nat.le_refl _⟩ ?_
            intro e w5 hcr
            rw [unhide HF4]
            exact hcr
end Go.Proofs.YtckpainohfhopaaGreatDoor

namespace Go.Proofs.YtckpainohfhopaaGreatDoor
open Go.RowKit
attribute [local go_sem ↓] Go.wp_at_zero Go.wp_at_succ

set_option maxRecDepth 100000 in
theorem isEnd_any (W : World) (kd sp : Int) (tx : ByteArray) : Calls Tryz.prog 56 #[.agg #[.int .i64 kd, .int .i64 sp, .string tx]] W fun e w => e = .returned (.bool (kd == 5)) ∧ Below W.heap.size W w := by
  have hb0 := hide ((Below.refl W.heap.size W).alloc (Nat.le_refl _) (.cells #[.int .i64 kd, .int .i64 sp, .string tx] 38))
  go_enter Tryz.func56, Tryz.ntmps56
  go_wp2
  go_ret
  exact ⟨rfl, unhide hb0⟩
/-- The place of the first end, from k on. -/
def endAt (ts : List Tk) : Nat → Nat → Option Nat
  | 0, _ => none
  | n + 1, k => match ts[k]? with
    | none => none
    | some t => if (t.kind == 5) = true then some k else endAt ts n (k + 1)
def idxV : Option Nat → Value
  | some k => .int .i64 (k : Int)
  | none => .int .i64 (-1)
def IxJ (W : World) (ts : List Tk) (v : Value) (R0 : Option Nat) (n : Nat) (a : Act) (w : World) : Prop := ∃ (u : Nat → Value) (k : Nat), a = ⟨#[v, .func (.func 56) #[] #[], u 2, u 3, u 4, u 5, u 6, .int .i64 (ts.length : Int), .int .i64 (k : Int), u 9, u 10, u 11, u 12, u 13, u 14, u 15, u 16, u 17, u 18], []⟩ ∧ Below W.heap.size W w ∧ k + n = ts.length + 1 ∧ endAt ts n k = R0
def IxP (W : World) (R0 : Option Nat) (e : Ending) (w : World) : Prop := e = .returned (idxV R0) ∧ Below W.heap.size W w
set_option maxRecDepth 100000 in
set_option maxHeartbeats 4000000 in
theorem indexF_any {W : World} {v : Value} {ts : List Tk} (h : HasTk W W.heap.size W.heap.size v ts) (hn : ts.length ≤ 16384) : Calls Tryz.prog 55 #[v, .func (.func 56) #[] #[]] W (IxP W (endAt ts (ts.length + 1) 0)) := by
  obtain ⟨a, c, rfl, hc, hm, h3⟩ := h
  have H3 := hide h3
  have HB := hide (Below.refl W.heap.size W)
  obtain ⟨R0, hR0⟩ : ∃ R0, endAt ts (ts.length + 1) 0 = R0 := ⟨_, rfl⟩
  rw [hR0]
  have HR0 := hide hR0
  clear h3 hR0
  go_enter Tryz.func55, Tryz.ntmps55
  go_wp2
  refine wp_loop_count (IxJ W ts (.slice a ts.length c) R0) ?_ (ts.length + 1) _ _ ⟨fun i => [undef, undef, undef, undef, .int .i64 0, undef, .slice a ts.length c].getD i undef, 0, rfl, unhide HB, by omega, unhide HR0⟩
  obtain ⟨Q, hQ⟩ : ∃ Q, bodyPost Tryz.prog Tryz.f55 (IxP W R0) = Q := ⟨_, rfl⟩
  rw [hQ]
  clear HR0 HB
  rintro n _ wr ⟨u, k, rfl, hb, hk, hR⟩
  have Hb := hide hb
  have HR := hide hR
  by_cases hlt : k < ts.length
  · obtain ⟨g, off, rfl, hg, hne, hx⟩ := unhide H3 (by omega)
    obtain ⟨⟨kd, sp, tx⟩, ht⟩ : ∃ t, ts[k]? = some t := ⟨_, List.getElem?_eq_getElem hlt⟩
    obtain ⟨x1, x2, x3⟩ := hx k _ ht
    simp only at x1 x2 x3
    have y1 : wr.cell? ⟨g, off + k * 3, none⟩ = some (.int .i64 kd) := (hb.cell (p := ⟨g, off + k * 3, none⟩) hg).trans x1
    have y2 : wr.cell? ⟨g, off + k * 3 + 1, none⟩ = some (.int .i64 sp) := (hb.cell (p := ⟨g, off + k * 3 + 1, none⟩) hg).trans x2
    have y3 : wr.cell? ⟨g, off + k * 3 + 2, none⟩ = some (.string tx) := (hb.cell (p := ⟨g, off + k * 3 + 2, none⟩) hg).trans x3
    obtain ⟨n, rfl⟩ : ∃ m, n = m + 1 := ⟨n - 1, by omega⟩
    have HEq : Hid (R0 = if (kd == 5) = true then some k else endAt ts n (k + 1)) := by
      show _ = _
      rw [← unhide HR]
      conv => lhs; unfold endAt
      rw [ht]
    have Hk := hide hk
    obtain ⟨L, hL⟩ : ∃ L, ts.length = L := ⟨_, rfl⟩
    have HL := hide hL
    rw [hL] at hlt hn hc ⊢
    have n0 : (0 : Int) ≤ (k : Int) := Int.natCast_nonneg _
    have n1 : (k : Int) < (L : Int) := by omega
    have hd : decide ((k : Int) < (L : Int)) = true := by simp; omega
    have HC := hide (isEnd_any wr kd sp tx)
    clear hx ht x1 x2 x3 hb hR hk hL H3 hg hne HR
    go_wp2_with fail
    refine (unhide HC).mono ?_
    rintro e w2 ⟨rfl, hb2⟩
    have Hb2 := hide ((unhide Hb).trans (hb2.mono (unhide Hb).size))
    clear hb2 HC Hb y1 y2 y3
    cases h5 : (kd == 5) with
    | true =>
      have HE : Hid (idxV R0 = .int .i64 (k : Int)) := by show _ = _; rw [unhide HEq, if_pos h5]; rfl
      clear h5
      go_wp2
      rw [← hQ]
      go_ret
      exact ⟨(congrArg Ending.returned (unhide HE)).symm, unhide Hb2⟩
    | false =>
      have HE : Hid (endAt ts n (k + 1) = R0) := by show _ = _; rw [unhide HEq, if_neg (by rw [h5]; simp)]
      have hk2 : k + 1 ≤ 20000 := by omega
      clear h5
      go_wp2
      refine ⟨n, rfl, fun i => [undef, undef, u 2, u 3, u 4, .int .i64 (k : Int), u 6, undef, undef, .bool true, .int .i64 (k : Int), .func (.func 56) #[] #[], .slice (some ⟨g, off, none⟩) L c, .int .i64 (k : Int), .pointer (some ⟨g, off + k * 3, none⟩), .agg #[.int .i64 kd, .int .i64 sp, .string tx], .bool false, u 17, .int .i64 ((k : Int) + 1)].getD i undef, k + 1, ?_, unhide Hb2, by have := unhide Hk; omega, unhide HE⟩
      rw [unhide HL]
      rfl
  · have hd : decide (k < ts.length) = false := by simp; omega
    have HE : Hid (idxV R0 = .int .i64 (-1)) := by
      show _ = _
      rw [← hR]
      cases n with
      | zero => rfl
      | succ n =>
        unfold endAt
        rw [List.getElem?_eq_none (by omega)]
        rfl
    obtain ⟨L, hL⟩ : ∃ L, ts.length = L := ⟨_, rfl⟩
    rw [hL] at hlt hn hc hd ⊢
    clear hb hR hk hL H3 HR hlt
    go_wp2
    try rw [← hQ]
    go_ret
    exact ⟨(congrArg Ending.returned (unhide HE)).symm, unhide Hb⟩
end Go.Proofs.YtckpainohfhopaaGreatDoor

namespace Go.Proofs.YtckpainohfhopaaGreatDoor
open Go.RowKit
attribute [local go_sem ↓] Go.wp_at_zero Go.wp_at_succ

theorem endAt_ok (ts : List Tk) : ∀ (n j k : Nat), endAt ts n j = some k → ∃ t, ts[k]? = some t ∧ t.kind = 5
  | 0, _, _, h => by cases h
  | n + 1, j, k, h => by
    unfold endAt at h
    cases ht : ts[j]? with
    | none => rw [ht] at h; cases h
    | some t =>
      rw [ht] at h
      simp only at h
      split at h
      · rename_i hk
        obtain rfl := Option.some.inj h
        exact ⟨t, ht, eq_of_beq hk⟩
      · exact endAt_ok ts n (j + 1) k h
/-- Where a reader begins. -/
def startF (ts : List Tk) : PSt := match endAt ts (ts.length + 1) 0 with
  | some k => ⟨ts.take k, ts.getD k tok0, false, 0, 0⟩
  | none => match ts.getLast? with
    | some t => ⟨ts, ⟨5, wrap64 (t.spot + (t.text.size : Int)), ⟨#[]⟩⟩, false, 0, 0⟩
    | none => ⟨ts, ⟨5, 0, ⟨#[]⟩⟩, false, 0, 0⟩
def NrP (W : World) (ts : List Tk) (e : Ending) (w : World) : Prop := ∃ b, e = .returned (.pointer (some ⟨b, 0, none⟩)) ∧ W.heap.size ≤ b ∧ Below W.heap.size W w ∧ Rd w.heap.size w b (startF ts)
theorem HasTk.take {W : World} {lo b k c : Nat} {a : Option Addr} {ts : List Tk} (h : HasTk W lo b (.slice a ts.length c) ts) (hk : k ≤ ts.length) : HasTk W lo b (.slice a k c) (ts.take k) := by
  obtain ⟨a0, c0, e, h1, h2, h3⟩ := h
  simp only [Value.slice.injEq] at e
  obtain ⟨rfl, _, rfl⟩ := e
  have hl : (ts.take k).length = k := by rw [List.length_take]; omega
  refine ⟨a, c, by rw [hl], by omega, h2, fun hp => ?_⟩
  obtain ⟨g, off, e, h4, h5, h6⟩ := h3 (by omega)
  refine ⟨g, off, e, h4, h5, fun i t ht => h6 i t ?_⟩
  rw [List.getElem?_take] at ht
  split at ht
  · exact ht
  · cases ht
theorem HasTk.new {W w : World} {lo b lo' b' : Nat} {v : Value} {ts : List Tk} (h : HasTk W lo b v ts) (hb : Below lo W w) (hl : lo ≤ lo') (hb' : lo ≤ b') : HasTk w lo' b' v ts := by
  obtain ⟨a, c, rfl, h1, h2, h3⟩ := h
  refine ⟨a, c, rfl, h1, h2, fun hp => ?_⟩
  obtain ⟨g, off, rfl, h4, h5, h6⟩ := h3 hp
  have e : ∀ j, w.cell? ⟨g, j, none⟩ = W.cell? ⟨g, j, none⟩ := fun j => hb.cell (p := ⟨g, j, none⟩) h4
  refine ⟨g, off, rfl, by omega, by omega, fun i t ht => ?_⟩
  rw [e, e, e]
  exact h6 i t ht
theorem nr_done {W w : World} {v : Value} {ts ts' : List Tk} {en : Tk} (h : HasTk W W.heap.size W.heap.size v ts') (hb : Below W.heap.size W w) (hk : en.kind = 5) (hs : startF ts = ⟨ts', en, false, 0, 0⟩) : NrP W ts (.returned (.pointer (some ⟨w.heap.size, 0, none⟩))) (w.alloc (.cells #[v, .int .i64 en.kind, .int .i64 en.spot, .string en.text, .bool false, .int .i64 0, .int .i64 0] 102)) := by
  have hb2 := hb.alloc hb.size (.cells #[v, .int .i64 en.kind, .int .i64 en.spot, .string en.text, .bool false, .int .i64 0, .int .i64 0] 102)
  have hsz := World.size_alloc w (.cells #[v, .int .i64 en.kind, .int .i64 en.spot, .string en.text, .bool false, .int .i64 0, .int .i64 0] 102)
  refine ⟨w.heap.size, rfl, hb.size, hb2, ?_⟩
  rw [hs]
  exact ⟨v, heap_new _ _, h.new hb2 (by have := hb.size; omega) hb.size, ⟨by omega, Nat.le_refl _⟩, by simp only; omega, by simp only; omega, hk⟩
set_option maxRecDepth 100000 in
set_option maxHeartbeats 4000000 in
theorem newReader_any {W : World} {v : Value} {ts : List Tk} (h : HasTk W W.heap.size W.heap.size v ts) (hn : ts.length ≤ 16384) : Calls Tryz.prog 32 #[v] W (NrP W ts) := by
  have HC := hide (indexF_any h hn)
  have HH := hide h
  obtain ⟨a, c, rfl, hc, hm, h3⟩ := h
  cases hend : endAt ts (ts.length + 1) 0 with
  | some k =>
    rw [hend] at HC
    obtain ⟨⟨kd, sp, tx⟩, ht, h5⟩ := endAt_ok ts _ _ _ hend
    have hlt : k < ts.length := (List.getElem?_eq_some_iff.1 ht).1
    obtain ⟨g, off, rfl, hg, hne, hx⟩ := h3 (by omega)
    obtain ⟨x1, x2, x3⟩ := hx k _ ht
    simp only at x1 x2 x3 h5
    subst h5
    have HS : Hid (startF ts = ⟨ts.take k, ⟨5, sp, tx⟩, false, 0, 0⟩) := by
      show _ = _
      unfold startF
      rw [hend]
      simp only
      rw [List.getD_eq_getElem?_getD, ht]
      rfl
    have HT := hide ((unhide HH).take (k := k) (by omega))
    have Hx := hide (show W.cell? ⟨g, off + k * 3, none⟩ = _ ∧ W.cell? ⟨g, off + k * 3 + 1, none⟩ = _ ∧ W.cell? ⟨g, off + k * 3 + 2, none⟩ = _ from ⟨x1, x2, x3⟩)
    have Hg := hide hg
    have n0 : (0 : Int) ≤ (k : Int) := Int.natCast_nonneg _
    obtain ⟨L, hL⟩ : ∃ L, ts.length = L := ⟨_, rfl⟩
    rw [hL] at hlt hc hn HC ⊢
    have n1 : (k : Int) < (L : Int) := by omega
    have n2 : (k : Int) ≤ (c : Int) := by omega
    have n3 : k ≤ c := by omega
    clear hend ht hx x1 x2 x3 h3 hg hL HH
    go_enter Tryz.func32, Tryz.ntmps32
    go_wp2_with fail
    refine (unhide HC).mono ?_
    rintro e w1 ⟨rfl, hb1⟩
    unfold idxV
    obtain ⟨x1, x2, x3⟩ := unhide Hx
    have y1 := (hb1.cell (p := ⟨g, off + k * 3, none⟩) (unhide Hg)).trans x1
    have y2 := (hb1.cell (p := ⟨g, off + k * 3 + 1, none⟩) (unhide Hg)).trans x2
    have y3 := (hb1.cell (p := ⟨g, off + k * 3 + 2, none⟩) (unhide Hg)).trans x3
    have Hb1 := hide hb1
    clear x1 x2 x3 hb1 HC Hx
    go_wp2
    go_region
    all_goals (try go_wp2)
    all_goals go_ret
    all_goals exact nr_done (unhide HT) (below_drewN (unhide Hb1) _) rfl (unhide HS)
  | none =>
    rw [hend] at HC
    cases hlast : ts.getLast? with
    | none =>
      have hnil : ts = [] := by
        rw [List.getLast?_eq_none_iff] at hlast
        exact hlast
      subst hnil
      have HS : Hid (startF [] = ⟨[], ⟨5, 0, ⟨#[]⟩⟩, false, 0, 0⟩) := rfl
      simp only [List.length_nil] at HC HH ⊢
      clear hend hlast h3 hn hc hm
      go_enter Tryz.func32, Tryz.ntmps32
      go_wp2_with fail
      refine (unhide HC).mono ?_
      rintro e w1 ⟨rfl, hb1⟩
      unfold idxV
      have HB := hide (hb1.alloc hb1.size (.cells #[.int .i64 5, .int .i64 0, .string ⟨#[]⟩] 38))
      clear hb1 HC
      go_wp2
      go_ret
      have := nr_done (ts := []) (unhide HH) (unhide HB) (en := ⟨5, 0, ⟨#[]⟩⟩) rfl (unhide HS)
      rw [World.size_alloc] at this
      exact this
    | some t =>
      obtain ⟨kd, sp, tx⟩ := t
      obtain ⟨k, hk⟩ : ∃ k, ts.length = k + 1 := by
        cases ts with
        | nil => cases hlast
        | cons t r => exact ⟨r.length, rfl⟩
      have ht : ts[k]? = some ⟨kd, sp, tx⟩ := by
        rw [List.getLast?_eq_getElem?] at hlast
        rw [← hlast, hk]
        rfl
      obtain ⟨g, off, rfl, hg, hne, hx⟩ := h3 (by omega)
      obtain ⟨x1, x2, x3⟩ := hx k _ ht
      simp only at x1 x2 x3
      have HS : Hid (startF ts = ⟨ts, ⟨5, wrap64 (sp + (tx.size : Int)), ⟨#[]⟩⟩, false, 0, 0⟩) := by
        show _ = _
        unfold startF
        rw [hend, hlast]
      have Hx := hide (show W.cell? ⟨g, off + k * 3, none⟩ = _ ∧ W.cell? ⟨g, off + k * 3 + 1, none⟩ = _ ∧ W.cell? ⟨g, off + k * 3 + 2, none⟩ = _ from ⟨x1, x2, x3⟩)
      have Hg := hide hg
      obtain ⟨L, hL⟩ : ∃ L, ts.length = L := ⟨_, rfl⟩
      have HL := hide hL
      rw [hL] at hk hc hn HC ⊢
      have n0 : (0 : Int) ≤ (k : Int) := Int.natCast_nonneg _
      have n1 : (k : Int) < (L : Int) := by omega
      have n2 : (L : Int) - 1 = (k : Int) := by omega
      have n3 : 0 < L := by omega
      clear hend hlast ht hx x1 x2 x3 h3 hg hL hk
      go_enter Tryz.func32, Tryz.ntmps32
      go_wp2_with fail
      refine (unhide HC).mono ?_
      rintro e w1 ⟨rfl, hb1⟩
      unfold idxV
      obtain ⟨x1, x2, x3⟩ := unhide Hx
      have y1 := (hb1.cell (p := ⟨g, off + k * 3, none⟩) (unhide Hg)).trans x1
      have y2 := (hb1.cell (p := ⟨g, off + k * 3 + 1, none⟩) (unhide Hg)).trans x2
      have y3 := (hb1.cell (p := ⟨g, off + k * 3 + 2, none⟩) (unhide Hg)).trans x3
      have hgw : g < w1.heap.size := Nat.lt_of_lt_of_le (unhide Hg) hb1.size
      have hb1' := hb1
      clear x1 x2 x3 hb1 HC Hx
      have HB := hide ((hb1'.alloc hb1'.size (.cells #[.int .i64 5, .int .i64 (wrap64 (sp + (tx.size : Int))), .string ⟨#[]⟩] 38)).alloc (by rw [World.size_alloc]; have := hb1'.size; omega) (.cells #[.int .i64 kd, .int .i64 sp, .string tx] 38))
      clear hb1'
      go_wp2
      go_ret
      have hfin := nr_done (ts := ts) (unhide HH) (unhide HB) (en := ⟨5, wrap64 (sp + (tx.size : Int)), ⟨#[]⟩⟩) rfl (unhide HS)
      simp only [World.size_alloc] at hfin
      rw [unhide HL] at hfin
      exact hfin
end Go.Proofs.YtckpainohfhopaaGreatDoor
