import Derived.Test.YtdhncpeemcanlaaGreatDoorPbZ

namespace Go.Proofs.YtdhncpeemcanlaaGreatDoor
open Go.RowKit
attribute [local go_sem ↓] Go.wp_at_zero Go.wp_at_succ

/-- A file that was just read. -/
def NF (a : Fl) (x : Value) (P : Nat → Prop) (w : World) : Prop := ∃ vi vm ve cm ce, x = .agg #[.string a.pkg, vi, vm, ve] ∧ RowR P w 9 1 vi a.imps.length (strC a.imps) ∧ RowR P w 51 7 vm a.ms.length cm ∧ HasMs P w cm a.ms ∧ RowR P w 66 4 ve a.es.length ce ∧ HasEs P w ce a.es
def fileLF (st : Stp Fl) : Nat → Stp Fl
  | 0, _, _ => .error (0, 0)
  | n + 1, x, s => if s.here.kind = 5 then .ok (x, s) else match st x s with
    | .error e => .error e
    | .ok (x', s') => fileLF st n x' s'
noncomputable def fileBody (s : PSt) : Except (Int × Int) (Fl × PSt) := fileLF (stmtF flW flO) (s.ts.length + 1) ⟨⟨#[]⟩, [], [], []⟩ s
noncomputable def fileF (s : PSt) : Except (Int × Int) (Fl × PSt) := match ptakeF 1 ⟨#[115, 121, 110, 116, 97, 120]⟩ s with
  | .error e => .error e
  | .ok (false, s1) => .error (wrongE s1)
  | .ok (true, s1) => match pneedSignF ⟨#[61]⟩ s1 with
    | .error e => .error e
    | .ok (_, s2) => match meaningF syntaxF s2 with
      | .error e => .error e
      | .ok (_, s3) => match pneedSignF ⟨#[59]⟩ s3 with
        | .error e => .error e
        | .ok (_, s4) => fileBody s4
noncomputable def flT6 : Code := match Tryz.f37.body with
  | some (.seq _ (.seq _ (.seq _ (.seq _ (.seq _ t))))) => t
  | _ => .skip
noncomputable def flWith (t : Code) : Code := match Tryz.f37.body with
  | some (.seq a (.seq b (.seq c (.seq d (.seq e _))))) => .seq a (.seq b (.seq c (.seq d (.seq e t))))
  | _ => .skip
theorem fl_split : Tryz.f37.body = some (flWith flT6) := rfl
theorem sizeFl : (Tryz.prog.info? 34).map (·.size) = some 4 := by kernel_rfl
def FlJ (lo b g p2 pv : Nat) (N : (Nat → Prop) → World → Prop) (V W : World) (R0 : Except (Int × Int) (Fl × PSt)) (n : Nat) (a : Act) (w : World) : Prop := ∃ (u : Nat → Value) (x : Fl) (s : PSt), a = ⟨#[.pointer (some ⟨b, 0, none⟩), u 1, .pointer (some ⟨p2, 0, none⟩), .pointer (some ⟨g, 0, none⟩), .map (some (pv + 2)), u 5, u 6, u 7, u 8, u 9, u 10, u 11, u 12, u 13, u 14, u 15, u 16, u 17, u 18, u 19, u 20, u 21, u 22, u 23, u 24, u 25, u 26, u 27], []⟩ ∧ FlI lo b g N V W x s w ∧ s.ts.length < n ∧ fileLF (stmtF flW flO) n x s = R0
set_option maxRecDepth 100000 in
set_option maxHeartbeats 4000000 in
theorem flT6_any {lo b p2 : Nat} {V W0 w : World} {s : PSt} (hv : Env V w b) (h : Rd lo w b s) (hs : Sm s) (hn : s.ts.length ≤ 16384) (hgr : W0.grownBy w (some b)) (hp2 : w.heap[p2]? = some (.cells #[.string ⟨#[]⟩, .slice none 0 0, .slice none 0 0, .slice none 0 0] 34 (0, 0))) (hlo : lo ≤ W0.heap.size ∧ W0.heap.size ≤ p2) {u : Nat → Value} {R : Ending → World → Prop} (hR : ∀ e w, CR lo b NF W0 (fileBody s) e w → R e w) :
    flT6.wp Tryz.prog (bodyPost Tryz.prog Tryz.f37 R) ⟨#[.pointer (some ⟨b, 0, none⟩), u 1, .pointer (some ⟨p2, 0, none⟩), u 3, u 4, u 5, u 6, u 7, u 8, u 9, u 10, u 11, u 12, u 13, u 14, u 15, u 16, u 17, u 18, u 19, u 20, u 21, u 22, u 23, u 24, u 25, u 26, u 27], []⟩ w := by
  have hl2 := (Array.getElem?_eq_some_iff.1 hp2).1
  have hlow := h.low
  have hb4 := (Below.refl w.heap.size w).alloc (Nat.le_refl _) (.cells #[.string ⟨#[]⟩, .slice none 0 0, .slice none 0 0, .slice none 0 0] 34)
  have h4 := h.up hb4
  have hap : Ap lo b w.heap.size 34 ⟨#[]⟩ (FSl ⟨⟨#[]⟩, [], [], []⟩ (.slice none 0 0) (.slice none 0 0) (.slice none 0 0) [] []) (FlN w.heap.size (Cell1 p2 #[.string ⟨#[]⟩, .slice none 0 0, .slice none 0 0, .slice none 0 0] 34) ⟨⟨#[]⟩, [], [], []⟩ [] []) V w s (w.alloc (.cells #[.string ⟨#[]⟩, .slice none 0 0, .slice none 0 0, .slice none 0 0] 34)) := by
    have hno : ∀ (i : Nat) (sl : Slot), (FSl ⟨⟨#[]⟩, [], [], []⟩ (.slice none 0 0) (.slice none 0 0) (.slice none 0 0) [] [])[i]? = some sl → sl.v = .slice none 0 0 ∧ sl.n = 0 ∧ sl.xs = [] := fun i sl hi => by
      match i, hi with
      | 0, hi => obtain rfl := Option.some.inj hi; exact ⟨rfl, rfl, rfl⟩
      | 1, hi => obtain rfl := Option.some.inj hi; exact ⟨rfl, rfl, rfl⟩
      | 2, hi => obtain rfl := Option.some.inj hi; exact ⟨rfl, rfl, rfl⟩
      | k + 3, hi => cases hi
    have hfz : ∀ k, k ≠ b → k ≠ w.heap.size → Fz (FSl ⟨⟨#[]⟩, [], [], []⟩ (.slice none 0 0) (.slice none 0 0) (.slice none 0 0) [] []) w.heap.size b k := fun k q1 q2 => ⟨q1, q2, fun i sl hi e => by
      rw [(hno i sl hi).1] at e
      cases e⟩
    refine ⟨⟨heap_new _ _, fun i sl hi => ?_, fun i j a c hne ha hc k hk => ?_⟩, ⟨⟨(hb4.block _ hl2).trans hp2, hfz _ (by omega) (by omega)⟩, .nil, .nil⟩, h4, by omega, ⟨hb4.os, hb4.tape, hb4.output, hb4.size, fun k hk _ => hb4.block k hk⟩, hv.step (below_grown b hb4)⟩
    · obtain ⟨q1, q2, q3⟩ := hno i sl hi
      exact ⟨by rw [q2, q3]; simp, .inl ⟨q1, q2⟩⟩
    · rw [(hno i a ha).1] at hk
      cases hk
  have hI : FlI lo b w.heap.size (Cell1 p2 #[.string ⟨#[]⟩, .slice none 0 0, .slice none 0 0, .slice none 0 0] 34) V w ⟨⟨#[]⟩, [], [], []⟩ s (w.alloc (.cells #[.string ⟨#[]⟩, .slice none 0 0, .slice none 0 0, .slice none 0 0] 34)) := ⟨⟨_, _, _, _, _, hap⟩, ⟨by simp only [List.length_nil]; omega, by simp only [List.length_nil]; omega, by simp only [List.length_nil]; omega⟩, hs, hn⟩
  have HI := hide hI
  have HR := hide hR
  have Hgr := hide hgr
  have Hlo := hide hlo
  have Hl2 := hide hl2
  have HT := hide (tops_any (w.alloc (.cells #[.string ⟨#[]⟩, .slice none 0 0, .slice none 0 0, .slice none 0 0] 34)) b w.heap.size)
  obtain ⟨g, hg⟩ : ∃ g, w.heap.size = g := ⟨_, rfl⟩
  have Hg := hide hg
  rw [hg] at HI HT Hl2
  clear hv h hs hn hgr hp2 hlo hl2 hlow hb4 h4 hap hI hR
  obtain ⟨Q, hQ⟩ : ∃ Q, bodyPost Tryz.prog Tryz.f37 R = Q := ⟨_, rfl⟩
  rw [hQ]
  unfold flT6
  dsimp only [Tryz.f37]
  subst hg
  go_wp2_with fail
  refine (unhide HT).mono ?_
  rintro e w1 ⟨rfl, hb1, hcs⟩
  obtain ⟨pv, hpv⟩ : ∃ pv, (w.alloc (.cells #[.string ⟨#[]⟩, .slice none 0 0, .slice none 0 0, .slice none 0 0] 34)).heap.size = pv := ⟨_, rfl⟩
  rw [hpv] at hcs ⊢
  have hS0 : Stable (Cell1 p2 #[.string ⟨#[]⟩, .slice none 0 0, .slice none 0 0, .slice none 0 0] 34) := stable_cell _ _ _
  have hS1 : Stable (fun P w' => Cell1 p2 #[.string ⟨#[]⟩, .slice none 0 0, .slice none 0 0, .slice none 0 0] 34 P w' ∧ (Cell1 pv #[.pointer (some ⟨b, 0, none⟩)] 80 P w' ∧ Cell1 (pv + 1) #[.pointer (some ⟨w.heap.size, 0, none⟩)] 104 P w' ∧ WMap (pv + 2) (topsT pv b) P w')) := hS0.and ((stable_cell _ _ _).and ((stable_cell _ _ _).and (stable_map _ _)))
  have hI1 : FlI lo b w.heap.size (fun P w' => Cell1 p2 #[.string ⟨#[]⟩, .slice none 0 0, .slice none 0 0, .slice none 0 0] 34 P w' ∧ (Cell1 pv #[.pointer (some ⟨b, 0, none⟩)] 80 P w' ∧ Cell1 (pv + 1) #[.pointer (some ⟨w.heap.size, 0, none⟩)] 104 P w' ∧ WMap (pv + 2) (topsT pv b) P w')) V w ⟨⟨#[]⟩, [], [], []⟩ s w1 := by
    obtain ⟨⟨vi, vm, ve, cm, ce, hap⟩, hl⟩ := unhide HI
    refine ⟨⟨vi, vm, ve, cm, ce, ?_⟩, hl⟩
    have := hap.join (FlN.st hS0 _ _ _) ((stable_cell pv #[.pointer (some ⟨b, 0, none⟩)] 80).and ((stable_cell (pv + 1) #[.pointer (some ⟨w.heap.size, 0, none⟩)] 104).and (stable_map (pv + 2) (topsT pv b)))) (hap.rd.up hb1) (below_grown b hb1) (by rw [hpv]; exact hcs)
    exact this.imp (fun h => ⟨⟨h.1.1, h.2⟩, h.1.2⟩)
  have htab := fl_tab (lo := lo) (b := b) (g := w.heap.size) (pv := pv) (V := V) (W := w) hS1 (fun P w h => h.2.1) (fun P w h => h.2.2.1) (fun P w h => h.2.2.2)
  obtain ⟨N, hNq⟩ : ∃ N : (Nat → Prop) → World → Prop, (fun P w' => Cell1 p2 #[.string ⟨#[]⟩, .slice none 0 0, .slice none 0 0, .slice none 0 0] 34 P w' ∧ (Cell1 pv #[.pointer (some ⟨b, 0, none⟩)] 80 P w' ∧ Cell1 (pv + 1) #[.pointer (some ⟨w.heap.size, 0, none⟩)] 104 P w' ∧ WMap (pv + 2) (topsT pv b) P w')) = N := ⟨_, rfl⟩
  have HCp : Hid (∀ P w', N P w' → Cell1 p2 #[.string ⟨#[]⟩, .slice none 0 0, .slice none 0 0, .slice none 0 0] 34 P w') := fun P w' h => by rw [← hNq] at h; exact h.1
  rw [hNq] at hI1 htab hS1
  have HI1 := hide hI1
  have HTab := hide htab
  have HS1 := hide hS1
  clear hb1 hcs hS0 hS1 hI1 htab HT HI hNq hpv Hg
  obtain ⟨g, hgq⟩ : ∃ g, w.heap.size = g := ⟨_, rfl⟩
  have Hgq := hide hgq
  rw [hgq] at HI1 HTab Hl2 ⊢
  clear hgq
  go_wp2
  refine wp_loop_count (FlJ lo b g p2 pv N V w (fileBody s)) ?_ (s.ts.length + 1) _ _ ⟨fun i => [undef, u 1, undef, undef, undef, u 5, u 6, u 7, u 8, u 9, u 10, u 11, u 12, u 13, u 14, u 15, u 16, u 17, u 18, u 19, u 20, u 21, u 22, u 23, u 24, u 25, u 26, u 27].getD i undef |> fun v => if i = 16 then .pointer (some ⟨b, 0, none⟩) else if i = 17 then .map (some (pv + 2)) else v, _, s, rfl, unhide HI1, by omega, rfl⟩
  obtain ⟨R0, hR0⟩ : ∃ R0, fileBody s = R0 := ⟨_, rfl⟩
  rw [hR0] at HR ⊢
  clear HI1 hR0
  rintro n _ wr ⟨u, x, sc, rfl, hi, hn, hRn⟩
  obtain ⟨n, rfl⟩ : ∃ k, n = k + 1 := ⟨n - 1, by omega⟩
  have HI := hide hi
  have HRn := hide hRn
  have Hn := hide hn
  have HH := hide (here_any hi.rd)
  obtain ⟨t, ht⟩ : ∃ t, sc.here = t := ⟨_, rfl⟩
  have Ht := hide ht
  rw [ht] at HH
  obtain ⟨kd, sp, tx⟩ := t
  unfold Tk.val at HH
  simp only at HH
  have hf : ∀ w, (Instr.field 29 (.agg #[.int .i64 kd, .int .i64 sp, .string tx]) 0).run Tryz.prog w = .ok (.int .i64 kd) w := fun w => (field_any w ⟨kd, sp, tx⟩).1
  clear hi hRn hn ht
  go_wp2_with fail
  refine (unhide HH).mono ?_
  rintro e w2 ⟨rfl, hb2⟩
  have HI2 := hide ((unhide HTab).up (unhide HI) hb2)
  clear hb2 HI HH
  by_cases hk : kd = 5
  · subst hk
    obtain ⟨⟨vi, vm, ve, cm, ce, hap⟩, _⟩ := unhide HI2
    obtain ⟨ia, ic, q1⟩ := row_shape2 (hap.bx.own 0 _ rfl)
    obtain ⟨ma, mc, q2⟩ := row_shape2 (hap.bx.own 1 _ rfl)
    obtain ⟨ea, ec, q3⟩ := row_shape2 (hap.bx.own 2 _ rfl)
    simp only at q1 q2 q3
    subst q1 q2 q3
    have hlo := unhide Hlo
    have hl2 := unhide Hl2
    obtain ⟨⟨d0, d1, d2, d3⟩, _⟩ := cells4 hap.bx.blk
    have hp2 := (unhide HCp _ _ hap.nx.1).1
    obtain ⟨⟨y0, y1, y2, y3⟩, yf⟩ := cells4 hp2
    have f0 := yf 0
    have f1 := yf 1
    have f2 := yf 2
    have f3 := yf 3
    obtain ⟨r1, r2⟩ := set4_block hp2 (.string x.pkg) (.slice ia x.imps.length ic) (.slice ma x.ms.length mc) (.slice ea x.es.length ec)
    have hrow : ∀ (i : Nat) (sl : Slot), (FSl x (.slice ia x.imps.length ic) (.slice ma x.ms.length mc) (.slice ea x.es.length ec) cm ce)[i]? = some sl → RowR (fun k => W0.heap.size ≤ k) (set4 w2 p2 (.string x.pkg) (.slice ia x.imps.length ic) (.slice ma x.ms.length mc) (.slice ea x.es.length ec)) sl.t sl.sz sl.v sl.n sl.xs := fun i sl hi => by
      have h1 := hap.bx.own i sl hi
      refine ⟨ownsRow_mono (World.ownsRow.kept h1 r2 ?_) (Nat.zero_le _), fun k hk => ?_⟩
      · right
        intro e
        have := (h1.lt p2 e).1
        omega
      · have := (h1.lt k hk).1
        omega
    have hgoes : Goes (fun k => Fz (FSl x (.slice ia x.imps.length ic) (.slice ma x.ms.length mc) (.slice ea x.es.length ec) cm ce) g b k ∧ g ≤ k) (fun k => W0.heap.size ≤ k) w2 (set4 w2 p2 (.string x.pkg) (.slice ia x.imps.length ic) (.slice ma x.ms.length mc) (.slice ea x.es.length ec)) := fun k hk hl => ⟨by omega, r2.block k hl (by simp; omega)⟩
    have HE : Hid (R (.returned (.agg #[.string x.pkg, .slice ia x.imps.length ic, .slice ma x.ms.length mc, .slice ea x.es.length ec])) (set4 w2 p2 (.string x.pkg) (.slice ia x.imps.length ic) (.slice ma x.ms.length mc) (.slice ea x.es.length ec))) := by
      refine unhide HR _ _ ?_
      rw [← unhide HRn]
      unfold fileLF
      rw [if_pos (by rw [unhide Ht])]
      exact ⟨_, rfl, ⟨_, _, _, cm, ce, rfl, hrow 0 _ rfl, hrow 1 _ rfl, stable_ms _ _ _ _ _ _ hgoes hap.nx.2.1, hrow 2 _ rfl, stable_es _ _ _ _ _ _ hgoes hap.nx.2.2⟩, rd_new hap.rd r2 (by omega), grown_new (grown_sv (unhide Hgr) hap.sv (by have := (unhide Hgq); omega)) r2 (by omega)⟩
    have R1 := hide r1
    unfold set4 at HE R1
    clear hap yf r1 r2 hrow hgoes hp2 hlo hl2 HI2
    go_wp2
    rw [← hQ]
    exact bodyPost_ret (results_cell_row rfl _ _ p2 34 #[.string x.pkg, .slice ia x.imps.length ic, .slice ma x.ms.length mc, .slice ea x.es.length ec] (0, 0) _ rfl (unhide R1) Tryz.underlying34 rfl sizeFl) rfl (unhide HE)
  · have hk2 : (kd != 5) = true := by simp [hk]
    have HE : Hid (∀ z, stmtF flW flO x sc = z → R0 = match z with | .error e => .error e | .ok (x', s') => fileLF (stmtF flW flO) n x' s') := fun z hz => by
      rw [← unhide HRn]
      conv => lhs; unfold fileLF
      rw [if_neg (by rw [unhide Ht]; exact hk), hz]
    have HC3 := hide (statement_any (unhide HTab) (unhide HI2))
    clear hk
    go_wp2_with fail
    refine (unhide HC3).mono ?_
    intro e w4 hw4
    rcases hw4.split with ⟨y, hr, rfl, he⟩ | ⟨x', s', hr, rfl, hi'⟩
    · show Q (Exit.panic _) _ _
      rw [← hQ]
      refine ⟨rfl, unhide HR _ _ ?_⟩
      rw [unhide HE _ hr]
      exact ⟨rfl, grown_sv (unhide Hgr) he (by have := unhide Hlo; have := unhide Hl2; omega)⟩
    · have hlt := stmt_lt flW_gt flO_gt (unhide HI2).rd.grown hr
      have HE2 := hide (unhide HE _ hr)
      have HI4 := hide hi'
      clear hr hi' hw4 HC3 HE HRn
      go_wp2
      exact ⟨n, rfl, fun i => [undef, u 1, undef, undef, undef, u 5, u 6, u 7, u 8, u 9, u 10, u 11, u 12, u 13, u 14, u 15, u 16, u 17, .pointer (some ⟨b, 0, none⟩), .agg #[.int .i64 kd, .int .i64 sp, .string tx], .int .i64 kd, .bool true, .pointer (some ⟨b, 0, none⟩), .map (some (pv + 2)), .pointer (some ⟨b, 0, none⟩), .func (.func 46) #[.pointer (some ⟨b, 0, none⟩)] #[], .tuple #[], u 27].getD i undef, x', s', rfl, unhide HI4, by have := unhide Hn; omega, (unhide HE2).symm⟩
set_option maxRecDepth 100000 in
set_option maxHeartbeats 4000000 in
theorem file_any {lo b : Nat} {V W : World} {s : PSt} (hv : Env V W b) (h : Rd lo W b s) (hs : Sm s) (hn : s.ts.length ≤ 16384) : Calls Tryz.prog 37 #[.pointer (some ⟨b, 0, none⟩)] W (CR lo b NF W (fileF s)) := by
  have hlow := h.low
  have hb2 : Below W.heap.size W (W.alloc (.cells #[.string ⟨#[]⟩, .slice none 0 0, .slice none 0 0, .slice none 0 0] 34)) := (Below.refl _ _).alloc (Nat.le_refl _) _
  have hx2 : (W.alloc (.cells #[.string ⟨#[]⟩, .slice none 0 0, .slice none 0 0, .slice none 0 0] 34)).heap[W.heap.size]? = some (.cells #[.string ⟨#[]⟩, .slice none 0 0, .slice none 0 0, .slice none 0 0] 34 (0, 0)) := heap_new _ _
  have HC := hide (takeWord_any (h.up hb2) ⟨#[115, 121, 110, 116, 97, 120]⟩)
  have hbk : ∀ w, (W.alloc (.cells #[.string ⟨#[]⟩, .slice none 0 0, .slice none 0 0, .slice none 0 0] 34)).grownBy w (some b) → w.heap[W.heap.size]? = some (.cells #[.string ⟨#[]⟩, .slice none 0 0, .slice none 0 0, .slice none 0 0] 34 (0, 0)) := fun w hg => (hg.block W.heap.size (by simp only [World.size_alloc]; omega) (by simp; omega)).trans hx2
  have HBK := hide hbk
  have HG0 := hide (below_grown b hb2)
  have HV := hide hv
  have HS := hide hs
  have Hn := hide hn
  have Hlow := hide hlow
  clear hx2 hbk hb2 h hv hs hn hlow
  refine calls_of_wp Tryz.func37 fl_split ?_
  obtain ⟨tl, htl⟩ : ∃ t, flT6 = t := ⟨_, rfl⟩
  rw [htl]
  obtain ⟨Q, hQ⟩ : ∃ Q, bodyPost Tryz.prog Tryz.f37 (CR lo b NF W (fileF s)) = Q := ⟨_, rfl⟩
  rw [hQ]
  unfold flWith
  dsimp only [Tryz.f37]
  simp only [List.size_toArray, List.length_cons, List.length_nil, Nat.reduceAdd, Nat.reduceSub, Array.replicate_succ, Array.replicate_zero, List.push_toArray, List.append_toArray, List.nil_append, List.cons_append]
  go_wp2_with fail
  refine (unhide HC).mono ?_
  intro e w1 hw
  rcases hw.split with ⟨y, hr, rfl, hg⟩ | ⟨f, s1, hr, rfl, h1, hg⟩
  · show Q (Exit.panic _) _ _
    rw [← hQ]
    refine ⟨rfl, ?_⟩
    unfold fileF
    rw [hr]
    exact ⟨rfl, (unhide HG0).trans hg⟩
  · cases f with
    | false =>
      have HW := hide (wrong_any h1)
      have HF : Hid (fileF s = .error (wrongE s1)) := by show _ = _; unfold fileF; rw [hr]
      have Hg := hide hg
      clear hw hr hg h1 HC
      go_wp2_with fail
      refine (unhide HW).mono ?_
      rintro e w2 ⟨rfl, hb⟩
      show Q (Exit.panic _) _ _
      rw [← hQ]
      refine ⟨rfl, ?_⟩
      rw [unhide HF]
      exact ⟨rfl, ((unhide HG0).trans (unhide Hg)).trans (below_grown b hb)⟩
    | true =>
      have HF : Hid (fileF s = match pneedSignF ⟨#[61]⟩ s1 with | .error e => .error e | .ok (_, s2) => match meaningF syntaxF s2 with | .error e => .error e | .ok (_, s3) => match pneedSignF ⟨#[59]⟩ s3 with | .error e => .error e | .ok (_, s4) => fileBody s4) := by
        show _ = _
        unfold fileF
        rw [hr]
      have HN1 := hide (needSign_any h1 ⟨#[61]⟩)
      have Hg1 := hide hg
      have Hs1 := hide (suf_take hr)
      clear hw hr hg h1 HC
      go_wp2_with fail
      refine (unhide HN1).mono ?_
      intro e w2 hw
      rcases hw.split with ⟨y, hr, rfl, hg⟩ | ⟨uu2, s2, hr, rfl, h2, hg⟩
      · show Q (Exit.panic _) _ _
        rw [← hQ]
        refine ⟨rfl, ?_⟩
        rw [unhide HF, hr]
        exact ⟨rfl, ((unhide HG0).trans (unhide Hg1)).trans hg⟩
      · have HF2 : Hid (fileF s = match meaningF syntaxF s2 with | .error e => .error e | .ok (_, s3) => match pneedSignF ⟨#[59]⟩ s3 with | .error e => .error e | .ok (_, s4) => fileBody s4) := by show _ = _; rw [unhide HF, hr]
        have Hg2 := hide ((unhide Hg1).trans hg)
        have Hs2 := hide ((unhide Hs1).trans (suf_needSign hr))
        have HM := hide (meaning_syntax_any ((unhide HV).step ((unhide HG0).trans ((unhide Hg1).trans hg))) h2)
        clear hw hr hg h2 HN1 HF Hg1 Hs1
        go_wp2_with fail
        refine (unhide HM).mono ?_
        intro e w3 hw
        rcases hw.split with ⟨y, hr, rfl, hg⟩ | ⟨yy3, s3, hr, rfl, h3, hg⟩
        · show Q (Exit.panic _) _ _
          rw [← hQ]
          refine ⟨rfl, ?_⟩
          rw [unhide HF2, hr]
          exact ⟨rfl, ((unhide HG0).trans (unhide Hg2)).trans hg⟩
        · have HF3 : Hid (fileF s = match pneedSignF ⟨#[59]⟩ s3 with | .error e => .error e | .ok (_, s4) => fileBody s4) := by show _ = _; rw [unhide HF2, hr]
          have Hg3 := hide ((unhide Hg2).trans hg)
          have Hs3 := hide ((unhide Hs2).trans (gt_meaning hr).1.suf)
          have HN4 := hide (needSign_any h3 ⟨#[59]⟩)
          clear hw hr hg h3 HM HF2 Hg2 Hs2
          go_wp2_with fail
          refine (unhide HN4).mono ?_
          intro e w4 hw
          rcases hw.split with ⟨y, hr, rfl, hg⟩ | ⟨uu4, s4, hr, rfl, h4, hg⟩
          · show Q (Exit.panic _) _ _
            rw [← hQ]
            refine ⟨rfl, ?_⟩
            rw [unhide HF3, hr]
            exact ⟨rfl, ((unhide HG0).trans (unhide Hg3)).trans hg⟩
          · have HF4 : Hid (fileF s = fileBody s4) := by show _ = _; rw [unhide HF3, hr]
            have hg4 := (unhide Hg3).trans hg
            have Hg4 := hide hg4
            have Hs4 := hide ((unhide Hs3).trans (suf_needSign hr))
            have Hp2 := hide (unhide HBK _ hg4)
            have H4 := hide h4
            clear hw hr hg h4 hg4 HN4 HF3 Hg3 Hs3
            go_wp2
            rw [← htl, ← hQ]
            refine flT6_any (p2 := W.heap.size) (u := fun i => [undef, undef, undef, undef, undef, .pointer (some ⟨b, 0, none⟩), .bool true, .bool false, undef, undef, .pointer (some ⟨b, 0, none⟩), noV uu2, .pointer (some ⟨b, 0, none⟩), .string yy3, .pointer (some ⟨b, 0, none⟩), noV uu4].getD i undef) ((unhide HV).step ((unhide HG0).trans (unhide Hg4))) (unhide H4) ((unhide Hs4).sm (unhide HS)) (by have := (unhide Hs4).len; have := unhide Hn; omega) ((unhide HG0).trans (unhide Hg4)) (unhide Hp2) ⟨(unhide Hlow).2, Nat.le_refl _⟩ ?_
            intro e w5 hcr
            rw [unhide HF4]
            exact hcr
end Go.Proofs.YtdhncpeemcanlaaGreatDoor
