import Derived.Test.YtaadpiimcaabkaaGreatDoorYAi
import Derived.Deep.DeepCutAuto

namespace Go.Proofs.YtaadpiimcaabkaaGreatDoor
open Go.RowKit
attribute [local go_sem ↓] Go.wp_at_zero Go.wp_at_succ

theorem members_all : ∀ f, MemC f
  | 0 => by
    intro W w B bb dd ll L n m vf vo vm ve vr vg nm fs os ms es rs gs cm ce h hP hF hd hlb hld hn hll hV hok hl
    exact hok.elim
  | f + 1 => members_succ f (members_all f)
theorem newPen_ex (W : World) : Calls Tryz.prog 43 #[] W fun e w => ∃ bb dd ll, (W.heap.size ≤ bb ∧ W.heap.size ≤ dd ∧ W.heap.size ≤ ll ∧ ll ≠ bb ∧ ll ≠ dd) ∧ e = .returned (.agg #[fLine bb dd, fBlock ll dd, fWhole bb]) ∧ Pn W bb bb dd [] 0 w ∧ w.heap[ll]? = some (.cells #[fLine bb dd] 85 (0, 0)) := by
  refine (newPen_any W).mono ?_
  rintro e w ⟨rfl, h1, h2⟩
  exact ⟨_, _, _, ⟨by omega, by omega, by omega, by omega, by omega⟩, rfl, h1, h2⟩
def sSyntax : ByteArray := ⟨#[115, 121, 110, 116, 97, 120, 32, 61, 32, 34, 112, 114, 111, 116, 111, 51, 34, 59]⟩
def sPackage : ByteArray := ⟨#[112, 97, 99, 107, 97, 103, 101, 32]⟩
def sImport : ByteArray := ⟨#[105, 109, 112, 111, 114, 116, 32]⟩
noncomputable def impL (s : ByteArray) : List Nat := lineL 0 [sImport, quoteB s, sSemi]
def pkgL (p : ByteArray) : List Nat := if p.toList.isEmpty then [] else lineL 0 [sPackage, p, sSemi]
/-- The text of declarations. -/
noncomputable def fileL (F : Fl) : List Nat := lineL 0 [sSyntax] ++ pkgL F.pkg ++ F.imps.flatMap impL ++ innL 32 0 F.ms F.es
set_option maxRecDepth 100000 in
set_option maxHeartbeats 4000000 in
theorem written_any {W : World} {v vi vm ve : Value} {F : Fl} {cm ce : List Value} (hP : HasP W) (hF : HasF W) (hFl : FlL W v F vi vm ve cm ce) (hi1 : F.imps.length ≤ 4096) (hi2 : ∀ s ∈ F.imps, s.size ≤ 1048576) (hmo : ∀ m ∈ F.ms, OkM 32 m) (heo : ∀ e ∈ F.es, OkE e) (hl : (fileL F).length ≤ 1099511627776) (hby : Byt (fileL F)) :
    Calls Tryz.prog 20 #[v] W fun e w => e = .returned (.string (ofN (fileL F))) ∧ Below W.heap.size W w := by
  obtain ⟨rfl, hvi, hvm, hms, hve, hes⟩ := hFl
  have hb0 : Below W.heap.size W (W.alloc (.cells #[.string F.pkg, vi, vm, ve] 26)) := (Below.refl _ _).alloc (Nat.le_refl _) _
  have k0 := heap_new W (.cells #[.string F.pkg, vi, vm, ve] 26)
  obtain ⟨V, hV⟩ : ∃ V, W.alloc (.cells #[.string F.pkg, vi, vm, ve] 26) = V := ⟨_, rfl⟩
  rw [hV] at hb0 k0
  have HIn := hide (fun (bb dd ll : Nat) (w : World) (B : Nat) (L : List Nat) (h : Pn V B bb dd L 0 w) hd hlb hld hll hl' => inner_any 32 (members_all 32) (ll := ll) (n := 0) h (hP.up hb0) (hF.up hb0) hd hlb hld (by decide) hll (hvm.up hb0) (hms.up hb0) (hve.up hb0) (hes.up hb0) hmo heo hl')
  have HvI := hide (hvi.up hb0)
  have HF := hide (hF.up hb0)
  have HBV := hide hb0
  have HKV := hide k0
  have hVs : V.heap.size = W.heap.size + 1 := by rw [← hV, World.size_alloc]
  obtain ⟨ai, ci, rfl, hni, hvi2⟩ := hvi
  obtain ⟨am, cm', rfl, hnm, hvm2⟩ := hvm
  obtain ⟨ae, ce', rfl, hne, hve2⟩ := hve
  have HN := hide (newPen_ex V)
  have Hi1 := hide hi1
  have Hi2 := hide hi2
  have Hl := hide hl
  have Hby := hide hby
  have HVs := hide hVs
  clear hP hF hms hes hi1 hi2 hmo heo hl hby hb0 k0 hvi2 hvm2 hve2 hVs
  go_enter Tryz.func20, Tryz.ntmps20
  go_wp2_with fail
  refine (unhide HN).mono ?_
  rintro e' w1 ⟨bb, dd, ll, ⟨hbb, hdd, hl3, hlb, hld⟩, rfl, hp1, hll1⟩
  have hb1 : Below w1.heap.size w1 (w1.alloc (.cells #[fLine bb dd, fBlock ll dd, fWhole bb] 89)) := (Below.refl _ _).alloc (Nat.le_refl _) _
  have k1 := heap_new w1 (.cells #[fLine bb dd, fBlock ll dd, fWhole bb] 89)
  obtain ⟨X, hX⟩ : ∃ X, w1.alloc (.cells #[fLine bb dd, fBlock ll dd, fWhole bb] 89) = X := ⟨_, rfl⟩
  rw [hX] at hb1 k1
  have HP1 := hide (hp1.below hb1)
  have HLL := hide ((hb1.block _ (Array.getElem?_eq_some_iff.1 hll1).1).trans hll1)
  have HK1 := hide k1
  have HkF := hide (show X.heap[W.heap.size]? = _ from (Kp.below hb1 _ _ _ _ (show W.heap.size ≠ bb by have := unhide HVs; omega) ((hp1.bel.block _ (by have := unhide HVs; omega)).trans (unhide HKV)) (by decide)))
  have Hpb := hide (show w1.heap.size ≠ bb by have := hp1.bi.lt.2; omega)
  have Hfb := hide (show W.heap.size ≠ bb by have := unhide HVs; omega)
  have p0 : X.cell? ⟨w1.heap.size, 0, none⟩ = some (fLine bb dd) := cell_of_row _ _ _ _ _ _ k1
  have hlen : (fileL F).length = (lineL 0 [sSyntax]).length + (pkgL F.pkg).length + (F.imps.flatMap impL).length + (innL 32 0 F.ms F.es).length := by unfold fileL; simp only [List.length_append]
  have Hlen := hide hlen
  have HkX : Hid (∀ w, Kp bb X w → w.heap[w1.heap.size]? = some (.cells #[fLine bb dd, fBlock ll dd, fWhole bb] 89 (0, 0)) ∧ w.heap[W.heap.size]? = some (.cells #[.string F.pkg, .slice ai F.imps.length ci, .slice am F.ms.length cm', .slice ae F.es.length ce'] 26 (0, 0)) ∧ w.heap[ll]? = some (.cells #[fLine bb dd] 85 (0, 0))) :=
    fun w hk => ⟨hk _ _ _ _ (unhide Hpb) (unhide HK1) (by decide), hk _ _ _ _ (unhide Hfb) (unhide HkF) (by decide), hk _ _ _ _ hlb (unhide HLL) (by decide)⟩
  unfold fLine fBlock fWhole at hX
  unfold fLine at p0
  unfold fLine fBlock fWhole
  clear hp1 hll1 hb1 k1 HN hV hlen HLL HK1 HkF
  go_wp2_with fail
  have hb2 : Below X.heap.size X (X.alloc (.cells (strC [sSyntax]).toArray 9)) := (Below.refl _ _).alloc (Nat.le_refl _) _
  refine (line_any ((unhide HP1).below hb2) (pt_new (ps := [sSyntax]) (c := 1) rfl (unhide HP1).bi.lt.2) (by have := unhide Hl; have := unhide Hlen; simp only [List.length_nil]; omega) (by decide)).mono ?_
  rintro e' w2 ⟨rfl, hp2, hk2⟩
  rw [List.nil_append] at hp2
  have hk2 : Kp bb X w2 := (Kp.below hb2).trans hk2
  obtain ⟨e1, e2, e3⟩ := unhide HkX w2 hk2
  have HP2 := hide hp2
  have HK2 := hide hk2
  have f0 : w2.cell? ⟨W.heap.size, 0, none⟩ = some (.string F.pkg) := cell_of_row _ _ _ _ _ _ e2
  have q0 : w2.cell? ⟨w1.heap.size, 0, none⟩ = some (fLine bb dd) := cell_of_row _ _ _ _ _ _ e1
  unfold fLine at q0
  clear hp2 hk2 hb2 p0 HP1 hX e1 e2 e3
  go_upto_if 13 with fail
  go_cut [13] (fun _ wx => Hid (Pn V bb bb dd (lineL 0 [sSyntax] ++ pkgL F.pkg) 0 wx) ∧ Hid (Kp bb X wx))
  case first =>
    cases hem : F.pkg.toList.isEmpty with
    | true =>
      go_wp2_with fail
      go_meet
      refine ⟨?_, HK2⟩
      unfold pkgL
      rw [if_pos hem, List.append_nil]
      exact HP2
    | false =>
      go_wp2_with fail
      have hb2 : Below w2.heap.size w2 (w2.alloc (.cells (strC [sPackage, F.pkg, sSemi]).toArray 9)) := (Below.refl _ _).alloc (Nat.le_refl _) _
      refine (line_any ((unhide HP2).below hb2) (pt_new (ps := [sPackage, F.pkg, sSemi]) (c := 3) rfl (unhide HP2).bi.lt.2) (by have := unhide Hl; have hln := unhide Hlen; unfold pkgL at hln; rw [if_neg (by rw [hem]; decide)] at hln; omega) (by simp)).mono ?_
      rintro e' w3 ⟨rfl, hp3, hk3⟩
      have HP3 := hide hp3
      have HK3 := hide ((unhide HK2).trans ((Kp.below hb2).trans hk3))
      clear hp3 hk3 hb2
      go_wp2_with fail
      go_meet
      refine ⟨?_, HK3⟩
      unfold pkgL
      rw [if_neg (by rw [hem]; decide)]
      exact HP3
  case rest =>
    obtain ⟨HP3, HK3⟩ := hcut
    clear f0 q0 HP2 HK2
    have f1 : wc.cell? ⟨W.heap.size, 1, none⟩ = some (.slice ai F.imps.length ci) := cell_of_row _ _ _ _ _ _ (unhide HkX wc (unhide HK3)).2.1
    go_wp2_with fail
    clear f1
    go_loopg [5, 23] F.imps.length (fun gk _ v23 wr => ∃ (i : Nat), v23 = .int .i64 (i : Int) ∧ gk = F.imps.length - i ∧ i ≤ F.imps.length ∧ Hid (Pn V bb bb dd (lineL 0 [sSyntax] ++ pkgL F.pkg ++ (F.imps.take i).flatMap impL) 0 wr) ∧ Hid (Kp bb X wr))
    case atStart => exact ⟨0, rfl, rfl, by omega, by rw [List.take_zero, List.flatMap_nil, List.append_nil]; exact HP3, HK3⟩
    case round =>
      obtain ⟨i, rfl, hgk, hi, HP4, HK4⟩ := hrel
      have Hgk := hide hgk
      clear hgk HP3 HK3
      by_cases hlt : i < F.imps.length
      · obtain ⟨a2, c2, he2, -, hv2⟩ := unhide HvI
        obtain ⟨g, o, hai, hg, hc⟩ := hv2 (by omega)
        simp only [Value.slice.injEq] at he2
        obtain ⟨rfl, -, rfl⟩ := he2
        subst hai
        have hr := List.getElem?_eq_getElem hlt
        have hmem := List.getElem_mem hlt
        obtain ⟨r, hrr⟩ : ∃ r, F.imps[i] = r := ⟨_, rfl⟩
        rw [hrr] at hr hmem
        have x0 := ((unhide HP4).bel.cell (p := ⟨g, o + i, none⟩) hg).trans (hc _ _ (show (strC F.imps)[i]? = some (.string r) by unfold strC; rw [List.getElem?_map, hr]; rfl))
        have hfl : (F.imps.take (i + 1)).flatMap impL = (F.imps.take i).flatMap impL ++ impL r := by
          obtain ⟨hi3, rfl⟩ := List.getElem?_eq_some_iff.1 hr
          rw [List.take_succ_eq_append_getElem hi3, List.flatMap_append]
          simp
        have hll : (lineL 0 [sSyntax] ++ pkgL F.pkg ++ (F.imps.take i).flatMap impL).length + (impL r).length ≤ 1099511627776 := by
          have e2 : F.imps.flatMap impL = (F.imps.take (i + 1)).flatMap impL ++ (F.imps.drop (i + 1)).flatMap impL := by rw [← List.flatMap_append, List.take_append_drop]
          have h1 := unhide Hlen
          rw [e2, hfl] at h1
          simp only [List.length_append] at h1 ⊢
          have := unhide Hl
          omega
        have hTw : (fun w' : World => w'.cell? ⟨w1.heap.size, 0, none⟩ = some (.func (.func 80) #[] #[.pointer (some ⟨bb, 0, none⟩), .pointer (some ⟨dd, 0, none⟩)])) wr := cell_of_row _ _ _ _ _ _ (unhide HkX wr (unhide HK4)).1
        have hT : (fun w' : World => w'.cell? ⟨w1.heap.size, 0, none⟩ = some (.func (.func 80) #[] #[.pointer (some ⟨bb, 0, none⟩), .pointer (some ⟨dd, 0, none⟩)])) wr.drew := hTw
        have i0 : (0 : Int) ≤ (i : Int) := Int.natCast_nonneg _
        have i1 : (i : Int) < (F.imps.length : Int) := by omega
        have Hlt := hide hlt
        have HQ := hide (fun w' (h : HasF w') => quote_any h r (unhide Hi2 r hmem))
        have Hll := hide hll
        have Hfl := hide hfl
        clear hc hr hmem hrr hfl hll hlt hTw
        go_upto_region 8 with fail
        refine wp_region_any (by kernel_rfl) (wpAny_of_Z (z := 99) (T := fun w' => w'.cell? ⟨w1.heap.size, 0, none⟩ = some (.func (.func 80) #[] #[.pointer (some ⟨bb, 0, none⟩), .pointer (some ⟨dd, 0, none⟩)])) _ _ _ _ ?_)
        try (change wpAnyZ _ _ _ _ _ _ _ _ _ (World.drew _))
        refine wpAnyZ_tk 0 (.pointer (some ⟨w1.heap.size, 0, none⟩)) 27 rfl rfl (Or.inl ⟨by rfl, fun w' hw => by go_simp⟩) hT ?_
        simp only [Act.put, List.setIfInBounds_toArray, List.set_cons_zero, List.set_cons_succ]
        refine wpAnyZ_tk 1 (.func (.func 80) #[] #[.pointer (some ⟨bb, 0, none⟩), .pointer (some ⟨dd, 0, none⟩)]) 28 rfl rfl (Or.inl ⟨by rfl, fun w' hw => by go_simp⟩) hT ?_
        simp only [Act.put, List.setIfInBounds_toArray, List.set_cons_zero, List.set_cons_succ]
        refine wpAnyZ_tk 2 (.string r) 29 rfl rfl (Or.inl ⟨by rfl, fun w' hw => by go_simp⟩) hT ?_
        simp only [Act.put, List.setIfInBounds_toArray, List.set_cons_zero, List.set_cons_succ]
        refine wpAnyZ_one 3 (by kernel_rfl) rfl (fun K hK => ?_)
        refine step_callD 30 rfl rfl 44 (fun vs => by kernel_rfl) #[.tmp 29] #[9] rfl #[.string r] (by first | rfl | simp [Act.eval]) (unhide HQ wr.drew ((unhide HF).up (below_drewN (unhide HP4).bel 1))) ?_
        rintro e' w3 ⟨rfl, hb3⟩
        have hb3 : Below wr.heap.size wr w3 := ⟨hb3.os, hb3.tape, hb3.output, hb3.size, hb3.block⟩
        have hp3 := (unhide HP4).below hb3
        have hk3 := (unhide HK4).trans (Kp.below hb3)
        have hT3 : (fun w' : World => w'.cell? ⟨w1.heap.size, 0, none⟩ = some (.func (.func 80) #[] #[.pointer (some ⟨bb, 0, none⟩), .pointer (some ⟨dd, 0, none⟩)])) w3 := cell_of_row _ _ _ _ _ _ (unhide HkX w3 hk3).1
        refine ⟨_, rfl, hK _ _ ⟨fun _ => hT3, ?_⟩⟩
        clear hK K hT
        simp only [Act.put, List.setIfInBounds_toArray, List.set_cons_zero, List.set_cons_succ]
        have hb4 : Below w3.heap.size w3 (w3.alloc (.cells #[.string sImport, .string (quoteB r), .string sSemi] 9)) := (Below.refl _ _).alloc (Nat.le_refl _) _
        have hT4 : (fun w' : World => w'.cell? ⟨w1.heap.size, 0, none⟩ = some (.func (.func 80) #[] #[.pointer (some ⟨bb, 0, none⟩), .pointer (some ⟨dd, 0, none⟩)])) (w3.alloc (.cells #[.string sImport, .string (quoteB r), .string sSemi] 9)) := cell_of_row _ _ _ _ _ _ (unhide HkX _ (hk3.trans (Kp.below hb4))).1
        refine wpAnyZ_one 4 (by kernel_rfl) rfl (fun K hK => ?_)
        go_simp
        refine hK _ _ ⟨fun _ => hT4, ?_⟩
        clear hK K
        refine wpAnyZ_one 5 (by kernel_rfl) rfl (fun K hK => ?_)
        refine step_callF 32 28 rfl 80 #[] #[.pointer (some ⟨bb, 0, none⟩), .pointer (some ⟨dd, 0, none⟩)] (fun vs => by kernel_rfl) #[.tmp 31] #[22] rfl (by first | rfl | simp [Act.eval]) #[.slice (some ⟨w3.heap.size, 0, none⟩) 3 3, .pointer (some ⟨bb, 0, none⟩), .pointer (some ⟨dd, 0, none⟩)] (by first | rfl | simp [Act.eval]) (line_any (hp3.below hb4) (pt_new (ps := [sImport, quoteB r, sSemi]) (c := 3) rfl hp3.bi.lt.2) (unhide Hll) (by simp)) (by rfl) ?_
        rintro e' w5 ⟨rfl, hp5, hk5⟩
        have hk5' : Kp bb X w5 := hk3.trans ((Kp.below hb4).trans hk5)
        have HP5 := hide (show Pn V bb bb dd (lineL 0 [sSyntax] ++ pkgL F.pkg ++ (F.imps.take (i + 1)).flatMap impL) 0 w5 by rw [unhide Hfl, ← List.append_assoc]; exact hp5)
        have HK5 := hide hk5'
        have hT5 : (fun w' : World => w'.cell? ⟨w1.heap.size, 0, none⟩ = some (.func (.func 80) #[] #[.pointer (some ⟨bb, 0, none⟩), .pointer (some ⟨dd, 0, none⟩)])) w5 := cell_of_row _ _ _ _ _ _ (unhide HkX _ hk5').1
        refine ⟨_, rfl, hK _ _ ⟨fun _ => hT5, ?_⟩⟩
        clear hK K hT3 hT4 hT5 hp5 hk5 hk5' hb3 hb4 hp3 hk3 HQ Hll Hfl HP4 HK4
        simp only [Act.put, List.setIfInBounds_toArray, List.set_cons_zero, List.set_cons_succ]
        refine wpAnyZ_done (by kernel_rfl) ?_
        go_wp2
        go_roundg (F.imps.length - (i + 1))
        case measure => have := unhide Hgk; have := unhide Hlt; omega
        case rel => exact ⟨i + 1, by go_num, rfl, unhide Hlt, HP5, HK5⟩
      · obtain rfl : i = F.imps.length := by omega
        have hP9 := unhide HP4
        rw [List.take_length] at hP9
        obtain ⟨e1, e2, e3⟩ := unhide HkX wr (unhide HK4)
        have HI := hide (unhide HIn bb dd ll wr bb _ hP9 hdd hlb hld e3 (by have := unhide Hl; have := unhide Hlen; simp only [List.length_append]; omega))
        have f2 : wr.cell? ⟨W.heap.size, 2, none⟩ = some (.slice am F.ms.length cm') := cell_of_row _ _ _ _ _ _ e2
        have f3 : wr.cell? ⟨W.heap.size, 3, none⟩ = some (.slice ae F.es.length ce') := cell_of_row _ _ _ _ _ _ e2
        have q0 : wr.cell? ⟨w1.heap.size, 0, none⟩ = some (fLine bb dd) := cell_of_row _ _ _ _ _ _ e1
        have q1 : wr.cell? ⟨w1.heap.size, 1, none⟩ = some (fBlock ll dd) := cell_of_row _ _ _ _ _ _ e1
        have q2 : wr.cell? ⟨w1.heap.size, 2, none⟩ = some (fWhole bb) := cell_of_row _ _ _ _ _ _ e1
        unfold penV fLine fBlock fWhole at HI
        unfold fLine at q0
        unfold fBlock at q1
        unfold fWhole at q2
        clear hP9 e1 e2 e3 HP4
        go_wp2_with fail
        refine (unhide HI).mono ?_
        rintro e' w5 ⟨rfl, hp5, hk5⟩
        have HK5 := hide ((unhide HK4).trans hk5)
        have r2 : w5.cell? ⟨w1.heap.size, 2, none⟩ = some (fWhole bb) := cell_of_row _ _ _ _ _ _ (unhide HkX w5 (unhide HK5)).1
        unfold fWhole at r2
        have HS := hide (getS (show BI bb bb (fileL F) w5 from hp5.bi) (unhide Hby) hp5.size)
        have HP5 := hide hp5
        clear hp5 hk5 HI f2 f3 q0 q1 q2 HK4
        go_wp2_with fail
        refine (unhide HS).mono ?_
        rintro e' w6 ⟨rfl, hb6⟩
        have HE := hide (show Below W.heap.size W w6 from (unhide HBV).trans (((unhide HP5).bel.trans (hb6.mono hbb)).mono (unhide HBV).size))
        clear hb6 HS HP5
        go_wp2
        go_ret
        exact ⟨rfl, unhide HE⟩
end Go.Proofs.YtaadpiimcaabkaaGreatDoor
