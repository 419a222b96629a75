import Derived.Test.YtlblllghgdfpoaaDoorJ15

namespace Go.Proofs.YtlblllghgdfpoaaDoor
open Go.RowKit
attribute [local go_sem ↓] Go.wp_at_zero Go.wp_at_succ

theorem hash_nowC {W : World} {h n : Nat} {r : List Nat} {s : St} (hb : W.heap[h]? = some (.cells (hashCells s r n).toArray 86 (0, 0))) (s' : St) : (W.setCells h 0 (nw s'.list)).heap[h]? = some (.cells (hashCells s' r n).toArray 86 (0, 0)) ∧ Only W h (W.setCells h 0 (nw s'.list)) := by
  obtain ⟨sa, sb, sc, sd, se, sf, sg, sh⟩ := s
  obtain ⟨ta, tb, tc, td, te, tf, tg, th⟩ := s'
  exact hash_now hb ta tb tc td te tf tg th
set_option maxRecDepth 100000 in
set_option maxHeartbeats 16000000 in
theorem add_any {W : World} (hK : HasK W) {h : Nat} {L : List Nat} (hH : HashAt W h L) (hkh : 2 ≠ h) {v : Value} {l : List Nat} (hv : HasB W v l) (hne : ∀ g off n c, v = .slice (some ⟨g, off, none⟩) n c → 0 < l.length → g ≠ h) (hl : Byt l) (hn : L.length + l.length ≤ 1125899906842624) :
    Calls Tryd.prog 50 #[.pointer (some ⟨h, 0, none⟩), v] W fun e W' => e = .returned (.tuple #[]) ∧ HashAt W' h (L ++ l) ∧ Only W h W' := by
  have hszb : (Tryd.prog.info? 5).map (·.size) = some 1 := by kernel_rfl
  obtain ⟨a, c, rfl, hm, h3⟩ := hv
  have H3 : Hid (0 < l.length → ∃ g off, a = some ⟨g, off, none⟩ ∧ g ≠ h ∧ g < W.heap.size ∧ ∀ (i b : Nat), l[i]? = some b → W.cell? ⟨g, off + i, none⟩ = some (.int .u8 (b : Int))) := fun hp => by
    obtain ⟨g, off, rfl, q1, q2⟩ := h3 hp
    exact ⟨g, off, rfl, hne g off _ _ rfl hp, q1, q2⟩
  have HH := hide hH
  have hm1 := hm.1
  have hm2 := hm.2.1
  clear h3 hne hm hH
  go_enter Tryd.func50, Tryd.ntmps50
  go_wp2
  go_loopg [1] l.length (fun gk v1 wr => ∃ (i : Nat) (a' : Option Addr) (c' : Nat), v1 = .slice a' (l.length - i) c' ∧ gk = l.length - i ∧ i ≤ l.length ∧ l.length - i ≤ c' ∧ c' ≤ maxLen ∧ HashAt wr h (L ++ l.take i) ∧ Only W h wr ∧ (i < l.length → ∃ g off, a' = some ⟨g, off, none⟩ ∧ g ≠ h ∧ g < W.heap.size ∧ ∀ (j b : Nat), l[i + j]? = some b → W.cell? ⟨g, off + j, none⟩ = some (.int .u8 (b : Int))))
  case atStart =>
    refine ⟨0, a, c, rfl, rfl, by omega, by omega, hm2, by simpa using unhide HH, Only.refl _ _, fun hp => ?_⟩
    obtain ⟨g, off, q0, q1, q2, q3⟩ := unhide H3 hp
    exact ⟨g, off, q0, q1, q2, fun j b hb => q3 j b (by simpa using hb)⟩
  case round =>
    clear HH H3
    obtain ⟨i, a', c', rfl, hgk, hi, hc1, hc2, hHi, hO, h4⟩ := hrel
    have Hgk := hide hgk
    clear hgk
    by_cases hlt : i < l.length
    · have h4' := h4 hlt
      clear h4
      obtain ⟨g, off, rfl, hgh, hgW, hcl⟩ := h4'
      obtain ⟨M, hM⟩ : ∃ M, M = L ++ l.take i := ⟨_, rfl⟩
      have hMl : M.length = L.length + i := by rw [hM, List.length_append, List.length_take]; omega
      rw [← hM] at hHi
      obtain ⟨r, hr, hrb, hrt, hblk⟩ := hHi
      obtain ⟨o, ho⟩ : ∃ o, o = M.length % 64 := ⟨_, rfl⟩
      obtain ⟨m, hm⟩ : ∃ m, m = l.length - i := ⟨_, rfl⟩
      have ho64 : o < 64 := by omega
      have hmp : 0 < m := by omega
      obtain ⟨n, hnn, hn1, hn2, hn3, hn4⟩ := min_cases m o hmp ho64
      obtain ⟨cs, hcs⟩ : ∃ cs, cs = (l.drop i).take n := ⟨_, rfl⟩
      have hcsl : cs.length = n := by rw [hcs, List.length_take, List.length_drop]; omega
      have hsrc : ∀ k j u, (nb cs)[j]? = some u → (wr.drewN k).cell? ((⟨g, off, none⟩ : Addr).add j) = some u := by
        intro k j u hu
        rw [nb_at] at hu
        obtain ⟨b, hb', rfl⟩ := Option.map_eq_some_iff.1 hu
        rw [Go.WideShapes.add_plain]
        have hb2 : l[i + j]? = some b := by
          rw [hcs, List.getElem?_take] at hb'
          split at hb'
          · rw [List.getElem?_drop] at hb'; exact hb'
          · cases hb'
        exact (cell_heap (p := ⟨g, off + j, none⟩) (hO.far g hgW hgh)).trans (hcl j b hb2)
      have c72 : wr.cell? ⟨h, 72, none⟩ = some (.int .i64 ((M.length : Nat) : Int)) := by
        rw [cell_of_row _ _ _ _ _ _ hblk, List.getElem?_toArray]
        unfold hashCells
        rw [List.getElem?_append_right (by simp [St.list]), List.getElem?_append_right (by simp [St.list, hr])]
        simp [St.list, hr]
      have hto : ((M.length : Nat) : Int).tmod 64 = (o : Int) := by rw [Int.tmod_eq_emod_of_nonneg (by omega)]; omega
      have hblk0 : ∀ k, (wr.drewN k).heap[h]? = some (.cells (hashCells (stOf M) r M.length).toArray 86 (0, 0)) := fun k => hblk
      have hOk : ∀ k, Only W h (wr.drewN k) := fun k => hO.drewN k
      rw [← hm] at hc1 ⊢
      have hsl : ∀ w, (Instr.sliceAt 84 (.pointer (some ⟨h, 8, none⟩)) (some (.int .i64 (o : Int))) none none).run Tryd.prog w = .ok (.slice (some ⟨h, 8 + o, none⟩) (64 - o) (64 - o)) w := fun w => slice_rest w h o ho64
      have hm' : m ≤ 1125899906842624 := by omega
      have hMn : M.length ≤ 1125899906842624 := by omega
      rw [← ho] at hrt
      have Hrt := hide hrt
      have HM := hide hM
      have Hcl := hide hcl
      have Hcs := hide hcs
      have Hm := hide hm
      have Ho := hide ho
      have HMl := hide hMl
      clear hrt hM hcl hcs hm ho hO hMl
      go_wp2_with fail
      go_region_law (refine step_copy_only rfl (.tmp 16) (.tmp 17) 29 29 rfl 5 Tryd.underlying29 hszb ⟨g, off, none⟩ (64 - o) (64 - o) m c' h (8 + o) (by first | rfl | simp [Act.eval, Act.put]) (by first | rfl | simp [Act.eval, Act.put]) (hashCells (stOf M) r M.length) 86 (hblk0 _) (nb cs) (by rw [nb_len, hcsl, hnn]) (hsrc _) (by rw [nb_len, hash_len _ _ _ hr]; omega) (nb_one _) W (hOk _) ?_; intro w4 hg4 hb4)
      have hcb : Byt cs := fun x hx => hl x (by rw [unhide Hcs] at hx; exact List.mem_of_mem_drop (List.mem_of_mem_take hx))
      have hNe : L ++ l.take (i + n) = M ++ cs := by rw [unhide HM, unhide Hcs, List.append_assoc, ← List.take_add]
      obtain ⟨r2, hr2⟩ : ∃ r2, r2 = splice r o cs := ⟨_, rfl⟩
      have hr2l : r2.length = 64 := by rw [hr2, splice_len _ _ _ (by omega), hr]
      have hblk4 : w4.heap[h]? = some (.cells (hashCells (stOf M) r2 M.length).toArray 86 (0, 0)) := by
        have : w4.heap[h]? = _ := hg4
        rw [splice_hash _ _ _ _ _ hr (by omega), ← hr2] at this
        exact this
      have c72' : w4.cell? ⟨h, 72, none⟩ = some (.int .i64 ((M.length : Nat) : Int)) := by
        rw [cell_of_row _ _ _ _ _ _ hblk4, List.getElem?_toArray]
        unfold hashCells
        rw [List.getElem?_append_right (by simp [St.list]), List.getElem?_append_right (by simp [St.list, hr2l])]
        simp [St.list, hr2l]
      have f72 : w4.frozen? ⟨h, 72, none⟩ = false := w_frozen' 72 hblk4
      have Hr2 := hide hr2
      have Hb4 := hide hblk4
      have HO4 := hide hb4
      have Hrb := hide hrb
      have Hr := hide hr
      clear hg4 hblk hblk0 hOk hsrc c72 hr2 hblk4 hb4 hsl hto hrb hr hnn
      obtain ⟨Nn, hNn⟩ : ∃ Nn : Nat, Nn = M.length + n := ⟨_, rfl⟩
      have hMN : ((M.length : Nat) : Int) + (n : Int) = (Nn : Int) := by omega
      have hNl : Nn ≤ 1125899906842624 := by have := unhide HMl; have := unhide Hm; omega
      have ho' := unhide Ho
      have HN := hide hNn
      have Hcb := hide hcb
      have HNe := hide hNe
      have hml : i + m = l.length := by have := unhide Hm; omega
      have Hml := hide hml
      clear hcb hNe hml
      by_cases hfull : o + n = 64
      · have htm : (Nn : Int).tmod 64 = 0 := by rw [Int.tmod_eq_emod_of_nonneg (by omega)]; omega
        clear ho' hNn
        have hw5 : ∀ w5, w5 = w4.setCell ⟨h, 72, none⟩ (.int .i64 (Nn : Int)) → w5.heap[h]? = some (.cells (hashCells (stOf M) r2 Nn).toArray 86 (0, 0)) ∧ Only W h w5 := by
          intro w hw
          subst hw
          exact ⟨hash_store hr2l (unhide Hb4) Nn, only_set (unhide HO4) _ _⟩
        have Hw5 := hide hw5
        have hr2b : Byt r2 := by rw [unhide Hr2]; exact splice_byt (unhide Hrb) (unhide Hcb) o
        have hif8 : (Tryd.prog.info? 83).map (·.size) = some 8 := by kernel_rfl
        have hif64 : (Tryd.prog.info? 84).map (·.size) = some 64 := by kernel_rfl
        clear hw5
        by_cases hcap : c' = n
        · subst hcap
          go_wp2_with fail
          obtain ⟨w5, hW5⟩ : ∃ w5, w5 = w4.setCell ⟨h, 72, none⟩ (.int .i64 (Nn : Int)) := ⟨_, rfl⟩
          rw [← hW5]
          obtain ⟨b5, O5⟩ := unhide Hw5 w5 hW5
          clear hW5 c72' f72 Hb4 HO4 Hw5
          have K5 := hasK_only hK O5 hkh
          have lt5 : h < w5.heap.size := (Array.getElem?_eq_some_iff.1 b5).1
          obtain ⟨sm, hsm⟩ : ∃ sm, stOf M = sm := ⟨_, rfl⟩
          have hok : sm.Ok := by rw [← hsm]; exact stOf_ok M
          rw [hsm] at b5
          have Hsm := hide hsm
          have hT5 : w5.drew.heap[h]? = some (.cells (hashCells sm r2 Nn).toArray 86 (0, 0)) := b5
          have Hb5 := hide b5
          have HO5 := hide O5
          have HK5 := hide K5
          have hinf64 : (Tryd.prog.info? 84).map (·.size) = some (nb r2).length := by rw [nb_len, hr2l]; exact hif64
          have hinf8 : (Tryd.prog.info? 83).map (·.size) = some (nw sm.list).length := by rw [hif8]; rfl
          have hend : ∀ w7, Below w5.heap.size w5 w7 → HashAt (w7.setCells h 0 (nw (block sm (wordsL 16 r2)).list)) h (L ++ l.take (i + c')) ∧ Only W h (w7.setCells h 0 (nw (block sm (wordsL 16 r2)).list)) := by
            intro w7 hB
            have b7 := (hB.block h lt5).trans (unhide Hb5)
            obtain ⟨e1, e2⟩ := hash_nowC b7 (block sm (wordsL 16 r2))
            have o7 : Only w5 h w7 := ⟨hB.os, hB.tape, hB.output, hB.size, fun k hk _ => hB.block k hk⟩
            refine ⟨?_, ((unhide HO5).trans o7).trans e2⟩
            rw [unhide HNe]
            refine hash_full (unhide Hr) (unhide Hrb) (unhide Ho) (unhide Hrt) hcsl (unhide Hcb) hfull ?_
            rw [unhide Hsm, ← unhide Hr2, ← unhide HN]
            exact e1
          have Hend := hide hend
          clear hend b5 O5 K5 hsm
          refine wp_region_any (by kernel_rfl) (wpAny_of_Z (z := 13) (T := fun w => w.heap[h]? = some (.cells (hashCells sm r2 Nn).toArray 86 (0, 0))) _ _ _ _ ?_)
          try (change wpAnyZ _ _ _ _ _ _ _ _ _ (World.drew _))
          refine wpAnyZ_take 0 (.pointer (some ⟨h, 0, none⟩)) 36 rfl rfl (by kernel_rfl) (by kernel_rfl) (by kernel_rfl) (by kernel_rfl) (fun _ _ _ h => h) (Or.inl ⟨by rfl, fun w _ => by go_simp⟩) hT5 ?_
          simp only [Act.put, List.setIfInBounds_toArray, List.set_cons_zero, List.set_cons_succ]
          refine wpAnyZ_take 1 (.pointer (some ⟨h, 0, none⟩)) 37 rfl rfl (by kernel_rfl) (by kernel_rfl) (by kernel_rfl) (by kernel_rfl) (fun _ _ _ h => h) (Or.inl ⟨by rfl, fun w _ => by go_simp⟩) hT5 ?_
          simp only [Act.put, List.setIfInBounds_toArray, List.set_cons_zero, List.set_cons_succ]
          refine wpAnyZ_take 2 (.pointer (some ⟨h, 0, none⟩)) 38 rfl rfl (by kernel_rfl) (by kernel_rfl) (by kernel_rfl) (by kernel_rfl) (fun _ _ _ h => h) (Or.inl ⟨by rfl, fun w _ => by go_simp⟩) hT5 ?_
          simp only [Act.put, List.setIfInBounds_toArray, List.set_cons_zero, List.set_cons_succ]
          refine wpAnyZ_take 3 (.pointer (some ⟨h, 0, none⟩)) 39 rfl rfl (by kernel_rfl) (by kernel_rfl) (by kernel_rfl) (by kernel_rfl) (fun _ _ _ h => h) (Or.inl ⟨by rfl, fun w _ => by go_simp⟩) hT5 ?_
          simp only [Act.put, List.setIfInBounds_toArray, List.set_cons_zero, List.set_cons_succ]
          refine wpAnyZ_take 4 (.agg (nw sm.list).toArray) 40 rfl rfl (by kernel_rfl) (by kernel_rfl) (by kernel_rfl) (by kernel_rfl) (fun _ _ _ h => h) (yieldsIf_load_mid (by rfl) 83 (.tmp 39) rfl h 0 rfl (nw sm.list) (.array 8 81) (fun w hw => (hash_range w h _ _ _ hr2l hw).1) Tryd.underlying83 rfl hinf8) hT5 ?_
          simp only [Act.put, List.setIfInBounds_toArray, List.set_cons_zero, List.set_cons_succ]
          refine wpAnyZ_take 5 (.pointer (some ⟨h, 0, none⟩)) 41 rfl rfl (by kernel_rfl) (by kernel_rfl) (by kernel_rfl) (by kernel_rfl) (fun _ _ _ h => h) (Or.inl ⟨by rfl, fun w _ => by go_simp⟩) hT5 ?_
          simp only [Act.put, List.setIfInBounds_toArray, List.set_cons_zero, List.set_cons_succ]
          refine wpAnyZ_take 6 (.pointer (some ⟨h, 0, none⟩)) 42 rfl rfl (by kernel_rfl) (by kernel_rfl) (by kernel_rfl) (by kernel_rfl) (fun _ _ _ h => h) (Or.inl ⟨by rfl, fun w _ => by go_simp⟩) hT5 ?_
          simp only [Act.put, List.setIfInBounds_toArray, List.set_cons_zero, List.set_cons_succ]
          refine wpAnyZ_take 7 (.pointer (some ⟨h, 8, none⟩)) 43 rfl rfl (by kernel_rfl) (by kernel_rfl) (by kernel_rfl) (by kernel_rfl) (fun _ _ _ h => h) (Or.inl ⟨by rfl, fun w _ => by go_simp⟩) hT5 ?_
          simp only [Act.put, List.setIfInBounds_toArray, List.set_cons_zero, List.set_cons_succ]
          refine wpAnyZ_take 8 (.agg (nb r2).toArray) 44 rfl rfl (by kernel_rfl) (by kernel_rfl) (by kernel_rfl) (by kernel_rfl) (fun _ _ _ h => h) (yieldsIf_load_mid (by rfl) 84 (.tmp 43) rfl h 8 rfl (nb r2) (.array 64 5) (fun w hw => (hash_range w h _ _ _ hr2l hw).2.1) Tryd.underlying84 rfl hinf64) hT5 ?_
          simp only [Act.put, List.setIfInBounds_toArray, List.set_cons_zero, List.set_cons_succ]
          refine wpAnyZ_one 9 (by kernel_rfl) rfl (fun K hK => ?_)
          refine step_callD 45 rfl rfl 60 (callW _) #[.tmp 44] #[84] rfl #[.agg (nb r2).toArray] (by first | rfl | simp [Act.eval]) (wordsOf_any _ r2 hr2l hr2b) ?_
          rintro o6 w6 ⟨rfl, hb6⟩
          have hB6 : Below w5.heap.size w5 w6 := ((Below.refl _ w5).drew).trans hb6
          have hT6 : w6.heap[h]? = some (.cells (hashCells sm r2 Nn).toArray 86 (0, 0)) := (hB6.block h lt5).trans (unhide Hb5)
          refine ⟨_, rfl, hK _ _ ⟨fun _ => hT6, ?_⟩⟩
          clear hK K hb6
          simp only [Act.put, List.setIfInBounds_toArray, List.set_cons_zero, List.set_cons_succ]
          refine wpAnyZ_one 10 (by kernel_rfl) rfl (fun K hK => ?_)
          refine step_callD 46 rfl rfl 59 (callA _) #[.tmp 40, .tmp 45] #[83, 88] rfl #[.agg (nw sm.list).toArray, .agg (nw (wordsL 16 r2)).toArray] (by first | rfl | simp [Act.eval]) (after_any ((unhide HK5).up hB6) sm hok (wordsL 16 r2) (wordsL_len 16 r2) (wordsL_w32 16 r2 hr2b)) ?_
          rintro o7 w7 ⟨rfl, hb7⟩
          have hB7 : Below w5.heap.size w5 w7 := hB6.trans (hb7.mono hB6.size)
          have hT7 : w7.heap[h]? = some (.cells (hashCells sm r2 Nn).toArray 86 (0, 0)) := (hB7.block h lt5).trans (unhide Hb5)
          refine ⟨_, rfl, hK _ _ ⟨fun _ => hT7, ?_⟩⟩
          clear hK K hb7 hT6
          simp only [Act.put, List.setIfInBounds_toArray, List.set_cons_zero, List.set_cons_succ]
          obtain ⟨bk, hbk⟩ : ∃ bk, bk = block sm (wordsL 16 r2) := ⟨_, rfl⟩
          rw [← hbk]
          have Hbk := hide hbk
          clear hbk
          refine wpAnyZ_one 11 (by kernel_rfl) rfl (fun K hK => ?_)
          go_simp
          refine hK _ _ ⟨fun _ => hT7, ?_⟩
          clear hK K
          refine wpAnyZ_one 12 (by kernel_rfl) rfl (fun K hK => ?_)
          go_simp
          refine hK _ _ ⟨fun _ => hT7, ?_⟩
          clear hK K
          refine wpAnyZ_one 13 (by kernel_rfl) rfl (fun K hK => ?_)
          rw [if_pos (by rfl)]
          refine wp_store_mid 83 (.tmp 48) (.tmp 46) rfl h 0 (nw bk.list).toArray (by first | rfl | simp [Act.eval, Act.put]) (by first | rfl | simp [Act.eval, Act.put]) ((hash_range w7 h _ _ _ hr2l hT7).2.2) (by rw [hif8]; rfl) (all_oneCell_toArray (fun v hv => by obtain ⟨b, _, rfl⟩ := List.mem_map.1 hv; rfl)) ?_
          refine hK _ _ ⟨fun q => absurd rfl q, ?_⟩
          clear hK K
          refine wpAnyZ_done (by kernel_rfl) ?_
          obtain ⟨e1, e2⟩ := unhide Hend w7 hB7
          rw [← unhide Hbk] at e1 e2
          obtain ⟨w8, hw8⟩ : ∃ w8, w8 = w7.setCells h 0 (nw bk.list).toArray.toList := ⟨_, rfl⟩
          have E1 : Hid (HashAt w8 h (L ++ l.take (i + c'))) := by rw [hw8]; exact e1
          have E2 : Hid (Only W h w8) := by rw [hw8]; exact e2
          rw [← hw8]
          clear hw8 e1 e2 hT7
          go_wp2
          go_roundg (l.length - (i + c'))
          case measure => have := unhide Hgk; have := unhide Hm; omega
          case rel =>
            have e := unhide Hml
            exact ⟨i + c', some ⟨g, off, none⟩, 0, by rw [show l.length - (i + c') = 0 by omega], rfl, by omega, by omega, by unfold maxLen; omega, unhide E1, unhide E2, fun q => by omega⟩
        · have hcap' : n < c' := by omega
          clear hcap
          go_wp2_with fail
          obtain ⟨w5, hW5⟩ : ∃ w5, w5 = w4.setCell ⟨h, 72, none⟩ (.int .i64 (Nn : Int)) := ⟨_, rfl⟩
          rw [← hW5]
          obtain ⟨b5, O5⟩ := unhide Hw5 w5 hW5
          clear hW5 c72' f72 Hb4 HO4 Hw5
          have K5 := hasK_only hK O5 hkh
          have lt5 : h < w5.heap.size := (Array.getElem?_eq_some_iff.1 b5).1
          obtain ⟨sm, hsm⟩ : ∃ sm, stOf M = sm := ⟨_, rfl⟩
          have hok : sm.Ok := by rw [← hsm]; exact stOf_ok M
          rw [hsm] at b5
          have Hsm := hide hsm
          have hT5 : w5.drew.heap[h]? = some (.cells (hashCells sm r2 Nn).toArray 86 (0, 0)) := b5
          have Hb5 := hide b5
          have HO5 := hide O5
          have HK5 := hide K5
          have hinf64 : (Tryd.prog.info? 84).map (·.size) = some (nb r2).length := by rw [nb_len, hr2l]; exact hif64
          have hinf8 : (Tryd.prog.info? 83).map (·.size) = some (nw sm.list).length := by rw [hif8]; rfl
          have hend : ∀ w7, Below w5.heap.size w5 w7 → HashAt (w7.setCells h 0 (nw (block sm (wordsL 16 r2)).list)) h (L ++ l.take (i + n)) ∧ Only W h (w7.setCells h 0 (nw (block sm (wordsL 16 r2)).list)) := by
            intro w7 hB
            have b7 := (hB.block h lt5).trans (unhide Hb5)
            obtain ⟨e1, e2⟩ := hash_nowC b7 (block sm (wordsL 16 r2))
            have o7 : Only w5 h w7 := ⟨hB.os, hB.tape, hB.output, hB.size, fun k hk _ => hB.block k hk⟩
            refine ⟨?_, ((unhide HO5).trans o7).trans e2⟩
            rw [unhide HNe]
            refine hash_full (unhide Hr) (unhide Hrb) (unhide Ho) (unhide Hrt) hcsl (unhide Hcb) hfull ?_
            rw [unhide Hsm, ← unhide Hr2, ← unhide HN]
            exact e1
          have Hend := hide hend
          clear hend b5 O5 K5 hsm
          refine wp_region_any (by kernel_rfl) (wpAny_of_Z (z := 13) (T := fun w => w.heap[h]? = some (.cells (hashCells sm r2 Nn).toArray 86 (0, 0))) _ _ _ _ ?_)
          try (change wpAnyZ _ _ _ _ _ _ _ _ _ (World.drew _))
          refine wpAnyZ_take 0 (.pointer (some ⟨h, 0, none⟩)) 36 rfl rfl (by kernel_rfl) (by kernel_rfl) (by kernel_rfl) (by kernel_rfl) (fun _ _ _ h => h) (Or.inl ⟨by rfl, fun w _ => by go_simp⟩) hT5 ?_
          simp only [Act.put, List.setIfInBounds_toArray, List.set_cons_zero, List.set_cons_succ]
          refine wpAnyZ_take 1 (.pointer (some ⟨h, 0, none⟩)) 37 rfl rfl (by kernel_rfl) (by kernel_rfl) (by kernel_rfl) (by kernel_rfl) (fun _ _ _ h => h) (Or.inl ⟨by rfl, fun w _ => by go_simp⟩) hT5 ?_
          simp only [Act.put, List.setIfInBounds_toArray, List.set_cons_zero, List.set_cons_succ]
          refine wpAnyZ_take 2 (.pointer (some ⟨h, 0, none⟩)) 38 rfl rfl (by kernel_rfl) (by kernel_rfl) (by kernel_rfl) (by kernel_rfl) (fun _ _ _ h => h) (Or.inl ⟨by rfl, fun w _ => by go_simp⟩) hT5 ?_
          simp only [Act.put, List.setIfInBounds_toArray, List.set_cons_zero, List.set_cons_succ]
          refine wpAnyZ_take 3 (.pointer (some ⟨h, 0, none⟩)) 39 rfl rfl (by kernel_rfl) (by kernel_rfl) (by kernel_rfl) (by kernel_rfl) (fun _ _ _ h => h) (Or.inl ⟨by rfl, fun w _ => by go_simp⟩) hT5 ?_
          simp only [Act.put, List.setIfInBounds_toArray, List.set_cons_zero, List.set_cons_succ]
          refine wpAnyZ_take 4 (.agg (nw sm.list).toArray) 40 rfl rfl (by kernel_rfl) (by kernel_rfl) (by kernel_rfl) (by kernel_rfl) (fun _ _ _ h => h) (yieldsIf_load_mid (by rfl) 83 (.tmp 39) rfl h 0 rfl (nw sm.list) (.array 8 81) (fun w hw => (hash_range w h _ _ _ hr2l hw).1) Tryd.underlying83 rfl hinf8) hT5 ?_
          simp only [Act.put, List.setIfInBounds_toArray, List.set_cons_zero, List.set_cons_succ]
          refine wpAnyZ_take 5 (.pointer (some ⟨h, 0, none⟩)) 41 rfl rfl (by kernel_rfl) (by kernel_rfl) (by kernel_rfl) (by kernel_rfl) (fun _ _ _ h => h) (Or.inl ⟨by rfl, fun w _ => by go_simp⟩) hT5 ?_
          simp only [Act.put, List.setIfInBounds_toArray, List.set_cons_zero, List.set_cons_succ]
          refine wpAnyZ_take 6 (.pointer (some ⟨h, 0, none⟩)) 42 rfl rfl (by kernel_rfl) (by kernel_rfl) (by kernel_rfl) (by kernel_rfl) (fun _ _ _ h => h) (Or.inl ⟨by rfl, fun w _ => by go_simp⟩) hT5 ?_
          simp only [Act.put, List.setIfInBounds_toArray, List.set_cons_zero, List.set_cons_succ]
          refine wpAnyZ_take 7 (.pointer (some ⟨h, 8, none⟩)) 43 rfl rfl (by kernel_rfl) (by kernel_rfl) (by kernel_rfl) (by kernel_rfl) (fun _ _ _ h => h) (Or.inl ⟨by rfl, fun w _ => by go_simp⟩) hT5 ?_
          simp only [Act.put, List.setIfInBounds_toArray, List.set_cons_zero, List.set_cons_succ]
          refine wpAnyZ_take 8 (.agg (nb r2).toArray) 44 rfl rfl (by kernel_rfl) (by kernel_rfl) (by kernel_rfl) (by kernel_rfl) (fun _ _ _ h => h) (yieldsIf_load_mid (by rfl) 84 (.tmp 43) rfl h 8 rfl (nb r2) (.array 64 5) (fun w hw => (hash_range w h _ _ _ hr2l hw).2.1) Tryd.underlying84 rfl hinf64) hT5 ?_
          simp only [Act.put, List.setIfInBounds_toArray, List.set_cons_zero, List.set_cons_succ]
          refine wpAnyZ_one 9 (by kernel_rfl) rfl (fun K hK => ?_)
          refine step_callD 45 rfl rfl 60 (callW _) #[.tmp 44] #[84] rfl #[.agg (nb r2).toArray] (by first | rfl | simp [Act.eval]) (wordsOf_any _ r2 hr2l hr2b) ?_
          rintro o6 w6 ⟨rfl, hb6⟩
          have hB6 : Below w5.heap.size w5 w6 := ((Below.refl _ w5).drew).trans hb6
          have hT6 : w6.heap[h]? = some (.cells (hashCells sm r2 Nn).toArray 86 (0, 0)) := (hB6.block h lt5).trans (unhide Hb5)
          refine ⟨_, rfl, hK _ _ ⟨fun _ => hT6, ?_⟩⟩
          clear hK K hb6
          simp only [Act.put, List.setIfInBounds_toArray, List.set_cons_zero, List.set_cons_succ]
          refine wpAnyZ_one 10 (by kernel_rfl) rfl (fun K hK => ?_)
          refine step_callD 46 rfl rfl 59 (callA _) #[.tmp 40, .tmp 45] #[83, 88] rfl #[.agg (nw sm.list).toArray, .agg (nw (wordsL 16 r2)).toArray] (by first | rfl | simp [Act.eval]) (after_any ((unhide HK5).up hB6) sm hok (wordsL 16 r2) (wordsL_len 16 r2) (wordsL_w32 16 r2 hr2b)) ?_
          rintro o7 w7 ⟨rfl, hb7⟩
          have hB7 : Below w5.heap.size w5 w7 := hB6.trans (hb7.mono hB6.size)
          have hT7 : w7.heap[h]? = some (.cells (hashCells sm r2 Nn).toArray 86 (0, 0)) := (hB7.block h lt5).trans (unhide Hb5)
          refine ⟨_, rfl, hK _ _ ⟨fun _ => hT7, ?_⟩⟩
          clear hK K hb7 hT6
          simp only [Act.put, List.setIfInBounds_toArray, List.set_cons_zero, List.set_cons_succ]
          obtain ⟨bk, hbk⟩ : ∃ bk, bk = block sm (wordsL 16 r2) := ⟨_, rfl⟩
          rw [← hbk]
          have Hbk := hide hbk
          clear hbk
          refine wpAnyZ_one 11 (by kernel_rfl) rfl (fun K hK => ?_)
          go_simp
          refine hK _ _ ⟨fun _ => hT7, ?_⟩
          clear hK K
          refine wpAnyZ_one 12 (by kernel_rfl) rfl (fun K hK => ?_)
          go_simp
          refine hK _ _ ⟨fun _ => hT7, ?_⟩
          clear hK K
          refine wpAnyZ_one 13 (by kernel_rfl) rfl (fun K hK => ?_)
          rw [if_pos (by rfl)]
          refine wp_store_mid 83 (.tmp 48) (.tmp 46) rfl h 0 (nw bk.list).toArray (by first | rfl | simp [Act.eval, Act.put]) (by first | rfl | simp [Act.eval, Act.put]) ((hash_range w7 h _ _ _ hr2l hT7).2.2) (by rw [hif8]; rfl) (all_oneCell_toArray (fun v hv => by obtain ⟨b, _, rfl⟩ := List.mem_map.1 hv; rfl)) ?_
          refine hK _ _ ⟨fun q => absurd rfl q, ?_⟩
          clear hK K
          refine wpAnyZ_done (by kernel_rfl) ?_
          obtain ⟨e1, e2⟩ := unhide Hend w7 hB7
          rw [← unhide Hbk] at e1 e2
          obtain ⟨w8, hw8⟩ : ∃ w8, w8 = w7.setCells h 0 (nw bk.list).toArray.toList := ⟨_, rfl⟩
          have E1 : Hid (HashAt w8 h (L ++ l.take (i + n))) := by rw [hw8]; exact e1
          have E2 : Hid (Only W h w8) := by rw [hw8]; exact e2
          rw [← hw8]
          clear hw8 e1 e2 hT7
          go_wp2
          go_roundg (l.length - (i + n))
          case measure => have := unhide Hgk; have := unhide Hm; omega
          case rel =>
            have e := unhide Hml
            exact ⟨i + n, some ⟨g, off + n, none⟩, c' - n, by rw [show l.length - (i + n) = m - n by omega], rfl, by omega, by omega, by omega, unhide E1, unhide E2, fun q => ⟨g, off + n, rfl, hgh, hgW, fun j b hb => by rw [Nat.add_assoc]; exact unhide Hcl (n + j) b (by rw [← Nat.add_assoc]; exact hb)⟩⟩
      · have htm : (Nn : Int).tmod 64 = ((o + n : Nat) : Int) := by rw [Int.tmod_eq_emod_of_nonneg (by omega)]; omega
        have hlt64 : o + n < 64 := by omega
        have hnm : m = n := by omega
        subst hnm
        clear ho' hNn
        obtain ⟨on, hon⟩ : ∃ on : Nat, on = o + m := ⟨_, rfl⟩
        have hne0 : on ≠ 0 := by omega
        rw [← hon] at htm
        clear hon
        have hfin : ∀ w, w = w4.setCell ⟨h, 72, none⟩ (.int .i64 (Nn : Int)) → HashAt w h (L ++ l.take (i + m)) ∧ Only W h w := by
          intro w hw
          subst hw
          rw [unhide HNe]
          refine ⟨hash_more (unhide Hr) (unhide Hrb) (unhide Ho) (unhide Hrt) hcsl (unhide Hcb) hlt64 ?_, only_set (unhide HO4) _ _⟩
          have := hash_store hr2l (unhide Hb4) Nn
          rw [unhide HN, unhide Hr2] at this
          rw [← unhide HN]
          rw [← unhide HN] at this
          exact this
        have Hfin := hide hfin
        clear hfin
        by_cases hcap : c' = m
        · subst hcap
          go_wp2
          go_roundg (l.length - (i + c'))
          case measure => have := unhide Hgk; have := unhide Hm; omega
          case rel =>
            have e := unhide Hml
            refine ⟨i + c', some ⟨g, off, none⟩, 0, by rw [show l.length - (i + c') = 0 by omega], rfl, by omega, by omega, by unfold maxLen; omega, (unhide Hfin _ rfl).1, (unhide Hfin _ rfl).2, fun q => by omega⟩
        · have hcap' : m < c' := by omega
          clear hcap
          go_wp2
          go_roundg (l.length - (i + m))
          case measure => have := unhide Hgk; have := unhide Hm; omega
          case rel =>
            have e := unhide Hml
            refine ⟨i + m, some ⟨g, off + m, none⟩, c' - m, by rw [show l.length - (i + m) = 0 by omega], rfl, by omega, by omega, by omega, (unhide Hfin _ rfl).1, (unhide Hfin _ rfl).2, fun q => by omega⟩
    · have hil : l.length = i := by omega
      subst hil
      rw [List.take_of_length_le (Nat.le_refl _)] at hHi
      have HF := hide hHi
      clear h4 hHi
      go_wp2
      go_end0
      exact ⟨rfl, unhide HF, hO⟩
end Go.Proofs.YtlblllghgdfpoaaDoor
