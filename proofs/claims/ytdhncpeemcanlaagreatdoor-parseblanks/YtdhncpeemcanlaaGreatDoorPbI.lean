import Derived.Test.YtdhncpeemcanlaaGreatDoorJ28
import Derived.Test.YtdhncpeemcanlaaGreatDoorJ28

namespace Go.Proofs.YtdhncpeemcanlaaGreatDoor
open Go.RowKit
attribute [local go_sem ↓] Go.wp_at_zero Go.wp_at_succ

theorem Stable.and4 {a b c d : (Nat → Prop) → World → Prop} (h1 : Stable a) (h2 : Stable b) (h3 : Stable c) (h4 : Stable d) : Stable fun P w => a P w ∧ b P w ∧ c P w ∧ d P w := h1.and (h2.and (h3.and h4))
theorem pos_row {lo hi : Int} {mi : Bool} {s s1 : PSt} {p : Int × Int} (h : rowF lo hi mi s = .ok (p, s1)) (he : s.en.kind = 5) : 0 < s.ts.length := by
  apply here_pos he
  intro hk
  have hkb : s.begun.here.kind = 5 := hk
  have key : ∀ m n s2, tailF lo hi m s.begun ≠ .ok (n, s2) := by
    intro m n s2 ht
    unfold tailF at ht
    rw [if_neg (by rw [hkb]; decide)] at ht
    cases ht
  unfold rowF at h
  split at h
  · cases h
  · rename_i n s2 hn
    unfold numberF at hn
    split at hn
    · cases hn
    · rename_i m s0 hm
      split at hm
      · unfold ptakeF at hm
        rw [if_neg (by unfold pisB; rw [hkb]; simp)] at hm
        simp only [Except.ok.injEq, Prod.mk.injEq] at hm
        rw [← hm.2] at hn
        exact key _ _ _ hn
      · simp only [Except.ok.injEq, Prod.mk.injEq] at hm
        rw [← hm.2] at hn
        exact key _ _ _ hn
theorem pos_gone {s s1 : PSt} {x : ByteArray} (h : goneF s = .ok (x, s1)) (he : s.en.kind = 5) : 0 < s.ts.length := by
  apply here_pos he
  have h1 := (gt_meaning (s := s.begun) h).2
  have h2 : s.here.kind = 3 := h1
  rw [h2]
  decide
theorem set_set' {α : Type} : ∀ (l : List α) (i : Nat) (x y : α), (l.set i x).set i y = l.set i y
  | [], _, _, _ => rfl
  | _ :: _, 0, _, _ => rfl
  | a :: r, i + 1, x, y => by simp
theorem get_set' {α : Type} {l : List α} {i : Nat} {z : α} (h : l[i]? = some z) (x : α) : (l.set i x)[i]? = some x := by
  have := (List.getElem?_eq_some_iff.1 h).1
  simp [this]
theorem suf_rows {α : Type} {one : PSt → Except (Int × Int) (α × PSt)} (ho : ∀ s a s1, one s = .ok (a, s1) → Suf s s1) : ∀ (n : Nat) (acc : List α) (s : PSt) (l : List α) (s' : PSt), rowsLF one n acc s = .ok (l, s') → Suf s s'
  | 0, _, _, _, _, h => by cases h
  | n + 1, acc, s, l, s', h => by
    unfold rowsLF at h
    split at h
    · cases h
    · rename_i s1 h1
      simp only [Except.ok.injEq, Prod.mk.injEq] at h
      obtain ⟨_, rfl⟩ := h
      exact suf_take h1
    · rename_i s1 h1
      split at h
      · cases h
      · rename_i a s2 h2
        exact ((suf_take h1).trans (ho _ _ _ h2)).trans (suf_rows ho n _ _ _ _ h)
theorem suf_many {α : Type} {one : PSt → Except (Int × Int) (α × PSt)} (ho : ∀ s a s1, one s = .ok (a, s1) → Suf s s1) {acc l : List α} {s s' : PSt} (h : manyF one acc s = .ok (l, s')) : Suf s s' := by
  unfold manyF at h
  split at h
  · cases h
  · rename_i a s1 h1
    split at h
    · cases h
    · rename_i l2 s2 h2
      split at h
      · cases h
      · rename_i u s3 h3
        simp only [Except.ok.injEq, Prod.mk.injEq] at h
        obtain ⟨_, rfl⟩ := h
        exact ((ho _ _ _ h1).trans (suf_rows ho _ _ _ _ _ h2)).trans (suf_needSign h3)
section
variable {lo b g iR iG : Nat} {T : TypeId} {nm : ByteArray} {ss : List Slot} {N : (Nat → Prop) → World → Prop} {V W w0 : World} {s : PSt} {rs : List (Int × Int)} {gs : List ByteArray} {vr vg : Value} {bl bh : Int} {bm : Bool}
theorem one_rows {p4 p5 p6 : Nat} (hN : Stable N) (hcs : ∀ P w, N P w → ∀ c ∈ ([(p6, #[.pointer (some ⟨g, iR + 1, none⟩)], 151), (p4, #[.pointer (some ⟨b, 0, none⟩)], 80), (p5, #[.int .i64 bl, .int .i64 bh, .bool bm], 150)] : List (Nat × Array Value × TypeId)), Cell1 c.1 c.2.1 c.2.2 P w) {z : Slot} (hz : ss[iR]? = some z)
    (acc : List (Int × Int)) (s : PSt) (w : World) (h : Rs lo b g T nm ss N V W iR 84 2 rgC acc s w) : CallsV (.func (.func 126) #[] #[.pointer (some ⟨p6, 0, none⟩), .pointer (some ⟨p4, 0, none⟩), .pointer (some ⟨p5, 0, none⟩)]) #[] w (OneOk lo b g T nm ss N V W iR 84 2 rgC (rowF bl bh bm) acc s) := by
  obtain ⟨⟨v, hap⟩, hl, hsm⟩ := h
  refine ⟨_, _, _, rfl, cf_rreserved_1 w, ?_⟩
  have hc := res1_any (pm := p6) (pr := p4) (pb := p5) (bt := 16) (r := rowF bl bh bm s) (N1 := fun a x _ _ => x = rgV a) hap hN (fun _ _ => fun _ _ _ _ _ h => h) (get_set' hz _) (fit_range rfl rfl) (by simp only; omega) hcs (fun w' hw' => (row_p_any bl bh bm hw'.ev hw'.rd).mono fun e w2 h2 => h2.cr)
  simp only [Array.append_empty, List.nil_append, List.append_toArray]
  refine hc.mono ?_
  intro e w' hw
  unfold OneOk
  rcases CP.plain rgC_one hw with ⟨y, hr, rfl, hs⟩ | ⟨a, s', y, hr, rfl, h2⟩
  · rw [hr]
    exact ⟨rfl, hs⟩
  · rw [hr]
    have h3 := gt_row hr
    have h4 := h3.lt (pos_row hr hap.rd.grown)
    rw [set_set'] at h2
    exact ⟨rfl, ⟨y, h2⟩, by rw [List.length_append, List.length_singleton]; omega, h3.suf.sm hsm⟩
theorem one_gone {p4 p7 : Nat} (hN : Stable N) (hcs : ∀ P w, N P w → ∀ c ∈ ([(p7, #[.pointer (some ⟨g, iG + 1, none⟩)], 152), (p4, #[.pointer (some ⟨b, 0, none⟩)], 80)] : List (Nat × Array Value × TypeId)), Cell1 c.1 c.2.1 c.2.2 P w) {z : Slot} (hz : ss[iG]? = some z)
    (acc : List ByteArray) (s : PSt) (w : World) (h : Rs lo b g T nm ss N V W iG 9 1 strC acc s w) : CallsV (.func (.func 128) #[] #[.pointer (some ⟨p7, 0, none⟩), .pointer (some ⟨p4, 0, none⟩)]) #[] w (OneOk lo b g T nm ss N V W iG 9 1 strC goneF acc s) := by
  obtain ⟨⟨v, hap⟩, hl, hsm⟩ := h
  refine ⟨_, _, _, rfl, cf_rreserved_2 w, ?_⟩
  have hc := res2_any (pm := p7) (pr := p4) (bt := 16) (r := goneF s) (N1 := fun a x _ _ => x = Value.string a) hap hN (fun _ _ => fun _ _ _ _ _ h => h) (get_set' hz _) (fit_str rfl rfl) (by simp only; omega) hcs (fun w' hw' => (gone_any hw'.ev hw'.rd).mono fun e w2 h2 => h2.cr)
  simp only [Array.append_empty, List.nil_append, List.append_toArray]
  refine hc.mono ?_
  intro e w' hw
  unfold OneOk
  rcases CP.plain strC_one hw with ⟨y, hr, rfl, hs⟩ | ⟨a, s', y, hr, rfl, h2⟩
  · rw [hr]
    exact ⟨rfl, hs⟩
  · rw [hr]
    have h3 := gt_gone hr
    have h4 := h3.lt (pos_gone hr hap.rd.grown)
    rw [set_set'] at h2
    exact ⟨rfl, ⟨y, h2⟩, by rw [List.length_append, List.length_singleton]; omega, h3.suf.sm hsm⟩
/-- What reserved comes to. -/
def ResP (lo b g : Nat) (T : TypeId) (nm : ByteArray) (ss : List Slot) (N : (Nat → Prop) → World → Prop) (V W : World) (iR iG : Nat) (r : Except (Int × Int) ((List (Int × Int) × List ByteArray) × PSt)) (e : Ending) (w : World) : Prop := match r with
  | .error y => e = flt y.1 y.2 ∧ Sv g b W w
  | .ok (l, s') => e = .returned (.tuple #[]) ∧ (∃ v1 v2, Ap lo b g T nm ((ss.set iR ⟨84, 2, v1, l.1.length, rgC l.1⟩).set iG ⟨9, 1, v2, l.2.length, strC l.2⟩) N V W s' w) ∧ l.1.length + s'.ts.length ≤ 20000 ∧ l.2.length + s'.ts.length ≤ 20000 ∧ Sm s'
set_option maxRecDepth 100000 in
set_option maxHeartbeats 4000000 in
theorem reserved_any (h : Ap lo b g T nm ss N V W s w0) (hN : Stable N) (hne : iR ≠ iG) (hR : ss[iR]? = some ⟨84, 2, vr, rs.length, rgC rs⟩) (hG : ss[iG]? = some ⟨9, 1, vg, gs.length, strC gs⟩) (hp : 0 < s.ts.length) (hs : Sm s) (hlr : rs.length + s.ts.length ≤ 20000) (hlg : gs.length + s.ts.length ≤ 20000) :
    Calls Tryz.prog 112 #[.pointer (some ⟨b, 0, none⟩), .agg #[.int .i64 bl, .int .i64 bh, .bool bm], .pointer (some ⟨g, iR + 1, none⟩), .pointer (some ⟨g, iG + 1, none⟩)] w0 (ResP lo b g T nm ss N V W iR iG (resF bl bh bm rs gs s)) := by
  obtain ⟨p, hpn⟩ : ∃ p, w0.heap.size = p := ⟨_, rfl⟩
  have hbel : Below w0.heap.size w0 ((((w0.alloc (.cells #[.pointer (some ⟨b, 0, none⟩)] 80)).alloc (.cells #[.int .i64 bl, .int .i64 bh, .bool bm] 150)).alloc (.cells #[.pointer (some ⟨g, iR + 1, none⟩)] 151)).alloc (.cells #[.pointer (some ⟨g, iG + 1, none⟩)] 152)) :=
    ((((Below.refl _ _).alloc (Nat.le_refl _) _).alloc (by simp only [World.size_alloc]; omega) _).alloc (by simp only [World.size_alloc]; omega) _).alloc (by simp only [World.size_alloc]; omega) _
  obtain ⟨w1, hw1⟩ : ∃ w1, ((((w0.alloc (.cells #[.pointer (some ⟨b, 0, none⟩)] 80)).alloc (.cells #[.int .i64 bl, .int .i64 bh, .bool bm] 150)).alloc (.cells #[.pointer (some ⟨g, iR + 1, none⟩)] 151)).alloc (.cells #[.pointer (some ⟨g, iG + 1, none⟩)] 152)) = w1 := ⟨_, rfl⟩
  have h4 : w1.heap[p]? = some (.cells #[.pointer (some ⟨b, 0, none⟩)] 80 (0, 0)) := by
    rw [← hw1, ← hpn, Below.heap_alloc _ _ _ (by simp only [World.size_alloc]; omega), Below.heap_alloc _ _ _ (by simp only [World.size_alloc]; omega), Below.heap_alloc _ _ _ (by simp only [World.size_alloc]; omega)]
    exact heap_new _ _
  have h5 : w1.heap[p + 1]? = some (.cells #[.int .i64 bl, .int .i64 bh, .bool bm] 150 (0, 0)) := by
    rw [← hw1, ← hpn, Below.heap_alloc _ _ _ (by simp only [World.size_alloc]; omega), Below.heap_alloc _ _ _ (by simp only [World.size_alloc]; omega)]
    have := heap_new (w0.alloc (.cells #[.pointer (some ⟨b, 0, none⟩)] 80)) (.cells #[.int .i64 bl, .int .i64 bh, .bool bm] 150)
    simpa only [World.size_alloc] using this
  have h6 : w1.heap[p + 2]? = some (.cells #[.pointer (some ⟨g, iR + 1, none⟩)] 151 (0, 0)) := by
    rw [← hw1, ← hpn, Below.heap_alloc _ _ _ (by simp only [World.size_alloc]; omega)]
    have := heap_new ((w0.alloc (.cells #[.pointer (some ⟨b, 0, none⟩)] 80)).alloc (.cells #[.int .i64 bl, .int .i64 bh, .bool bm] 150)) (.cells #[.pointer (some ⟨g, iR + 1, none⟩)] 151)
    simpa only [World.size_alloc] using this
  have h7 : w1.heap[p + 3]? = some (.cells #[.pointer (some ⟨g, iG + 1, none⟩)] 152 (0, 0)) := by
    rw [← hw1, ← hpn]
    have := heap_new (((w0.alloc (.cells #[.pointer (some ⟨b, 0, none⟩)] 80)).alloc (.cells #[.int .i64 bl, .int .i64 bh, .bool bm] 150)).alloc (.cells #[.pointer (some ⟨g, iR + 1, none⟩)] 151)) (.cells #[.pointer (some ⟨g, iG + 1, none⟩)] 152)
    simpa only [World.size_alloc] using this
  rw [hw1] at hbel
  obtain ⟨N2, hN2⟩ : ∃ N2 : (Nat → Prop) → World → Prop, N2 = fun P w => Cell1 p #[.pointer (some ⟨b, 0, none⟩)] 80 P w ∧ Cell1 (p + 1) #[.int .i64 bl, .int .i64 bh, .bool bm] 150 P w ∧ Cell1 (p + 2) #[.pointer (some ⟨g, iR + 1, none⟩)] 151 P w ∧ Cell1 (p + 3) #[.pointer (some ⟨g, iG + 1, none⟩)] 152 P w := ⟨_, rfl⟩
  have hS2 : Stable N2 := by rw [hN2]; exact Stable.and4 (stable_cell _ _ _) (stable_cell _ _ _) (stable_cell _ _ _) (stable_cell _ _ _)
  have hap1 : Ap lo b g T nm ss (fun P w => N P w ∧ N2 P w) V W s w1 := h.join hN hS2 (h.rd.up hbel) (below_grown b hbel) (by rw [hN2]; exact ⟨⟨h4, by omega⟩, ⟨h5, by omega⟩, ⟨h6, by omega⟩, ⟨h7, by omega⟩⟩)
  have HS := hide (hN.and hS2)
  have Hc4 : Hid (∀ P w, (N P w ∧ N2 P w) → Cell1 p #[.pointer (some ⟨b, 0, none⟩)] 80 P w) := fun P w hh => by have := hh.2; rw [hN2] at this; exact this.1
  have HcR : Hid (∀ P w, (N P w ∧ N2 P w) → ∀ c ∈ ([(p + 2, #[.pointer (some ⟨g, iR + 1, none⟩)], 151), (p, #[.pointer (some ⟨b, 0, none⟩)], 80), (p + 1, #[.int .i64 bl, .int .i64 bh, .bool bm], 150)] : List (Nat × Array Value × TypeId)), Cell1 c.1 c.2.1 c.2.2 P w) := fun P w hh c hc => by
    have := hh.2
    rw [hN2] at this
    simp only [List.mem_cons, List.not_mem_nil, or_false] at hc
    rcases hc with rfl | rfl | rfl
    · exact this.2.2.1
    · exact this.1
    · exact this.2.1
  have HcG : Hid (∀ P w, (N P w ∧ N2 P w) → ∀ c ∈ ([(p + 3, #[.pointer (some ⟨g, iG + 1, none⟩)], 152), (p, #[.pointer (some ⟨b, 0, none⟩)], 80)] : List (Nat × Array Value × TypeId)), Cell1 c.1 c.2.1 c.2.2 P w) := fun P w hh c hc => by
    have := hh.2
    rw [hN2] at this
    simp only [List.mem_cons, List.not_mem_nil, or_false] at hc
    rcases hc with rfl | rfl
    · exact this.2.2.2
    · exact this.1
  have Hp := hide hpn
  have c4 : w1.cell? ⟨p, 0, none⟩ = some (.pointer (some ⟨b, 0, none⟩)) := by rw [cell_of_row _ _ _ _ _ _ h4]; rfl
  have HA1 := hide hap1
  have HC1 := hide (next_any hap1.rd hp)
  have HSm := hide hs
  have Hlr := hide hlr
  have Hlg := hide hlg
  have HsR := hide hR
  have HsG := hide hG
  have Hne := hide hne
  clear h hN hR hG hs hlr hlg h4 h5 h6 h7 hbel hN2 hS2 hap1 hp hne
  refine calls_of_wp Tryz.func112 rs_split ?_
  obtain ⟨tl, htl⟩ : ∃ t, rsTail = t := ⟨_, rfl⟩
  rw [htl]
  obtain ⟨Q, hQ⟩ : ∃ Q, bodyPost Tryz.prog Tryz.f112 (ResP lo b g T nm ss N V W iR iG (resF bl bh bm rs gs s)) = Q := ⟨_, rfl⟩
  rw [hQ]
  unfold rsWith
  dsimp only [Tryz.f112]
  simp only [List.size_toArray, List.length_cons, List.length_nil, Nat.reduceAdd, Nat.reduceSub, Array.replicate_succ, Array.replicate_zero, List.push_toArray, List.append_toArray, List.nil_append, List.cons_append]
  subst hw1
  subst hpn
  go_wp2_with fail
  refine (unhide HC1).mono ?_
  intro e w2 hw
  rcases hw.split with ⟨y, hr, rfl, hg⟩ | ⟨_, s1, hr, rfl, h1, hg⟩
  · show Q (Exit.panic _) _ _
    rw [← hQ]
    refine ⟨rfl, ?_⟩
    unfold resF
    rw [hr]
    exact ⟨rfl, (unhide HA1).sv.trans (Sv.of hg (by have := (unhide HA1).bx.lt; omega))⟩
  · have hap2 := (unhide HA1).read (unhide HS) h1 hg
    have c42 : w2.cell? ⟨w0.heap.size, 0, none⟩ = some (.pointer (some ⟨b, 0, none⟩)) := by rw [cell_of_row _ _ _ _ _ _ (unhide Hc4 _ _ hap2.nx).1]; rfl
    have HA2 := hide hap2
    have Hr := hide hr
    have HSm1 := hide ((gt_next hr).suf.sm (unhide HSm))
    have Hle := hide (gt_next hr).suf.len
    have HC2 := hide (here_any hap2.rd)
    obtain ⟨t, ht⟩ : ∃ t, s1.here = t := ⟨_, rfl⟩
    have Ht := hide ht
    rw [ht] at HC2
    obtain ⟨kd, sp, tx⟩ := t
    unfold Tk.val at HC2
    simp only at HC2
    have hf : ∀ w, (Instr.field 29 (.agg #[.int .i64 kd, .int .i64 sp, .string tx]) 0).run Tryz.prog w = .ok (.int .i64 kd) w := fun w => (field_any w ⟨kd, sp, tx⟩).1
    clear hw hr hg h1 hap2 HA1 HC1 c4 ht
    go_wp2_with fail
    refine (unhide HC2).mono ?_
    rintro e w3 ⟨rfl, hb3⟩
    have HA3 := hide ((unhide HA2).up (unhide HS) hb3)
    clear hb3 HA2 HC2 c42
    by_cases hk : kd = 3
    · subst hk
      have HF : Hid (resF bl bh bm rs gs s = match manyF goneF gs s1 with | .error e => .error e | .ok (l, s2) => .ok ((rs, l), s2)) := by
        show _ = _
        unfold resF
        rw [unhide Hr]
        simp only
        rw [if_pos (by rw [unhide Ht])]
        cases manyF goneF gs s1 <;> rfl
      go_wp2
      rw [← htl, ← hQ]
      refine rsTail_any (unhide HS) (unhide Hc4) (fun s a s1 h => ⟨gt_gone h, pos_gone h⟩) (fun acc s w h => one_gone (unhide HS) (unhide HcG) (unhide HsG) acc s w h) (acc := gs) (s := s1) ⟨⟨vg, by rw [set_self (unhide HsG)]; exact unhide HA3⟩, by have := unhide Hlg; have := unhide Hle; omega, unhide HSm1⟩ rfl ⟨rfl, rfl, trivial⟩ ?_ ?_
      · intro y w hm hsv
        rw [unhide HF, hm]
        exact ⟨rfl, hsv⟩
      · rintro l s' w hm ⟨⟨v, hap⟩, hl, hsm⟩
        rw [unhide HF, hm]
        have hsf := (suf_many (fun s a s1 h => (gt_gone h).suf) hm).len
        refine ⟨rfl, ⟨vr, v, ?_⟩, by have := unhide Hlr; have := unhide Hle; simp only; omega, hl, hsm⟩
        rw [set_self (unhide HsR)]
        exact hap.imp (fun h => h.1)
    · have HF : Hid (resF bl bh bm rs gs s = match manyF (rowF bl bh bm) rs s1 with | .error e => .error e | .ok (l, s2) => .ok ((l, gs), s2)) := by
        show _ = _
        unfold resF
        rw [unhide Hr]
        simp only
        rw [if_neg (by rw [unhide Ht]; exact hk)]
        cases manyF (rowF bl bh bm) rs s1 <;> rfl
      have hk2 : (kd == 3) = false := by simp [hk]
      clear hk
      go_wp2
      rw [← htl, ← hQ]
      refine rsTail_any (unhide HS) (unhide Hc4) (fun s a s1 h => ⟨gt_row h, pos_row h⟩) (fun acc s w h => one_rows (unhide HS) (unhide HcR) (unhide HsR) acc s w h) (acc := rs) (s := s1) ⟨⟨vr, by rw [set_self (unhide HsR)]; exact unhide HA3⟩, by have := unhide Hlr; have := unhide Hle; omega, unhide HSm1⟩ rfl ⟨rfl, rfl, trivial⟩ ?_ ?_
      · intro y w hm hsv
        rw [unhide HF, hm]
        exact ⟨rfl, hsv⟩
      · rintro l s' w hm ⟨⟨v, hap⟩, hl, hsm⟩
        rw [unhide HF, hm]
        have hsf := (suf_many (fun s a s1 h => (gt_row h).suf) hm).len
        refine ⟨rfl, ⟨v, vg, ?_⟩, hl, by have := unhide Hlg; have := unhide Hle; simp only; omega, hsm⟩
        rw [set_self (by rw [List.getElem?_set_ne (unhide Hne)]; exact unhide HsG)]
        exact hap.imp (fun h => h.1)
end
end Go.Proofs.YtdhncpeemcanlaaGreatDoor
