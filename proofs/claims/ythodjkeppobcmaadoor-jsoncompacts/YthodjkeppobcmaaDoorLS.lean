import Derived.Test.YthodjkeppobcmaaDoorLR
import Derived.Outline

namespace Go.Proofs.YthodjkeppobcmaaDoor
open Go.RowKit Go.Lib
attribute [local go_sem ↓] Go.wp_at_zero Go.wp_at_succ

set_option maxRecDepth 100000 in
set_option maxHeartbeats 4000000 in
theorem tightO {s : ByteArray} {P : Nat → Prop} {w0 : World} (a e : Nat) (x : ByteArray) (vn vi : Value) (its : List It) (ha : a < s.size) (he : 0 < e ∧ e ≤ s.size) (hi : RowN P w0 vi (its.map It.v)) (hn : RowN P w0 vn (its.map It.nm)) (hm : ∀ i ∈ its, i.na ≤ i.ne ∧ i.ne ≤ s.size) (ih : ∀ i ∈ its, PutT s w0 i.v i.b) (hss : ∀ i ∈ its, isSl i.v.vn ∧ isSl i.v.vi) (hs : s.size ≤ 67108864) : PutT s w0 ⟨1, a, e, x, vn, vi⟩ (bt (strN s) a :: jn (its.map (itB (strN s) 1)) ++ [bt (strN s) (e - 1)]) := by
  intro W v xs hb hy hl
  obtain ⟨i0, hi0, hz0, hz1, hz2⟩ := info_parts Tryd.infoByte
  obtain ⟨va, vc, rfl⟩ := slice_of hy
  obtain ⟨an, cn, rfl, ⟨hnc, hnm⟩, hng⟩ := hn
  rw [List.length_map] at hnc hng ⊢
  have Hng := hide hng
  have Hm := hide hm
  clear hng hm
  obtain ⟨ai, ci, rfl, ⟨hic, him⟩, hig⟩ := hi
  rw [List.length_map] at hic hig ⊢
  have him2 : its.length ≤ 9223372036854775807 := Nat.le_trans hic (by unfold maxLen at him; exact him)
  have hnb := heap_new W (.cells #[.int .i64 1, .int .i64 (a : Int), .int .i64 (e : Int), .string x, .slice an its.length cn, .slice ai its.length ci] 43)
  have hbA : Below W.heap.size W (W.alloc (.cells #[.int .i64 1, .int .i64 (a : Int), .int .i64 (e : Int), .string x, .slice an its.length cn, .slice ai its.length ci] 43)) := (Below.refl _ _).alloc (Nat.le_refl _) _
  obtain ⟨W1, hW1⟩ : ∃ W1, W.alloc (.cells #[.int .i64 1, .int .i64 (a : Int), .int .i64 (e : Int), .string x, .slice an its.length cn, .slice ai its.length ci] 43) = W1 := ⟨_, rfl⟩
  obtain ⟨p, hp⟩ : ∃ p, W.heap.size = p := ⟨_, rfl⟩
  rw [hW1] at hnb hbA
  rw [hp] at hnb
  have hy1 : Bytes w0.heap.size W1 (.slice va xs.length vc) xs := by rw [← hW1]; exact World.ownsRow.alloc hy _
  have hpo : ∀ g, (Value.slice va xs.length vc).ownBlock = some g → g ≠ p := fun g q => by have := (World.ownsRow.lt hy g q).2; omega
  have HP0 : Hid (∀ w v', Ext W1 (.slice va xs.length vc) w v' → w.heap[p]? = some (.cells #[.int .i64 1, .int .i64 (a : Int), .int .i64 (e : Int), .string x, .slice an its.length cn, .slice ai its.length ci] 43 (0, 0))) := fun w v' hE => (hE.far p (Array.getElem?_eq_some_iff.1 hnb).1 (fun q => hpo p q.symm rfl)).trans hnb
  have HBW : Hid (w0.heap.size ≤ W1.heap.size) := Nat.le_trans hb.size hbA.size
  have HBl : Hid (∀ w v', Ext W1 (.slice va xs.length vc) w v' → Below w0.heap.size w0 w) := fun w v' hE => (hb.trans (hbA.mono hb.size)).trans (ext_below hE hy1 (Nat.le_trans hb.size hbA.size))
  have HG1 : Hid (Go1 w0.heap.size W1 (.slice va xs.length vc) xs (.slice va xs.length vc) W1) := ⟨hy1, Ext.refl _ _⟩
  have HE0 := hide (Ext.of_below hbA (.slice va xs.length vc))
  obtain ⟨⟨n0, n1, n2, n3, n4, n5⟩, -⟩ := cells6 hnb
  have HLn : Hid (xs.length + 3 + (jn (its.map (itB (strN s) 1))).length ≤ 1073741826) := by
    show _ ≤ _
    rw [List.length_append, List.length_cons] at hl
    simp at hl
    omega
  have Hig := hide hig
  have Hih := hide ih
  have Hss := hide hss
  have HW1 := hide hW1
  have Hp := hide hp
  obtain ⟨ga, hga⟩ := bt_str s a ha
  have i1 : (a : Int) < (s.size : Int) := by omega
  have a0 : (0 : Int) ≤ (a : Int) := Int.natCast_nonneg _
  have He := hide he
  have ge := idx_at (s := s) (k := e - 1) (by omega) ((e : Int) - 1) (by omega)
  clear hl hig ih hss hW1 hp hnb hbA hy1 hpo hy hb he hga
  unfold NdV.val
  simp only
  go_enter Tryd.func11, Tryd.ntmps11
  go_upto_region 1 with fail
  rw [unhide HW1, unhide Hp]
  clear HW1 Hp
  obtain ⟨nl, hnl⟩ : ∃ nl, (xs).length = nl := ⟨_, rfl⟩
  have Hn := hide hnl
  have HO := hide (unhide HG1).by_
  unfold Bytes at HO
  have O1 : Hid (nl + 1 ≤ maxLen) := by show _ ≤ _; unfold maxLen; have := unhide HLn; have q := hnl; (try simp only [List.length_append, List.length_cons] at q this); omega
  have O2 : Hid ((nl + 1) * 1 ≤ 140737488355328) := by show _ ≤ _; have := unhide HLn; have q := hnl; (try simp only [List.length_append, List.length_cons] at q this); omega
  have HBz := hide (Nat.le_trans (unhide HBW) (unhide HG1).ex.size)
  rw [hnl] at HO HG1 ⊢
  obtain ⟨ya, hya⟩ : ∃ y, bt (strN s) a = y := ⟨_, rfl⟩
  have Hya := hide hya
  rw [hya] at ga
  clear hya hnl
  go_wp2_with (at_builtin; refine wpList_append_own_at _ rfl _ _ 31 rfl w0.heap.size 5 i0 (.int .u8 0) 1 1 Tryd.underlying31 hi0 hz0 hz1 hz2 rfl (by decide) _ _ _ rfl ((unhide HO).alloc _) ⟨W1.heap.size, 0, none⟩ 1 1 [.int .u8 (ya : Int)] rfl rfl (cells_lit _ _ _) (by simp [Value.oneCell']) (unhide O1) (unhide O2) (by rw [World.size_alloc]; exact Nat.le_trans (unhide HBz) (Nat.le_succ _)) ?_; intro v4 w4 hown4 hgrow4 _ hat4; have HP := hide (mk1 (y := ya) (unhide Hn) hown4 hgrow4 hat4); obtain ⟨av4, cv4, rfl⟩ := sl_len hown4; clear hown4 hgrow4 hat4)
  have HG2 := hide ((unhide HG1).step (unhide HP))
  clear HO O1 O2 HBz HP HG1 n0 n1 n2 n3 n4 n5
  obtain rfl := unhide Hn
  clear Hn
  rename_i nx0
  clear nx0
  go_wp2_with fail
  go_loopg [0, 7] its.length (fun gk v0 v7 wr => ∃ i : Nat, v7 = .int .i64 (i : Int) ∧ gk = its.length - i ∧ i ≤ its.length ∧ Hid (Go1 w0.heap.size W1 (.slice va xs.length vc) (xs ++ ya :: jn ((its.map (itB (strN s) 1)).take i)) v0 wr))
  case atStart => exact ⟨0, rfl, rfl, by omega, HG2⟩
  case round =>
    obtain ⟨i, rfl, hgk, hi, HG⟩ := hrel
    have Hgk := hide hgk
    have i0' : (0 : Int) ≤ (i : Int) := Int.natCast_nonneg _
    obtain ⟨av, cv, rfl⟩ := slice_of (unhide HG).by_
    obtain ⟨⟨n0, n1, n2, n3, n4, n5⟩, -⟩ := cells6 (unhide HP0 _ _ (unhide HG).ex)
    clear hgk HG2
    by_cases hlt : i < its.length
    · have hlt' : (i : Int) < (its.length : Int) := by omega
      obtain ⟨it, hit⟩ : ∃ it, its[i]? = some it := ⟨_, List.getElem?_eq_getElem hlt⟩
      obtain ⟨g, rfl, -, hg, hrd⟩ := unhide Hig (by omega)
      have hmem := List.mem_of_getElem? hit
      have hjp := jn_pre (show (its.map (itB (strN s) 1))[i]? = some (itB (strN s) 1 it) by rw [List.getElem?_map, hit]; rfl)
      have hjm := jn_mono (xs := its.map (itB (strN s) 1)) (i := i + 1)
      have HJ : Hid (xs.length + 3 + (jn ((its.map (itB (strN s) 1)).take i) ++ sepB i).length + (itB (strN s) 1 it).length ≤ 1073741826) := by
        have := unhide HLn
        rw [hjp, List.length_append] at hjm
        show _ ≤ _
        omega
      have Hjp := hide hjp
      have Hhit := hide hit
      have Hrd := hide hrd
      have Hmem := hide hmem
      have Hg := hide hg
      obtain ⟨jp, hjpE⟩ : ∃ l, jn ((its.map (itB (strN s) 1)).take i) = l := ⟨_, rfl⟩
      rw [hjpE] at HG HJ Hjp ⊢
      clear hjp hjm hit hrd hmem hg hjpE
      go_upto_if 39 with fail
      go_cut [0] (fun v0 wx => Hid (Go1 w0.heap.size W1 (.slice va xs.length vc) (xs ++ ya :: (jp ++ sepB i)) v0 wx))
      case first =>
        by_cases hz : i = 0
        · have HG4 : Hid (Go1 w0.heap.size W1 (.slice va xs.length vc) (xs ++ ya :: (jp ++ sepB i)) (.slice av (xs ++ ya :: jp).length cv) wr) := by
            rw [sepB_0 hz, List.append_nil]
            exact HG
          have d0 : decide (0 < i) = false := by simp; omega
          rw [d0]
          clear hz
          go_wp2
          go_meet
          exact HG4
        · have d0 : decide (0 < i) = true := by simp; omega
          have Hsp := hide (sepB_1 hz)
          rw [d0]
          clear hz
          obtain ⟨nl, hnl⟩ : ∃ nl, (xs ++ ya :: jp).length = nl := ⟨_, rfl⟩
          have Hn := hide hnl
          have HO := hide (unhide HG).by_
          unfold Bytes at HO
          have O1 : Hid (nl + 1 ≤ maxLen) := by show _ ≤ _; unfold maxLen; have := unhide HJ; have q := hnl; (try simp only [List.length_append, List.length_cons] at q this); omega
          have O2 : Hid ((nl + 1) * 1 ≤ 140737488355328) := by show _ ≤ _; have := unhide HJ; have q := hnl; (try simp only [List.length_append, List.length_cons] at q this); omega
          have HBz := hide (Nat.le_trans (unhide HBW) (unhide HG).ex.size)
          rw [hnl] at HO HG ⊢
          clear hnl
          go_wp2_with (at_builtin; refine wpList_append_own_at _ rfl _ _ 31 rfl w0.heap.size 5 i0 (.int .u8 0) 1 1 Tryd.underlying31 hi0 hz0 hz1 hz2 rfl (by decide) _ _ _ rfl ((unhide HO).alloc _) ⟨wr.heap.size, 0, none⟩ 1 1 [.int .u8 44] rfl rfl (cells_lit _ _ _) (by simp [Value.oneCell']) (unhide O1) (unhide O2) (by rw [World.size_alloc]; exact Nat.le_trans (unhide HBz) (Nat.le_succ _)) ?_; intro v4 w4 hown4 hgrow4 _ hat4; have HP := hide (mk1 (y := 44) (unhide Hn) hown4 hgrow4 hat4); obtain ⟨av4, cv4, rfl⟩ := sl_len hown4; clear hown4 hgrow4 hat4)
          have HG4 : Hid (Go1 w0.heap.size W1 (.slice va xs.length vc) (xs ++ ya :: (jp ++ sepB i)) (.slice av4 (nl + 1) cv4) w4) := by
            have := (unhide HG).step (unhide HP)
            rw [unhide Hsp]
            rw [List.append_assoc] at this
            exact this
          clear HO O1 O2 HBz HP HG n0 n1 n2 n3 n4 n5
          go_wp2
          go_meet
          exact HG4
      case rest =>
      have Hc := hcut
      clear hcut HG n0 n1 n2 n3 n4 n5
      obtain ⟨gn, rfl, -, hgn, hrn⟩ := unhide Hng (by omega)
      obtain ⟨av6, cv6, rfl⟩ := slice_of (unhide Hc).by_
      obtain ⟨⟨n0, n1, n2, n3, n4, n5⟩, -⟩ := cells6 (unhide HP0 _ _ (unhide Hc).ex)
      have Hgn := hide hgn
      have hnT : ∀ (w : World) (v' : Value), Ext W1 (.slice va xs.length vc) w v' → (fun w => w.cell? ⟨p, 4, none⟩ = some (.slice (some ⟨gn, 0, none⟩) its.length cn) ∧ w.cell? ⟨gn, i * 6 + 1, none⟩ = some (.int .i64 (it.na : Int)) ∧ w.cell? ⟨gn, i * 6 + 2, none⟩ = some (.int .i64 (it.ne : Int))) w := fun w v' hE => by
        have hb9 := unhide HBl _ _ hE
        have r9 : ∀ j u, it.nm.cells[j]? = some u → w.cell? ⟨gn, i * 6 + j, none⟩ = some u := fun j u hu => (World.cell?_of_block (a := ⟨gn, i * 6 + j, none⟩) (hb9.block gn (unhide Hgn))).trans (hrn i j it.nm u (by rw [List.getElem?_map, unhide Hhit]; rfl) hu)
        exact ⟨(cells6 (unhide HP0 _ _ hE)).1.2.2.2.2.1, r9 1 _ rfl, r9 2 _ rfl⟩
      have HnT := hide hnT
      obtain ⟨hm1, hm2⟩ := unhide Hm it (unhide Hmem)
      have hsz : (s.extract it.na it.ne).size = it.ne - it.na := extract_size _ _ _ hm2
      have hst : strN (s.extract it.na it.ne) = ((strN s).drop it.na).take (it.ne - it.na) := by
        unfold strN
        rw [Lib.extract_data]
        simp [List.map_take, List.map_drop]
      have hln : (((strN s).drop it.na).take (it.ne - it.na)).length = it.ne - it.na := by rw [← hst, strN_len, hsz]
      have HJ2 : Hid ((xs ++ ya :: (jp ++ sepB i)).length + (it.ne - it.na) + 1 + it.b.length ≤ 1073741824) := by
        have := unhide HJ
        unfold itB at this
        rw [if_pos rfl] at this
        show _ ≤ _
        simp only [List.length_append, List.length_cons] at this ⊢
        rw [hln] at this
        omega
      have Hst := hide hst
      have HTk := hide (ktoken_any (W := wc.drew) (base := w0.heap.size) (v := .slice av6 (xs ++ ya :: (jp ++ sepB i)).length cv6) (xs := xs ++ ya :: (jp ++ sepB i)) (unhide Hc).by_ (unhide HBl _ _ (unhide Hc).ex).size (s.extract it.na it.ne) (by have := unhide HJ2; rw [hsz]; omega))
      rw [hst] at HTk
      have Hln := hide hln
      obtain ⟨nb, hnb⟩ : ∃ l, ((strN s).drop it.na).take (it.ne - it.na) = l := ⟨_, rfl⟩
      rw [hnb] at HTk Hln Hst
      have Hnb := hide hnb
      have i6 : (it.na : Int) ≤ (it.ne : Int) := by omega
      have i7 : (it.ne : Int) ≤ (s.size : Int) := by omega
      have a6 : (0 : Int) ≤ (it.na : Int) := Int.natCast_nonneg _
      clear hgn hrn hnT hsz hst hln hnb hm1
      go_upto_if 45 with fail
      go_cut [0] (fun v0 wx => Hid (Go1 w0.heap.size W1 (.slice va xs.length vc) ((xs ++ ya :: (jp ++ sepB i)) ++ (nb ++ [58])) v0 wx))
      case first =>
        obtain ⟨nl, hnl⟩ : ∃ nl, (xs ++ ya :: (jp ++ sepB i)).length = nl := ⟨_, rfl⟩
        rw [hnl] at Hc HTk ⊢
        have HnL := hide hnl
        clear hnl
        go_upto_region 10 with fail
        have hbd : Below wc.heap.size wc wc.drew := ⟨rfl, rfl, rfl, Nat.le_refl _, fun _ _ => rfl⟩
        have hEd := Ext.of_below hbd (.slice av6 nl cv6)
        have hT : (fun w => w.cell? ⟨p, 4, none⟩ = some (.slice (some ⟨gn, 0, none⟩) its.length cn) ∧ w.cell? ⟨gn, i * 6 + 1, none⟩ = some (.int .i64 (it.na : Int)) ∧ w.cell? ⟨gn, i * 6 + 2, none⟩ = some (.int .i64 (it.ne : Int))) wc.drew := unhide HnT _ _ ((unhide Hc).ex.trans hEd)
        refine wp_region_any (by kernel_rfl) (wpAny_of_Z (z := 17) (T := fun w => w.cell? ⟨p, 4, none⟩ = some (.slice (some ⟨gn, 0, none⟩) its.length cn) ∧ w.cell? ⟨gn, i * 6 + 1, none⟩ = some (.int .i64 (it.na : Int)) ∧ w.cell? ⟨gn, i * 6 + 2, none⟩ = some (.int .i64 (it.ne : Int))) _ _ _ _ ?_)
        try (change wpAnyZ _ _ _ _ _ _ _ _ _ (World.drew _))
        refine wpAnyZ_tk 0 (.slice av6 nl cv6) 46 rfl rfl (Or.inl ⟨by rfl, fun w hw => by obtain ⟨hw1, hw2, hw3⟩ := hw; go_simp⟩) hT ?_
        simp only [Act.put, List.setIfInBounds_toArray, List.set_cons_zero, List.set_cons_succ]
        refine wpAnyZ_tk 1 (.string s) 47 rfl rfl (Or.inl ⟨by rfl, fun w hw => by obtain ⟨hw1, hw2, hw3⟩ := hw; go_simp⟩) hT ?_
        simp only [Act.put, List.setIfInBounds_toArray, List.set_cons_zero, List.set_cons_succ]
        refine wpAnyZ_tk 2 (.pointer (some ⟨p, 4, none⟩)) 48 rfl rfl (Or.inl ⟨by rfl, fun w hw => by obtain ⟨hw1, hw2, hw3⟩ := hw; go_simp⟩) hT ?_
        simp only [Act.put, List.setIfInBounds_toArray, List.set_cons_zero, List.set_cons_succ]
        refine wpAnyZ_tk 3 (.slice (some ⟨gn, 0, none⟩) its.length cn) 49 rfl rfl (Or.inl ⟨by rfl, fun w hw => by obtain ⟨hw1, hw2, hw3⟩ := hw; go_simp⟩) hT ?_
        simp only [Act.put, List.setIfInBounds_toArray, List.set_cons_zero, List.set_cons_succ]
        refine wpAnyZ_tk 4 (.int .i64 (i : Int)) 50 rfl rfl (Or.inl ⟨by rfl, fun w hw => by obtain ⟨hw1, hw2, hw3⟩ := hw; go_simp⟩) hT ?_
        simp only [Act.put, List.setIfInBounds_toArray, List.set_cons_zero, List.set_cons_succ]
        refine wpAnyZ_tk 5 (.pointer (some ⟨gn, i * 6, none⟩)) 51 rfl rfl (Or.inl ⟨by rfl, fun w hw => by obtain ⟨hw1, hw2, hw3⟩ := hw; go_simp⟩) hT ?_
        simp only [Act.put, List.setIfInBounds_toArray, List.set_cons_zero, List.set_cons_succ]
        refine wpAnyZ_tk 6 (.pointer (some ⟨gn, i * 6 + 1, none⟩)) 52 rfl rfl (Or.inl ⟨by rfl, fun w hw => by obtain ⟨hw1, hw2, hw3⟩ := hw; go_simp⟩) hT ?_
        simp only [Act.put, List.setIfInBounds_toArray, List.set_cons_zero, List.set_cons_succ]
        refine wpAnyZ_tk 7 (.int .i64 (it.na : Int)) 53 rfl rfl (Or.inl ⟨by rfl, fun w hw => by obtain ⟨hw1, hw2, hw3⟩ := hw; go_simp⟩) hT ?_
        simp only [Act.put, List.setIfInBounds_toArray, List.set_cons_zero, List.set_cons_succ]
        refine wpAnyZ_tk 8 (.pointer (some ⟨p, 4, none⟩)) 54 rfl rfl (Or.inl ⟨by rfl, fun w hw => by obtain ⟨hw1, hw2, hw3⟩ := hw; go_simp⟩) hT ?_
        simp only [Act.put, List.setIfInBounds_toArray, List.set_cons_zero, List.set_cons_succ]
        refine wpAnyZ_tk 9 (.slice (some ⟨gn, 0, none⟩) its.length cn) 55 rfl rfl (Or.inl ⟨by rfl, fun w hw => by obtain ⟨hw1, hw2, hw3⟩ := hw; go_simp⟩) hT ?_
        simp only [Act.put, List.setIfInBounds_toArray, List.set_cons_zero, List.set_cons_succ]
        refine wpAnyZ_tk 10 (.int .i64 (i : Int)) 56 rfl rfl (Or.inl ⟨by rfl, fun w hw => by obtain ⟨hw1, hw2, hw3⟩ := hw; go_simp⟩) hT ?_
        simp only [Act.put, List.setIfInBounds_toArray, List.set_cons_zero, List.set_cons_succ]
        refine wpAnyZ_tk 11 (.pointer (some ⟨gn, i * 6, none⟩)) 57 rfl rfl (Or.inl ⟨by rfl, fun w hw => by obtain ⟨hw1, hw2, hw3⟩ := hw; go_simp⟩) hT ?_
        simp only [Act.put, List.setIfInBounds_toArray, List.set_cons_zero, List.set_cons_succ]
        refine wpAnyZ_tk 12 (.pointer (some ⟨gn, i * 6 + 2, none⟩)) 58 rfl rfl (Or.inl ⟨by rfl, fun w hw => by obtain ⟨hw1, hw2, hw3⟩ := hw; go_simp⟩) hT ?_
        simp only [Act.put, List.setIfInBounds_toArray, List.set_cons_zero, List.set_cons_succ]
        refine wpAnyZ_tk 13 (.int .i64 (it.ne : Int)) 59 rfl rfl (Or.inl ⟨by rfl, fun w hw => by obtain ⟨hw1, hw2, hw3⟩ := hw; go_simp⟩) hT ?_
        simp only [Act.put, List.setIfInBounds_toArray, List.set_cons_zero, List.set_cons_succ]
        refine wpAnyZ_tk 14 (.string (s.extract it.na it.ne)) 60 rfl rfl (Or.inl ⟨by rfl, fun w hw => by obtain ⟨hw1, hw2, hw3⟩ := hw; go_simp⟩) hT ?_
        simp only [Act.put, List.setIfInBounds_toArray, List.set_cons_zero, List.set_cons_succ]
        refine wpAnyZ_one 15 (by kernel_rfl) rfl (fun K hK => ?_)
        refine step_callD 61 rfl rfl 22 (cf_ktoken _) #[.tmp 46, .tmp 60] #[31, 9] rfl #[.slice av6 nl cv6, .string (s.extract it.na it.ne)] (by first | rfl | simp [Act.eval]) (unhide HTk) ?_
        rintro eo w5 ⟨v5, rfl, hB5, hE5⟩
        have HG5 := hide ((unhide Hc).step ⟨hB5, hEd.trans hE5⟩)
        obtain ⟨av7, cv7, rfl⟩ := slice_of hB5
        have HJ3 : Hid ((xs ++ ya :: (jp ++ sepB i)).length + nb.length + 1 + it.b.length ≤ 1073741824) := by have := unhide HJ2; rw [← unhide Hln] at this; exact this
        obtain ⟨nl, hnl⟩ : ∃ nl, ((xs ++ ya :: (jp ++ sepB i)) ++ nb).length = nl := ⟨_, rfl⟩
        have Hn := hide hnl
        have HO := hide (unhide HG5).by_
        unfold Bytes at HO
        have O1 : Hid (nl + 1 ≤ maxLen) := by show _ ≤ _; unfold maxLen; have := unhide HJ3; have q := hnl; (try simp only [List.length_append, List.length_cons] at q this); omega
        have O2 : Hid ((nl + 1) * 1 ≤ 140737488355328) := by show _ ≤ _; have := unhide HJ3; have q := hnl; (try simp only [List.length_append, List.length_cons] at q this); omega
        have HBz := hide (Nat.le_trans (unhide HBW) (unhide HG5).ex.size)
        rw [hnl] at HO HG5 ⊢
        clear hnl
        have hT5 := unhide HnT _ _ (unhide HG5).ex
        refine ⟨_, rfl, hK _ _ ⟨fun _ => hT5, ?_⟩⟩
        clear hK K hT hbd hEd hB5 hE5 HTk
        simp only [Act.put, List.setIfInBounds_toArray, List.set_cons_zero, List.set_cons_succ]
        refine wpAnyZ_one 16 (by kernel_rfl) rfl (fun K hK => ?_)
        go_simp
        refine hK _ _ ⟨fun _ => hT5, ?_⟩
        clear hK K hT5
        refine wpAnyZ_done (by kernel_rfl) ?_
        clear Hc n0 n1 n2 n3 n4 n5
        go_wp2_with (at_builtin; refine wpList_append_own_at _ rfl _ _ 31 rfl w0.heap.size 5 i0 (.int .u8 0) 1 1 Tryd.underlying31 hi0 hz0 hz1 hz2 rfl (by decide) _ _ _ rfl ((unhide HO).alloc _) ⟨w5.heap.size, 0, none⟩ 1 1 [.int .u8 58] rfl rfl (cells_lit _ _ _) (by simp [Value.oneCell']) (unhide O1) (unhide O2) (by rw [World.size_alloc]; exact Nat.le_trans (unhide HBz) (Nat.le_succ _)) ?_; intro v4 w4 hown4 hgrow4 _ hat4; have HP := hide (mk1 (y := 58) (unhide Hn) hown4 hgrow4 hat4); obtain ⟨av4, cv4, rfl⟩ := sl_len hown4; clear hown4 hgrow4 hat4)
        have HG6 : Hid (Go1 w0.heap.size W1 (.slice va xs.length vc) ((xs ++ ya :: (jp ++ sepB i)) ++ (nb ++ [58])) (.slice av4 (nl + 1) cv4) w4) := by
          have := (unhide HG5).step (unhide HP)
          rw [List.append_assoc] at this
          exact this
        clear HO O1 O2 HBz HP HG5
        go_wp2
        go_meet
        exact HG6
      case rest =>
      have Hd := hcut
      clear hcut n0 n1 n2 n3 n4 n5 Hc HTk HnT
      have Hc := Hd
      clear Hd
      have HJ4 : Hid ((xs ++ ya :: (jp ++ sepB i)).length + nb.length + 1 + it.b.length ≤ 1073741824) := by have := unhide HJ2; rw [← unhide Hln] at this; exact this

      obtain ⟨av5, cv5, rfl⟩ := slice_of (unhide Hc).by_
      obtain ⟨⟨n0, n1, n2, n3, n4, n5⟩, -⟩ := cells6 (unhide HP0 _ _ (unhide Hc).ex)
      have hbw := unhide HBl _ _ (unhide Hc).ex
      have rd : ∀ j u, it.v.cells[j]? = some u → wc.cell? ⟨g, i * 6 + j, none⟩ = some u := fun j u hu => (World.cell?_of_block (a := ⟨g, i * 6 + j, none⟩) (hbw.block g (unhide Hg))).trans (unhide Hrd i j it.v u (by rw [List.getElem?_map, unhide Hhit]; rfl) hu)
      have c0 := rd 0 _ rfl
      rw [Nat.add_zero] at c0
      have c1 := rd 1 _ rfl
      have c2 := rd 2 _ rfl
      have c3 := rd 3 _ rfl
      have c4 := rd 4 _ rfl
      have c5 := rd 5 _ rfl
      obtain ⟨⟨a6, n6, m6, hvn⟩, a7, n7, m7, hvi⟩ := unhide Hss it (unhide Hmem)
      have HC := hide (unhide Hih it (unhide Hmem) _ _ _ hbw (unhide Hc).by_ (by have := unhide HJ4; simp only [List.length_append, List.length_cons, List.length_nil] at this ⊢; omega))
      unfold NdV.val at HC
      rw [hvn, hvi] at HC
      rw [hvn] at c4
      rw [hvi] at c5
      obtain ⟨nl, hnl⟩ : ∃ nl, ((xs ++ ya :: (jp ++ sepB i)) ++ (nb ++ [58])).length = nl := ⟨_, rfl⟩
      rw [hnl] at HC Hc ⊢
      clear hnl rd hbw hvn hvi
      generalize it.v.k = z0, it.v.a = z1, it.v.e = z2, it.v.x = z3 at *
      go_wp2_with fail
      refine (unhide HC).mono ?_
      rintro eo w2 ⟨v2, rfl, hB2, hE2⟩
      have HG5 := hide ((unhide Hc).step ⟨hB2, hE2⟩)
      obtain ⟨a8, c8, rfl⟩ := slice_of hB2
      obtain ⟨nm, hnm⟩ : ∃ nl, (((xs ++ ya :: (jp ++ sepB i)) ++ (nb ++ [58])) ++ it.b).length = nl := ⟨_, rfl⟩
      rw [hnm] at HG5 ⊢
      clear hnm hB2 hE2 HC Hc n0 n1 n2 n3 n4 n5 c0 c1 c2 c3 c4 c5
      go_wp2_with fail
      go_roundg (its.length - (i + 1))
      case measure => have := unhide Hgk; omega
      case rel =>
        refine ⟨i + 1, by go_num, rfl, by omega, ?_⟩
        rw [unhide Hjp]
        have := HG5
        simpa [itB, unhide Hnb] using this
    · obtain rfl : i = its.length := by omega
      have i2 : decide ((its.length : Int) < (its.length : Int)) = false := by simp
      obtain ⟨yb, hyb⟩ : ∃ y, bt (strN s) (e - 1) = y := ⟨_, rfl⟩
      rw [hyb] at ge ⊢
      have e1 : 0 < e := (unhide He).1
      have e2 : e ≤ s.size := (unhide He).2
      rw [show (its.map (itB (strN s) 1)).take its.length = its.map (itB (strN s) 1) from List.take_of_length_le (by rw [List.length_map]; exact Nat.le_refl _)] at HG ⊢
      obtain ⟨jl, hjl⟩ : ∃ l, jn (its.map (itB (strN s) 1)) = l := ⟨_, rfl⟩
      rw [hjl] at HG HLn ⊢
      have Hyb := hide hyb
      have Hjl := hide hjl
      clear hyb hjl
      obtain ⟨nl, hnl⟩ : ∃ nl, (xs ++ ya :: jl).length = nl := ⟨_, rfl⟩
      have Hn := hide hnl
      have HO := hide (unhide HG).by_
      unfold Bytes at HO
      have O1 : Hid (nl + 1 ≤ maxLen) := by show _ ≤ _; unfold maxLen; have := unhide HLn; have q := hnl; (try simp only [List.length_append, List.length_cons] at q this); omega
      have O2 : Hid ((nl + 1) * 1 ≤ 140737488355328) := by show _ ≤ _; have := unhide HLn; have q := hnl; (try simp only [List.length_append, List.length_cons] at q this); omega
      have HBz := hide (Nat.le_trans (unhide HBW) (unhide HG).ex.size)
      rw [hnl] at HO HG ⊢
      clear hnl
      go_wp2_with (at_builtin; refine wpList_append_own_at _ rfl _ _ 31 rfl w0.heap.size 5 i0 (.int .u8 0) 1 1 Tryd.underlying31 hi0 hz0 hz1 hz2 rfl (by decide) _ _ _ rfl ((unhide HO).alloc _) ⟨wr.heap.size, 0, none⟩ 1 1 [.int .u8 (yb : Int)] rfl rfl (cells_lit _ _ _) (by simp [Value.oneCell']) (unhide O1) (unhide O2) (by rw [World.size_alloc]; exact Nat.le_trans (unhide HBz) (Nat.le_succ _)) ?_; intro v4 w4 hown4 hgrow4 _ hat4; have HP := hide (mk1 (y := yb) (unhide Hn) hown4 hgrow4 hat4); obtain ⟨av4, cv4, rfl⟩ := sl_len hown4; clear hown4 hgrow4 hat4)
      have HG4 := hide ((unhide HG).step (unhide HP))
      clear HO O1 O2 HBz HP HG n0 n1 n2 n3 n4 n5
      go_wp2
      go_ret
      refine ⟨_, rfl, ?_, (unhide HE0).trans (unhide HG4).ex⟩
      have := (unhide HG4).by_
      rw [unhide Hya, unhide Hyb, unhide Hjl]
      rw [List.append_assoc] at this
      exact this
end Go.Proofs.YthodjkeppobcmaaDoor
