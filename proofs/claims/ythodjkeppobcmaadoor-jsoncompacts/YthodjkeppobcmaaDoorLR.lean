import Derived.Test.YthodjkeppobcmaaDoorJ34
import Derived.Outline

namespace Go.Proofs.YthodjkeppobcmaaDoor
open Go.RowKit Go.Lib
attribute [local go_sem ↓] Go.wp_at_zero Go.wp_at_succ

theorem mk1 {W w : World} {base n y : Nat} {v v' : Value} {ob : Obj} {xs : List Nat} (hn : xs.length = n) (hown : w.ownsRow base 5 1 v' (n + 1) (nb xs ++ [.int .u8 (y : Int)])) (hg : (W.alloc ob).grownBy w v.ownBlock) (hat : v'.ownBlock = v.ownBlock ∨ v'.ownBlock = some (W.alloc ob).heap.size) : Bytes base w v' (xs ++ [y]) ∧ Ext W v w v' := by
  subst hn
  refine ⟨?_, Ext.grown hg hat⟩
  unfold Bytes
  rw [nb_append, List.length_append]
  exact hown
theorem sl_len {base : Nat} {w : World} {v : Value} {n : Nat} {cs : List Value} (h : w.ownsRow base 5 1 v n cs) : ∃ a c, v = .slice a n c := by
  rcases h.2 with ⟨rfl, rfl⟩ | ⟨g, cap, cur, rfl, _⟩
  · exact ⟨_, _, rfl⟩
  · exact ⟨_, _, rfl⟩
/-- Bytes that go on from others. -/
structure Go1 (base : Nat) (W1 : World) (v : Value) (l : List Nat) (v' : Value) (w : World) : Prop where
  by_ : Bytes base w v' l
  ex : Ext W1 v w v'
theorem cf_ktoken (w : World) (vs : Array Value) : (callFunc 22 vs).run Tryd.prog w = .ok (.enter 22 vs) w := by
  have hf := Tryd.func22
  simp [callFunc, hf, Tryd.f22, go_sem]
def sepB (i : Nat) : List Nat := if i = 0 then [] else [44]
theorem sepB_0 {i : Nat} (h : i = 0) : sepB i = [] := if_pos h
theorem sepB_1 {i : Nat} (h : ¬ i = 0) : sepB i = [44] := if_neg h
theorem jn_pre {xs : List (List Nat)} {i : Nat} {x : List Nat} (h : xs[i]? = some x) : jn (xs.take (i + 1)) = (jn (xs.take i) ++ sepB i) ++ x := by
  rw [jn_take h]
  unfold sepB
  split
  · rename_i q
    subst q
    simp [jn]
  · simp
theorem Go1.step {base : Nat} {W1 w w' : World} {v v1 v2 : Value} {l l' : List Nat} (h : Go1 base W1 v l v1 w) (k : Bytes base w' v2 l' ∧ Ext w v1 w' v2) : Go1 base W1 v l' v2 w' := ⟨k.1, h.ex.trans k.2⟩
set_option maxRecDepth 100000 in
set_option maxHeartbeats 4000000 in
theorem tightA {s : ByteArray} {P : Nat → Prop} {w0 : World} (a e : Nat) (x : ByteArray) (vn vi : Value) (its : List It) (hsl : isSl vn) (ha : a < s.size) (he : 0 < e ∧ e ≤ s.size) (hi : RowN P w0 vi (its.map It.v)) (ih : ∀ i ∈ its, PutT s w0 i.v i.b) (hss : ∀ i ∈ its, isSl i.v.vn ∧ isSl i.v.vi) (hs : s.size ≤ 67108864) : PutT s w0 ⟨2, a, e, x, vn, vi⟩ (bt (strN s) a :: jn (its.map (itB (strN s) 2)) ++ [bt (strN s) (e - 1)]) := by
  intro W v xs hb hy hl
  obtain ⟨i0, hi0, hz0, hz1, hz2⟩ := info_parts Tryd.infoByte
  obtain ⟨va, vc, rfl⟩ := slice_of hy
  obtain ⟨an, nn, cn, rfl⟩ := hsl
  obtain ⟨ai, ci, rfl, ⟨hic, him⟩, hig⟩ := hi
  rw [List.length_map] at hic hig ⊢
  have him2 : its.length ≤ 9223372036854775807 := Nat.le_trans hic (by unfold maxLen at him; exact him)
  have hnb := heap_new W (.cells #[.int .i64 2, .int .i64 (a : Int), .int .i64 (e : Int), .string x, .slice an nn cn, .slice ai its.length ci] 43)
  have hbA : Below W.heap.size W (W.alloc (.cells #[.int .i64 2, .int .i64 (a : Int), .int .i64 (e : Int), .string x, .slice an nn cn, .slice ai its.length ci] 43)) := (Below.refl _ _).alloc (Nat.le_refl _) _
  obtain ⟨W1, hW1⟩ : ∃ W1, W.alloc (.cells #[.int .i64 2, .int .i64 (a : Int), .int .i64 (e : Int), .string x, .slice an nn cn, .slice ai its.length ci] 43) = W1 := ⟨_, rfl⟩
  obtain ⟨p, hp⟩ : ∃ p, W.heap.size = p := ⟨_, rfl⟩
  rw [hW1] at hnb hbA
  rw [hp] at hnb
  have hy1 : Bytes w0.heap.size W1 (.slice va xs.length vc) xs := by rw [← hW1]; exact World.ownsRow.alloc hy _
  have hpo : ∀ g, (Value.slice va xs.length vc).ownBlock = some g → g ≠ p := fun g q => by have := (World.ownsRow.lt hy g q).2; omega
  have HP0 : Hid (∀ w v', Ext W1 (.slice va xs.length vc) w v' → w.heap[p]? = some (.cells #[.int .i64 2, .int .i64 (a : Int), .int .i64 (e : Int), .string x, .slice an nn cn, .slice ai its.length ci] 43 (0, 0))) := fun w v' hE => (hE.far p (Array.getElem?_eq_some_iff.1 hnb).1 (fun q => hpo p q.symm rfl)).trans hnb
  have HBW : Hid (w0.heap.size ≤ W1.heap.size) := Nat.le_trans hb.size hbA.size
  have HBl : Hid (∀ w v', Ext W1 (.slice va xs.length vc) w v' → Below w0.heap.size w0 w) := fun w v' hE => (hb.trans (hbA.mono hb.size)).trans (ext_below hE hy1 (Nat.le_trans hb.size hbA.size))
  have HG1 : Hid (Go1 w0.heap.size W1 (.slice va xs.length vc) xs (.slice va xs.length vc) W1) := ⟨hy1, Ext.refl _ _⟩
  have HE0 := hide (Ext.of_below hbA (.slice va xs.length vc))
  obtain ⟨⟨n0, n1, n2, n3, n4, n5⟩, -⟩ := cells6 hnb
  have HLn : Hid (xs.length + 3 + (jn (its.map (itB (strN s) 2))).length ≤ 1073741826) := by
    show _ ≤ _
    rw [List.length_append, List.length_cons] at hl
    simp at hl
    omega
  have Hig := hide hig
  have Hih := hide ih
  have Hss := hide hss
  have HW1 := hide hW1
  have Hp := hide hp
  obtain ⟨ga, hga⟩ := bt_str s a ha
  have i1 : (a : Int) < (s.size : Int) := by omega
  have a0 : (0 : Int) ≤ (a : Int) := Int.natCast_nonneg _
  have He := hide he
  have ge := idx_at (s := s) (k := e - 1) (by omega) ((e : Int) - 1) (by omega)
  clear hl hig ih hss hW1 hp hnb hbA hy1 hpo hy hb he hga
  unfold NdV.val
  simp only
  go_enter Tryd.func11, Tryd.ntmps11
  go_upto_region 1 with fail
  rw [unhide HW1, unhide Hp]
  clear HW1 Hp
  obtain ⟨nl, hnl⟩ : ∃ nl, (xs).length = nl := ⟨_, rfl⟩
  have Hn := hide hnl
  have HO := hide (unhide HG1).by_
  unfold Bytes at HO
  have O1 : Hid (nl + 1 ≤ maxLen) := by show _ ≤ _; unfold maxLen; have := unhide HLn; have q := hnl; (try simp only [List.length_append, List.length_cons] at q this); omega
  have O2 : Hid ((nl + 1) * 1 ≤ 140737488355328) := by show _ ≤ _; have := unhide HLn; have q := hnl; (try simp only [List.length_append, List.length_cons] at q this); omega
  have HBz := hide (Nat.le_trans (unhide HBW) (unhide HG1).ex.size)
  rw [hnl] at HO HG1 ⊢
  obtain ⟨ya, hya⟩ : ∃ y, bt (strN s) a = y := ⟨_, rfl⟩
  have Hya := hide hya
  rw [hya] at ga
  clear hya hnl
  go_wp2_with (at_builtin; refine wpList_append_own_at _ rfl _ _ 31 rfl w0.heap.size 5 i0 (.int .u8 0) 1 1 Tryd.underlying31 hi0 hz0 hz1 hz2 rfl (by decide) _ _ _ rfl ((unhide HO).alloc _) ⟨W1.heap.size, 0, none⟩ 1 1 [.int .u8 (ya : Int)] rfl rfl (cells_lit _ _ _) (by simp [Value.oneCell']) (unhide O1) (unhide O2) (by rw [World.size_alloc]; exact Nat.le_trans (unhide HBz) (Nat.le_succ _)) ?_; intro v4 w4 hown4 hgrow4 _ hat4; have HP := hide (mk1 (y := ya) (unhide Hn) hown4 hgrow4 hat4); obtain ⟨av4, cv4, rfl⟩ := sl_len hown4; clear hown4 hgrow4 hat4)
  have HG2 := hide ((unhide HG1).step (unhide HP))
  clear HO O1 O2 HBz HP HG1 n0 n1 n2 n3 n4 n5
  obtain rfl := unhide Hn
  clear Hn
  rename_i nx0
  clear nx0
  go_wp2_with fail
  go_loopg [0, 7] its.length (fun gk v0 v7 wr => ∃ i : Nat, v7 = .int .i64 (i : Int) ∧ gk = its.length - i ∧ i ≤ its.length ∧ Hid (Go1 w0.heap.size W1 (.slice va xs.length vc) (xs ++ ya :: jn ((its.map (itB (strN s) 2)).take i)) v0 wr))
  case atStart => exact ⟨0, rfl, rfl, by omega, HG2⟩
  case round =>
    obtain ⟨i, rfl, hgk, hi, HG⟩ := hrel
    have Hgk := hide hgk
    have i0' : (0 : Int) ≤ (i : Int) := Int.natCast_nonneg _
    obtain ⟨av, cv, rfl⟩ := slice_of (unhide HG).by_
    obtain ⟨⟨n0, n1, n2, n3, n4, n5⟩, -⟩ := cells6 (unhide HP0 _ _ (unhide HG).ex)
    clear hgk HG2
    by_cases hlt : i < its.length
    · have hlt' : (i : Int) < (its.length : Int) := by omega
      obtain ⟨it, hit⟩ : ∃ it, its[i]? = some it := ⟨_, List.getElem?_eq_getElem hlt⟩
      obtain ⟨g, rfl, -, hg, hrd⟩ := unhide Hig (by omega)
      have hmem := List.mem_of_getElem? hit
      have hjp := jn_pre (show (its.map (itB (strN s) 2))[i]? = some (itB (strN s) 2 it) by rw [List.getElem?_map, hit]; rfl)
      have hjm := jn_mono (xs := its.map (itB (strN s) 2)) (i := i + 1)
      have HJ : Hid (xs.length + 3 + (jn ((its.map (itB (strN s) 2)).take i) ++ sepB i).length + (itB (strN s) 2 it).length ≤ 1073741826) := by
        have := unhide HLn
        rw [hjp, List.length_append] at hjm
        show _ ≤ _
        omega
      have Hjp := hide hjp
      have Hhit := hide hit
      have Hrd := hide hrd
      have Hmem := hide hmem
      have Hg := hide hg
      obtain ⟨jp, hjpE⟩ : ∃ l, jn ((its.map (itB (strN s) 2)).take i) = l := ⟨_, rfl⟩
      rw [hjpE] at HG HJ Hjp ⊢
      clear hjp hjm hit hrd hmem hg hjpE
      go_upto_if 39 with fail
      go_cut [0] (fun v0 wx => Hid (Go1 w0.heap.size W1 (.slice va xs.length vc) (xs ++ ya :: (jp ++ sepB i)) v0 wx))
      case first =>
        by_cases hz : i = 0
        · have HG4 : Hid (Go1 w0.heap.size W1 (.slice va xs.length vc) (xs ++ ya :: (jp ++ sepB i)) (.slice av (xs ++ ya :: jp).length cv) wr) := by
            rw [sepB_0 hz, List.append_nil]
            exact HG
          have d0 : decide (0 < i) = false := by simp; omega
          rw [d0]
          clear hz
          go_wp2
          go_meet
          exact HG4
        · have d0 : decide (0 < i) = true := by simp; omega
          have Hsp := hide (sepB_1 hz)
          rw [d0]
          clear hz
          obtain ⟨nl, hnl⟩ : ∃ nl, (xs ++ ya :: jp).length = nl := ⟨_, rfl⟩
          have Hn := hide hnl
          have HO := hide (unhide HG).by_
          unfold Bytes at HO
          have O1 : Hid (nl + 1 ≤ maxLen) := by show _ ≤ _; unfold maxLen; have := unhide HJ; have q := hnl; (try simp only [List.length_append, List.length_cons] at q this); omega
          have O2 : Hid ((nl + 1) * 1 ≤ 140737488355328) := by show _ ≤ _; have := unhide HJ; have q := hnl; (try simp only [List.length_append, List.length_cons] at q this); omega
          have HBz := hide (Nat.le_trans (unhide HBW) (unhide HG).ex.size)
          rw [hnl] at HO HG ⊢
          clear hnl
          go_wp2_with (at_builtin; refine wpList_append_own_at _ rfl _ _ 31 rfl w0.heap.size 5 i0 (.int .u8 0) 1 1 Tryd.underlying31 hi0 hz0 hz1 hz2 rfl (by decide) _ _ _ rfl ((unhide HO).alloc _) ⟨wr.heap.size, 0, none⟩ 1 1 [.int .u8 44] rfl rfl (cells_lit _ _ _) (by simp [Value.oneCell']) (unhide O1) (unhide O2) (by rw [World.size_alloc]; exact Nat.le_trans (unhide HBz) (Nat.le_succ _)) ?_; intro v4 w4 hown4 hgrow4 _ hat4; have HP := hide (mk1 (y := 44) (unhide Hn) hown4 hgrow4 hat4); obtain ⟨av4, cv4, rfl⟩ := sl_len hown4; clear hown4 hgrow4 hat4)
          have HG4 : Hid (Go1 w0.heap.size W1 (.slice va xs.length vc) (xs ++ ya :: (jp ++ sepB i)) (.slice av4 (nl + 1) cv4) w4) := by
            have := (unhide HG).step (unhide HP)
            rw [unhide Hsp]
            rw [List.append_assoc] at this
            exact this
          clear HO O1 O2 HBz HP HG n0 n1 n2 n3 n4 n5
          go_wp2
          go_meet
          exact HG4
      case rest =>
      have Hc := hcut
      clear hcut HG n0 n1 n2 n3 n4 n5

      obtain ⟨av5, cv5, rfl⟩ := slice_of (unhide Hc).by_
      obtain ⟨⟨n0, n1, n2, n3, n4, n5⟩, -⟩ := cells6 (unhide HP0 _ _ (unhide Hc).ex)
      have hbw := unhide HBl _ _ (unhide Hc).ex
      have rd : ∀ j u, it.v.cells[j]? = some u → wc.cell? ⟨g, i * 6 + j, none⟩ = some u := fun j u hu => (World.cell?_of_block (a := ⟨g, i * 6 + j, none⟩) (hbw.block g (unhide Hg))).trans (unhide Hrd i j it.v u (by rw [List.getElem?_map, unhide Hhit]; rfl) hu)
      have c0 := rd 0 _ rfl
      rw [Nat.add_zero] at c0
      have c1 := rd 1 _ rfl
      have c2 := rd 2 _ rfl
      have c3 := rd 3 _ rfl
      have c4 := rd 4 _ rfl
      have c5 := rd 5 _ rfl
      obtain ⟨⟨a6, n6, m6, hvn⟩, a7, n7, m7, hvi⟩ := unhide Hss it (unhide Hmem)
      have HC := hide (unhide Hih it (unhide Hmem) _ _ _ hbw (unhide Hc).by_ (by have := unhide HJ; simp only [List.length_append, List.length_cons, itB, if_neg (show ¬ (2 : Nat) = 1 by decide)] at this ⊢; omega))
      unfold NdV.val at HC
      rw [hvn, hvi] at HC
      rw [hvn] at c4
      rw [hvi] at c5
      obtain ⟨nl, hnl⟩ : ∃ nl, ((xs ++ ya :: (jp ++ sepB i))).length = nl := ⟨_, rfl⟩
      rw [hnl] at HC Hc ⊢
      clear hnl rd hbw hvn hvi
      generalize it.v.k = z0, it.v.a = z1, it.v.e = z2, it.v.x = z3 at *
      go_wp2_with fail
      refine (unhide HC).mono ?_
      rintro eo w2 ⟨v2, rfl, hB2, hE2⟩
      have HG5 := hide ((unhide Hc).step ⟨hB2, hE2⟩)
      obtain ⟨a8, c8, rfl⟩ := slice_of hB2
      obtain ⟨nm, hnm⟩ : ∃ nl, (((xs ++ ya :: (jp ++ sepB i))) ++ it.b).length = nl := ⟨_, rfl⟩
      rw [hnm] at HG5 ⊢
      clear hnm hB2 hE2 HC Hc n0 n1 n2 n3 n4 n5 c0 c1 c2 c3 c4 c5
      go_wp2_with fail
      go_roundg (its.length - (i + 1))
      case measure => have := unhide Hgk; omega
      case rel =>
        refine ⟨i + 1, by go_num, rfl, by omega, ?_⟩
        rw [unhide Hjp]
        have := HG5
        simpa [itB] using this
    · obtain rfl : i = its.length := by omega
      have i2 : decide ((its.length : Int) < (its.length : Int)) = false := by simp
      obtain ⟨yb, hyb⟩ : ∃ y, bt (strN s) (e - 1) = y := ⟨_, rfl⟩
      rw [hyb] at ge ⊢
      have e1 : 0 < e := (unhide He).1
      have e2 : e ≤ s.size := (unhide He).2
      rw [show (its.map (itB (strN s) 2)).take its.length = its.map (itB (strN s) 2) from List.take_of_length_le (by rw [List.length_map]; exact Nat.le_refl _)] at HG ⊢
      obtain ⟨jl, hjl⟩ : ∃ l, jn (its.map (itB (strN s) 2)) = l := ⟨_, rfl⟩
      rw [hjl] at HG HLn ⊢
      have Hyb := hide hyb
      have Hjl := hide hjl
      clear hyb hjl
      obtain ⟨nl, hnl⟩ : ∃ nl, (xs ++ ya :: jl).length = nl := ⟨_, rfl⟩
      have Hn := hide hnl
      have HO := hide (unhide HG).by_
      unfold Bytes at HO
      have O1 : Hid (nl + 1 ≤ maxLen) := by show _ ≤ _; unfold maxLen; have := unhide HLn; have q := hnl; (try simp only [List.length_append, List.length_cons] at q this); omega
      have O2 : Hid ((nl + 1) * 1 ≤ 140737488355328) := by show _ ≤ _; have := unhide HLn; have q := hnl; (try simp only [List.length_append, List.length_cons] at q this); omega
      have HBz := hide (Nat.le_trans (unhide HBW) (unhide HG).ex.size)
      rw [hnl] at HO HG ⊢
      clear hnl
      go_wp2_with (at_builtin; refine wpList_append_own_at _ rfl _ _ 31 rfl w0.heap.size 5 i0 (.int .u8 0) 1 1 Tryd.underlying31 hi0 hz0 hz1 hz2 rfl (by decide) _ _ _ rfl ((unhide HO).alloc _) ⟨wr.heap.size, 0, none⟩ 1 1 [.int .u8 (yb : Int)] rfl rfl (cells_lit _ _ _) (by simp [Value.oneCell']) (unhide O1) (unhide O2) (by rw [World.size_alloc]; exact Nat.le_trans (unhide HBz) (Nat.le_succ _)) ?_; intro v4 w4 hown4 hgrow4 _ hat4; have HP := hide (mk1 (y := yb) (unhide Hn) hown4 hgrow4 hat4); obtain ⟨av4, cv4, rfl⟩ := sl_len hown4; clear hown4 hgrow4 hat4)
      have HG4 := hide ((unhide HG).step (unhide HP))
      clear HO O1 O2 HBz HP HG n0 n1 n2 n3 n4 n5
      go_wp2
      go_ret
      refine ⟨_, rfl, ?_, (unhide HE0).trans (unhide HG4).ex⟩
      have := (unhide HG4).by_
      rw [unhide Hya, unhide Hyb, unhide Hjl]
      rw [List.append_assoc] at this
      exact this
end Go.Proofs.YthodjkeppobcmaaDoor
