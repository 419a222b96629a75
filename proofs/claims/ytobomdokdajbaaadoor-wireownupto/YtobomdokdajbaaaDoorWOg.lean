import Derived.Test.YtobomdokdajbaaaDoorJ42
import Derived.Test.YtobomdokdajbaaaDoorWOe

namespace Go.Proofs.YtobomdokdajbaaaDoor
open Go.RowKit
attribute [local go_sem ↓] Go.wp_at_zero Go.wp_at_succ

theorem Tryd.infoBytes : (Tryd.prog.info? 24).map (fun i => (i.zero, i.size, i.bytes)) = some (some (.slice none 0 0), 1, 24) := by kernel_rfl
theorem own_at {W : World} {bs e n c : Nat} {a : Option Addr} {xs : List Value} (h : W.ownsRow bs e 1 (.slice a n c) n xs) : 0 < n → ∃ g, a = some ⟨g, 0, none⟩ := fun hp => by
  obtain ⟨h1, ⟨e1, rfl⟩ | ⟨g, cap, cur, e1, h2, h3⟩⟩ := h
  · omega
  · injection e1 with e2
    exact ⟨g, e2⟩
/-- Each with so much behind it. -/
def CtL (ms cs : List (List Int)) (k i : Nat) : Prop := ∀ (j : Nat) (m c : List Int), ms[j]? = some m → cs[j]? = some c → c = m ++ (tlB j).take (if j < i then k + 1 else k)
theorem G2.g3 {W : World} {B : Nat} {vs ts : List Value} {cs : List (List Int)} {w : World} {v5 v6 : Value} (h : G2 W B vs cs vs.length w v5 v6 ts) (hI : ∀ g, InB vs g → g < W.heap.size) : G3 W B vs cs w v5 v6 vs cs ts := by
  have h5 := h.m5
  rw [List.take_length] at h5
  refine ⟨h.lb, rfl, h.fr, h5, h.m6, h.tl, fun b hb => .inl hb, fun j v m hv hm => (h.lb.own j v m hv hm).old, fun j m c hm hc => by obtain rfl := Option.some.inj (hm.symm.trans hc); exact List.prefix_rfl, fun j v u b hv hu e => by obtain rfl := Option.some.inj (hv.symm.trans hu); exact .inl e, h.a56, h.a5, h.a6, fun b e hi => ?_, fun b e hi => ?_, fun b hi hit => ?_⟩
  · have := (h.m5.lt b e).1; have := hI b hi; omega
  · have := (h.m6.lt b e).1; have := hI b hi; omega
  · have := (h.tl.lt hit).1; have := hI b hi; omega
theorem own_shape {W : World} {bs e size n : Nat} {v : Value} {xs : List Value} (h : W.ownsRow bs e size v n xs) : ∃ a c, v = .slice a n c := by
  obtain ⟨h1, ⟨rfl, rfl⟩ | ⟨g, cap, cur, rfl, h2, h3⟩⟩ := h
  · exact ⟨_, _, rfl⟩
  · exact ⟨_, _, rfl⟩
set_option maxRecDepth 100000 in
set_option maxHeartbeats 4000000 in
theorem grown_any {W : World} {B : Nat} {va : Value} {vs : List Value} {bss : List (List Int)} (hh : HdL W va vs) (h : Lb B W vs bss) (hB : B ≤ W.heap.size) (hn : ∀ bs ∈ bss, bs.length ≤ 1099511627776) : Calls Tryd.prog 13 #[va] W fun e w => e = .returned (.bool true) ∧ Fr W w (InB vs) := by
  obtain ⟨a, c, rfl, hm, h3⟩ := hh
  have H3 := hide h3
  have HL := hide hn
  have HI := hide (fun g hg => (h.lt (g := g) hg).2)
  have HBs := hide hB
  obtain ⟨i1, qi, qz0, qz1, qz2⟩ := info_parts Tryd.infoBytes
  obtain ⟨i2, ri, rz0, rz1, rz2⟩ := info_parts Tryd.infoByte
  have HG0 : Hid (G1 W B vs bss 0 W bss) := ⟨h, Fr.refl _ _, fun _ => rfl, fun j c hj => by omega⟩
  clear h3 h hn hB
  go_enter Tryd.func13, Tryd.ntmps13
  go_wp2
  go_loopg [3, 4] vs.length (fun gk v3 _ wr => ∃ (i : Nat) (cs : List (List Int)), v3 = .int .i64 (i : Int) ∧ gk = vs.length - i ∧ i ≤ vs.length ∧ Hid (G1 W B vs bss i wr cs))
  case atStart => exact ⟨0, bss, rfl, rfl, by omega, unhide HG0⟩
  case round =>
    obtain ⟨i, cs, rfl, hgk, hi, HG⟩ := hrel
    have HgkO := hide hgk
    clear hgk HG0
    obtain ⟨wo, hwo⟩ : ∃ x, x = wr := ⟨_, rfl⟩
    subst hwo
    by_cases hlt : i < vs.length
    · obtain ⟨gA, oA, rfl, hgA, hnI, hc⟩ := unhide H3 (by omega)
      obtain ⟨v, bs, hv, hb, hB⟩ := (unhide HG).lb.at hlt
      obtain ⟨av, cv, rfl, hml, hsh⟩ := bytes_shape hB
      have Hx : Hid (∀ w', Fr W w' (InB vs) → w'.cell? ⟨gA, oA + i, none⟩ = some (.slice av bs.length cv)) := fun w' hf => (World.cell?_of_block (a := ⟨gA, oA + i, none⟩) (hf.far gA hgA hnI)).trans (hc i _ hv)
      have hbl : bs.length ≤ 1099511627776 := by
        have e := (unhide HG).ln i
        rw [hb] at e
        cases hq : bss[i]? with
        | none => rw [hq] at e; cases e
        | some q => rw [hq] at e; have e1 : bs.length = q.length := by simpa using e
                    rw [e1]; exact unhide HL q (List.mem_of_getElem? hq)
      have x0 := unhide Hx wo (unhide HG).fr
      have HI0 : Hid (∃ cs' bs', G1 W B vs bss i wo cs' ∧ cs'[i]? = some bs' ∧ bs'.length = bs.length ∧ bs'.take 0 = (mkL i bs.length).take 0) := ⟨cs, bs, unhide HG, hb, rfl, by simp⟩
      have Hsh := hide hsh
      have Hv := hide hv
      have j0 : (0 : Int) ≤ (i : Int) := Int.natCast_nonneg _
      have j1 : (i : Int) < (vs.length : Int) := by omega
      have HltO := hide hlt
      clear hc hgA hnI hB hsh hv hb hlt HG
      go_wp2
      go_loopg [4] bs.length (fun gk v4 wr => ∃ (k : Nat), v4 = .int .i64 (k : Int) ∧ gk = bs.length - k ∧ k ≤ bs.length ∧ Hid (∃ cs' bs', G1 W B vs bss i wr cs' ∧ cs'[i]? = some bs' ∧ bs'.length = bs.length ∧ bs'.take k = (mkL i bs.length).take k))
      case atStart => exact ⟨0, rfl, rfl, by omega, unhide HI0⟩
      case round =>
        obtain ⟨k, rfl, hgk, hk, HI⟩ := hrel
        have Hgk := hide hgk
        clear hgk x0 HI0
        obtain ⟨cs', bs', hG, hb, hl, ht⟩ := unhide HI
        have x0 := unhide Hx wr hG.fr
        by_cases hlt : k < bs.length
        · obtain ⟨g, rfl⟩ := unhide Hsh (by omega)
          obtain ⟨y, hy⟩ : ∃ y, bs'[k]? = some y := ⟨_, List.getElem?_eq_getElem (by omega)⟩
          have hcl := bytes_cell (hG.lb.own i _ bs' (unhide Hv) hb) hy
          obtain ⟨y0, z0⟩ := hcl
          have HM := hide (fun w => mark_any w i k)
          have HIn : Hid (∃ cs' bs', G1 W B vs bss i (wr.setCell ⟨g, k, none⟩ (.int .u8 (mkB i k))).drew cs' ∧ cs'[i]? = some bs' ∧ bs'.length = bs.length ∧ bs'.take (k + 1) = (mkL i bs.length).take (k + 1)) := by
            refine ⟨_, _, (hG.put (unhide Hv) hb (mkB i k)).drew, List.getElem?_set_self (by rw [hG.lb.len]; exact unhide HltO), by rw [List.length_set, hl], ?_⟩
            apply List.ext_getElem?
            intro j
            have ej := congrArg (fun l => l[j]?) ht
            simp only [List.getElem?_take] at ej ⊢
            by_cases h1 : j < k
            · rw [if_pos h1, if_pos h1] at ej
              rw [if_pos (by omega), if_pos (by omega), List.getElem?_set_ne (by omega)]
              exact ej
            · by_cases h2 : j = k
              · subst h2
                rw [if_pos (by omega), if_pos (by omega), List.getElem?_set_self (by omega), mkL_at hlt]
              · rw [if_neg (by omega), if_neg (by omega)]
          obtain ⟨m, hm⟩ : ∃ m, mkB i k = m := ⟨_, rfl⟩
          rw [hm] at HIn
          simp only [hm] at HM
          have i0 : (0 : Int) ≤ (k : Int) := Int.natCast_nonneg _
          have i1 : (k : Int) < (bs.length : Int) := by omega
          have Hlt := hide hlt
          clear hG hb hl ht hy hlt HI hm
          go_wp2
          go_region_with (go_at_call 43; refine (unhide HM _).mono ?_; rintro e w2 ⟨rfl, rfl⟩)
          all_goals
            go_wp2
            go_roundg (bs.length - (k + 1))
            case measure => have := unhide Hgk; have := unhide Hlt; omega
            case rel => exact ⟨k + 1, by go_num, rfl, unhide Hlt, unhide HIn⟩
        · obtain rfl : k = bs.length := by omega
          have HGn := hide (hG.next hb hl ht)
          clear hG hb hl ht HI hlt hk Hgk
          go_wp2
          go_roundg (vs.length - (i + 1))
          case measure => have := unhide HgkO; have := unhide HltO; omega
          case rel => exact ⟨i + 1, cs', by go_num, rfl, unhide HltO, unhide HGn⟩
    · obtain rfl : i = vs.length := by omega
      have HG2 : Hid (G2 W B vs cs 0 wo (.slice none 0 0) (.slice none 0 0) []) := ⟨(unhide HG).lb, (unhide HG).fr, World.ownsRow_nil _ _ _ _, World.ownsRow_nil _ _ _ _, Lb.nil _ _, fun b e => (by cases e), fun b e => (by cases e), fun b e => (by cases e)⟩
      have HLcs := hide (unhide HG).lb.len
      have HMd := hide (fun j c hj => (unhide HG).md j c hj)
      have HLc : Hid (∀ (j : Nat) (c : List Int), cs[j]? = some c → c.length ≤ 1099511627776) := fun j c hc => by
        have e := (unhide HG).ln j
        rw [hc] at e
        cases hq : bss[j]? with
        | none => rw [hq] at e; cases e
        | some q => rw [hq] at e; have e1 : c.length = q.length := by simpa using e
                    rw [e1]; exact unhide HL q (List.mem_of_getElem? hq)
      clear HG HgkO hlt hi
      go_wp2
      go_loopg [5, 6, 7, 8] vs.length (fun gk v5 v6 v7 _ wr => ∃ (i : Nat) (ts : List Value), v7 = .int .i64 (i : Int) ∧ gk = vs.length - i ∧ i ≤ vs.length ∧ Hid (G2 W B vs cs i wr v5 v6 ts))
      case atStart => exact ⟨0, [], rfl, rfl, by omega, unhide HG2⟩
      case round =>
        obtain ⟨i, ts, rfl, hgk, hi, HG⟩ := hrel
        have Hgk := hide hgk
        clear hgk HG2
        obtain ⟨a5, c5, rfl⟩ := own_shape (unhide HG).m5
        obtain ⟨a6, c6, rfl⟩ := own_shape (unhide HG).m6
        by_cases hlt : i < vs.length
        · obtain ⟨gA, oA, rfl, hgA, hnI, hc⟩ := unhide H3 (by omega)
          obtain ⟨v, bs, hv, hb, hB⟩ := (unhide HG).lb.at hlt
          obtain ⟨av, cv, rfl, hml, hsh⟩ := bytes_shape hB
          have x0 : wr.cell? ⟨gA, oA + i, none⟩ = some (.slice av bs.length cv) := (World.cell?_of_block (a := ⟨gA, oA + i, none⟩) ((unhide HG).fr.far gA hgA hnI)).trans (hc i _ hv)
          have hs := (unhide HG).fr.size
          have Hv := hide hv
          have HT := hide (fun w => tail_any w i)
          have j0 : (0 : Int) ≤ (i : Int) := Int.natCast_nonneg _
          have j1 : (i : Int) < (vs.length : Int) := by omega
          have Hlt := hide hlt
          have hil : i ≤ 1099511627776 := by omega
          clear hc hgA hnI hB hsh hv hb hlt
          go_wp2_with (at_builtin; refine wpList_append_own_at _ rfl _ _ 26 rfl W.heap.size 24 i1 (.slice none 0 0) 1 24 Tryd.underlying26 qi qz0 qz1 qz2 rfl (by decide) _ _ _ rfl ((unhide HG).m5.alloc _) ⟨wr.heap.size, 0, none⟩ 1 1 [.slice av bs.length cv] rfl rfl (cell_one_new _ _ _) (by simp [Value.oneCell']) (by unfold maxLen; omega) (by omega) (by simp; omega) ?_; intro v5 w2 hown hgrow _ hat; have HO5 := hide hown; have HG5 := hide hgrow; have HA5 := hide hat; clear hown hgrow hat)
          refine (unhide HT _).mono ?_
          rintro e w3 ⟨t, rfl, ht, hb3⟩
          obtain ⟨at', ct', rfl, -, -⟩ := bytes_shape ht
          rw [tlB_len] at ht ⊢
          have hs2 : wr.heap.size ≤ w2.heap.size := by have := (unhide HG5).size; rw [World.size_alloc] at this; omega
          have HO6 : Hid (w3.ownsRow W.heap.size 24 1 (.slice a6 i c6) i ts) := by
            have key : ∀ b, (Value.slice a6 i c6).ownBlock = some b → w2.heap[b]? = wr.heap[b]? := fun b e => ((unhide HG5).block b (by rw [World.size_alloc]; have := ((unhide HG).m6.lt b e).2; omega) (fun q => (unhide HG).a56 b q.symm e)).trans (Below.heap_alloc wr _ b ((unhide HG).m6.lt b e).2)
            exact own_same (unhide HG).m6 (fun b e => (hb3.block b (by have := ((unhide HG).m6.lt b e).2; omega)).trans (key b e))
          have hs3 := hb3.size
          have Ht := hide ht
          have Hb3 := hide hb3
          clear ht hb3 HT
          go_wp2_with (at_builtin; refine wpList_append_own_at _ rfl _ _ 26 rfl W.heap.size 24 i1 (.slice none 0 0) 1 24 Tryd.underlying26 qi qz0 qz1 qz2 rfl (by decide) _ _ _ rfl ((unhide HO6).alloc _) ⟨w3.heap.size, 0, none⟩ 1 1 [.slice at' 700 ct'] rfl rfl (cell_one_new _ _ _) (by simp [Value.oneCell']) (by unfold maxLen; omega) (by omega) (by simp; omega) ?_; intro v6 w4 hown hgrow _ hat; have HO7 := hide hown; have HG7 := hide hgrow; have HA7 := hide hat; clear hown hgrow hat)
          have HGn := hide ((unhide HG).step (unhide HI) (unhide Hv) (unhide HG5) (unhide HO5) (unhide HA5) (unhide Hb3) (unhide Ht) (unhide HG7) (unhide HO7) (unhide HA7))
          clear HG5 HO5 HA5 Hb3 Ht HG7 HO7 HA7 HG HO6
          go_roundg (vs.length - (i + 1))
          case measure => have := unhide Hgk; have := unhide Hlt; omega
          case rel => exact ⟨i + 1, _, by go_num, rfl, unhide Hlt, HGn⟩
        · obtain rfl : i = vs.length := by omega
          have HG3 : Hid (G3 W B vs cs wr (.slice a5 vs.length c5) (.slice a6 vs.length c6) vs cs ts ∧ CtL cs cs 0 0) := ⟨(unhide HG).g3 (unhide HI), fun j m c hm hc => by obtain rfl := Option.some.inj (hm.symm.trans hc); simp⟩
          have H5 := hide (own_at (unhide HG).m5)
          have H6 := hide (own_at (unhide HG).m6)
          obtain ⟨w5, hw5⟩ : ∃ x, x = wr := ⟨_, rfl⟩
          subst hw5
          clear HG hlt hi Hgk
          go_wp2
          go_loopg [9, 10] 700 (fun gk v9 _ wr => ∃ (k : Nat), v9 = .int .i64 (k : Int) ∧ gk = 700 - k ∧ k ≤ 700 ∧ Hid (∃ us cs', G3 W B vs cs wr (.slice a5 vs.length c5) (.slice a6 vs.length c6) us cs' ts ∧ CtL cs cs' k 0))
          case atStart => exact ⟨0, rfl, rfl, by omega, vs, cs, unhide HG3⟩
          case round =>
            obtain ⟨k, rfl, hgk, hk, HG⟩ := hrel
            have HgkK := hide hgk
            clear hgk HG3
            by_cases hltk : k < 700
            · have hd : decide ((k : Int) < 700) = true := by simp; omega
              have HG4 := HG
              have HltK := hide hltk
              clear HG
              go_wp2
              clear hd
              go_loopg [10] vs.length (fun gk v10 wr => ∃ (i : Nat), v10 = .int .i64 (i : Int) ∧ gk = vs.length - i ∧ i ≤ vs.length ∧ Hid (∃ us cs', G3 W B vs cs wr (.slice a5 vs.length c5) (.slice a6 vs.length c6) us cs' ts ∧ CtL cs cs' k i))
              case atStart => exact ⟨0, rfl, rfl, by omega, unhide HG4⟩
              case round =>
                obtain ⟨i, rfl, hgk, hi, HG⟩ := hrel
                have Hgk := hide hgk
                clear hgk HG4
                by_cases hlt : i < vs.length
                · obtain ⟨us, cs', hG, hC⟩ := unhide HG
                  obtain ⟨g5, rfl⟩ := unhide H5 (by omega)
                  obtain ⟨g6, rfl⟩ := unhide H6 (by omega)
                  obtain ⟨u, ct, hu, hct, hB⟩ := hG.lb.at (i := i) (by rw [hG.ul]; exact hlt)
                  obtain ⟨au, cu, rfl, hul, hsh⟩ := bytes_shape hB
                  obtain ⟨m, hm⟩ : ∃ m, cs[i]? = some m := ⟨_, List.getElem?_eq_getElem (by rw [unhide HLcs]; exact hlt)⟩
                  have hcl := hC i m ct hm hct
                  obtain ⟨t, tb, ht, htb, hTb⟩ := hG.tl.at (i := i) (by have := hG.m6.1; omega)
                  obtain rfl : tb = tlB i := by rw [List.getElem?_map, List.getElem?_range hlt] at htb; exact (Option.some.inj htb).symm
                  obtain ⟨at', ct', rfl, -, htg⟩ := bytes_shape hTb
                  rw [tlB_len] at htg ht hTb
                  obtain ⟨gt, rfl⟩ := htg (by omega)
                  obtain ⟨y, hy⟩ : ∃ y, (tlB i)[k]? = some y := ⟨_, List.getElem?_eq_getElem (by rw [tlB_len]; exact unhide HltK)⟩
                  have xk := (bytes_cell hTb hy).1
                  have x6 : wr.cell? ⟨g6, i, none⟩ = some (.slice (some ⟨gt, 0, none⟩) 700 ct') := by have := hG.m6.cells (g := g6) rfl i _ ht; rwa [Go.WideShapes.add_plain, Nat.zero_add] at this
                  have x5 : wr.cell? ⟨g5, i, none⟩ = some (.slice au ct.length cu) := by have := hG.m5.cells (g := g5) rfl i _ hu; rwa [Go.WideShapes.add_plain, Nat.zero_add] at this
                  have b5 := hG.m5.lt g5 rfl
                  have b6 := hG.m6.lt g6 rfl
                  have bt := hTb.lt gt rfl
                  have hA : ∀ (b j : Nat) (o : Obj), b < wr.heap.size → (wr.alloc o).cell? ⟨b, j, none⟩ = wr.cell? ⟨b, j, none⟩ := fun b j o hb => World.cell?_alloc_lt _ _ _ hb
                  have a5 : ∀ o, (wr.alloc o).cell? ⟨g5, i, none⟩ = _ := fun o => (hA g5 i o b5.2).trans x5
                  have hcl' : ct.length ≤ 1099511628476 := by
                    rw [hcl, if_neg (by omega), List.length_append, List.length_take]
                    have := unhide HLc i m hm
                    have := unhide HltK
                    omega
                  have hu5 : (Value.slice au ct.length cu).ownBlock ≠ some g5 := fun e => hG.u5 g5 rfl ⟨i, _, hu, e⟩
                  have K5 : Hid (∀ w3 o, (wr.alloc o).grownBy w3 (Value.slice au ct.length cu).ownBlock → w3.cell? ⟨g5, i, none⟩ = some (.slice au ct.length cu) ∧ w3.frozen? ⟨g5, i, none⟩ = false) := fun w3 o hg => by
                    have e := (hg.block g5 (by rw [World.size_alloc]; omega) (fun q => hu5 q.symm)).trans (Below.heap_alloc wr o g5 b5.2)
                    have r5 := own_same hG.m5 (w := w3) (fun b q => by obtain rfl := Option.some.inj q; exact e)
                    refine ⟨(World.cell?_of_block (a := ⟨g5, i, none⟩) e).trans x5, ?_⟩
                    exact World.ownsRow.frozenAt r5 i
                  have HN : Hid (∀ w3 o u', (wr.alloc o).grownBy w3 (Value.slice au ct.length cu).ownBlock → Bytes B w3 u' (ct ++ [y]) → Bytes B w3 (.slice au ct.length cu) ct → (u'.ownBlock = (Value.slice au ct.length cu).ownBlock ∨ ∃ g', u'.ownBlock = some g' ∧ (wr.alloc o).heap.size ≤ g') → ∃ us cs', G3 W B vs cs (w3.setCell ⟨g5, i, none⟩ u') (.slice (some ⟨g5, 0, none⟩) vs.length c5) (.slice (some ⟨g6, 0, none⟩) vs.length c6) us cs' ts ∧ CtL cs cs' k (i + 1)) := fun w3 o u' q1 q2 q3 q4 => by
                    refine ⟨_, _, hG.step (unhide HI) hu hct q1 q2 q3 q4, fun j m' c' hm' hc' => ?_⟩
                    by_cases hij : i = j
                    · subst hij
                      obtain rfl := Option.some.inj (hm.symm.trans hm')
                      rw [List.getElem?_set_self (List.getElem?_eq_some_iff.1 hct).1] at hc'
                      obtain rfl := Option.some.inj hc'
                      rw [hcl, if_neg (by omega), if_pos (by omega), take_one hy, List.append_assoc]
                    · rw [List.getElem?_set_ne hij] at hc'
                      have := hC j m' c' hm' hc'
                      rw [this]
                      congr 2
                      by_cases hji : j < i
                      · rw [if_pos hji, if_pos (by omega)]
                      · rw [if_neg hji, if_neg (by omega)]
                  have HB2 := hide hB
                  have hBs : B ≤ wr.heap.size := Nat.le_trans (unhide HBs) hG.fr.size
                  have i0 : (0 : Int) ≤ (i : Int) := Int.natCast_nonneg _
                  have i1' : (i : Int) < (vs.length : Int) := by omega
                  have k0 : (0 : Int) ≤ (k : Int) := Int.natCast_nonneg _
                  have k1 : (k : Int) < 700 := by have := unhide HltK; omega
                  have Hlt := hide hlt
                  have O1 : Hid (ct.length + 1 ≤ maxLen) := by show _ ≤ _; unfold maxLen; omega
                  have O2 : Hid ((ct.length + 1) * 1 ≤ 140737488355328) := by show _ ≤ _; omega
                  clear hA hG hC HG hu hct hB hm hcl ht htb hTb htg hsh hy hu5 hul hlt
                  go_wp2
                  go_region_law (refine step_append_keeps 81 rfl rfl (.tmp 72) (.tmp 80) 24 rfl B 5 i2 (.int .u8 0) 1 1 Tryd.underlying24 ri rz0 rz1 rz2 rfl (by decide) (.slice au ct.length cu) ct.length (ct.map fun b => .int .u8 b) (by first | rfl | simp [Act.eval, Act.put]) (World.ownsRow.alloc (unhide HB2) _) ⟨wr.heap.size, 0, none⟩ 1 1 [.int .u8 y] (by first | rfl | simp [Act.eval, Act.put]) (by rfl) (cell_one_new _ _ _) (by simp [Value.oneCell']) (by decide) (unhide O1) (unhide O2) (by simp; omega) ?_; intro g' c' w3 hown hold hgrow hat; have hgr : (wr.alloc (.cells #[.int .u8 y] 5)).grownBy w3 (Value.slice au ct.length cu).ownBlock := ⟨hgrow.os, hgrow.tape, hgrow.output, hgrow.size, hgrow.block⟩; obtain ⟨y5, z5⟩ := unhide K5 w3 _ hgr)
                  all_goals
                    have HNn := hide (unhide HN w3 _ (.slice (some ⟨g', 0, none⟩) (ct.length + 1) c') hgr (by unfold Bytes; rw [List.length_append, List.map_append]; exact hown) (show Bytes B w3 (.slice au ct.length cu) ct from hold) (by rcases hat with q | q; exact .inl q.symm; exact .inr ⟨g', rfl, q⟩))
                    clear hown hold hgrow hat hgr y5 z5 HN K5
                    go_wp2
                    go_roundg (vs.length - (i + 1))
                    case measure => have := unhide Hgk; have := unhide Hlt; omega
                    case rel => exact ⟨i + 1, by go_num, rfl, unhide Hlt, unhide HNn⟩
                · obtain rfl : i = vs.length := by omega
                  have HGn : Hid (∃ us cs', G3 W B vs cs wr (.slice a5 vs.length c5) (.slice a6 vs.length c6) us cs' ts ∧ CtL cs cs' (k + 1) 0) := by
                    obtain ⟨us, cs', hG, hC⟩ := unhide HG
                    refine ⟨us, cs', hG, fun j m c hm hc => ?_⟩
                    have := hC j m c hm hc
                    rw [if_pos (by rw [← unhide HLcs]; exact (List.getElem?_eq_some_iff.1 hm).1)] at this
                    rw [this, if_neg (by omega)]
                  clear HG hlt hi Hgk
                  go_wp2
                  go_roundg (700 - (k + 1))
                  case measure => have := unhide HgkK; have := unhide HltK; omega
                  case rel => exact ⟨k + 1, by go_num, rfl, unhide HltK, unhide HGn⟩
            · obtain rfl : k = 700 := by omega
              have hd : decide ((700 : Int) < 700) = false := by simp
              obtain ⟨us, cs', hG, hC⟩ := unhide HG
              have HG9 := hide hG
              have HC9 : Hid (∀ (j : Nat) (m c : List Int), cs[j]? = some m → cs'[j]? = some c → c = m ++ tlB j) := fun j m c hm hc => by
                have := hC j m c hm hc
                rw [if_neg (by omega), List.take_of_length_le (by rw [tlB_len]; exact Nat.le_refl _)] at this
                exact this
              obtain ⟨w6, hw6⟩ : ∃ x, x = wr := ⟨_, rfl⟩
              subst hw6
              clear hG hC HG hltk hk HgkK
              go_wp2
              clear hd
              go_loopg [11, 12, 13] vs.length (fun gk v11 _ _ wr => ∃ (i : Nat), v11 = .int .i64 (i : Int) ∧ gk = vs.length - i ∧ i ≤ vs.length ∧ Hid (Below w6.heap.size w6 wr))
              case atStart => exact ⟨0, rfl, rfl, by omega, Below.refl _ _⟩
              case round =>
                obtain ⟨i, rfl, hgk, hi, HB⟩ := hrel
                have HgkO := hide hgk
                clear hgk
                obtain ⟨w7, hw7⟩ : ∃ x, x = wr := ⟨_, rfl⟩
                subst hw7
                by_cases hlt : i < vs.length
                · obtain ⟨gA, oA, rfl, hgA, hnI, hc⟩ := unhide H3 (by omega)
                  obtain ⟨g5, rfl⟩ := unhide H5 (by omega)
                  have hG := unhide HG9
                  obtain ⟨v, hv⟩ : ∃ v, vs[i]? = some v := ⟨_, List.getElem?_eq_getElem hlt⟩
                  obtain ⟨m, hm⟩ : ∃ m, cs[i]? = some m := ⟨_, List.getElem?_eq_getElem (by rw [unhide HLcs]; exact hlt)⟩
                  obtain ⟨u, ct, hu, hct, hBu⟩ := hG.lb.at (i := i) (by rw [hG.ul]; exact hlt)
                  have hcl := unhide HC9 i m ct hm hct
                  have hmd := unhide HMd i m hlt hm
                  have hml := unhide HLc i m hm
                  obtain ⟨av, cv, rfl, -, hold⟩ := hG.old i v m hv hm
                  obtain ⟨h1, ⟨-, h2⟩ | ⟨gu, cu, cur, rfl, h2, h3, h4, h5, h6⟩⟩ := id hBu
                  · exfalso; rw [hcl, List.length_append, tlB_len] at h2; omega
                  have hln : ct.length = m.length + 700 := by rw [hcl, List.length_append, tlB_len]
                  have hBu2 := hBu
                  rw [hln] at h4 hBu hu
                  have Hx : Hid (∀ w', Below w6.heap.size w6 w' → w'.cell? ⟨gA, oA + i, none⟩ = some (.slice av m.length cv) ∧ w'.cell? ⟨g5, i, none⟩ = some (.slice (some ⟨gu, 0, none⟩) (m.length + 700) cu) ∧ HasB w' (.slice (some ⟨gu, m.length, none⟩) 700 (cu - m.length)) (tlB i)) := fun w' hb => by
                    have b5 := hG.m5.lt g5 rfl
                    have e5 : w6.cell? ⟨g5, i, none⟩ = some (.slice (some ⟨gu, 0, none⟩) (m.length + 700) cu) := by have := hG.m5.cells (g := g5) rfl i _ hu; rwa [Go.WideShapes.add_plain, Nat.zero_add] at this
                    have bu := hBu2.lt gu rfl
                    refine ⟨(hb.cell (p := ⟨gA, oA + i, none⟩) (Nat.lt_of_lt_of_le hgA hG.fr.size)).trans ((World.cell?_of_block (a := ⟨gA, oA + i, none⟩) (hG.fr.far gA hgA hnI)).trans (hc i _ hv)), (hb.cell (p := ⟨g5, i, none⟩) b5.2).trans e5, ?_⟩
                    refine ⟨some ⟨gu, m.length, none⟩, cu - m.length, by rw [tlB_len], by rw [tlB_len]; unfold maxLen; omega, fun _ => ⟨gu, m.length, rfl, Nat.lt_of_lt_of_le bu.2 hb.size, fun j b hj => ?_⟩⟩
                    rw [hb.cell (p := ⟨gu, m.length + j, none⟩) bu.2]
                    exact (bytes_cell hBu2 (by rw [hcl, List.getElem?_append_right (by omega), Nat.add_sub_cancel_left]; exact hj)).1
                  have Hy : Hid (∀ (w' : World) (k : Nat), Below w6.heap.size w6 w' → k < m.length → ∃ gv, av = some ⟨gv, 0, none⟩ ∧ w'.cell? ⟨gv, k, none⟩ = some (.int .u8 (mkB i k)) ∧ w'.cell? ⟨gu, k, none⟩ = some (.int .u8 (mkB i k))) := fun w' k hb hk => by
                    obtain ⟨gv, e, hgl, hcell⟩ := hold (by omega)
                    have hmk : m[k]? = some (mkB i k) := by rw [hmd]; exact mkL_at hk
                    refine ⟨gv, e, (hb.cell (p := ⟨gv, k, none⟩) hgl).trans (hcell k _ hmk), ?_⟩
                    rw [hb.cell (p := ⟨gu, k, none⟩) (hBu2.lt gu rfl).2]
                    exact (bytes_cell hBu2 (by rw [hcl, List.getElem?_append_left (by omega)]; exact hmk)).1
                  obtain ⟨x0, x5, -⟩ := unhide Hx w7 (unhide HB)
                  have j0 : (0 : Int) ≤ (i : Int) := Int.natCast_nonneg _
                  have j1 : (i : Int) < (vs.length : Int) := by omega
                  have HltO := hide hlt
                  have hcu : m.length + 700 ≤ cu := h4
                  clear hG hv hm hu hct hBu hBu2 hcl hmd hold h1 h2 h3 h5 h6 h4 hln hgA hnI hc hlt
                  go_wp2
                  go_loopg [13] m.length (fun gk v13 wr => ∃ (k : Nat), v13 = .int .i64 (k : Int) ∧ gk = m.length - k ∧ k ≤ m.length ∧ Hid (Below w6.heap.size w6 wr))
                  case atStart => exact ⟨0, rfl, rfl, by omega, unhide HB⟩
                  case round =>
                    obtain ⟨k, rfl, hgk, hk, HB2⟩ := hrel
                    have Hgk := hide hgk
                    clear hgk x0 x5
                    obtain ⟨x0, x5, hS⟩ := unhide Hx wr (unhide HB2)
                    by_cases hlt : k < m.length
                    · obtain ⟨gv, rfl, y0, y1⟩ := unhide Hy wr k (unhide HB2) hlt
                      have HM := hide (fun w => mark_any w i k)
                      obtain ⟨q, hq⟩ : ∃ q, mkB i k = q := ⟨_, rfl⟩
                      simp only [hq] at HM y0 y1
                      have e1 : (q == q) = true := by simp
                      have e2 : (q != q) = false := by simp
                      have i0 : (0 : Int) ≤ (k : Int) := Int.natCast_nonneg _
                      have i1' : (k : Int) < (m.length : Int) := by omega
                      have i3 : (k : Int) < (m.length : Int) + 700 := by omega
                      have Hlt := hide hlt
                      clear hS hlt hq
                      go_wp2
                      go_quiet (first | (go_at_call 43; exact Calls.quiet_of_same (unhide HM _)))
                      have HB3 := hide (below_drewN (unhide HB2) nq)
                      go_wp2
                      go_roundg (m.length - (k + 1))
                      case measure => have := unhide Hgk; have := unhide Hlt; omega
                      case rel => exact ⟨k + 1, by go_num, rfl, unhide Hlt, HB3⟩
                    · obtain rfl : k = m.length := by omega
                      have HT := hide (fun w => tail_any w i)
                      have hc1 : ¬ cu = m.length := by omega
                      have hc2 : m.length ≤ m.length + 700 := by omega
                      have hc3 : (m.length : Int) ≤ (m.length : Int) + 700 := by omega
                      have hc4 : m.length + 700 - m.length = 700 := by omega
                      have hc0 : (0 : Int) ≤ (m.length : Int) := Int.natCast_nonneg _
                      have HSm : Hid (∀ w' t, Below w6.heap.size w6 w' → HasB w' t (tlB i) → Calls Tryd.prog 27 #[.slice (some ⟨gu, m.length, none⟩) 700 (cu - m.length), t] w' fun o W' => o = .returned (.bool true) ∧ Below w'.heap.size w' W') := fun w' t hb ht => same_any (unhide Hx w' hb).2.2 ht
                      have hb0 := unhide HB2
                      clear hS hlt hk Hgk
                      go_wp2
                      go_region_held3 (fun w' => w'.cell? ⟨g5, i, none⟩ = some (.slice (some ⟨gu, 0, none⟩) (m.length + 700) cu)) (first | go_keep | exact (unhide Hx _ hcc2).2.1 | exact (unhide Hx _ hcc1).2.1 | exact (unhide Hx _ hb0).2.1)
                        (first
                          | (go_at_call 44; refine (unhide HT _).mono ?_; rintro e wz1 ⟨t, rfl, ht, hz1⟩; have hcc1 : Below w6.heap.size w6 wz1 := (by first | exact hb0.trans (hz1.mono hb0.size) | exact hb0.drew.trans (hz1.mono hb0.drew.size) | exact hb0.drew.drew.trans (hz1.mono hb0.drew.drew.size) | exact hb0.drew.drew.drew.trans (hz1.mono hb0.drew.drew.drew.size)); have hht := ht.has; clear ht hz1)
                          | (go_at_call 27; refine (unhide HSm _ _ (by first | exact hcc1 | exact hcc1.drew | exact hcc1.drew.drew | exact hcc1.drew.drew.drew) (by first | exact hht)).mono ?_; rintro e wz2 ⟨rfl, hz2⟩; have hcc2 : Below w6.heap.size w6 wz2 := (by first | exact hcc1.trans (hz2.mono hcc1.size) | exact hcc1.drew.trans (hz2.mono hcc1.drew.size) | exact hcc1.drew.drew.trans (hz2.mono hcc1.drew.drew.size) | exact hcc1.drew.drew.drew.trans (hz2.mono hcc1.drew.drew.drew.size)); clear hz2))
                      have HB3 := hide hcc2
                      clear hcc1 hcc2 hht
                      go_wp2
                      go_roundg (vs.length - (i + 1))
                      case measure => have := unhide HgkO; have := unhide HltO; omega
                      case rel => exact ⟨i + 1, by go_num, rfl, unhide HltO, HB3⟩
                · obtain rfl : i = vs.length := by omega
                  have HF : Hid (Fr W w7 (InB vs)) := ⟨(unhide HB).os.trans (unhide HG9).fr.os, (unhide HB).tape.trans (unhide HG9).fr.tape, (unhide HB).output.trans (unhide HG9).fr.output, Nat.le_trans (unhide HG9).fr.size (unhide HB).size, fun q hq hn => ((unhide HB).block q (Nat.lt_of_lt_of_le hq (unhide HG9).fr.size)).trans ((unhide HG9).fr.far q hq hn)⟩
                  go_wp2
                  go_ret
                  exact ⟨rfl, unhide HF⟩
end Go.Proofs.YtobomdokdajbaaaDoor
