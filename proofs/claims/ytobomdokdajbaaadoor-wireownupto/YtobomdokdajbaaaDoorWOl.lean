import Derived.Test.YtobomdokdajbaaaDoorJ47

namespace Go.Proofs.YtobomdokdajbaaaDoor
open Go.RowKit
attribute [local go_sem ↓] Go.wp_at_zero Go.wp_at_succ

/-- The number of a record behind. -/
def nmR (i k : Nat) : Int := -(1000 * (i : Int)) - (k : Int)
theorem nmR_eq (i k : Nat) : nmR i k = -(1000 * (i : Int)) - (k : Int) := rfl
theorem empty_eq : ByteArray.empty = ⟨#[]⟩ := rfl
/-- So many records behind each. -/
def tlR (i k : Nat) : List Value := (List.range k).flatMap fun q : Nat => [.int .i64 (-9), .int .i64 0, .int .i64 (nmR i q), .string .empty, .slice none 0 0]
theorem tlR_succ (i k : Nat) : tlR i (k + 1) = tlR i k ++ [.int .i64 (-9), .int .i64 0, .int .i64 (nmR i k), .string .empty, .slice none 0 0] := by
  unfold tlR
  rw [List.range_succ, List.flatMap_append]
  simp
theorem tlR_len (i k : Nat) : (tlR i k).length = k * 5 := by
  induction k with
  | zero => rfl
  | succ k ih => rw [tlR_succ, List.length_append, ih]; simp; omega
theorem tlR_at {i k : Nat} : ∀ {n : Nat}, k < n → (tlR i n)[k * 5]? = some (.int .i64 (-9)) ∧ (tlR i n)[k * 5 + 2]? = some (.int .i64 (nmR i k))
  | 0, h => by omega
  | n + 1, h => by
    rw [tlR_succ]
    by_cases hk : k < n
    · obtain ⟨h1, h2⟩ := tlR_at (i := i) hk
      rw [List.getElem?_append_left (by rw [tlR_len]; omega), List.getElem?_append_left (by rw [tlR_len]; omega)]
      exact ⟨h1, h2⟩
    · obtain rfl : k = n := by omega
      rw [List.getElem?_append_right (by rw [tlR_len]; omega), List.getElem?_append_right (by rw [tlR_len]; omega), tlR_len, Nat.sub_self, Nat.add_sub_cancel_left]
      exact ⟨rfl, rfl⟩
def CtR (ms cs : List (List Value)) (k i : Nat) : Prop := ∀ (j : Nat) (m c : List Value), ms[j]? = some m → cs[j]? = some c → c = m ++ tlR j (if j < i then k + 1 else k)
set_option maxRecDepth 100000 in
set_option maxHeartbeats 8000000 in
theorem grownRecords_any {W w0 : World} {B g o n c : Nat} {ans : List Value} {Ls : List (List Value)} {bss : List (List Value)} (hw : Below W.heap.size W w0) (hg : g < w0.heap.size) (hn : ans.length = n) (hn2 : Ls.length = n) (hn3 : n ≤ 1099511627776) (hc : ∀ (j : Nat) (v : Value), ans[j]? = some v → w0.cell? ⟨g, o + j, none⟩ = some v) (hi : ∀ (j : Nat) (v : Value) (L : List Value), ans[j]? = some v → Ls[j]? = some L → InC W B v L) (hL : Ls.flatten.length ≤ 1099511627776)
    (hlb : Lg B W Ls.flatten bss) (hB : B ≤ W.heap.size) (hlen : ∀ xs ∈ bss, xs.length ≤ 5497558138880) :
    Calls Tryd.prog 18 #[.slice (some ⟨g, o, none⟩) n c] w0 fun e w => e = .returned (.bool true) ∧ Fr w0 w (InB Ls.flatten) := by
  have HC := hide (lists_any (c := c) hw hg hn hn2 hn3 hc hi hL)
  obtain ⟨vs, hvs⟩ : ∃ F, Ls.flatten = F := ⟨_, rfl⟩
  rw [hvs] at HC hL hlb ⊢
  obtain ⟨i1, qi, qz0, qz1, qz2⟩ := info_parts Tryd.infoRecsO
  obtain ⟨i2, ri, rz0, rz1, rz2⟩ := info_parts Tryd.infoRec
  have HLb := hide hlb
  have HW := hide hw
  have HL := hide hlen
  have HBs := hide hB
  clear hw hg hn hn2 hn3 hc hi hlb hB hlen hvs
  go_enter Tryd.func18, Tryd.ntmps18
  go_wp2_with fail
  refine (unhide HC).mono ?_
  rintro e w1 ⟨va, rfl, hrow, hb1⟩
  obtain ⟨a, ca, rfl⟩ := own_shape hrow
  have hlt0 : ∀ g, InB vs g → g < W.heap.size := fun g hg => ((unhide HLb).lt hg).2
  have HI : Hid (∀ g, InB vs g → g < w1.heap.size) := fun g hg => by have := hlt0 g hg; have := (unhide HW).size; have := hb1.size; omega
  have HG0 : Hid (G1r w1 B vs bss 0 w1 bss) := ⟨(unhide HLb).keep (fun g hg _ => (hb1.block g (by have := (unhide HW).size; omega)).trans ((unhide HW).block g hg)), Fr.refl _ _, fun _ => rfl, fun j c hj => by omega⟩
  have H3 : Hid (0 < vs.length → ∃ g, a = some ⟨g, 0, none⟩ ∧ g < w1.heap.size ∧ ¬ InB vs g ∧ ∀ i v, vs[i]? = some v → w1.cell? ⟨g, i, none⟩ = some v) := fun hp => by
    obtain ⟨gA, rfl⟩ := own_at hrow hp
    have := hrow.lt gA rfl
    refine ⟨gA, rfl, this.2, fun hi => by have := hlt0 gA hi; have := (unhide HW).size; omega, fun i v hv => ?_⟩
    have := hrow.cells (g := gA) rfl i v hv
    rwa [Go.WideShapes.add_plain, Nat.zero_add] at this
  have HB1 := hide hb1
  have HBw : Hid (B ≤ w1.heap.size) := by show B ≤ _; have := unhide HBs; have := (unhide HW).size; have := hb1.size; omega
  clear hrow hb1 hlt0 HC HLb
  go_wp2
  go_loopg [4, 5] vs.length (fun gk v4 _ wr => ∃ (i : Nat) (cs : List (List Value)), v4 = .int .i64 (i : Int) ∧ gk = vs.length - i ∧ i ≤ vs.length ∧ Hid (G1r w1 B vs bss i wr cs))
  case atStart => exact ⟨0, bss, rfl, rfl, by omega, unhide HG0⟩
  case round =>
    obtain ⟨i, cs, rfl, hgk, hi, HG⟩ := hrel
    have HgkO := hide hgk
    clear hgk HG0
    obtain ⟨wo, hwo⟩ : ∃ x, x = wr := ⟨_, rfl⟩
    subst hwo
    by_cases hlt : i < vs.length
    · obtain ⟨gA, rfl, hgA, hnI, hc⟩ := unhide H3 (by omega)
      obtain ⟨v, bs, hv, hb, hB⟩ := (unhide HG).lb.at hlt
      obtain ⟨av, nv, cv, rfl, hml, hsh⟩ := rc_shape hB
      have Hx : Hid (∀ w', Fr w1 w' (InB vs) → w'.cell? ⟨gA, i, none⟩ = some (.slice av nv cv)) := fun w' hf => (World.cell?_of_block (a := ⟨gA, i, none⟩) (hf.far gA hgA hnI)).trans (hc i _ hv)
      have hbl : nv ≤ 1099511627776 := by
        have e := (unhide HG).ln i
        rw [hb] at e
        cases hq : bss[i]? with
        | none => rw [hq] at e; cases e
        | some q => rw [hq] at e; have e1 : bs.length = q.length := by simpa using e
                    have := unhide HL q (List.mem_of_getElem? hq); omega
      have x0 := unhide Hx wo (unhide HG).fr
      have HI0 : Hid (∃ cs' bs', G1r w1 B vs bss i wo cs' ∧ cs'[i]? = some bs' ∧ bs'.length = nv * 5 ∧ MkR i 0 bs') := ⟨cs, bs, unhide HG, hb, hml, fun q hq => by omega⟩
      have Hsh := hide hsh
      have Hv := hide hv
      have j0 : (0 : Int) ≤ (i : Int) := Int.natCast_nonneg _
      have j1 : (i : Int) < (vs.length : Int) := by omega
      have j2 : i ≤ 1099511627776 := by omega
      have HltO := hide hlt
      clear hc hgA hnI hB hsh hv hb hlt HG hml
      go_wp2
      go_loopg [5] nv (fun gk v5 wr => ∃ (k : Nat), v5 = .int .i64 (k : Int) ∧ gk = nv - k ∧ k ≤ nv ∧ Hid (∃ cs' bs', G1r w1 B vs bss i wr cs' ∧ cs'[i]? = some bs' ∧ bs'.length = nv * 5 ∧ MkR i k bs'))
      case atStart => exact ⟨0, rfl, rfl, by omega, unhide HI0⟩
      case round =>
        obtain ⟨k, rfl, hgk, hk, HI2⟩ := hrel
        have Hgk := hide hgk
        clear hgk x0 HI0
        obtain ⟨cs', bs', hG, hb, hl, ht⟩ := unhide HI2
        have x0 := unhide Hx wr hG.fr
        by_cases hlt : k < nv
        · obtain ⟨g2, rfl⟩ := unhide Hsh (by omega)
          have hR := hG.lb.own i _ bs' (unhide Hv) hb
          obtain ⟨y2, hy2⟩ : ∃ y, bs'[k * 5 + 2]? = some y := ⟨_, List.getElem?_eq_getElem (by omega)⟩
          obtain ⟨y0, hy0⟩ : ∃ y, bs'[k * 5]? = some y := ⟨_, List.getElem?_eq_getElem (by omega)⟩
          obtain ⟨p2, z2⟩ := rc_cell hR hy2
          obtain ⟨p0, z0⟩ := rc_cell hR hy0
          have hG1 := hG.put (k := k * 5 + 2) (unhide Hv) hb (.int .i64 (1000 * (i : Int) + (k : Int)))
          have hb1 : (cs'.set i (bs'.set (k * 5 + 2) (.int .i64 (1000 * (i : Int) + (k : Int)))))[i]? = some _ := List.getElem?_set_self (by rw [hG.lb.len]; exact unhide HltO)
          have x1 := unhide Hx _ hG1.fr
          have hR1 := hG1.lb.own i _ _ (unhide Hv) hb1
          obtain ⟨p1, z1⟩ := rc_cell hR1 (k := k * 5) (x := y0) (by rw [List.getElem?_set_ne (by omega)]; exact hy0)
          have HIn : Hid (∃ cs' bs', G1r w1 B vs bss i ((wr.setCell ⟨g2, k * 5 + 2, none⟩ (.int .i64 (1000 * (i : Int) + (k : Int)))).setCell ⟨g2, k * 5, none⟩ (.int .i64 (-7))) cs' ∧ cs'[i]? = some bs' ∧ bs'.length = nv * 5 ∧ MkR i (k + 1) bs') :=
            ⟨_, _, hG1.put (k := k * 5) (unhide Hv) hb1 (.int .i64 (-7)), List.getElem?_set_self (by rw [hG1.lb.len]; exact unhide HltO), by rw [List.length_set, List.length_set, hl], ht.step (by omega)⟩
          have i0 : (0 : Int) ≤ (k : Int) := Int.natCast_nonneg _
          have i1' : (k : Int) < (nv : Int) := by omega
          have Hlt := hide hlt
          clear hG hb hl ht hy2 hy0 hlt HI2 hR hR1 hG1 hb1
          go_wp2
          go_roundg (nv - (k + 1))
          case measure => have := unhide Hgk; have := unhide Hlt; omega
          case rel => exact ⟨k + 1, by go_num, rfl, unhide Hlt, unhide HIn⟩
        · obtain rfl : k = nv := by omega
          have HGn := hide (hG.next hb (by rw [hl, Nat.mul_div_cancel _ (by omega)]; exact ht))
          clear hG hb hl ht HI2 hlt hk Hgk
          go_wp2
          go_roundg (vs.length - (i + 1))
          case measure => have := unhide HgkO; have := unhide HltO; omega
          case rel => exact ⟨i + 1, cs', by go_num, rfl, unhide HltO, unhide HGn⟩
    · obtain rfl : i = vs.length := by omega
      have HG2 : Hid (G2r w1 B vs cs 0 wo (.slice none 0 0)) := ⟨(unhide HG).lb, (unhide HG).fr, World.ownsRow_nil _ _ _ _⟩
      have HLcs := hide (unhide HG).lb.len
      have HMd := hide (fun j c hj => (unhide HG).md j c hj)
      have HLc : Hid (∀ (j : Nat) (c : List Value), cs[j]? = some c → c.length ≤ 5497558138880) := fun j c hc => by
        have e := (unhide HG).ln j
        rw [hc] at e
        cases hq : bss[j]? with
        | none => rw [hq] at e; cases e
        | some q => rw [hq] at e; have e1 : c.length = q.length := by simpa using e
                    rw [e1]; exact unhide HL q (List.mem_of_getElem? hq)
      clear HG HgkO hlt hi
      go_wp2
      go_loopg [6, 7] vs.length (fun gk v6 v7 wr => ∃ (i : Nat), v7 = .int .i64 (i : Int) ∧ gk = vs.length - i ∧ i ≤ vs.length ∧ Hid (G2r w1 B vs cs i wr v6))
      case atStart => exact ⟨0, rfl, rfl, by omega, unhide HG2⟩
      case round =>
        obtain ⟨i, rfl, hgk, hi, HG⟩ := hrel
        have Hgk := hide hgk
        clear hgk HG2
        obtain ⟨a5, c5, rfl⟩ := own_shape (unhide HG).m5
        by_cases hlt : i < vs.length
        · obtain ⟨gA, rfl, hgA, hnI, hc⟩ := unhide H3 (by omega)
          obtain ⟨v, bs, hv, hb, hB⟩ := (unhide HG).lb.at hlt
          obtain ⟨av, nv, cv, rfl, hml, hsh⟩ := rc_shape hB
          have x0 : wr.cell? ⟨gA, i, none⟩ = some (.slice av nv cv) := (World.cell?_of_block (a := ⟨gA, i, none⟩) ((unhide HG).fr.far gA hgA hnI)).trans (hc i _ hv)
          have hs := (unhide HG).fr.size
          have Hv := hide hv
          have j0 : (0 : Int) ≤ (i : Int) := Int.natCast_nonneg _
          have j1 : (i : Int) < (vs.length : Int) := by omega
          have Hlt := hide hlt
          have hil : i ≤ 1099511627776 := by omega
          clear hc hgA hnI hB hsh hv hb hlt hml
          go_wp2_with (at_builtin; refine wpList_append_own_at _ rfl _ _ 44 rfl w1.heap.size 33 i1 (.slice none 0 0) 1 24 Tryd.underlying44 qi qz0 qz1 qz2 rfl (by decide) _ _ _ rfl ((unhide HG).m5.alloc _) ⟨wr.heap.size, 0, none⟩ 1 1 [.slice av nv cv] rfl rfl (cell_one_new _ _ _) (by simp [Value.oneCell']) (by unfold maxLen; omega) (by omega) (by simp; omega) ?_; intro v5 w2 hown hgrow _ hat; have HO5 := hide hown; have HG5 := hide hgrow; clear hown hgrow hat)
          have HGn := hide ((unhide HG).step (unhide HI) (unhide Hv) (unhide HG5) (unhide HO5))
          clear HG5 HO5 HG
          go_roundg (vs.length - (i + 1))
          case measure => have := unhide Hgk; have := unhide Hlt; omega
          case rel => exact ⟨i + 1, by go_num, rfl, unhide Hlt, HGn⟩
        · obtain rfl : i = vs.length := by omega
          have HG3 : Hid (G5 w1 B vs cs wr (.slice a5 vs.length c5) vs cs ∧ CtR cs cs 0 0) := ⟨(unhide HG).g5 (unhide HI), fun j m c hm hc => by obtain rfl := Option.some.inj (hm.symm.trans hc); simp [tlR]⟩
          have H5 := hide (own_at (unhide HG).m5)
          obtain ⟨w5, hw5⟩ : ∃ x, x = wr := ⟨_, rfl⟩
          subst hw5
          clear HG hlt hi Hgk
          go_wp2
          go_loopg [8, 9] 64 (fun gk v8 _ wr => ∃ (k : Nat), v8 = .int .i64 (k : Int) ∧ gk = 64 - k ∧ k ≤ 64 ∧ Hid (∃ us cs', G5 w1 B vs cs wr (.slice a5 vs.length c5) us cs' ∧ CtR cs cs' k 0))
          case atStart => exact ⟨0, rfl, rfl, by omega, vs, cs, unhide HG3⟩
          case round =>
            obtain ⟨k, rfl, hgk, hk, HG⟩ := hrel
            have HgkK := hide hgk
            clear hgk HG3
            by_cases hltk : k < 64
            · have hd : decide ((k : Int) < 64) = true := by simp; omega
              have HG4 := HG
              have HltK := hide hltk
              clear HG
              go_wp2
              clear hd
              go_loopg [9] vs.length (fun gk v9 wr => ∃ (i : Nat), v9 = .int .i64 (i : Int) ∧ gk = vs.length - i ∧ i ≤ vs.length ∧ Hid (∃ us cs', G5 w1 B vs cs wr (.slice a5 vs.length c5) us cs' ∧ CtR cs cs' k i))
              case atStart => exact ⟨0, rfl, rfl, by omega, unhide HG4⟩
              case round =>
                obtain ⟨i, rfl, hgk, hi, HG⟩ := hrel
                have Hgk := hide hgk
                clear hgk HG4
                by_cases hlt : i < vs.length
                · obtain ⟨us, cs', hG, hC⟩ := unhide HG
                  obtain ⟨g5, rfl⟩ := unhide H5 (by omega)
                  obtain ⟨u, ct, hu, hct, hB⟩ := hG.lb.at (i := i) (by rw [hG.ul]; exact hlt)
                  obtain ⟨nu, hB⟩ := hB
                  obtain ⟨au, cu, rfl⟩ := own_shape hB
                  obtain ⟨m, hm⟩ : ∃ m, cs[i]? = some m := ⟨_, List.getElem?_eq_getElem (by rw [unhide HLcs]; exact hlt)⟩
                  have hcl := hC i m ct hm hct
                  have x5 : wr.cell? ⟨g5, i, none⟩ = some (.slice au nu cu) := by have := hG.m5.cells (g := g5) rfl i _ hu; rwa [Go.WideShapes.add_plain, Nat.zero_add] at this
                  have b5 := hG.m5.lt g5 rfl
                  have hA : ∀ (b j : Nat) (o : Obj), b < wr.heap.size → (wr.alloc o).cell? ⟨b, j, none⟩ = wr.cell? ⟨b, j, none⟩ := fun b j o hb => World.cell?_alloc_lt _ _ _ hb
                  have a5 : ∀ o, (wr.alloc o).cell? ⟨g5, i, none⟩ = _ := fun o => (hA g5 i o b5.2).trans x5
                  have hnu : nu ≤ 1099511627840 := by
                    have e1 := hB.1
                    rw [hcl, if_neg (by omega), List.length_append, tlR_len] at e1
                    have := unhide HLc i m hm
                    have := unhide HltK
                    omega
                  have hu5 : (Value.slice au nu cu).ownBlock ≠ some g5 := fun e => hG.u5 g5 rfl ⟨i, _, hu, e⟩
                  have K5 : Hid (∀ w3 o, (wr.alloc o).grownBy w3 (Value.slice au nu cu).ownBlock → w3.cell? ⟨g5, i, none⟩ = some (.slice au nu cu) ∧ w3.frozen? ⟨g5, i, none⟩ = false) := fun w3 o hg => by
                    have e := (hg.block g5 (by rw [World.size_alloc]; omega) (fun q => hu5 q.symm)).trans (Below.heap_alloc wr o g5 b5.2)
                    have r5 := own_same hG.m5 (w := w3) (fun b q => by obtain rfl := Option.some.inj q; exact e)
                    refine ⟨(World.cell?_of_block (a := ⟨g5, i, none⟩) e).trans x5, ?_⟩
                    exact World.ownsRow.frozenAt r5 i
                  have HN : Hid (∀ w3 o g' c' , (wr.alloc o).grownBy w3 (Value.slice au nu cu).ownBlock → w3.ownsRow B 35 5 (.slice (some ⟨g', 0, none⟩) (nu + 1) c') (nu + 1) (ct ++ [.int .i64 0, .int .i64 0, .int .i64 0, .string .empty, .slice none 0 0]) → w3.ownsRow B 35 5 (.slice au nu cu) nu ct → ((Value.slice au nu cu).ownBlock = some g' ∨ (wr.alloc o).heap.size ≤ g') → (∃ us cs', G5 w1 B vs cs ((set5 w3 g' (nu * 5) (.int .i64 (-9)) (.int .i64 0) (.int .i64 (nmR i k)) (.string .empty) (.slice none 0 0)).setCell ⟨g5, i, none⟩ (.slice (some ⟨g', 0, none⟩) (nu + 1) c')) (.slice (some ⟨g5, 0, none⟩) vs.length c5) us cs' ∧ CtR cs cs' k (i + 1)) ∧ g5 ≠ g') := fun w3 o g' c' q1 q2 q3 q4 => by
                    have q := hG.step5 (unhide HI) hu hct q1 q2 q3 q4 (a := .int .i64 (-9)) (b := .int .i64 0) (c := .int .i64 (nmR i k)) (d := .string .empty) (e := .slice none 0 0)
                    refine ⟨⟨_, _, q.1, fun j m' c' hm' hc' => ?_⟩, q.2⟩
                    by_cases hij : i = j
                    · subst hij
                      obtain rfl := Option.some.inj (hm.symm.trans hm')
                      rw [List.getElem?_set_self (List.getElem?_eq_some_iff.1 hct).1] at hc'
                      obtain rfl := Option.some.inj hc'
                      rw [hcl, if_neg (by omega), if_pos (by omega), tlR_succ, List.append_assoc]
                    · rw [List.getElem?_set_ne hij] at hc'
                      have := hC j m' c' hm' hc'
                      rw [this]
                      congr 2
                      by_cases hji : j < i
                      · rw [if_pos hji, if_pos (by omega)]
                      · rw [if_neg hji, if_neg (by omega)]
                  have HB2 := hide hB
                  have hBs : B ≤ wr.heap.size := Nat.le_trans (unhide HBw) hG.fr.size
                  have i0 : (0 : Int) ≤ (i : Int) := Int.natCast_nonneg _
                  have i1' : (i : Int) < (vs.length : Int) := by omega
                  have i2' : i ≤ 1099511627776 := by omega
                  have k0 : (0 : Int) ≤ (k : Int) := Int.natCast_nonneg _
                  have k1 : (k : Int) < 64 := by have := unhide HltK; omega
                  have n0 : (0 : Int) ≤ (nu : Int) := Int.natCast_nonneg _
                  have n1 : (nu : Int) < ((nu + 1 : Nat) : Int) := by omega
                  have n2 : (nu : Int) < (nu : Int) + 1 := by omega
                  have Hlt := hide hlt
                  have O1 : Hid (nu + 1 ≤ maxLen) := by show _ ≤ _; unfold maxLen; omega
                  have O2 : Hid ((nu + 1) * 64 ≤ 140737488355328) := by show _ ≤ _; omega
                  clear hA hG hC HG hu hct hB hm hcl hu5 hlt
                  go_wp2
                  go_region_law (refine step_append_keeps 84 rfl rfl (.tmp 75) (.tmp 83) 33 rfl B 35 i2 (.agg #[.int .i64 0, .int .i64 0, .int .i64 0, .string .empty, .slice none 0 0]) 5 64 Tryd.underlying33 ri rz0 rz1 rz2 rfl (by decide) (.slice au nu cu) nu ct (by first | rfl | simp [Act.eval, Act.put]) (World.ownsRow.alloc (unhide HB2) _) ⟨wr.heap.size, 0, none⟩ 1 1 [.int .i64 0, .int .i64 0, .int .i64 0, .string .empty, .slice none 0 0] (by first | rfl | simp [Act.eval, Act.put]) (by rfl) (World.news_of_block (cs := #[.int .i64 0, .int .i64 0, .int .i64 0, .string .empty, .slice none 0 0]) (t := 35) (fr := (0, 0)) (heap_alloc_new _ _)) (by simp [Value.oneCell']) (by decide) (unhide O1) (unhide O2) (by simp; omega) ?_; intro g' c' w3 hown hold hgrow hat; obtain ⟨z0, z1, z2, z3, z4, zf⟩ := own_cells5 hown (unhide HB2).1; have hgr : (wr.alloc (.cells #[.int .i64 0, .int .i64 0, .int .i64 0, .string .empty, .slice none 0 0] 35)).grownBy w3 (Value.slice au nu cu).ownBlock := ⟨hgrow.os, hgrow.tape, hgrow.output, hgrow.size, hgrow.block⟩; obtain ⟨y5, z5⟩ := unhide K5 w3 _ hgr; have hne := (unhide HN w3 _ g' c' hgr hown hold hat).2)
                  all_goals
                    have HNn := hide (unhide HN w3 _ g' c' hgr hown hold hat).1
                    have HNm := HNn
                    rw [← set5_comm hne] at HNm
                    rw [nmR_eq, empty_eq] at HNn HNm
                    clear hown hold hgrow hat hgr y5 z5 z0 z1 z2 z3 z4 zf HN K5
                    go_wp2
                    go_roundg (vs.length - (i + 1))
                    case measure => have := unhide Hgk; have := unhide Hlt; omega
                    case rel => refine ⟨i + 1, by go_num, rfl, unhide Hlt, ?_⟩; first | with_reducible exact HNn | with_reducible exact HNm
                · obtain rfl : i = vs.length := by omega
                  have HGn : Hid (∃ us cs', G5 w1 B vs cs wr (.slice a5 vs.length c5) us cs' ∧ CtR cs cs' (k + 1) 0) := by
                    obtain ⟨us, cs', hG, hC⟩ := unhide HG
                    refine ⟨us, cs', hG, fun j m c hm hc => ?_⟩
                    have := hC j m c hm hc
                    rw [if_pos (by rw [← unhide HLcs]; exact (List.getElem?_eq_some_iff.1 hm).1)] at this
                    rw [this, if_neg (by omega)]
                  clear HG hlt hi Hgk
                  go_wp2
                  go_roundg (64 - (k + 1))
                  case measure => have := unhide HgkK; have := unhide HltK; omega
                  case rel => exact ⟨k + 1, by go_num, rfl, unhide HltK, unhide HGn⟩
            · obtain rfl : k = 64 := by omega
              have hd : decide ((64 : Int) < 64) = false := by simp
              obtain ⟨us, cs', hG, hC⟩ := unhide HG
              have HG9 := hide hG
              have HC9 : Hid (∀ (j : Nat) (m c : List Value), cs[j]? = some m → cs'[j]? = some c → c = m ++ tlR j 64) := fun j m c hm hc => by
                have := hC j m c hm hc
                rwa [if_neg (by omega)] at this
              obtain ⟨w6, hw6⟩ : ∃ x, x = wr := ⟨_, rfl⟩
              subst hw6
              clear hG hC HG hltk hk HgkK
              go_wp2
              clear hd
              go_loopg [10, 11, 12, 13] vs.length (fun gk v10 _ _ _ wr => ∃ (i : Nat), v10 = .int .i64 (i : Int) ∧ gk = vs.length - i ∧ i ≤ vs.length ∧ Hid (Below w6.heap.size w6 wr))
              case atStart => exact ⟨0, rfl, rfl, by omega, Below.refl _ _⟩
              case round =>
                obtain ⟨i, rfl, hgk, hi, HB⟩ := hrel
                have HgkO := hide hgk
                clear hgk
                obtain ⟨w7, hw7⟩ : ∃ x, x = wr := ⟨_, rfl⟩
                subst hw7
                by_cases hlt : i < vs.length
                · obtain ⟨gA, rfl, hgA, hnI, hc⟩ := unhide H3 (by omega)
                  obtain ⟨g5, rfl⟩ := unhide H5 (by omega)
                  have hG := unhide HG9
                  obtain ⟨v, hv⟩ : ∃ v, vs[i]? = some v := ⟨_, List.getElem?_eq_getElem hlt⟩
                  obtain ⟨m, hm⟩ : ∃ m, cs[i]? = some m := ⟨_, List.getElem?_eq_getElem (by rw [unhide HLcs]; exact hlt)⟩
                  obtain ⟨u, ct, hu, hct, hBu⟩ := hG.lb.at (i := i) (by rw [hG.ul]; exact hlt)
                  have hcl := unhide HC9 i m ct hm hct
                  have hmd := unhide HMd i m hlt hm
                  have hml := unhide HLc i m hm
                  obtain ⟨av, nv, cv, rfl, hmn, -, hold⟩ := hG.old i v m hv hm
                  obtain ⟨nu, hR⟩ := id hBu
                  obtain ⟨h1, ⟨-, h2⟩ | ⟨gu, cu, cur, rfl, h2, h3, h4, h5, h6⟩⟩ := id hR
                  · exfalso; rw [hcl, List.length_append, tlR_len] at h1; omega
                  obtain rfl : nu = nv + 64 := by rw [hcl, List.length_append, tlR_len] at h1; omega
                  rw [hmn, Nat.mul_div_cancel _ (by omega)] at hmd
                  have Hx : Hid (∀ w', Below w6.heap.size w6 w' → w'.cell? ⟨gA, i, none⟩ = some (.slice av nv cv) ∧ w'.cell? ⟨g5, i, none⟩ = some (.slice (some ⟨gu, 0, none⟩) (nv + 64) cu)) := fun w' hb => by
                    have b5 := hG.m5.lt g5 rfl
                    have e5 : w6.cell? ⟨g5, i, none⟩ = some (.slice (some ⟨gu, 0, none⟩) (nv + 64) cu) := by have := hG.m5.cells (g := g5) rfl i _ hu; rwa [Go.WideShapes.add_plain, Nat.zero_add] at this
                    exact ⟨(hb.cell (p := ⟨gA, i, none⟩) (Nat.lt_of_lt_of_le hgA hG.fr.size)).trans ((World.cell?_of_block (a := ⟨gA, i, none⟩) (hG.fr.far gA hgA hnI)).trans (hc i _ hv)), (hb.cell (p := ⟨g5, i, none⟩) b5.2).trans e5⟩
                  have Hy : Hid (∀ (w' : World) (k : Nat), Below w6.heap.size w6 w' → k < nv → ∃ gv, av = some ⟨gv, 0, none⟩ ∧ w'.cell? ⟨gv, k * 5 + 2, none⟩ = some (.int .i64 (1000 * (i : Int) + (k : Int))) ∧ w'.cell? ⟨gv, k * 5, none⟩ = some (.int .i64 (-7)) ∧ w'.cell? ⟨gu, k * 5 + 2, none⟩ = some (.int .i64 (1000 * (i : Int) + (k : Int)))) := fun w' k hb hk => by
                    obtain ⟨gv, e, hgl, hcell⟩ := hold (by omega)
                    obtain ⟨m0, m2⟩ := hmd k hk
                    refine ⟨gv, e, (hb.cell (p := ⟨gv, k * 5 + 2, none⟩) hgl).trans (hcell _ _ m2), (hb.cell (p := ⟨gv, k * 5, none⟩) hgl).trans (hcell _ _ m0), ?_⟩
                    rw [hb.cell (p := ⟨gu, k * 5 + 2, none⟩) (hBu.lt gu rfl).2]
                    exact (rc_cell hBu (by rw [hcl, List.getElem?_append_left (by omega)]; exact m2)).1
                  have Hz : Hid (∀ (w' : World) (k : Nat), Below w6.heap.size w6 w' → k < 64 → w'.cell? ⟨gu, (nv + k) * 5 + 2, none⟩ = some (.int .i64 (-(1000 * (i : Int)) - (k : Int))) ∧ w'.cell? ⟨gu, (nv + k) * 5, none⟩ = some (.int .i64 (-9))) := fun w' k hb hk => by
                    obtain ⟨m0, m2⟩ := tlR_at (i := i) hk
                    rw [hb.cell (p := ⟨gu, (nv + k) * 5 + 2, none⟩) (hBu.lt gu rfl).2, hb.cell (p := ⟨gu, (nv + k) * 5, none⟩) (hBu.lt gu rfl).2]
                    refine ⟨(rc_cell hBu (by rw [hcl, List.getElem?_append_right (by omega), show (nv + k) * 5 + 2 - m.length = k * 5 + 2 by omega]; exact m2)).1, (rc_cell hBu (by rw [hcl, List.getElem?_append_right (by omega), show (nv + k) * 5 - m.length = k * 5 by omega]; exact m0)).1⟩
                  obtain ⟨x0, x5⟩ := unhide Hx w7 (unhide HB)
                  have j0 : (0 : Int) ≤ (i : Int) := Int.natCast_nonneg _
                  have j1 : (i : Int) < (vs.length : Int) := by omega
                  have j2 : i ≤ 1099511627776 := by omega
                  have j3 : nv ≤ 1099511627776 := by omega
                  have HltO := hide hlt
                  have hcu : nv + 64 ≤ cu := h4
                  clear hG hv hm hu hct hBu hR hcl hmd hold h1 h2 h3 h5 h6 h4 hgA hnI hc hlt hmn hml
                  go_wp2
                  go_loopg [12] nv (fun gk v12 wr => ∃ (k : Nat), v12 = .int .i64 (k : Int) ∧ gk = nv - k ∧ k ≤ nv ∧ Hid (Below w6.heap.size w6 wr))
                  case atStart => exact ⟨0, rfl, rfl, by omega, unhide HB⟩
                  case round =>
                    obtain ⟨k, rfl, hgk, hk, HB2⟩ := hrel
                    have Hgk := hide hgk
                    clear hgk x0 x5
                    obtain ⟨x0, x5⟩ := unhide Hx wr (unhide HB2)
                    by_cases hlt : k < nv
                    · obtain ⟨gv, rfl, y2, y0, yu⟩ := unhide Hy wr k (unhide HB2) hlt
                      have i0 : (0 : Int) ≤ (k : Int) := Int.natCast_nonneg _
                      have i1' : (k : Int) < (nv : Int) := by omega
                      have i3 : (k : Int) < (nv : Int) + 64 := by omega
                      have Hlt := hide hlt
                      clear hlt
                      go_wp2
                      go_roundg (nv - (k + 1))
                      case measure => have := unhide Hgk; have := unhide Hlt; omega
                      case rel => exact ⟨k + 1, by go_num, rfl, unhide Hlt, HB2⟩
                    · obtain rfl : k = nv := by omega
                      obtain ⟨w8, hw8⟩ : ∃ x, x = wr := ⟨_, rfl⟩
                      subst hw8
                      clear hlt hk Hgk
                      go_wp2
                      go_loopg [13] 64 (fun gk v13 wr => ∃ (q : Nat), v13 = .int .i64 (q : Int) ∧ gk = 64 - q ∧ q ≤ 64 ∧ Hid (Below w6.heap.size w6 wr))
                      case atStart => exact ⟨0, rfl, rfl, by omega, unhide HB2⟩
                      case round =>
                        obtain ⟨q, rfl, hgk, hk, HB4⟩ := hrel
                        have Hgk := hide hgk
                        clear hgk x0 x5
                        obtain ⟨x0, x5⟩ := unhide Hx wr (unhide HB4)
                        by_cases hlt : q < 64
                        · obtain ⟨y2, y0⟩ := unhide Hz wr q (unhide HB4) hlt
                          have hd : decide ((q : Int) < 64) = true := by simp; omega
                          have i0 : (0 : Int) ≤ (q : Int) := Int.natCast_nonneg _
                          have i1' : (q : Int) < 64 := by omega
                          have i3 : (k : Int) + (q : Int) < (k : Int) + 64 := by omega
                          have i4 : (0 : Int) ≤ (k : Int) + (q : Int) := by omega
                          have Hlt := hide hlt
                          clear hlt
                          go_wp2
                          go_roundg (64 - (q + 1))
                          case measure => have := unhide Hgk; have := unhide Hlt; omega
                          case rel => exact ⟨q + 1, by go_num, rfl, unhide Hlt, HB4⟩
                        · obtain rfl : q = 64 := by omega
                          have hd : decide ((64 : Int) < 64) = false := by simp
                          clear hlt hk Hgk
                          go_wp2
                          go_roundg (vs.length - (i + 1))
                          case measure => have := unhide HgkO; have := unhide HltO; omega
                          case rel => exact ⟨i + 1, by go_num, rfl, unhide HltO, unhide HB4⟩
                · obtain rfl : i = vs.length := by omega
                  have HF : Hid (Fr w0 w7 (InB vs)) := by
                    have f := (unhide HG9).fr
                    have b := unhide HB
                    have b1 := unhide HB1
                    exact ⟨b.os.trans (f.os.trans b1.os), b.tape.trans (f.tape.trans b1.tape), b.output.trans (f.output.trans b1.output), Nat.le_trans b1.size (Nat.le_trans f.size b.size), fun q hq hn => (b.block q (Nat.lt_of_lt_of_le hq (Nat.le_trans b1.size f.size))).trans ((f.far q (Nat.lt_of_lt_of_le hq b1.size) hn).trans (b1.block q hq))⟩
                  go_wp2
                  go_ret
                  exact ⟨rfl, unhide HF⟩
end Go.Proofs.YtobomdokdajbaaaDoor
