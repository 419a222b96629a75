import Derived.Test.YtobomdokdajbaaaDoorJ50
import Derived.Test.YtobomdokdajbaaaDoorJ07
import Derived.Test.YtobomdokdajbaaaDoorJ14
import Derived.Test.YtobomdokdajbaaaDoorJ50
import Derived.Test.YtobomdokdajbaaaDoorJ28
import Derived.Test.YtobomdokdajbaaaDoorJ50
import Derived.Test.YtobomdokdajbaaaDoorJ06
import Derived.Test.YtobomdokdajbaaaDoorRows
import Derived.WalkKit
import Derived.ProofKit
import Derived.OpenShut
import Derived.Deep.DeepHandedRow
import Derived.Lib.LaidTab

namespace Go.Proofs.YtobomdokdajbaaaDoor
open Go.RowKit
attribute [local go_sem ↓] Go.wp_at_zero Go.wp_at_succ

theorem below_of {W w w' : World} {n : Nat} (h : Below W.heap.size W w) (hb : Below w.heap.size w w') (_ : W.heap.size = n) : Below W.heap.size W w' :=
  ⟨hb.os.trans h.os, hb.tape.trans h.tape, hb.output.trans h.output, Nat.le_trans h.size hb.size, fun q hq => (hb.block q (Nat.lt_of_lt_of_le hq h.size)).trans (h.block q hq)⟩
theorem belUp {W w w' : World} (h : Below W.heap.size W w) (hb : Below w.heap.size w w') : Below W.heap.size W w' := below_of h hb rfl
theorem upto_len {H : Type} {d : DataW H} {n : Nat} (h : n = 0 ∨ ∃ e s, d = .slice e s ∧ n = e.length) : n ≤ Rows.uptoBulk d := by
  have pos : ∀ d : DataW H, 1 ≤ Rows.uptoBulk d := fun d => by
    cases d with
    | lit l => cases l <;> simp [Rows.uptoBulk]
    | _ => simp [Rows.uptoBulk]
  have len : ∀ l : List (DataW H), l.length ≤ Rows.uptoBulkAll l := fun l => by
    induction l with
    | nil => simp [Rows.uptoBulkAll]
    | cons a l ih =>
      have := pos a
      simp only [Rows.uptoBulkAll, List.length_cons]
      omega
  rcases h with rfl | ⟨e, s, rfl, rfl⟩
  · exact Nat.zero_le _
  · have := len e
    simp only [Rows.uptoBulk]
    omega
theorem wl_of {w : World} {B : Nat} {l : List Nat} (hl : ∀ x ∈ l, x < 256) {g c : Nat} (h : Bytes B w (.slice (some ⟨g, 0, none⟩) l.length c) (byB l)) : WrL w B g l.length c w l := ⟨rfl, hl, h, Fr.refl _ _⟩
/-- What is kept while the law goes on: what was there, and the copy of the first answer. -/
structure OwS (W1 w : World) (lo hi : Nat) (vw : Value) (ts : List Rt) : Prop where
  be : Below W1.heap.size W1 w
  rw : HasRt w (fun q => lo ≤ q ∧ q < hi) vw ts
  hi : hi ≤ w.heap.size
theorem OwS.up {W1 w w' : World} {lo hi : Nat} {vw : Value} {ts : List Rt} (h : OwS W1 w lo hi vw ts) (hb : Below w.heap.size w w') : OwS W1 w' lo hi vw ts :=
  ⟨belUp h.be hb, h.rw.mono (fun q hq hp => ⟨hp, hb.block q hq⟩) hb.size, Nat.le_trans h.hi hb.size⟩
theorem OwS.fr {W1 w w' : World} {lo hi : Nat} {vw : Value} {ts : List Rt} {bl1 bl2 : List Nat} {o : Obj} (h : OwS W1 w lo hi vw ts) (hf : Fr (w.alloc o) w' (fun q => q ∈ bl1 ∨ q ∈ bl2)) (h1 : ∀ q ∈ bl1, W1.heap.size ≤ q ∧ q < lo) (h2 : ∀ q ∈ bl2, W1.heap.size ≤ q ∧ hi ≤ q) : OwS W1 w' lo hi vw ts := by
  have hs := hf.size
  rw [World.size_alloc] at hs
  have key : ∀ q, q < w.heap.size → q ∉ bl1 → q ∉ bl2 → w'.heap[q]? = w.heap[q]? := fun q hq n1 n2 => (hf.far q (by rw [World.size_alloc]; omega) (fun e => e.elim n1 n2)).trans (Below.heap_alloc w o q hq)
  refine ⟨⟨hf.os.trans h.be.os, hf.tape.trans h.be.tape, hf.output.trans h.be.output, by have := h.be.size; omega, fun q hq => (key q (Nat.lt_of_lt_of_le hq h.be.size) (fun e => by have := (h1 q e).1; omega) (fun e => by have := (h2 q e).1; omega)).trans (h.be.block q hq)⟩, h.rw.mono (fun q hq hp => ⟨hp, key q hq (fun e => by have := (h1 q e).2; omega) (fun e => by have := (h2 q e).2; omega)⟩) (by omega), by have := h.hi; omega⟩
theorem byB_lenO (l : List Nat) : (byB l).length = l.length := by simp [byB]
/-- The law's Twin of bytes. -/
theorem twin_bn {W : World} {v : Value} {l : List Nat} (h : HasBN W v l) (hn : l.length ≤ 1048576) :
    Calls Tryd.prog 15 #[v] W fun e W' => e = .returned (.slice (some ⟨W.heap.size, 0, none⟩) l.length l.length) ∧ Bytes W.heap.size W' (.slice (some ⟨W.heap.size, 0, none⟩) l.length l.length) (byB l) ∧ Below W.heap.size W W' := by
  have := twin_any h.has (by rw [byB_lenO]; omega)
  rwa [byB_lenO] at this
set_option maxRecDepth 100000 in
set_option maxHeartbeats 8000000 in
theorem wireOwn_row {W : World} {v0 v1 v2 : Value} {ns : List Int} {ss : List ByteArray} {l : List Nat} (hF : HasF W) (h0 : HasI W v0 ns) (b0 : ∀ z ∈ ns, -9223372036854775808 ≤ z ∧ z ≤ 9223372036854775807) (n0 : ns.length ≤ 1048576) (h1 : HasS W v1 ss) (n1 : ss.length ≤ 1048576) (h2 : HasBN W v2 l) (b2 : ∀ x ∈ l, x < 256) (n2 : l.length ≤ 1048576) :
    Calls Tryd.prog 3 #[v0, v1, v2] W fun e W' => e = .returned (.bool true) ∧ Below W.heap.size W W' := by
  have Hkn := hide (known_any (fun _ _ _ _ _ _ _ r h => add_nil r h) hF)
  have HF := hide hF
  obtain ⟨i1, qi, qz0, qz1, qz2⟩ := info_parts Tryd.infoBytes
  obtain ⟨a0, c0, rfl, -, h3⟩ := h0
  obtain ⟨a1, c1, rfl, -, h4⟩ := h1
  have HBN := hide h2
  obtain ⟨a2, c2, rfl, -, -⟩ := h2
  have H3 := hide h3
  have H4 := hide h4
  have Hb0 := hide b0
  have Hb2 := hide b2
  clear hF h3 h4 b0 b2
  go_enter Tryd.func3, Tryd.ntmps3
  go_wp2_with fail
  refine (unhide Hkn).mono ?_
  rintro e W1 ⟨rfl, hb1⟩
  have Hb1 := hide hb1
  have HK0 : Hid (KMo W1 W1 (.slice none 0 0) 0 []) := ⟨[], KL.nil W1⟩
  clear hb1 Hkn
  go_wp2
  go_loopg [7, 8, 9, 10, 11, 12, 13, 14, 15] ns.length (fun gk v7 v8 _ _ _ _ _ _ _ wr => ∃ (i : Nat) (vs : List Value), v8 = .int .i64 (i : Int) ∧ gk = ns.length - i ∧ i ≤ ns.length ∧ Hid (KMo W1 wr v7 (4 * i) vs ∧ vs.length = 4 * i))
  case atStart => exact ⟨0, [], rfl, rfl, by omega, unhide HK0, rfl⟩
  case round =>
    obtain ⟨i, vs, rfl, hgk, hi, HK⟩ := hrel
    have Hgk := hide hgk
    clear hgk HK0
    obtain ⟨a7, c7, rfl⟩ := own_shape (unhide HK).1.row
    by_cases hlt : i < ns.length
    · obtain ⟨g, off, rfl, hg, hc⟩ := unhide H3 (by omega)
      obtain ⟨x, hx⟩ : ∃ x, ns[i]? = some x := ⟨_, List.getElem?_eq_getElem hlt⟩
      have hrx : RngI x := unhide Hb0 x (List.mem_of_getElem? hx)
      have Hcl : Hid (∀ w : World, Below W1.heap.size W1 w → w.cell? ⟨g, off + i, none⟩ = some (.int .i64 x)) := fun w hw => (hw.cell (p := ⟨g, off + i, none⟩) (Nat.lt_of_lt_of_le hg (unhide Hb1).size)).trans (((unhide Hb1).cell (p := ⟨g, off + i, none⟩) hg).trans (hc i x hx))
      have HV := hide (fun w => varint_new w x)
      have HX := hide (fun w => fixed_new w x)
      have HW := hide (fun w => within_n w hrx)
      obtain ⟨y, hy⟩ : ∃ y, 1 + x % 536870911 = y := ⟨_, rfl⟩
      have HT := hide (fun w => tag_new w y (by omega))
      simp only [hy] at HW
      have HJ := hide (fun w => join_new (W := w) x hrx)
      have x0 := unhide Hcl wr (unhide HK).1.be
      have j0 : (0 : Int) ≤ (i : Int) := Int.natCast_nonneg _
      have j1 : (i : Int) < (ns.length : Int) := by omega
      have Hlt := hide hlt
      have hil : i ≤ 1048576 := by omega
      clear hc hg hx hrx hy hlt
      go_wp2_with fail
      refine (unhide HV _).mono ?_
      rintro e w1 ⟨aA, nA, cA, rfl, hA⟩
      have HK1 : Hid (KMo W1 w1 (.slice a7 (4 * i) c7) (4 * i) (vs ++ [.slice aA nA cA])) := (unhide HK).1.call hA
      have HL := hide (unhide HK).2
      clear hA x0 HK HV
      have x0 := unhide Hcl w1 (unhide HK1).be
      go_wp2_with fail
      refine (unhide HX _).mono ?_
      rintro e w2 ⟨aB, nB, cB, kB, rfl, hA⟩
      have HK2 := hide ((unhide HK1).call hA)
      clear hA x0 HK1 HX
      have x0 := unhide Hcl w2 (unhide HK2).be
      go_wp2_with fail
      refine (unhide HW _).mono ?_
      rintro e w2' ⟨rfl, he⟩
      obtain rfl : w2 = w2' := he.symm
      go_wp2_with fail
      refine (unhide HT _).mono ?_
      rintro e w3 ⟨aC, nC, cC, kC, rfl, hA⟩
      have HK3 := hide ((unhide HK2).call hA)
      clear hA x0 HK2 HT HW
      have x0 := unhide Hcl w3 (unhide HK3).be
      go_wp2_with fail
      refine (unhide HJ _).mono ?_
      rintro e w4 ⟨aD, nD, cD, kD, rfl, hA⟩
      have HK4 := hide ((unhide HK3).call hA)
      clear hA x0 HK3 HJ Hcl
      simp only [List.append_assoc, List.cons_append, List.nil_append] at HK4
      have hs4 : W1.heap.size ≤ w4.heap.size := (unhide HK4).be.size
      go_wp2_with (at_builtin; refine wpList_append_own_at _ rfl _ _ 26 rfl W1.heap.size 24 i1 (.slice none 0 0) 1 24 Tryd.underlying26 qi qz0 qz1 qz2 rfl (by decide) _ _ _ rfl ((unhide HK4).row.alloc _) ⟨w4.heap.size, 0, none⟩ 4 4 [.slice aA nA cA, .slice aB nB cB, .slice aC nC cC, .slice aD nD cD] rfl rfl (four_cells _ _ _ _ _ _) (by simp [Value.oneCell']) (by unfold maxLen; omega) (by omega) (by simp; omega) ?_; intro v5 w5 hown hgrow _ hat; have HO5 := hide hown; have HG5 := hide hgrow; have HA5 := hide hat; clear hown hgrow hat)
      have HK5 := hide ((unhide HK4).app (unhide HL) rfl (unhide HO5) (unhide HG5) (unhide HA5))
      clear HK4 HL HO5 HG5 HA5
      go_wp2
      go_roundg (ns.length - (i + 1))
      case measure => have := unhide Hgk; have := unhide Hlt; omega
      case rel => exact ⟨i + 1, _, by go_num, rfl, unhide Hlt, unhide HK5⟩
    · obtain rfl : i = ns.length := by omega
      obtain ⟨N, hN⟩ : ∃ N, 4 * ns.length = N := ⟨_, rfl⟩
      have hN2 : N ≤ 4194304 := by omega
      rw [hN] at HK
      have HK0 : Hid (KMo W1 wr (.slice a7 N c7) (N + 0) vs ∧ vs.length = N + 0) := unhide HK
      rw [hN]
      clear HK hlt hi Hgk hN
      go_wp2
      go_loopg [7, 16, 17, 18] ss.length (fun gk v7 v16 _ _ wr => ∃ (i : Nat) (vs : List Value), v16 = .int .i64 (i : Int) ∧ gk = ss.length - i ∧ i ≤ ss.length ∧ Hid (KMo W1 wr v7 (N + i) vs ∧ vs.length = N + i))
      case atStart => exact ⟨0, vs, rfl, rfl, by omega, unhide HK0⟩
      case round =>
        obtain ⟨i, vs, rfl, hgk, hi, HK⟩ := hrel
        have Hgk := hide hgk
        clear hgk HK0
        obtain ⟨a7, c7, rfl⟩ := own_shape (unhide HK).1.row
        by_cases hlt : i < ss.length
        · obtain ⟨g, off, rfl, hg, hc⟩ := unhide H4 (by omega)
          obtain ⟨s, hx⟩ : ∃ x, ss[i]? = some x := ⟨_, List.getElem?_eq_getElem hlt⟩
          have x0 : wr.cell? ⟨g, off + i, none⟩ = some (.string s) := ((unhide HK).1.be.cell (p := ⟨g, off + i, none⟩) (Nat.lt_of_lt_of_le hg (unhide Hb1).size)).trans (((unhide Hb1).cell (p := ⟨g, off + i, none⟩) hg).trans (hc i s hx))
          have HT := hide (fun w => text_new w s)
          have j0 : (0 : Int) ≤ (i : Int) := Int.natCast_nonneg _
          have j1 : (i : Int) < (ss.length : Int) := by omega
          have Hlt := hide hlt
          have hil : i ≤ 1048576 := by omega
          clear hc hg hx hlt
          go_wp2_with fail
          refine (unhide HT _).mono ?_
          rintro e w1 ⟨aA, nA, cA, kA, rfl, hA⟩
          have HK1 : Hid (KMo W1 w1 (.slice a7 (N + i) c7) (N + i) (vs ++ [.slice aA nA cA])) := (unhide HK).1.call hA
          have HL := hide (unhide HK).2
          clear hA x0 HK HT
          have hs4 : W1.heap.size ≤ w1.heap.size := (unhide HK1).be.size
          go_wp2_with (at_builtin; refine wpList_append_own_at _ rfl _ _ 26 rfl W1.heap.size 24 i1 (.slice none 0 0) 1 24 Tryd.underlying26 qi qz0 qz1 qz2 rfl (by decide) _ _ _ rfl ((unhide HK1).row.alloc _) ⟨w1.heap.size, 0, none⟩ 1 1 [.slice aA nA cA] rfl rfl (cell_one_new _ _ _) (by simp [Value.oneCell']) (by unfold maxLen; omega) (by omega) (by simp; omega) ?_; intro v5 w5 hown hgrow _ hat; have HO5 := hide hown; have HG5 := hide hgrow; have HA5 := hide hat; clear hown hgrow hat)
          have HK5 := hide ((unhide HK1).app (unhide HL) rfl (unhide HO5) (unhide HG5) (unhide HA5))
          clear HK1 HL HO5 HG5 HA5
          go_roundg (ss.length - (i + 1))
          case measure => have := unhide Hgk; have := unhide Hlt; omega
          case rel => exact ⟨i + 1, _, by go_num, rfl, unhide Hlt, unhide HK5⟩
        · obtain rfl : i = ss.length := by omega
          have HG := hide ((unhide HK).1.grown (unhide HK).2 (by omega))
          clear HK hlt hi Hgk
          go_wp2_with fail
          refine (unhide HG).mono ?_
          rintro e w2 ⟨rfl, hb2⟩
          have HB2 := hide hb2
          clear hb2 HG
          obtain ⟨p, q, ts, hw, hsm, hcn, hbl, hsp⟩ := split_uni (unhide Hb2) n2
          have Hsp := hide hsp
          have Hw := hide hw
          have Hsm := hide hsm
          have Hcn := hide hcn
          have Hbl := hide hbl
          have HU : Hid (∀ w, Below W1.heap.size W1 w → HasBN w (.slice a2 l.length c2) l) := fun w h => (unhide HBN).up (belUp (unhide Hb1) h)
          clear hsp hw hsm hcn hbl HBN
          go_wp2_with fail
          refine (twin_bn (unhide HU _ (unhide HB2)) n2).mono ?_
          rintro e w3 ⟨rfl, hT, hb3⟩
          have HT := hide hT
          have HB3 := hide (belUp (unhide HB2) hb3)
          clear hT hb3 HB2
          go_wp2_with fail
          refine (unhide Hsp _ _ _ _ (unhide HT)).mono ?_
          rintro e w4 ⟨⟨am, mm, cm, rfl, hRm, bl1, hO1, hN1⟩, hb4⟩
          have hl1 : ∀ x ∈ bl1, W1.heap.size ≤ x ∧ x < w4.heap.size := fun x hx => ⟨Nat.le_trans (unhide HB3).size (hO1.at x hx).1, (hO1.at x hx).2.1⟩
          have Hl1 := hide hl1
          have HTw := hide (twin_rt hRm (unhide Hsm) w4 (Below.refl _ _))
          have HO1 := hide hO1
          have HN1 := hide hN1
          have HB4 := hide (belUp (unhide HB3) hb4)
          have hz3 : Hid (w3.heap.size ≤ w4.heap.size) := hb4.size
          clear hRm hO1 hN1 hb4 HT hl1
          go_wp2_with fail
          refine (unhide HTw).mono ?_
          rintro e w5 ⟨aw, cw, rfl, hRw, hb5⟩
          have HS5 : Hid (OwS W1 w5 w4.heap.size w5.heap.size (.slice aw ts.length cw) ts) := ⟨belUp (unhide HB4) hb5, hRw.mono (fun q hq hp => ⟨⟨hp, hq⟩, rfl⟩) (Nat.le_refl _), Nat.le_refl _⟩
          have HO1b := hide ((unhide HO1).mono (w := w5) (fun q hq => hb5.block q (unhide Hl1 q hq).2))
          have Hz5 : Hid (w4.heap.size ≤ w5.heap.size) := hb5.size
          clear hRw hb5 HO1 HTw
          go_wp2_with fail
          refine (twin_bn (unhide HU _ (unhide HS5).be) n2).mono ?_
          rintro e w6 ⟨rfl, hT, hb6⟩
          have HT := hide hT
          have HS6 := hide ((unhide HS5).up hb6)
          have HO1c := hide ((unhide HO1b).mono (w := w6) (fun q hq => hb6.block q (by have := (unhide Hl1 q hq).2; have := unhide Hz5; omega)))
          have Hz6 : Hid (w5.heap.size ≤ w6.heap.size) := hb6.size
          clear hT hb6 HS5 HO1b
          go_wp2_with fail
          refine (unhide Hsp _ _ _ _ (unhide HT)).mono ?_
          rintro e w7 ⟨⟨an, mn, cn, rfl, hRn, bl2, hO2, hN2⟩, hb7⟩
          have HS7 := hide ((unhide HS6).up hb7)
          have HO1d := hide ((unhide HO1c).mono (w := w7) (fun q hq => hb7.block q (by have := (unhide Hl1 q hq).2; have := unhide Hz5; have := unhide Hz6; omega)))
          have HSm := hide (same_rt hRn _ (unhide HS7).rw w7 (Below.refl _ _))
          have HO2 := hide hO2
          have HN2 := hide hN2
          clear hRn hO2 hN2 hb7 HT HS6 HO1c
          go_wp2_with fail
          refine (unhide HSm).mono ?_
          rintro e w8 ⟨rfl, hb8⟩
          have HS8 := hide ((unhide HS7).up hb8)
          have HO1e := hide ((unhide HO1d).mono (w := w8) (fun q hq => hb8.block q ((unhide HO1d).at q hq).2.1))
          have HO2e := hide ((unhide HO2).mono (w := w8) (fun q hq => hb8.block q ((unhide HO2).at q hq).2.1))
          have HGt := hide (grown_two (unhide HO1e) (unhide HN1) (unhide HO2e) (unhide HN2) (by have := unhide hz3; have := unhide Hz5; have := unhide Hz6; omega) (fun q hq => by have := (unhide Hl1 q hq).2; have := unhide Hz5; have := unhide Hz6; omega) (by have := unhide hz3; have := unhide Hz5; have := (unhide HS8).hi; omega) (unhide Hcn))
          have Hbl2 : Hid (∀ q ∈ bl2, w5.heap.size ≤ q) := fun q hq => Nat.le_trans (unhide Hz6) ((unhide HO2).at q hq).1
          clear hb8 HS7 HO1d HO2 HSm HN1 HN2 HO1e HO2e
          go_wp2_with fail
          refine (unhide HGt).mono ?_
          rintro e w9 ⟨rfl, hf9⟩
          have HS9 := hide ((unhide HS8).fr hf9 (fun q hq => unhide Hl1 q hq) (fun q hq => ⟨by have := unhide Hbl2 q hq; have := unhide Hz5; have := (unhide HB4).size; omega, unhide Hbl2 q hq⟩))
          clear hf9 HS8 HGt
          go_wp2_with fail
          refine (twin_bn (unhide HU _ (unhide HS9).be) n2).mono ?_
          rintro e w10 ⟨rfl, hT, hb10⟩
          have HT := hide hT
          have HS10 := hide ((unhide HS9).up hb10)
          clear hT hb10 HS9
          go_wp2_with fail
          refine (unhide Hsp _ _ _ _ (unhide HT)).mono ?_
          rintro e w11 ⟨⟨ao, mo, co, rfl, hRo, bl3, hO3, hN3⟩, hb11⟩
          have HS11 := hide ((unhide HS10).up hb11)
          have HSm := hide (same_rt hRo _ (unhide HS11).rw w11 (Below.refl _ _))
          clear hRo hO3 hN3 hb11 HT HS10
          go_wp2_with fail
          refine (unhide HSm).mono ?_
          rintro e w12 ⟨rfl, hb12⟩
          have HS12 := hide ((unhide HS11).up hb12)
          clear hb12 HS11 HSm
          go_wp2_with fail
          refine (twin_bn (unhide HU _ (unhide HS12).be) n2).mono ?_
          rintro e w13 ⟨rfl, hT, hb13⟩
          have HT := hide hT
          have HS13 := hide ((unhide HS12).up hb13)
          have Hz13 : Hid (w12.heap.size < w13.heap.size) := (hT.lt _ rfl).2
          have HLt := hide (lent_top ((unhide HS13).rw.ri (unhide Hw)) (unhide Hbl) w13 (Below.refl _ _))
          have HZ12 : Hid (W1.heap.size ≤ w12.heap.size) := (unhide HS12).be.size
          clear hT hb13 HS12
          go_wp2_with fail
          refine (unhide HLt).mono ?_
          rintro e w14 ⟨rfl, hTop, -, hb14⟩
          have HS14 := hide ((unhide HS13).up hb14)
          have HT14 := hide (own_same (unhide HT) (fun b e => hb14.block b ((unhide HT).lt b e).2))
          have HWr := hide (written_any (wl_of (unhide Hb2) (unhide HT14)) (Nat.le_trans (Nat.le_of_lt (unhide Hz13)) hb14.size) n2 hTop (unhide Hz13) (unhide Hbl) (fun rs' h1 h2 => by have := encL_bl rs' h2 (by have := unhide Hbl; omega); have := unhide Hbl; omega))
          clear hTop hb14 HS13 HT HLt HT14
          go_wp2_with fail
          refine (unhide HWr).mono ?_
          rintro e w15 ⟨rfl, hf15⟩
          have HB15 : Hid (Below W1.heap.size W1 w15) := ⟨hf15.os.trans (unhide HS14).be.os, hf15.tape.trans (unhide HS14).be.tape, hf15.output.trans (unhide HS14).be.output, Nat.le_trans (unhide HS14).be.size hf15.size, fun q hq => (hf15.far q (Nat.lt_of_lt_of_le hq (unhide HS14).be.size) (fun e => by have := unhide HZ12; have := unhide Hz13; omega)).trans ((unhide HS14).be.block q hq)⟩
          have HKn := hide (known_any (fun _ _ _ _ _ _ _ r h => add_nil r h) ((unhide HF).up (belUp (unhide Hb1) (unhide HB15))))
          clear hf15 HS14 HWr
          go_wp2_with fail
          refine (unhide HKn).mono ?_
          rintro e w16 ⟨rfl, hb16⟩
          have HB16 := hide (belUp (belUp (unhide Hb1) (unhide HB15)) hb16)
          clear hb16 HKn HB15
          go_wp2
          go_ret
          exact ⟨rfl, unhide HB16⟩
#print axioms wireOwn_row
end Go.Proofs.YtobomdokdajbaaaDoor

namespace Go.Proofs.YtobomdokdajbaaaDoor
open Go.ChangeShapes Go.WideShapes Go.ChangeAt Go.RowKit

theorem gForms : Tryd.prog.globalNamed "sigil/wire.forms" = some 0 := by kernel_rfl
theorem gFormsType : (Tryd.prog.globals[0]?).map (·.type) = some 121 := by kernel_rfl
theorem cellsForms : Tryd.prog.cellsOf 121 = 45 := by kernel_rfl
theorem cellsForm : Tryd.prog.cellsOf 120 = 5 := by kernel_rfl
theorem cellsByte : Tryd.prog.cellsOf 5 = 1 := by kernel_rfl

set_option maxRecDepth 100000 in
/-- A form's five numbers. -/
theorem form_cells {H : Type} {enc : TypeId × Value → H} {w : World} {base : Nat} {sp : Nat → Bool} {held : Bool} {fuel : Nat} {cs : List Value} {a b c d e : Int} {p : List MemPlace}
    (h : DataW.trod enc Tryd.prog w base sp held fuel 120 cs = some (.agg [.lit (.int .u8 a), .lit (.int .u8 b), .lit (.int .u8 c), .lit (.int .u8 d), .lit (.int .u8 e)], p)) :
    cs = [.int .u8 a, .int .u8 b, .int .u8 c, .int .u8 d, .int .u8 e] := by
  obtain ⟨xs, k, _, hx, hlen, hxl, hf⟩ := DataW.trod_struct Tryd.underlying120 h
  rw [cellsForm] at hlen
  match xs, hxl, cs, hlen with
  | [y0, y1, y2, y3, y4], _, [v0, v1, v2, v3, v4], _ =>
    have g0 := hf 0 _ rfl
    have g1 := hf 1 _ rfl
    have g2 := hf 2 _ rfl
    have g3 := hf 3 _ rfl
    have g4 := hf 4 _ rfl
    simp [cellsByte] at g0 g1 g2 g3 g4
    obtain ⟨n0, e0, f0, _⟩ := DataW.trod_int Tryd.underlying5 g0
    obtain ⟨n1, e1, f1, _⟩ := DataW.trod_int Tryd.underlying5 g1
    obtain ⟨n2, e2, f2, _⟩ := DataW.trod_int Tryd.underlying5 g2
    obtain ⟨n3, e3, f3, _⟩ := DataW.trod_int Tryd.underlying5 g3
    obtain ⟨n4, e4, f4, _⟩ := DataW.trod_int Tryd.underlying5 g4
    simp at e0 e1 e2 e3 e4
    subst e0 e1 e2 e3 e4 f0 f1 f2 f3 f4
    simp at hx
    obtain ⟨⟨q0, q1, q2, q3, q4⟩, _⟩ := hx
    subst q0 q1 q2 q3 q4
    rfl

theorem table_cells {H : Type} {enc : TypeId × Value → H} {w : World} {base : Nat} {sp : Nat → Bool} {held : Bool} {fuel : Nat} {cs : List Value} {p : List MemPlace}
    (h : DataW.trod enc Tryd.prog w base sp held fuel 121 cs = some (Rows.laid_sigil_wire_forms, p)) :
    ∀ (i : Nat) (a b c d e : Int), forms[i]? = some (a, b, c, d, e) → (cs.drop (i * 5)).take 5 = [.int .u8 a, .int .u8 b, .int .u8 c, .int .u8 d, .int .u8 e] := by
  intro i a b c d e hf
  cases fuel with
  | zero => simp [DataW.trod] at h
  | succ fuel =>
    simp only [DataW.trod, Tryd.underlying121, cellsForm, cellsForms] at h
    split at h
    · obtain ⟨xs, hm, hx⟩ := Option.map_eq_some_iff.1 h
      have hi : i < 9 := by
        have := (List.getElem?_eq_some_iff.1 hf).1
        rw [forms_len] at this
        exact this
      obtain ⟨y, hy, hfy⟩ := Lib.mapM_at hm i i (by simp [hi])
      have hxs : xs.map (·.1) = forms.map fun z => (DataW.agg [.lit (.int .u8 z.1), .lit (.int .u8 z.2.1), .lit (.int .u8 z.2.2.1), .lit (.int .u8 z.2.2.2.1), .lit (.int .u8 z.2.2.2.2)] : DataW H) := by
        have := congrArg Prod.fst hx
        simpa [Rows.laid_sigil_wire_forms, forms] using this
      have h2 : (xs.map (·.1))[i]? = some y.1 := by simp [hy]
      rw [hxs, List.getElem?_map, hf] at h2
      simp at h2
      obtain ⟨y1, y2⟩ := y
      simp only at h2
      subst h2
      exact form_cells hfy
    · cases h

theorem hasF_of {W : World} {rest : List (String × DataW Unit)} (h : laidMet Tryd.prog (("sigil/wire.forms", Rows.laid_sigil_wire_forms) :: rest) W) : HasF W := by
  obtain ⟨ps, ⟨g', t', cs, fuel, p, q, hg', ht', hvar, hd, _, _⟩, _⟩ := h
  obtain rfl := Option.some.inj (gForms.symm.trans hg')
  obtain rfl := Option.some.inj (gFormsType.symm.trans ht')
  have hc := World.var?_cell gForms hvar
  have ht := table_cells hd
  have hat : ∀ (i j : Nat) (l : List Value) (v : Value), (cs.toList.drop (i * 5)).take 5 = l → j < 5 → l[j]? = some v → W.cell? ⟨0, i * 5 + j, none⟩ = some v := by
    intro i j l v hl hj hv
    rw [hc]
    subst hl
    rw [List.getElem?_take, if_pos hj, List.getElem?_drop] at hv
    simpa using hv
  refine ⟨?_, fun i a b c d e hf => ?_⟩
  · have := hat 0 0 _ (.int .u8 0) (ht 0 0 127 0 0 0 rfl) (by decide) rfl
    exact World.block_lt_of_cell? W _ this
  · have hl := ht i a b c d e hf
    have h0 := hat i 0 _ _ hl (by decide) rfl
    have h1 := hat i 1 _ _ hl (by decide) rfl
    have h2 := hat i 2 _ _ hl (by decide) rfl
    have h3 := hat i 3 _ _ hl (by decide) rfl
    have h4 := hat i 4 _ _ hl (by decide) rfl
    exact ⟨h0, h1, h2, h3, h4⟩
end Go.Proofs.YtobomdokdajbaaaDoor
