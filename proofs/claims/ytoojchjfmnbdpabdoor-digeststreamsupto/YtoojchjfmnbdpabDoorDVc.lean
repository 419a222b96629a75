import Derived.Test.YtoojchjfmnbdpabDoorDVd
import Derived.Test.YtoojchjfmnbdpabDoorDL1
import Derived.Test.YtoojchjfmnbdpabDoorDRe
import Derived.Test.YtoojchjfmnbdpabDoorDKq
import Derived.Deep.CutBlock
import Derived.Deep.DeepCutAuto
import Derived.Deep.CutRange
import Derived.Deep.RegionLaw
namespace Go.Proofs.YtoojchjfmnbdpabDoor
open Go.RowKit
attribute [local go_sem ↓] Go.wp_at_zero Go.wp_at_succ

theorem Tryd.infoHptr : (Tryd.prog.info? 24).map (fun i => (i.zero, i.size, i.bytes)) = some (some (.pointer none), 1, 8) := by kernel_rfl
theorem ST.init {B g : Nat} {W : World} (hH : HashAt W g []) (hB : B ≤ g) : ST B ((W.alloc (.cells #[.pointer (some ⟨g, 0, none⟩)] 24)).alloc (.cells #[.slice none 0 0] 28)) (.slice (some ⟨W.heap.size, 0, none⟩) 1 1) (.slice (some ⟨W.heap.size + 1, 0, none⟩) 1 1) [g] [[]] [.slice none 0 0] [[]] := by
  have gl := hH.lt
  have s1 : (W.alloc (.cells #[.pointer (some ⟨g, 0, none⟩)] 24)).heap.size = W.heap.size + 1 := World.size_alloc _ _
  have e1 : ((W.alloc (.cells #[.pointer (some ⟨g, 0, none⟩)] 24)).alloc (.cells #[.slice none 0 0] 28)).heap[W.heap.size]? = some (.cells #[.pointer (some ⟨g, 0, none⟩)] 24 (0, 0)) := (Below.heap_alloc _ _ _ (by omega)).trans (heap_new _ _)
  have e2 : ((W.alloc (.cells #[.pointer (some ⟨g, 0, none⟩)] 24)).alloc (.cells #[.slice none 0 0] 28)).heap[W.heap.size + 1]? = some (.cells #[.slice none 0 0] 28 (0, 0)) := by
    have := heap_new (W.alloc (.cells #[.pointer (some ⟨g, 0, none⟩)] 24)) (.cells #[.slice none 0 0] 28)
    rw [s1] at this
    exact this
  refine ⟨⟨rfl, .inr ⟨_, 1, _, rfl, by omega, e1, Nat.le_refl _, by unfold maxLen; decide, rfl, rfl⟩⟩, ⟨rfl, .inr ⟨_, 1, _, rfl, by omega, e2, Nat.le_refl _, by unfold maxLen; decide, rfl, rfl⟩⟩, rfl, rfl, rfl, ?_, ?_, by simp, ?_, ?_, ?_, ?_, ?_⟩
  · intro j h L hj hL
    have hj0 : j = 0 := by have := (List.getElem?_eq_some_iff.1 hj).1; simpa using this
    subst hj0
    simp at hj hL
    subst hj hL
    exact (hH.keep (Below.heap_alloc _ _ _ gl)).keep (Below.heap_alloc _ _ _ (by omega))
  · intro j u L hj hL
    have hj0 : j = 0 := by have := (List.getElem?_eq_some_iff.1 hj).1; simpa using this
    subst hj0
    simp at hj hL
    subst hj hL
    exact bytes_nil _ _
  · intro k hk
    rw [List.mem_singleton.1 hk]
    exact hB
  · intro k hk
    rw [List.mem_singleton.1 hk]
    exact ⟨fun e => by have : g = W.heap.size := Option.some.inj e; omega, fun e => by have : g = W.heap.size + 1 := Option.some.inj e; omega⟩
  · intro u hu b e
    rw [List.mem_singleton.1 hu] at e
    cases e
  · intro i j u u' b hi hj e
    have hm := List.mem_of_getElem? hi
    rw [List.mem_singleton.1 hm] at e
    cases e
  · intro b e e'
    have h1 : W.heap.size = b := Option.some.inj e
    have h2 : W.heap.size + 1 = b := Option.some.inj e'
    omega
theorem ownsRow_shape {B n : Nat} {e : TypeId} {W : World} {v : Value} {xs : List Value} (h : W.ownsRow B e 1 v (n + 1) xs) : ∃ g c, v = .slice (some ⟨g, 0, none⟩) (n + 1) c := by
  obtain ⟨_, ⟨_, h0⟩ | ⟨g, c, _, e1, _⟩⟩ := h
  · omega
  · exact ⟨g, c, e1⟩
/-- Which hash is meant. -/
def whichN (z : Int) (n : Nat) : Nat := (z % (n : Int)).toNat
theorem whichN_lt (z : Int) {n : Nat} (h : 0 < n) : whichN z n < n := by
  unfold whichN
  have h1 := Int.emod_nonneg z (show (n : Int) ≠ 0 by omega)
  have h2 := Int.emod_lt_of_pos z (show (0 : Int) < (n : Int) by omega)
  omega
theorem which_pos {z : Int} {n : Nat} (h : 0 < n) (hz : ¬ z.tmod (n : Int) < 0) : z.tmod (n : Int) = (whichN z n : Int) := by
  have h1 := Int.emod_nonneg z (show (n : Int) ≠ 0 by omega)
  unfold whichN
  rw [Int.toNat_of_nonneg h1]
  rw [Int.tmod_eq_emod] at hz ⊢
  split
  · omega
  · rename_i q
    rw [if_neg q] at hz
    have h2 := Int.emod_lt_of_pos z (show (0 : Int) < (n : Int) by omega)
    omega
theorem which_neg {z : Int} {n : Nat} (h : 0 < n) (hz : z.tmod (n : Int) < 0) : z.tmod (n : Int) + (n : Int) = (whichN z n : Int) := by
  have h1 := Int.emod_nonneg z (show (n : Int) ≠ 0 by omega)
  unfold whichN
  rw [Int.toNat_of_nonneg h1]
  rw [Int.tmod_eq_emod] at hz ⊢
  split
  · rename_i q
    rw [if_pos q] at hz
    omega
  · omega
theorem sumS_take (ts : List Stp) (i : Nat) (o : Stp) (h : ts[i]? = some o) : sumS (ts.take (i + 1)) = sumS (ts.take i) + (o.data.length + 1) := by
  unfold sumS
  rw [List.take_add_one, h, List.map_append, List.sum_append]
  simp
theorem sumS_take_le (ts : List Stp) (i : Nat) : sumS (ts.take i) ≤ sumS ts := by
  unfold sumS
  rw [← List.take_append_drop i ts, List.map_append, List.sum_append]
  simp
/-- What the lists may be. -/
def Fine (m : Nat) (Ls : List (List Nat)) : Prop := ∀ L ∈ Ls, Byt L ∧ L.length ≤ m
theorem Fine.mono {m m' : Nat} {Ls : List (List Nat)} (h : Fine m Ls) (hm : m ≤ m') : Fine m' Ls := fun L hL => ⟨(h L hL).1, Nat.le_trans (h L hL).2 hm⟩
theorem Fine.push {m : Nat} {Ls : List (List Nat)} {L : List Nat} (h : Fine m Ls) (hb : Byt L) (hl : L.length ≤ m) : Fine m (Ls ++ [L]) := fun M hM => by
  rcases List.mem_append.1 hM with hM | hM
  · exact h M hM
  · rw [List.mem_singleton.1 hM]; exact ⟨hb, hl⟩
theorem Fine.set {m : Nat} {Ls : List (List Nat)} {L : List Nat} (h : Fine m Ls) (j : Nat) (hb : Byt L) (hl : L.length ≤ m) : Fine m (Ls.set j L) := fun M hM => by
  rcases List.mem_or_eq_of_mem_set hM with hM | rfl
  · exact h M hM
  · exact ⟨hb, hl⟩
theorem byt_app {a b : List Nat} (ha : Byt a) (hb : Byt b) : Byt (a ++ b) := fun x hx => by
  rcases List.mem_append.1 hx with hx | hx
  · exact ha x hx
  · exact hb x hx
set_option maxRecDepth 100000 in
set_option maxHeartbeats 8000000 in
theorem streams_any {W : World} (hS : HasS W) (hK : HasK W) (hX : HasX W) {v : Value} {ts : List Stp} (h : HasSt W v ts) (hn : sumS ts ≤ 1048576) :
    Calls Tryd.prog 3 #[v] W fun e W' => e = .returned (.bool true) ∧ Below W.heap.size W W' := by
  obtain ⟨i1, hi1, hp0, hp1, hp2⟩ := info_parts Tryd.infoHptr
  obtain ⟨i2, hi2, hq0, hq1, hq2⟩ := info_parts Tryd.infoBytes
  have Hh := hide h
  obtain ⟨va, vc, rfl, hvm, hwf, _⟩ := h
  have hvc : vc ≤ 9223372036854775807 := by have := hvm.2; unfold maxLen at this; omega
  have hvc2 := hvm.1
  have Hwf := hide hwf
  clear hvm hwf
  have hhd := head_any hK hS
  go_enter Tryd.func3, Tryd.ntmps3
  go_wp2_with fail
  refine hhd.mono ?_
  rintro e w1 ⟨rfl, hb1⟩
  clear hhd
  go_wp2_with fail
  refine (new_any (hS.up hb1)).mono ?_
  rintro e w2 ⟨rfl, hH2, hb2⟩
  have hb02 := hb1.trans (hb2.mono hb1.size)
  have s1 := hb1.size
  have hI := ST.init hH2 s1
  have HI := hide hI
  have B0 : Hid (Below W.heap.size W ((w2.alloc (.cells #[.pointer (some ⟨w1.heap.size, 0, none⟩)] 24)).alloc (.cells #[.slice none 0 0] 28))) := (hb02.alloc hb02.size _).alloc (by rw [World.size_alloc]; have := hb02.size; omega) _
  clear hH2 hb2 hb1 hb02 hI
  go_wp2
  go_loopg [4, 5, 6] ts.length (fun gk v4 v5 v6 wr => ∃ (i ga ca gh ch : Nat) (hs : List Nat) (us : List Value) (Ls : List (List Nat)), v4 = .slice (some ⟨ga, 0, none⟩) hs.length ca ∧ v5 = .slice (some ⟨gh, 0, none⟩) hs.length ch ∧ v6 = .int .i64 (i : Int) ∧ gk = ts.length - i ∧ i ≤ ts.length ∧ 1 ≤ hs.length ∧ hs.length ≤ 64 ∧ Hid (ST W.heap.size wr v4 v5 hs Ls us Ls) ∧ Hid (Fine (sumS (ts.take i)) Ls) ∧ Hid (Below W.heap.size W wr))
  case atStart => exact ⟨0, _, 1, _, 1, [w1.heap.size], [.slice none 0 0], [[]], rfl, rfl, rfl, rfl, by omega, by simp, by simp, HI, (fun L hL => by rw [List.mem_singleton.1 hL]; exact ⟨fun x hx => (by cases hx), (by simp)⟩), B0⟩
  case round =>
    clear HI B0
    obtain ⟨i, ga, ca, gh, ch, hs, us, Ls, rfl, rfl, rfl, hgk, hi, hl1, hl64, HST, HF, HB⟩ := hrel
    obtain ⟨wo, hwo⟩ : ∃ x, x = wr := ⟨wr, rfl⟩
    subst hwo
    have Hgk := hide hgk
    clear hgk
    have hbr := unhide HB
    have hsr := hbr.size
    by_cases hlt : i < ts.length
    · obtain ⟨a', c', e', hm', hwf', h3'⟩ := id (unhide Hh)
      injection e' with e1 _ e3
      subst e1 e3
      obtain ⟨b, off, rfl, hb, hc⟩ := h3' (by omega)
      obtain ⟨o, ho⟩ : ∃ x, ts[i]? = some x := ⟨_, List.getElem?_eq_getElem hlt⟩
      obtain ⟨k0, k1, u, k2, hBu⟩ := hc i o ho
      obtain ⟨wf1, wf2, wf3⟩ := unhide Hwf o (List.mem_of_getElem? ho)
      have hsm := sumS_take ts i o ho
      have hsl := sumS_take_le ts (i + 1)
      obtain ⟨kind, which, data⟩ := o
      obtain ⟨ua, uc, rfl, hum, _⟩ := id hBu
      have k0' := (hbr.cell (p := ⟨b, off + i * 3, none⟩) hb).trans k0
      have k1' := (hbr.cell (p := ⟨b, off + i * 3 + 1, none⟩) hb).trans k1
      have k2' := (hbr.cell (p := ⟨b, off + i * 3 + 2, none⟩) hb).trans k2
      have HBu : Hid (HasB W (.slice ua data.length uc) data) := hBu
      have i0' : (0 : Int) ≤ (i : Int) := Int.natCast_nonneg _
      have i1' : (i : Int) < (ts.length : Int) := by omega
      have nz : ¬ (hs.length : Int) = 0 := by omega
      simp only at hsm wf3 wf1 wf2
      have hsum0 : sumS (ts.take i) + data.length + 1 = sumS (ts.take (i + 1)) := by omega
      have hsum1 : sumS (ts.take (i + 1)) ≤ 1048576 := by omega
      have HF1 : Hid (Fine (sumS (ts.take (i + 1))) Ls) := (unhide HF).mono (by omega)
      have hF0 := unhide HF
      have hdl : data.length ≤ 1048576 := by omega
      obtain ⟨S1, hS1⟩ : ∃ x, sumS (ts.take (i + 1)) = x := ⟨_, rfl⟩
      have Hwf3 := hide wf3
      obtain ⟨j, hj⟩ : ∃ j, whichN which hs.length = j := ⟨_, rfl⟩
      have jl : j < hs.length := by rw [← hj]; exact whichN_lt _ (by omega)
      have hpos := fun q => which_pos (z := which) (n := hs.length) (by omega) q
      have hneg := fun q => which_neg (z := which) (n := hs.length) (by omega) q
      rw [hj] at hpos hneg
      obtain ⟨ws, hws⟩ : ∃ x, wo.alloc (.cells #[.int .i64 kind, .int .i64 which, .slice ua data.length uc] 30) = x := ⟨_, rfl⟩
      have sbl : wo.heap.size < ws.heap.size := by rw [← hws, World.size_alloc]; omega
      have bs : Below wo.heap.size wo ws := by rw [← hws]; exact (Below.refl _ _).alloc (Nat.le_refl _) _
      have rs : ws.heap[wo.heap.size]? = some (.cells #[.int .i64 kind, .int .i64 which, .slice ua data.length uc] 30 (0, 0)) := by rw [← hws]; exact heap_new wo _
      have stepCell : ∀ (w : World) , w.heap[wo.heap.size]? = ws.heap[wo.heap.size]? → w.cell? ⟨wo.heap.size, 0, none⟩ = some (.int .i64 kind) ∧ w.cell? ⟨wo.heap.size, 2, none⟩ = some (.slice ua data.length uc) := fun w e => ⟨by rw [cell_of_row _ _ _ _ _ _ (e.trans rs)]; rfl, by rw [cell_of_row _ _ _ _ _ _ (e.trans rs)]; rfl⟩
      obtain ⟨c0, c2⟩ := stepCell ws rfl
      have c1 : ws.cell? ⟨wo.heap.size, 1, none⟩ = some (.int .i64 which) := by rw [cell_of_row _ _ _ _ _ _ rs]; rfl
      have Hcell := hide stepCell
      have hsts := (unhide HST).up bs
      have b0s : Below W.heap.size W ws := hbr.trans (bs.mono hsr)
      have s0s := b0s.size
      obtain ⟨g, hg⟩ : ∃ x, hs[j]? = some x := ⟨_, List.getElem?_eq_getElem jl⟩
      obtain ⟨L, hL⟩ : ∃ x, Ls[j]? = some x := ⟨_, List.getElem?_eq_getElem (by rw [hsts.lenL]; exact jl)⟩
      obtain ⟨uj, huj⟩ : ∃ x, us[j]? = some x := ⟨_, List.getElem?_eq_getElem (by rw [hsts.lenU]; exact jl)⟩
      have hHs := hsts.hash j g L hg hL
      have hBj := hsts.list j uj L huj hL
      obtain ⟨xj, cj, ej⟩ := hBj.shp
      subst ej
      have cA := hsts.cellA rfl hg
      have cH := hsts.cellH rfl huj
      obtain ⟨Lb, Ln⟩ := hF0 L (List.mem_of_getElem? hL)
      have hLd : L.length + data.length ≤ 1048576 := by omega
      have gl := hHs.lt
      have gr := (unhide HST).hashLt hg
      have gB := hsts.ge g (List.mem_of_getElem? hg)
      have gal := (hsts.rowA.lt ga rfl).2
      have ghl := (hsts.rowH.lt gh rfl).2
      have ghB := (hsts.rowH.lt gh rfl).1
      have hgah := hsts.ha g (List.mem_of_getElem? hg)
      have gna : ga ≠ g := fun e => hgah.1 (by rw [← e]; rfl)
      have gnh : gh ≠ g := fun e => hgah.2 (by rw [← e]; rfl)
      have HSTs := hide hsts
      have HHs := hide hHs
      have HBj := hide hBj
      have Hg := hide hg
      have HL := hide hL
      have Huj := hide huj
      have HLb := hide Lb
      have Hbs := hide b0s
      have j0' : (0 : Int) ≤ (j : Int) := Int.natCast_nonneg _
      have j1' : (j : Int) < (hs.length : Int) := by omega
      have Hrs := hide rs
      clear hc h3' hm' hwf' hBu ho wf3 hum k0 k1 k2 hsm hsl hF0 hj stepCell hsts hHs hBj hg hL huj Lb rs hgah bs
      go_upto_if 41 with fail
      try rw [hws]
      clear hws
      go_cut [8] from 25 to 137 (fun v8 wx => v8 = .int .i64 (j : Int) ∧ wx = ws)
      case first =>
        by_cases hq : which.tmod (hs.length : Int) < 0
        · have q1 : decide (which.tmod (hs.length : Int) < 0) = true := decide_eq_true hq
          have e1 := hneg hq
          clear hneg hpos hq
          go_wp2
          go_meet
          case rel => exact ⟨by go_num, rfl⟩
        · have q1 : decide (which.tmod (hs.length : Int) < 0) = false := decide_eq_false hq
          have e1 := hpos hq
          clear hneg hpos hq
          go_wp2
          go_meet
          case rel => exact ⟨by first | rfl | rw [e1], rfl⟩
      case rest =>
        clear hneg hpos
        obtain ⟨rfl, hwx⟩ := hcut
        obtain rfl : ws = wc := hwx.symm
        clear hwx
        by_cases t3 : kind = 3
        · subst t3
          have hsum := hsum_any (hK.up (unhide Hbs)) (unhide HHs) (by omega)
          go_wp2_with fail
          refine hsum.mono ?_
          rintro e w5 ⟨v5, rfl, hB5, hb5⟩
          clear hsum
          obtain ⟨gd, cd, e5, hgd1, hgd2, hcd, hrow⟩ := hB5.rowAt (by rw [sha_len]; decide)
          subst e5
          have b05 := (unhide Hbs).trans (hb5.mono s0s)
          have cH5 := (hb5.cell (p := ⟨gh, j, none⟩) ghl).trans cH
          have hx := xsum_any (hX.up b05) ((unhide HBj).has.up hb5) (unhide HLb) (by omega)
          have HB5 := hide hB5.has
          have Hrow := hide hrow
          have Hb5 := hide hb5
          clear hB5 hrow b05 hb5
          go_wp2_with fail
          refine hx.mono ?_
          rintro e w6 ⟨v6, rfl, hB6, hb6⟩
          clear hx
          obtain ⟨x6, c6, e6⟩ := hB6.shp
          subst e6
          have hB56 := (unhide HB5).up hb6
          have Hrow6 : Hid (RowAt w6 gd (sha L).length) := (unhide Hrow).up (hb6.block gd hgd2)
          have Bs6 : Hid (Below ws.heap.size ws w6) := (unhide Hb5).trans (hb6.mono (unhide Hb5).size)
          have hsb := sha_byt L
          have hH6 := hB6.has
          clear hB6 hb6 HB5 Hrow Hb5 cH5
          go_wp2_with fail
          refine (same_any hB56 hH6 hsb hsb).mono ?_
          rintro e w' ⟨rfl, he⟩
          obtain rfl : w6 = w' := he.symm
          clear he hB56 hH6 hsb
          rw [show decide (sha L = sha L) = true by simp]
          have hlen : (sha L).length ≤ 32 := by rw [sha_len]; exact Nat.le_refl _
          obtain ⟨D, hD⟩ : ∃ D, (sha L).length = D := ⟨_, rfl⟩
          rw [hD] at Hrow6 hlen ⊢
          clear hD
          go_wp2
          go_loopg [14] D (fun gk v14 wq => ∃ (k : Nat), v14 = .int .i64 (k : Int) ∧ gk = D - k ∧ k ≤ D ∧ Hid (RowAt wq gd D) ∧ Hid (Below ws.heap.size ws wq))
          case atStart => exact ⟨0, rfl, rfl, by omega, Hrow6, Bs6⟩
          case round =>
            clear Hrow6 Bs6
            obtain ⟨k, rfl, hgk2, hk, HR, HBq⟩ := hrel
            have Hgk2 := hide hgk2
            clear hgk2
            by_cases hkl : k < D
            · have fz := (unhide HR).frozen k
              obtain ⟨z, cz⟩ := (unhide HR).cell hkl
              have HR2 := hide ((unhide HR).set k (.int .u8 9))
              have HB2 : Hid (Below ws.heap.size ws (wr.setCell ⟨gd, k, none⟩ (.int .u8 9))) := below_set (unhide HBq) hgd1 k _
              have k0' : (0 : Int) ≤ (k : Int) := Int.natCast_nonneg _
              have k1' : (k : Int) < (D : Int) := by omega
              go_wp2
              go_roundg (D - (k + 1))
              case measure => have := unhide Hgk2; omega
              case rel => exact ⟨k + 1, by go_num, rfl, by omega, HR2, HB2⟩
            · have HST2 := hide ((unhide HSTs).up (unhide HBq))
              have HB2 : Hid (Below W.heap.size W wr) := (unhide Hbs).trans ((unhide HBq).mono s0s)
              have hkD : ¬ (k : Int) < (D : Int) := by omega
              go_wp2
              go_roundg (ts.length - (i + 1))
              case measure => have := unhide Hgk; omega
              case rel => exact ⟨i + 1, ga, ca, gh, ch, hs, us, Ls, rfl, rfl, by go_num, rfl, by omega, hl1, hl64, HST2, HF1, HB2⟩
        · have q3 : (kind == 3) = false := beq_eq_false_iff_ne.2 t3
          by_cases t1 : kind = 1
          · subst t1
            by_cases h64 : 64 ≤ hs.length
            · have q5 : decide ((64 : Int) ≤ (hs.length : Int)) = true := decide_eq_true (by omega)
              clear h64
              go_wp2
              go_roundg (ts.length - (i + 1))
              case measure => have := unhide Hgk; omega
              case rel => exact ⟨i + 1, ga, ca, gh, ch, hs, us, Ls, rfl, rfl, by go_num, rfl, by omega, hl1, hl64, HSTs, HF1, Hbs⟩
            · have q5 : decide ((64 : Int) ≤ (hs.length : Int)) = false := decide_eq_false (by omega)
              have hnew := new_any (hS.up (unhide Hbs))
              go_wp2_with fail
              refine hnew.mono ?_
              rintro e w5 ⟨rfl, hH5, hb5⟩
              clear hnew
              have H5 := hide ((unhide HSTs).up hb5)
              have Hb5 := hide hb5
              have HH5 := hide hH5
              have B0w : Hid (Below W.heap.size W w5) := (unhide Hbs).trans (hb5.mono s0s)
              have s0w := (unhide B0w).size
              have HF9 : Hid (Fine (sumS (ts.take (i + 1))) (Ls ++ [[]])) := (unhide HF1).push (fun x hx => (by cases hx)) (by simp)
              clear hH5 hb5
              have O1 : Hid (hs.length + 1 ≤ maxLen) := by show _ ≤ _; unfold maxLen; omega
              have O2 : Hid ((hs.length + 1) * 8 ≤ 140737488355328) := by show _ ≤ _; omega
              have lU := (unhide HSTs).lenU
              have O3 : Hid (us.length + 1 ≤ maxLen) := by show _ ≤ _; unfold maxLen; omega
              have O4 : Hid ((us.length + 1) * 24 ≤ 140737488355328) := by show _ ≤ _; omega
              have GO1 : True := trivial
              have GO2 : True := trivial
              clear lU
              go_wp2_with (first | (at_builtin; clear GO1; refine wpList_append_own_at _ rfl _ _ 26 rfl W.heap.size 24 i1 (.pointer none) 1 8 Tryd.underlying26 hi1 hp0 hp1 hp2 rfl (by decide) _ _ _ rfl ((unhide H5).rowA.alloc _) ⟨w5.heap.size, 0, none⟩ 1 1 [.pointer (some ⟨ws.heap.size, 0, none⟩)] rfl rfl (cell_one_new _ _ _) (by simp [Value.oneCell']) (unhide O1) (unhide O2) (by rw [World.size_alloc]; omega) ?_; intro v8 w8 hA8 gA8 d8 at8; clear d8; obtain ⟨g8, c8, e8⟩ := ownsRow_shape hA8; subst e8; have R8 := hide (ownsRow_keep (w := w8) (unhide H5).rowH (fun x e => (gA8.block x (by rw [World.size_alloc]; have := ((unhide H5).rowH.lt x e).2; omega) (fun q => (unhide H5).vv x q.symm e)).trans (Below.heap_alloc w5 _ x ((unhide H5).rowH.lt x e).2))); have B8 : Hid (Below W.heap.size W w8) := below_grow0 (unhide B0w) s0w gA8 (fun x e => ((unhide H5).rowA.lt x e).1); have s08 := (unhide B8).size; have HA8 := hide hA8; have GA8 := hide gA8; have AT8 := hide at8; clear hA8 gA8 at8) | (at_builtin; clear GO2; refine wpList_append_own_at _ rfl _ _ 27 rfl W.heap.size 28 i2 (.slice none 0 0) 1 24 Tryd.underlying27 hi2 hq0 hq1 hq2 rfl (by decide) _ _ _ rfl ((unhide R8).alloc _) ⟨w8.heap.size, 0, none⟩ 1 1 [(.slice none 0 0)] rfl rfl (cell_one_new _ _ _) (by simp [Value.oneCell']) (unhide O3) (unhide O4) (by rw [World.size_alloc]; omega) ?_; intro v9 w9 hR9 gH9 d9 at9; clear d9; obtain ⟨g9, c9, e9⟩ := ownsRow_shape hR9; subst e9; have HP9 := hide ((unhide HSTs).push s0s (unhide Hb5) (Nat.le_refl _) (unhide HH5) (bytes_nil _ _) (fun k e => by cases e) (unhide HA8) (unhide GA8) (unhide AT8) hR9 gH9 at9); have B9 : Hid (Below W.heap.size W w9) := below_grow0 (unhide B8) s08 gH9 (fun x e => ((unhide R8).lt x e).1); clear hR9 gH9 at9))
              have el : us.length + 1 = (hs ++ [ws.heap.size]).length := by rw [List.length_append, (unhide HSTs).lenU]; rfl
              have el2 : hs.length + 1 = (hs ++ [ws.heap.size]).length := by rw [List.length_append]; rfl
              have hlen1 : 1 ≤ (hs ++ [ws.heap.size]).length := by omega
              have hlen2 : (hs ++ [ws.heap.size]).length ≤ 64 := by omega
              have E1 := hide el
              have E2 := hide el2
              clear el el2
              go_roundg (ts.length - (i + 1))
              case measure => have := unhide Hgk; omega
              case rel => exact ⟨i + 1, g8, c8, g9, c9, hs ++ [ws.heap.size], us ++ [.slice none 0 0], Ls ++ [[]], by rw [unhide E2], by rw [← unhide E1], by go_num, rfl, by omega, hlen1, hlen2, HP9, HF9, B9⟩
          · have q1 : (kind == 1) = false := beq_eq_false_iff_ne.2 t1
            by_cases t4 : kind = 4
            · subst t4
              by_cases h64 : 64 ≤ hs.length
              · have q5 : decide ((64 : Int) ≤ (hs.length : Int)) = true := decide_eq_true (by omega)
                clear h64
                go_wp2
                go_roundg (ts.length - (i + 1))
                case measure => have := unhide Hgk; omega
                case rel => exact ⟨i + 1, ga, ca, gh, ch, hs, us, Ls, rfl, rfl, by go_num, rfl, by omega, hl1, hl64, HSTs, HF1, Hbs⟩
              · have q5 : decide ((64 : Int) ≤ (hs.length : Int)) = false := decide_eq_false (by omega)
                have hfk := fork_any (unhide HHs)
                go_wp2_with fail
                refine hfk.mono ?_
                rintro e w5 ⟨rfl, hH5, hb5⟩
                clear hfk
                have H5 := hide ((unhide HSTs).up hb5)
                have Hb5 := hide hb5
                have HH5 := hide hH5
                have hl5 := hH5.lt
                have s5 := hb5.size
                have cH5 := (hb5.cell (p := ⟨gh, j, none⟩) ghl).trans cH
                have HBj5 := hide ((unhide HBj).has.up hb5)
                have O0 : Hid (([] : List Nat).length + L.length ≤ 140737488355328) := by show _ ≤ _; simp; omega
                have HF9 : Hid (Fine (sumS (ts.take (i + 1))) (Ls ++ [L])) := (unhide HF1).push (unhide HLb) (by omega)
                have GO0 : True := trivial
                clear hH5 hb5
                have O1 : Hid (hs.length + 1 ≤ maxLen) := by show _ ≤ _; unfold maxLen; omega
                have O2 : Hid ((hs.length + 1) * 8 ≤ 140737488355328) := by show _ ≤ _; omega
                have lU := (unhide HSTs).lenU
                have O3 : Hid (us.length + 1 ≤ maxLen) := by show _ ≤ _; unfold maxLen; omega
                have O4 : Hid ((us.length + 1) * 24 ≤ 140737488355328) := by show _ ≤ _; omega
                have GO1 : True := trivial
                have GO2 : True := trivial
                clear lU
                go_wp2_with (first | (at_builtin; clear GO0; refine wpList_app_bytes rfl _ _ rfl ws.heap.size _ _ rfl (bytes_nil _ _) _ _ rfl (unhide HBj5) (unhide O0) s5 ?_; intro v6 w6 hB6 g6 at6; rw [List.nil_append] at hB6; have b56 : Below w5.heap.size w5 w6 := ⟨g6.os, g6.tape, g6.output, g6.size, fun q hq => g6.block q hq (fun e => by cases e)⟩; have Hbg : Hid (∀ k, v6.ownBlock = some k → k ≠ ws.heap.size) := (fun k e => at6.elim (fun q => by rw [q] at e; cases e) (fun q => by rw [q] at e; have := Option.some.inj e; omega)); obtain ⟨x6, c6, e6⟩ := hB6.shp; subst e6; have H6 := hide ((unhide H5).up b56); have Hs6 : Hid (Below ws.heap.size ws w6) := (unhide Hb5).trans (b56.mono s5); have HH6 := hide ((unhide HH5).keep (b56.block _ hl5)); have HB6 := hide hB6; have B0w : Hid (Below W.heap.size W w6) := (unhide Hbs).trans ((unhide Hs6).mono s0s); have s0w := (unhide B0w).size; clear hB6 g6 at6 b56) | (at_builtin; clear GO1; refine wpList_append_own_at _ rfl _ _ 26 rfl W.heap.size 24 i1 (.pointer none) 1 8 Tryd.underlying26 hi1 hp0 hp1 hp2 rfl (by decide) _ _ _ rfl ((unhide H6).rowA.alloc _) ⟨w6.heap.size, 0, none⟩ 1 1 [.pointer (some ⟨ws.heap.size, 0, none⟩)] rfl rfl (cell_one_new _ _ _) (by simp [Value.oneCell']) (unhide O1) (unhide O2) (by rw [World.size_alloc]; omega) ?_; intro v8 w8 hA8 gA8 d8 at8; clear d8; obtain ⟨g8, c8, e8⟩ := ownsRow_shape hA8; subst e8; have R8 := hide (ownsRow_keep (w := w8) (unhide H6).rowH (fun x e => (gA8.block x (by rw [World.size_alloc]; have := ((unhide H6).rowH.lt x e).2; omega) (fun q => (unhide H6).vv x q.symm e)).trans (Below.heap_alloc w6 _ x ((unhide H6).rowH.lt x e).2))); have B8 : Hid (Below W.heap.size W w8) := below_grow0 (unhide B0w) s0w gA8 (fun x e => ((unhide H6).rowA.lt x e).1); have s08 := (unhide B8).size; have HA8 := hide hA8; have GA8 := hide gA8; have AT8 := hide at8; clear hA8 gA8 at8) | (at_builtin; clear GO2; refine wpList_append_own_at _ rfl _ _ 27 rfl W.heap.size 28 i2 (.slice none 0 0) 1 24 Tryd.underlying27 hi2 hq0 hq1 hq2 rfl (by decide) _ _ _ rfl ((unhide R8).alloc _) ⟨w8.heap.size, 0, none⟩ 1 1 [(.slice x6 L.length c6)] rfl rfl (cell_one_new _ _ _) (by simp [Value.oneCell']) (unhide O3) (unhide O4) (by rw [World.size_alloc]; omega) ?_; intro v9 w9 hR9 gH9 d9 at9; clear d9; obtain ⟨g9, c9, e9⟩ := ownsRow_shape hR9; subst e9; have HP9 := hide ((unhide HSTs).push s0s (unhide Hs6) (Nat.le_refl _) (unhide HH6) (unhide HB6) (unhide Hbg) (unhide HA8) (unhide GA8) (unhide AT8) hR9 gH9 at9); have B9 : Hid (Below W.heap.size W w9) := below_grow0 (unhide B8) s08 gH9 (fun x e => ((unhide R8).lt x e).1); clear hR9 gH9 at9))
                have el : us.length + 1 = (hs ++ [ws.heap.size]).length := by rw [List.length_append, (unhide HSTs).lenU]; rfl
                have el2 : hs.length + 1 = (hs ++ [ws.heap.size]).length := by rw [List.length_append]; rfl
                have hlen1 : 1 ≤ (hs ++ [ws.heap.size]).length := by omega
                have hlen2 : (hs ++ [ws.heap.size]).length ≤ 64 := by omega
                have E1 := hide el
                have E2 := hide el2
                clear el el2
                go_roundg (ts.length - (i + 1))
                case measure => have := unhide Hgk; omega
                case rel => exact ⟨i + 1, g8, c8, g9, c9, hs ++ [ws.heap.size], us ++ [.slice x6 L.length c6], Ls ++ [L], by rw [unhide E2], by rw [← unhide E1], by go_num, rfl, by omega, hlen1, hlen2, HP9, HF9, B9⟩
            · have q4 : (kind == 4) = false := beq_eq_false_iff_ne.2 t4
              by_cases t2 : kind = 2
              · subst t2
                have hro := roomy_any ((unhide HBu).up (unhide Hbs)) (by omega)
                go_wp2_with fail
                refine hro.mono ?_
                rintro e w5 ⟨rfl, hR5, hb5⟩
                clear hro
                have b05 := (unhide Hbs).trans (hb5.mono s0s)
                have cA5 := (hb5.cell (p := ⟨ga, j, none⟩) gal).trans cA
                have hadd := add_any (hK.up b05) ((unhide HHs).keep (hb5.block g gl)) (by have := hK.1; omega) (hR5.has (by omega)) (fun g' off' n' c' e' _ => by
                  injection e' with e1 _ _
                  injection e1 with e1
                  injection e1 with e1
                  omega) (unhide Hwf3) (by omega)
                have HR5 := hide hR5
                have Hb5 := hide hb5
                have B05 := hide b05
                have l5 := hR5.lt
                clear hR5 hb5 b05
                go_wp2_with fail
                refine hadd.mono ?_
                rintro e w6 ⟨rfl, hH6, hO6⟩
                clear hadd cA5
                have hR6 : Room w6 ws.heap.size data := (hO6.far _ l5 (by omega)).trans (unhide HR5)
                have b06 : Below W.heap.size W w6 := (unhide B05).trans ⟨hO6.os, hO6.tape, hO6.output, hO6.size, fun k hk => hO6.far k (by have := (unhide Hb5).size; omega) (by omega)⟩
                have far6 : ∀ x, x < ws.heap.size → x ≠ g → w6.heap[x]? = ws.heap[x]? := fun x hx hn => (hO6.far x (by omega) hn).trans ((unhide Hb5).block x hx)
                have c26 := (unhide Hcell w6 (far6 _ sbl (by omega))).2
                have hkp := kept_any hR6 ((unhide HBu).up b06) (unhide Hwf3) (by omega)
                have HR6 := hide hR6.rowAt
                have l6 := hR6.lt
                have Far6 := hide far6
                have HH6 := hide hH6
                have hg6 := hH6.lt
                have B06 := hide b06
                clear hR6 hO6 b06 far6 hH6 HR5 Hb5 B05
                go_wp2_with fail
                refine hkp.mono ?_
                rintro e w7 ⟨rfl, hb7⟩
                clear hkp
                have HR7 : Hid (RowAt w7 ws.heap.size data.length) := (unhide HR6).up (hb7.block _ l6)
                have Far7 : Hid (∀ x, x < ws.heap.size → x ≠ g → w7.heap[x]? = ws.heap[x]?) := fun x hx hn => (hb7.block x (by omega)).trans (unhide Far6 x hx hn)
                have HH7 := hide ((unhide HH6).keep (hb7.block g hg6))
                have B07 : Hid (Below W.heap.size W w7) := (unhide B06).trans (hb7.mono (unhide B06).size)
                have s7 : ws.heap.size ≤ w7.heap.size := by have := hb7.size; omega
                clear HR6 Far6 HH6 B06 hb7 c26
                go_wp2
                go_loopg [12] data.length (fun gk v12 wq => ∃ (k : Nat), v12 = .int .i64 (k : Int) ∧ gk = data.length - k ∧ k ≤ data.length ∧ Hid (RowAt wq ws.heap.size data.length) ∧ Hid (Below ws.heap.size w7 wq))
                case atStart => exact ⟨0, rfl, rfl, by omega, HR7, ⟨rfl, rfl, rfl, Nat.le_refl _, fun _ _ => rfl⟩⟩
                case round =>
                  clear HR7
                  obtain ⟨k, rfl, hgk2, hk, HR, HBq⟩ := hrel
                  have Hgk2 := hide hgk2
                  clear hgk2
                  by_cases hkl : k < data.length
                  · have fz := (unhide HR).frozen k
                    obtain ⟨z, cz⟩ := (unhide HR).cell hkl
                    have HR2 := hide ((unhide HR).set k (.int .u8 3))
                    have HB2 : Hid (Below ws.heap.size w7 (wr.setCell ⟨ws.heap.size, k, none⟩ (.int .u8 3))) := below_set (unhide HBq) (Nat.le_refl _) k _
                    have k0' : (0 : Int) ≤ (k : Int) := Int.natCast_nonneg _
                    have k1' : (k : Int) < (data.length : Int) := by omega
                    go_wp2
                    go_roundg (data.length - (k + 1))
                    case measure => have := unhide Hgk2; omega
                    case rel => exact ⟨k + 1, by go_num, rfl, by omega, HR2, HB2⟩
                  · have hkD : ¬ (k : Int) < (data.length : Int) := by omega
                    obtain ⟨w8, hw8⟩ : ∃ x, x = wr := ⟨wr, rfl⟩
                    subst hw8
                    have far8 : ∀ x, x < ws.heap.size → x ≠ g → w8.heap[x]? = ws.heap[x]? := fun x hx hn => ((unhide HBq).block x hx).trans (unhide Far7 x hx hn)
                    have hH8 := (unhide HH7).keep ((unhide HBq).block g gl)
                    have hMb := byt_app (unhide HLb) (unhide Hwf3)
                    have hMl : (L ++ data).length ≤ sumS (ts.take (i + 1)) := by rw [List.length_append]; omega
                    obtain ⟨M, hM⟩ : ∃ M, L ++ data = M := ⟨_, rfl⟩
                    rw [hM] at hH8 hMb hMl
                    have HM := hide hM
                    clear hM
                    have B08 : Hid (Below W.heap.size W w8) := (unhide B07).trans ((unhide HBq).mono s0s)
                    have s08 := (unhide B08).size
                    have hst8 := (unhide HSTs).hashSet (unhide Hg) far8 hH8
                    have H8 := hide hst8
                    have hB8 := hst8.list j _ L (unhide Huj) (unhide HL)
                    have c28 := (unhide Hcell w8 (far8 _ sbl (by omega))).2
                    have cH8 := hst8.cellH rfl (unhide Huj)
                    have HB8 := hide hB8
                    have hbu8 := (unhide HBu).up (unhide B08)
                    have HBu8 := hide hbu8
                    have gh8 := (hst8.rowH.lt gh rfl).2
                    have fz8 : w8.frozen? ⟨gh, j, none⟩ = false := by
                      obtain ⟨_, ⟨q, _⟩ | ⟨g', cap, cur, e1, _, hg', _⟩⟩ := id hst8.rowH
                      · cases q
                      · injection e1 with e1 _ _
                        injection e1 with e1
                        injection e1 with e1
                        subst e1
                        exact row_frozen j hg'
                    have O5 : Hid (L.length + data.length ≤ 140737488355328) := by show _ ≤ _; omega
                    have HF8 : Hid (Fine (sumS (ts.take (i + 1))) (Ls.set j M)) := (unhide HF1).set j hMb hMl
                    clear far8 hH8 hst8 hB8 hbu8 HR HBq Far7 HH7 B07 hMb hMl
                    have lU8 := (unhide H8).lenU
                    have uvl : ∀ b, (Value.slice xj L.length cj).ownBlock = some b → b ≠ gh := fun b e q => ((unhide H8).ua _ (List.mem_of_getElem? (unhide Huj)) b e).2.2 (by rw [q]; rfl)
                    have Uvl := hide uvl
                    have HlU := hide lU8
                    have rowg : ∃ cur, w8.heap[gh]? = some (.cells cur 28 (0, 0)) := by
                      obtain ⟨_, ⟨q, _⟩ | ⟨g', cap, cur, e1, _, hg', _⟩⟩ := id (unhide H8).rowH
                      · cases q
                      · injection e1 with e1 _ _
                        injection e1 with e1
                        injection e1 with e1
                        subst e1
                        exact ⟨cur, hg'⟩
                    have Rowg := hide rowg
                    clear uvl lU8 rowg
                    go_upto_region 38 with fail
                    go_region_law (refine step_app_bytes rfl _ _ rfl W.heap.size (.slice xj L.length cj) L rfl (unhide HB8) (.slice ua data.length uc) data rfl (unhide HBu8) (unhide O5) s08 ?_; intro v9 w9 hB9 gr9a at9a; rw [unhide HM] at hB9; have gr9 : w8.grownBy w9 (Value.slice xj L.length cj).ownBlock := ⟨gr9a.os, gr9a.tape, gr9a.output, gr9a.size, fun b hb hn => gr9a.block b hb hn⟩; have at9 : v9.ownBlock = (Value.slice xj L.length cj).ownBlock ∨ v9.ownBlock = some w8.heap.size := at9a; have rg9 : w9.heap[gh]? = w8.heap[gh]? := gr9.block gh gh8 (fun e => unhide Uvl gh e.symm rfl); have fz9 : w9.frozen? ⟨gh, j, none⟩ = false := (by obtain ⟨cur, hc⟩ := unhide Rowg; exact row_frozen j (rg9.trans hc)); have cz9 : w9.cell? ⟨gh, j, none⟩ = some (.slice xj L.length cj) := (by obtain ⟨cur, hc⟩ := unhide Rowg; rw [cell_of_row _ _ _ _ _ _ (rg9.trans hc), ← cell_of_row _ _ _ _ _ _ hc]; exact cH8); have B9 : Hid (Below W.heap.size W (w9.setCell ⟨gh, j, none⟩ v9)) := below_set ((unhide B08).trans ⟨gr9.os, gr9.tape, gr9.output, gr9.size, fun q hq => gr9.block q (by omega) (fun e => by have := ((unhide HB8).lt q e.symm).1; omega)⟩) ghB j v9; have HP := hide ((unhide H8).listSet (unhide HlU).symm (unhide Huj) hB9 gr9 at9); obtain ⟨x9, c9, e9⟩ := hB9.shp; subst e9; clear hB9 gr9 at9 rg9 gr9a at9a)
                    all_goals go_wp2
                    all_goals
                      go_roundg (ts.length - (i + 1))
                      case measure => have := unhide Hgk; omega
                      case rel => exact ⟨i + 1, ga, ca, gh, ch, hs, _, Ls.set j M, rfl, rfl, by go_num, rfl, by omega, hl1, hl64, HP, HF8, B9⟩
              · have q2 : (kind == 2) = false := beq_eq_false_iff_ne.2 t2
                go_wp2
                go_roundg (ts.length - (i + 1))
                case measure => have := unhide Hgk; omega
                case rel => exact ⟨i + 1, ga, ca, gh, ch, hs, us, Ls, rfl, rfl, by go_num, rfl, by omega, hl1, hl64, HSTs, HF1, Hbs⟩
    · obtain rfl : i = ts.length := by omega
      have hF := unhide HF
      have hN := sumS_take_le ts ts.length
      have hst := unhide HST
      have gal := (hst.rowA.lt ga rfl).2
      have ghl := (hst.rowH.lt gh rfl).2
      have hF2 : ∀ L ∈ Ls, Byt L ∧ L.length ≤ 1048576 := fun L hL => ⟨(hF L hL).1, Nat.le_trans (hF L hL).2 (by omega)⟩
      have HF2 := hide hF2
      clear hF hF2 hst
      go_wp2
      go_loopg [15] hs.length (fun gk v15 wq => ∃ (k : Nat), v15 = .int .i64 (k : Int) ∧ gk = hs.length - k ∧ k ≤ hs.length ∧ Hid (Below wo.heap.size wo wq))
      case atStart => exact ⟨0, rfl, rfl, by omega, Below.refl _ _⟩
      case round =>
        obtain ⟨k, rfl, hgk2, hk, HBq⟩ := hrel
        have Hgk2 := hide hgk2
        clear hgk2
        have bq0 := hbr.trans ((unhide HBq).mono hsr)
        have hst := (unhide HST).up (unhide HBq)
        by_cases hkl : k < hs.length
        · obtain ⟨g, hg⟩ : ∃ x, hs[k]? = some x := ⟨_, List.getElem?_eq_getElem hkl⟩
          obtain ⟨L, hL⟩ : ∃ x, Ls[k]? = some x := ⟨_, List.getElem?_eq_getElem (by rw [hst.lenL]; exact hkl)⟩
          obtain ⟨uj, huj⟩ : ∃ x, us[k]? = some x := ⟨_, List.getElem?_eq_getElem (by rw [hst.lenU]; exact hkl)⟩
          have hBj := hst.list k uj L huj hL
          obtain ⟨xj, cj, ej⟩ := hBj.shp
          subst ej
          have cA := hst.cellA rfl hg
          have cH := hst.cellH rfl huj
          obtain ⟨Lb, Ln⟩ := unhide HF2 L (List.mem_of_getElem? hL)
          have hsum := hsum_any (hK.up bq0) (hst.hash k g L hg hL) (by omega)
          have HBj := hide hBj.has
          have ghq : gh < wr.heap.size := Nat.lt_of_lt_of_le ghl (unhide HBq).size
          have k0' : (0 : Int) ≤ (k : Int) := Int.natCast_nonneg _
          have k1' : (k : Int) < (hs.length : Int) := by omega
          have Bq0 := hide bq0
          clear hBj hst hg hL huj bq0
          go_wp2_with fail
          refine hsum.mono ?_
          rintro e w5 ⟨v5, rfl, hB5, hb5⟩
          clear hsum
          obtain ⟨x5, c5, e5⟩ := hB5.shp
          subst e5
          have b05 := (unhide Bq0).trans (hb5.mono (unhide Bq0).size)
          have cH5 := (hb5.cell (p := ⟨gh, k, none⟩) ghq).trans cH
          have hx := xsum_any (hX.up b05) ((unhide HBj).up hb5) Lb (by omega)
          have HB5 := hide hB5.has
          have Hq5 : Hid (Below wo.heap.size wo w5) := (unhide HBq).trans (hb5.mono (unhide HBq).size)
          clear hB5 b05 hb5
          go_wp2_with fail
          refine hx.mono ?_
          rintro e w6 ⟨v6, rfl, hB6, hb6⟩
          clear hx
          obtain ⟨x6, c6, e6⟩ := hB6.shp
          subst e6
          have hB56 := (unhide HB5).up hb6
          have Hq6 : Hid (Below wo.heap.size wo w6) := (unhide Hq5).trans (hb6.mono (unhide Hq5).size)
          have hsb := sha_byt L
          have hH6 := hB6.has
          clear hB6 hb6 HB5 Hq5 cH5
          go_wp2_with fail
          refine (same_any hB56 hH6 hsb hsb).mono ?_
          rintro e w' ⟨rfl, he⟩
          obtain rfl : w6 = w' := he.symm
          clear he hB56 hH6 hsb
          rw [show decide (sha L = sha L) = true by simp]
          go_wp2
          go_roundg (hs.length - (k + 1))
          case measure => have := unhide Hgk2; omega
          case rel => exact ⟨k + 1, by go_num, rfl, by omega, Hq6⟩
        · have hkD : ¬ (k : Int) < (hs.length : Int) := by omega
          have Bq0 := hide bq0
          clear bq0 hst
          go_wp2
          go_ret
          exact ⟨rfl, unhide Bq0⟩
end Go.Proofs.YtoojchjfmnbdpabDoor
