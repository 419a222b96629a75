import Derived.Test.YtlblllghgdfpoaaDoorJ23
import Derived.Test.YtlblllghgdfpoaaDoorJ14

namespace Go.Proofs.YtlblllghgdfpoaaDoor
open Go.RowKit
attribute [local go_sem ↓] Go.wp_at_zero Go.wp_at_succ

/-- Words as the reference's ints. -/
def ni (l : List Nat) : List Value := l.map fun (b : Nat) => .int .i64 (b : Int)
theorem ni_at (l : List Nat) (i : Nat) : (ni l)[i]? = l[i]?.map fun (b : Nat) => .int .i64 (b : Int) := by simp [ni]
@[simp] theorem ni_len (l : List Nat) : (ni l).length = l.length := by simp [ni]
theorem ni_one (l : List Nat) : (ni l).toArray.all (·.oneCell') = true := all_oneCell_toArray fun v hv => by
  obtain ⟨b, _, rfl⟩ := List.mem_map.1 hv
  rfl
/-- An array of ints that is a block. -/
def ArrI (W : World) (b : Nat) (t : TypeId) (l : List Nat) : Prop := W.heap[b]? = some (.cells (ni l).toArray t (0, 0))
theorem ArrI.cell {W : World} {b : Nat} {t : TypeId} {l : List Nat} (h : ArrI W b t l) {i x : Nat} (hx : l[i]? = some x) : W.cell? ⟨b, i, none⟩ = some (.int .i64 (x : Int)) := by
  rw [cell_of_row _ _ _ _ _ _ h, List.getElem?_toArray, ni_at, hx]
  rfl
theorem ArrI.frozen {W : World} {b : Nat} {t : TypeId} {l : List Nat} (h : ArrI W b t l) (i : Nat) : W.frozen? ⟨b, i, none⟩ = false := by
  unfold World.frozen?
  rw [h]
  simp
theorem ArrI.set {W : World} {b : Nat} {t : TypeId} {l : List Nat} (h : ArrI W b t l) (i x : Nat) : ArrI (W.setCell ⟨b, i, none⟩ (.int .i64 (x : Int))) b t (l.set i x) := by
  unfold ArrI
  rw [heap_setCell_same _ b i _ t _ h]
  congr 2
  simp [ni, List.map_set]
theorem ArrI.same {A B : World} {b : Nat} {t : TypeId} {l : List Nat} (h : ArrI A b t l) (hb : B.heap[b]? = A.heap[b]?) : ArrI B b t l := hb.trans h
theorem ArrI.up {A B : World} {b n : Nat} {t : TypeId} {l : List Nat} (h : ArrI A b t l) (hb : Below n A B) (hn : b < n) : ArrI B b t l := h.same (hb.block b hn)
theorem set_fill0 (L : List Nat) (i x k : Nat) (hi : i < L.length) : (L ++ List.replicate k 0).set i x = L.set i x ++ List.replicate k 0 := by
  rw [List.set_append, if_pos hi]

theorem zi64_eq : (ni (List.replicate 64 0)).toArray = #[.int .i64 0, .int .i64 0, .int .i64 0, .int .i64 0, .int .i64 0, .int .i64 0, .int .i64 0, .int .i64 0, .int .i64 0, .int .i64 0, .int .i64 0, .int .i64 0, .int .i64 0, .int .i64 0, .int .i64 0, .int .i64 0, .int .i64 0, .int .i64 0, .int .i64 0, .int .i64 0, .int .i64 0, .int .i64 0, .int .i64 0, .int .i64 0, .int .i64 0, .int .i64 0, .int .i64 0, .int .i64 0, .int .i64 0, .int .i64 0, .int .i64 0, .int .i64 0, .int .i64 0, .int .i64 0, .int .i64 0, .int .i64 0, .int .i64 0, .int .i64 0, .int .i64 0, .int .i64 0, .int .i64 0, .int .i64 0, .int .i64 0, .int .i64 0, .int .i64 0, .int .i64 0, .int .i64 0, .int .i64 0, .int .i64 0, .int .i64 0, .int .i64 0, .int .i64 0, .int .i64 0, .int .i64 0, .int .i64 0, .int .i64 0, .int .i64 0, .int .i64 0, .int .i64 0, .int .i64 0, .int .i64 0, .int .i64 0, .int .i64 0, .int .i64 0] := by rfl
set_option maxRecDepth 100000 in
set_option maxHeartbeats 4000000 in
theorem xwords_any {W : World} {v : Value} {l : List Nat} (h : HasB W v l) (hl : Byt l) (at_ : Nat) (ha : at_ + 64 ≤ l.length) (hn : l.length ≤ 140737488355328) :
    Calls Tryd.prog 55 #[v, .int .i64 (at_ : Int)] W fun e W' => e = .returned (.agg (ni (ext 48 (wordsL 16 ((l.drop at_).take 64)))).toArray) ∧ Below W.heap.size W W' := by
  have hif : (Tryd.prog.info? 77).map (·.size) = some 64 := by kernel_rfl
  obtain ⟨a, c, rfl, hm, h3⟩ := h
  obtain ⟨g, off, rfl, hg, hc⟩ := h3 (by omega)
  obtain ⟨seg, hseg⟩ : ∃ seg, (l.drop at_).take 64 = seg := ⟨_, rfl⟩
  have hsl : seg.length = 64 := by rw [← hseg, List.length_take, List.length_drop]; omega
  have hsB : Byt seg := by rw [← hseg]; exact fun y hy => hl y (List.mem_of_mem_drop (List.mem_of_mem_take hy))
  have hsc : ∀ (i b : Nat), seg[i]? = some b → W.cell? ⟨g, off + (at_ + i), none⟩ = some (.int .u8 (b : Int)) := fun i b hb => hc _ _ (by
    rw [← hseg, List.getElem?_take] at hb
    split at hb
    · rwa [List.getElem?_drop] at hb
    · cases hb)
  rw [hseg]
  have Hc := hide hsc
  clear h3 hm hc hsc hseg hl
  go_enter Tryd.func55, Tryd.ntmps55
  go_wp2
  obtain ⟨W3, hW3⟩ : ∃ w, w = (W.alloc (.cells #[.int .i64 0, .int .i64 0, .int .i64 0, .int .i64 0, .int .i64 0, .int .i64 0, .int .i64 0, .int .i64 0, .int .i64 0, .int .i64 0, .int .i64 0, .int .i64 0, .int .i64 0, .int .i64 0, .int .i64 0, .int .i64 0, .int .i64 0, .int .i64 0, .int .i64 0, .int .i64 0, .int .i64 0, .int .i64 0, .int .i64 0, .int .i64 0, .int .i64 0, .int .i64 0, .int .i64 0, .int .i64 0, .int .i64 0, .int .i64 0, .int .i64 0, .int .i64 0, .int .i64 0, .int .i64 0, .int .i64 0, .int .i64 0, .int .i64 0, .int .i64 0, .int .i64 0, .int .i64 0, .int .i64 0, .int .i64 0, .int .i64 0, .int .i64 0, .int .i64 0, .int .i64 0, .int .i64 0, .int .i64 0, .int .i64 0, .int .i64 0, .int .i64 0, .int .i64 0, .int .i64 0, .int .i64 0, .int .i64 0, .int .i64 0, .int .i64 0, .int .i64 0, .int .i64 0, .int .i64 0, .int .i64 0, .int .i64 0, .int .i64 0, .int .i64 0] 77)).alloc (.cells #[.int .i64 0, .int .i64 0, .int .i64 0, .int .i64 0, .int .i64 0, .int .i64 0, .int .i64 0, .int .i64 0, .int .i64 0, .int .i64 0, .int .i64 0, .int .i64 0, .int .i64 0, .int .i64 0, .int .i64 0, .int .i64 0, .int .i64 0, .int .i64 0, .int .i64 0, .int .i64 0, .int .i64 0, .int .i64 0, .int .i64 0, .int .i64 0, .int .i64 0, .int .i64 0, .int .i64 0, .int .i64 0, .int .i64 0, .int .i64 0, .int .i64 0, .int .i64 0, .int .i64 0, .int .i64 0, .int .i64 0, .int .i64 0, .int .i64 0, .int .i64 0, .int .i64 0, .int .i64 0, .int .i64 0, .int .i64 0, .int .i64 0, .int .i64 0, .int .i64 0, .int .i64 0, .int .i64 0, .int .i64 0, .int .i64 0, .int .i64 0, .int .i64 0, .int .i64 0, .int .i64 0, .int .i64 0, .int .i64 0, .int .i64 0, .int .i64 0, .int .i64 0, .int .i64 0, .int .i64 0, .int .i64 0, .int .i64 0, .int .i64 0, .int .i64 0] 77) := ⟨_, rfl⟩
  rw [← hW3]
  have hb3 : Below W.heap.size W W3 := by rw [hW3]; exact ((Below.refl _ _).alloc (Nat.le_refl _) _).alloc (by simp) _
  have t1 : ArrI W3 W.heap.size 77 (List.replicate 64 0) := by
    unfold ArrI
    rw [hW3, zi64_eq, Below.heap_alloc _ _ _ (by simp)]
    exact heap_new _ _
  have t2 : ArrI W3 (W.heap.size + 1) 77 (wordsL 16 (seg.take 0) ++ List.replicate 48 0) := by
    unfold ArrI
    rw [hW3]
    exact (heap_alloc2_new _ _ _).trans (by rw [← zi64_eq]; rfl)
  have hs3 : W.heap.size + 2 ≤ W3.heap.size := by rw [hW3]; simp
  clear hW3
  go_loopg [6] 16 (fun gk v6 wr => ∃ (t : Nat), v6 = .int .i64 (t : Int) ∧ gk = 16 - t ∧ t ≤ 16 ∧ ArrI wr (W.heap.size + 1) 77 (wordsL 16 (seg.take (4 * t)) ++ List.replicate 48 0) ∧ ArrI wr W.heap.size 77 (List.replicate 64 0) ∧ Below W.heap.size W wr)
  case atStart => exact ⟨0, rfl, rfl, by omega, t2, t1, hb3⟩
  case round =>
    clear t1 t2 hb3 hs3
    obtain ⟨t, rfl, hgk, hk, hR, hR1, hBe⟩ := hrel
    have Hgk := hide hgk
    have HR := hide hR
    have HR1 := hide hR1
    clear hgk hR hR1
    by_cases hlt : t < 16
    · have hs : Hid (ArrI wr (W.heap.size + 1) 77 (wordsL 16 (seg.take (4 * t + 0)) ++ List.replicate 48 0)) := HR
      have ht' : (t : Int) < 16 := by omega
      have t0' : (0 : Int) ≤ (t : Int) := Int.natCast_nonneg _
      go_wp2
      go_loopg [7] 4 (fun gk v7 wr => ∃ (i : Nat), v7 = .int .i64 (i : Int) ∧ gk = 4 - i ∧ i ≤ 4 ∧ Hid (ArrI wr (W.heap.size + 1) 77 (wordsL 16 (seg.take (4 * t + i)) ++ List.replicate 48 0)) ∧ Hid (ArrI wr W.heap.size 77 (List.replicate 64 0)) ∧ Below W.heap.size W wr)
      case atStart => exact ⟨0, rfl, rfl, by omega, hs, HR1, hBe⟩
      case round =>
        clear hs HR HR1 hBe
        obtain ⟨i, rfl, hgk, hk4, HR, HR1, hBe⟩ := hrel
        have Hgk4 := hide hgk
        clear hgk
        by_cases hlt4 : i < 4
        · obtain ⟨J, hJ⟩ : ∃ J, J = 4 * t + i := ⟨_, rfl⟩
          have hnx' : 4 * t + (i + 1) = J + 1 := by omega
          have Hj := hide hnx'
          rw [← hJ] at HR
          obtain ⟨x, hx⟩ : ∃ x, seg[J]? = some x := ⟨_, List.getElem?_eq_getElem (by omega)⟩
          have hxb := hsB.at hx
          have hbt : (seg.take J).length = J := by rw [List.length_take]; omega
          have hat := wordsL_at 16 (seg.take J) t hlt
          obtain ⟨o, ho⟩ : ∃ o, o = word (((seg.take J).drop (4 * t)).take 4) := ⟨_, rfl⟩
          rw [← ho] at hat
          have hol : o < 16777216 := by
            rw [ho]
            have h2 := word_lt (((seg.take J).drop (4 * t)).take 4) (fun y hy => hsB y (List.mem_of_mem_take (List.mem_of_mem_drop (List.mem_of_mem_take hy))))
            refine Nat.lt_of_lt_of_le h2 (Nat.le_trans (Nat.pow_le_pow_right (by decide) (show _ ≤ 3 by rw [List.length_take, List.length_drop, hbt]; omega)) (by decide))
          have hnx : wordsL 16 (seg.take (J + 1)) = (wordsL 16 (seg.take J)).set t (256 * o + x) := by
            rw [List.take_add_one, hx]
            have := wordsL_snoc 16 (seg.take J) x (by omega)
            rw [hbt, show J / 4 = t by omega, List.getD_eq_getElem?_getD, hat] at this
            exact this
          have cw := (unhide HR).cell (i := t) (x := o) (by rw [List.getElem?_append_left (by rw [wordsL_len]; exact hlt)]; exact hat)
          have fw := (unhide HR).frozen t
          have cb := (hBe.cell (p := ⟨g, off + (at_ + J), none⟩) hg).trans (unhide Hc J x hx)
          obtain ⟨P, hP⟩ : ∃ P, P = at_ + J := ⟨_, rfl⟩
          rw [← hP] at cb
          have k1 : (at_ : Int) + 4 * (t : Int) + (i : Int) = (P : Int) := by omega
          have hPl : P < l.length := by omega
          have hst : (wordsL 16 (seg.take J) ++ List.replicate 48 0).set t (256 * o + x) = wordsL 16 (seg.take (J + 1)) ++ List.replicate 48 0 := by rw [set_fill0 _ _ _ _ (by rw [wordsL_len]; exact hlt), hnx]
          have Hst := hide hst
          clear hnx hst hat ho hx hbt hP hnx' hJ
          go_wp2_with fail
          go_region
          all_goals go_wp2
          all_goals go_roundg (4 - (i + 1))
          all_goals first
            | (have := unhide Hgk4; omega)
            | (refine ⟨i + 1, by go_num, rfl, by omega, ?_, ?_, below_drewN (below_set hBe (by omega) _ _) _⟩
               · show ArrI _ _ _ _
                 rw [unhide Hj, ← unhide Hst]
                 exact (unhide HR).set t (256 * o + x)
               · exact (unhide HR1).same (heap_setCell_other _ ⟨W.heap.size + 1, t, none⟩ W.heap.size _ (by simp)))
        · obtain rfl : i = 4 := by omega
          go_wp2
          go_roundg (16 - (t + 1))
          case measure => have := unhide Hgk; omega
          case rel => exact ⟨t + 1, by go_num, rfl, by omega, unhide HR, unhide HR1, hBe⟩
    · obtain rfl : t = 16 := by omega
      have hR := unhide HR
      rw [List.take_of_length_le (by omega)] at hR
      obtain ⟨w16, hw16⟩ : ∃ w, wordsL 16 seg = w := ⟨_, rfl⟩
      have hwl : w16.length = 16 := by rw [← hw16, wordsL_len]
      have hw : W32 w16 := by rw [← hw16]; exact wordsL_w32 16 seg hsB
      have Hw16 := hide hw16
      rw [hw16] at hR
      have g2 : Hid (ArrI wr (W.heap.size + 1) 77 (ext (16 - 16) w16 ++ List.replicate (64 - 16) 0)) := hR
      clear hR HR hw16 hsB Hc Hgk hlt hk
      go_wp2
      go_loopg [8] 48 (fun gk v8 wr => ∃ (i : Nat), v8 = .int .i64 (i : Int) ∧ gk = 64 - i ∧ 16 ≤ i ∧ i ≤ 64 ∧ Hid (ArrI wr (W.heap.size + 1) 77 (ext (i - 16) w16 ++ List.replicate (64 - i) 0)) ∧ Hid (ArrI wr W.heap.size 77 (List.replicate 64 0)) ∧ Below W.heap.size W wr)
      case atStart => exact ⟨16, rfl, rfl, by omega, by omega, g2, HR1, hBe⟩
      case round =>
        clear g2 HR1 hBe
        obtain ⟨i, rfl, hgk, h16, h64, HR, HR1, hB⟩ := hrel
        have Hgk := hide hgk
        clear hgk
        have hR := unhide HR
        have hL : (ext (i - 16) w16).length = i := by rw [ext_len]; omega
        have hLw : W32 (ext (i - 16) w16) := ext_w32 _ _ hw
        have hnext : ext (i + 1 - 16) w16 = ext (i - 16) w16 ++ [nextW (ext (i - 16) w16)] := by rw [show i + 1 - 16 = (i - 16) + 1 by omega, ext_more]
        have Hnext := hide hnext
        have Hlast : Hid (i = 64 → ext (i - 16) w16 = ext 48 w16) := fun e => by rw [e]
        clear hnext
        generalize ext (i - 16) w16 = L at *
        by_cases hlt : i < 64
        · obtain ⟨p, hp⟩ : ∃ p, L[i - 2]? = some p := ⟨_, List.getElem?_eq_getElem (by omega)⟩
          obtain ⟨q, hq⟩ : ∃ p, L[i - 15]? = some p := ⟨_, List.getElem?_eq_getElem (by omega)⟩
          obtain ⟨r7, hr7⟩ : ∃ p, L[i - 7]? = some p := ⟨_, List.getElem?_eq_getElem (by omega)⟩
          obtain ⟨r0, hr0⟩ : ∃ p, L[i - 16]? = some p := ⟨_, List.getElem?_eq_getElem (by omega)⟩
          have hnw := sig_step hL hp hr7 hq hr0
          have lp := hLw p (List.mem_of_getElem? hp)
          have lq := hLw q (List.mem_of_getElem? hq)
          have l7 := hLw r7 (List.mem_of_getElem? hr7)
          have l0 := hLw r0 (List.mem_of_getElem? hr0)
          have cc : ∀ (k x : Nat), L[k]? = some x → wr.cell? ⟨W.heap.size + 1, k, none⟩ = some (.int .i64 (x : Int)) := fun k x hk => hR.cell (by rw [List.getElem?_append_left (List.getElem?_eq_some_iff.1 hk).1]; exact hk)
          have cp := cc _ _ hp
          have cq := cc _ _ hq
          have c7 := cc _ _ hr7
          have c0 := cc _ _ hr0
          have ci : wr.cell? ⟨W.heap.size + 1, i, none⟩ = some (.int .i64 ((0 : Nat) : Int)) := hR.cell (by
            rw [List.getElem?_append_right (by omega), hL, Nat.sub_self, show 64 - i = (64 - (i + 1)) + 1 by omega, List.replicate_succ]
            rfl)
          have fi : wr.frozen? ⟨W.heap.size + 1, i, none⟩ = false := hR.frozen i
          obtain ⟨j2, e2⟩ : ∃ j, j = i - 2 := ⟨_, rfl⟩
          obtain ⟨j15, e15⟩ : ∃ j, j = i - 15 := ⟨_, rfl⟩
          obtain ⟨j7, e7⟩ : ∃ j, j = i - 7 := ⟨_, rfl⟩
          obtain ⟨j16, e16⟩ : ∃ j, j = i - 16 := ⟨_, rfl⟩
          rw [← e2] at cp
          rw [← e15] at cq
          rw [← e7] at c7
          rw [← e16] at c0
          have k2 : (i : Int) - 2 = (j2 : Int) := by omega
          have k15 : (i : Int) - 15 = (j15 : Int) := by omega
          have k7 : (i : Int) - 7 = (j7 : Int) := by omega
          have k16 : (i : Int) - 16 = (j16 : Int) := by omega
          have m2 : j2 < 64 := by omega
          have m15 : j15 < 64 := by omega
          have m7 : j7 < 64 := by omega
          have m16 : j16 < 64 := by omega
          have hR17 := rotr_lt p 17
          have hR19 := rotr_lt p 19
          have hR7 := rotr_lt q 7
          have hR18 := rotr_lt q 18
          have x1 : bits .xor .i64 ((rotr p 17 : Nat) : Int) ((rotr p 19 : Nat) : Int) = ((rotr p 17 ^^^ rotr p 19 : Nat) : Int) := i64_xor_nat _ _ (by omega) (by omega)
          have y1l := xor_lt32 hR17 hR19
          have y2l := xor_lt32 hR7 hR18
          have x2 : bits .xor .i64 ((rotr p 17 ^^^ rotr p 19 : Nat) : Int) ((p : Int) / 1024) = ((sig1 p : Nat) : Int) := by
            rw [show (p : Int) / 1024 = ((p / 1024 : Nat) : Int) by omega]
            exact i64_xor_nat _ _ (by omega) (by omega)
          have x3 : bits .xor .i64 ((rotr q 7 : Nat) : Int) ((rotr q 18 : Nat) : Int) = ((rotr q 7 ^^^ rotr q 18 : Nat) : Int) := i64_xor_nat _ _ (by omega) (by omega)
          have x4 : bits .xor .i64 ((rotr q 7 ^^^ rotr q 18 : Nat) : Int) ((q : Int) / 8) = ((sig0 q : Nat) : Int) := by
            rw [show (q : Int) / 8 = ((q / 8 : Nat) : Int) by omega]
            exact i64_xor_nat _ _ (by omega) (by omega)
          have s1l : sig1 p < 4294967296 := xor_lt32 y1l (by omega)
          have s0l : sig0 q < 4294967296 := xor_lt32 y2l (by omega)
          generalize rotr p 17 ^^^ rotr p 19 = y1 at *
          generalize rotr q 7 ^^^ rotr q 18 = y2 at *
          obtain ⟨S1, hS1⟩ : ∃ n, sig1 p = n := ⟨_, rfl⟩
          obtain ⟨S0, hS0⟩ : ∃ n, sig0 q = n := ⟨_, rfl⟩
          rw [hS1] at hnw x2 s1l
          rw [hS0] at hnw x4 s0l
          have x5 : bits .and .i64 ((S1 : Int) + (r7 : Int) + (S0 : Int) + (r0 : Int)) 4294967295 = ((nextW L : Nat) : Int) := by
            rw [show (S1 : Int) + (r7 : Int) + (S0 : Int) + (r0 : Int) = ((S1 + r7 + S0 + r0 : Nat) : Int) by omega, show (4294967295 : Int) = ((4294967295 : Nat) : Int) from rfl, i64_and_nat _ _ (by omega) (by decide), mask32, hnw]
          have hi' : (i : Int) < 64 := by omega
          have HL := hide hL
          clear hp hq hr7 hr0 hnw cc e2 e15 e7 e16 hR hL hS1 hS0 hLw y1l y2l
          go_wp2_with fail
          refine (xturned_7 _ q lq).mono ?_
          rintro o w' ⟨rfl, m1, rfl⟩
          go_wp2_with fail
          refine (xturned_18 _ q lq).mono ?_
          rintro o w' ⟨rfl, m2', rfl⟩
          go_wp2_with fail
          refine (xturned_17 _ p lp).mono ?_
          rintro o w' ⟨rfl, m3, rfl⟩
          go_wp2_with fail
          refine (xturned_19 _ p lp).mono ?_
          rintro o w' ⟨rfl, m4, rfl⟩
          go_wp2_with fail
          obtain ⟨W1, hW1⟩ : ∃ w1, w1 = wr.drewN (m1 + m2' + m3 + m4) := ⟨_, rfl⟩
          rw [← hW1]
          have c7' : W1.cell? ⟨W.heap.size + 1, j7, none⟩ = some (.int .i64 (r7 : Int)) := by rw [hW1]; exact c7
          have c0' : W1.cell? ⟨W.heap.size + 1, j16, none⟩ = some (.int .i64 (r0 : Int)) := by rw [hW1]; exact c0
          have ci' : W1.cell? ⟨W.heap.size + 1, i, none⟩ = some (.int .i64 ((0 : Nat) : Int)) := by rw [hW1]; exact ci
          have fi' : W1.frozen? ⟨W.heap.size + 1, i, none⟩ = false := by rw [hW1]; exact fi
          have HR' : Hid (ArrI W1 (W.heap.size + 1) 77 (L ++ List.replicate (64 - i) 0)) := by rw [hW1]; exact HR
          have HR1' : Hid (ArrI W1 W.heap.size 77 (List.replicate 64 0)) := by rw [hW1]; exact HR1
          have hB1 : Below W.heap.size W W1 := by rw [hW1]; exact below_drewN hB _
          clear c7 c0 ci fi cp cq HR HR1 hB hW1
          go_region
          all_goals go_wp2
          all_goals go_roundg (64 - (i + 1))
          all_goals first
            | (have := unhide Hgk; omega)
            | (refine ⟨i + 1, by go_num, rfl, by omega, by omega, ?_, ?_, below_drewN (below_set hB1 (by omega) _ _) _⟩
               · have e := (unhide HR').set i (nextW L)
                 rw [set_fill L i _ (unhide HL) hlt, ← unhide Hnext] at e
                 exact e
               · exact (unhide HR1').same (heap_setCell_other W1 ⟨W.heap.size + 1, i, none⟩ W.heap.size _ (by simp)))
        · obtain rfl : i = 64 := by omega
          have hR' : ArrI wr (W.heap.size + 1) 77 (ext 48 w16) := by rw [unhide Hlast rfl] at hR; simpa using hR
          have hCl : (ext 48 w16).length = 64 := by rw [ext_len, hwl]
          obtain ⟨C, hC⟩ : ∃ C, (ni (ext 48 w16)).toArray = C := ⟨_, rfl⟩
          have hCs : C.size = 64 := by rw [← hC]; simp [hCl]
          have hC1 : C.all (·.oneCell') = true := by rw [← hC]; exact ni_one _
          have hR1 := unhide HR1
          unfold ArrI at hR' hR1
          rw [hC] at hR'
          have HC := hide hC
          have hifC : (Tryd.prog.info? 77).map (·.size) = some C.size := by rw [hCs]; exact hif
          have hold : (ni (List.replicate 64 0)).toArray.size = C.size := by rw [hCs]; simp
          clear hR hCl hC Hnext Hlast hLw hL HR HR1
          go_wp2_with (first
            | (refine wpList_load_row rfl 77 (.tmp 5) rfl (W.heap.size + 1) rfl 77 C (0, 0) _ hR' Tryd.underlying77 rfl hifC ?_)
            | (refine wpList_store_row rfl 77 (.tmp 4) (.tmp 82) rfl W.heap.size C rfl rfl 77 _ hR1 hifC hold hC1 ?_))
          refine bodyPost_ret (results_cell_row rfl _ _ W.heap.size 77 C (0, 0) _ rfl (setRow_heap wr _ _ _ _ _ hR1) Tryd.underlying77 rfl hifC) rfl ?_
          rw [unhide Hw16, unhide HC]
          exact ⟨rfl, below_setRow hB (by omega) _⟩
end Go.Proofs.YtlblllghgdfpoaaDoor
