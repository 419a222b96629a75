import Derived.Test.YtaadpiimcaabkaaGreatDoorYX
import Derived.Test.YtaadpiimcaabkaaGreatDoorJ23

namespace Go.Proofs.YtaadpiimcaabkaaGreatDoor
open Go.RowKit
attribute [local go_sem ↓] Go.wp_at_zero Go.wp_at_succ

def sSp : ByteArray := ⟨#[32]⟩
/-- The line of a field. -/
def fieldL (n : Nat) (d : Fd) : List Nat := lineL n [typeT d, sSp, d.name, sEq, itoaB d.num, sSemi]
/-- Fields in a block that only is read. -/
def Rg (w : World) (u : Value) (g : List Fd) (bb : Nat) : Prop := ∃ h c cur, u = .slice (some ⟨h, 0, none⟩) g.length c ∧ w.heap[h]? = some (.cells cur 42 (0, 0)) ∧ cur.toList.take (g.length * 6) = fldC g ∧ h ≠ bb
theorem Rg.kp {w w' : World} {u : Value} {g : List Fd} {bb : Nat} (h : Rg w u g bb) (hk : Kp bb w w') : Rg w' u g bb := by
  obtain ⟨a, c, cur, h1, h2, h3, h4⟩ := h
  exact ⟨a, c, cur, h1, hk _ _ _ _ h4 h2 (by decide), h3, h4⟩
set_option maxRecDepth 100000 in
set_option maxHeartbeats 2000000 in
theorem members_1 {W w : World} {B bb dd ll qb qp : Nat} {L : List Nat} {n : Nat} (h : Pn W B bb dd L n w) (hP : HasP W) {u : Value} {g : List Fd} (hq : w.heap[qb]? = some (.cells #[u] 43 (0, 0))) (hp : w.heap[qp]? = some (.cells (penV bb dd ll) 89 (0, 0))) (hpb : qp ≠ bb) (hg : Rg w u g bb)
    (hgl : g.length ≤ 4096) (hg2 : ∀ d ∈ g, (0 ≤ d.num ∧ d.num ≤ 2147483647) ∧ d.key.size ≤ 255 ∧ d.ty.size ≤ 255) (hl : L.length + (g.flatMap (fieldL n)).length ≤ 1099511627776) :
    Calls Tryz.prog 132 #[.pointer (some ⟨qb, 0, none⟩), .pointer (some ⟨qp, 0, none⟩)] w (PnQ W B bb dd (L ++ g.flatMap (fieldL n)) n w) := by
  have q0 : w.cell? ⟨qb, 0, none⟩ = some u := cell_of_row _ _ _ _ _ _ hq
  obtain ⟨gh, gc, cur, rfl, hgb, hgt, hgn⟩ := hg
  have HP0 := hide h
  have HJ0 := hide hp
  have HG0 := hide hgb
  have Hgt := hide hgt
  have Hgn := hide hgn
  have Hpb := hide hpb
  have Hl := hide hl
  have HdB := hide hg2
  have HPu : Hid (∀ w, Below W.heap.size W w → HasP w) := fun w h => hP.up h
  unfold penV fLine fBlock fWhole at HJ0
  clear h hp hgb hgt hgn hpb hl hg2 hP hq
  go_enter Tryz.func132, Tryz.ntmps132
  go_wp2_with fail
  clear q0
  go_loopg [3, 6] g.length (fun gk _ v6 wr => ∃ (i : Nat), v6 = .int .i64 (i : Int) ∧ gk = g.length - i ∧ i ≤ g.length ∧ Hid (Pn W B bb dd (L ++ (g.take i).flatMap (fieldL n)) n wr) ∧ Hid (Kp bb w wr))
  case atStart => exact ⟨0, rfl, rfl, by omega, by rw [List.take_zero, List.flatMap_nil, List.append_nil]; exact HP0, Kp.refl _ _⟩
  case round =>
    obtain ⟨i, rfl, hgk, hi, HP2, HK2⟩ := hrel
    have Hgk := hide hgk
    clear hgk HP0
    by_cases hlt : i < g.length
    · have hr := List.getElem?_eq_getElem hlt
      have hmem := List.getElem_mem hlt
      obtain ⟨r, hrr⟩ : ∃ r, g[i] = r := ⟨_, rfl⟩
      rw [hrr] at hr hmem
      have hG2 := unhide HK2 _ _ _ _ (unhide Hgn) (unhide HG0) (by decide)
      have hJ2 := unhide HK2 _ _ _ _ (unhide Hpb) (unhide HJ0) (by decide)
      have hcc : ∀ j, j < 6 → wr.cell? ⟨gh, i * 6 + j, none⟩ = r.cs[j]? := by
        intro j hj
        rw [cell_of_row _ _ _ _ _ _ hG2, ← Array.getElem?_toList]
        have e1 := fldC_at hr hj
        rw [← unhide Hgt, List.getElem?_take] at e1
        rw [if_pos (by omega)] at e1
        exact e1
      have hfl : (g.take (i + 1)).flatMap (fieldL n) = (g.take i).flatMap (fieldL n) ++ fieldL n r := by
        obtain ⟨hi3, rfl⟩ := List.getElem?_eq_some_iff.1 hr
        rw [List.take_succ_eq_append_getElem hi3, List.flatMap_append]
        simp
      have hll : (L ++ (g.take i).flatMap (fieldL n)).length + (fieldL n r).length ≤ 1099511627776 := by
        have e2 : g.flatMap (fieldL n) = (g.take (i + 1)).flatMap (fieldL n) ++ (g.drop (i + 1)).flatMap (fieldL n) := by rw [← List.flatMap_append, List.take_append_drop]
        have h1 := congrArg List.length e2
        rw [hfl, List.length_append, List.length_append] at h1
        rw [List.length_append]
        have := unhide Hl
        omega
      have hbd := unhide HdB r hmem
      obtain ⟨card, key, ty, nm, num, oneof⟩ := r
      unfold Fd.cs at hcc
      simp only at hbd
      have x0 := hcc 0 (by decide)
      have x1 := hcc 1 (by decide)
      have x2 := hcc 2 (by decide)
      have x3 := hcc 3 (by decide)
      have x4 := hcc 4 (by decide)
      have x5 := hcc 5 (by decide)
      rw [Nat.add_zero] at x0
      simp only [List.getElem?_cons_zero, List.getElem?_cons_succ] at x0 x1 x2 x3 x4 x5
      obtain ⟨-, hn0, hb0⟩ := fd_cells wr card num oneof key ty nm
      obtain ⟨X, hX⟩ : ∃ X, wr.alloc (.cells #[.int .i64 card, .string key, .string ty, .string nm, .int .i64 num, .int .i64 oneof] 42) = X := ⟨_, rfl⟩
      rw [hX] at hn0 hb0
      have hpX := (unhide HP2).below hb0
      have jX := (hb0.block _ (Array.getElem?_eq_some_iff.1 hJ2).1).trans hJ2
      have hT : (fun w' : World => w'.cell? ⟨qp, 0, none⟩ = some (.func (.func 80) #[] #[.pointer (some ⟨bb, 0, none⟩), .pointer (some ⟨dd, 0, none⟩)]) ∧ w'.cell? ⟨wr.heap.size, 0, none⟩ = some (.int .i64 card) ∧ w'.cell? ⟨wr.heap.size, 1, none⟩ = some (.string key) ∧ w'.cell? ⟨wr.heap.size, 2, none⟩ = some (.string ty) ∧ w'.cell? ⟨wr.heap.size, 3, none⟩ = some (.string nm) ∧ w'.cell? ⟨wr.heap.size, 4, none⟩ = some (.int .i64 num) ∧ w'.cell? ⟨wr.heap.size, 5, none⟩ = some (.int .i64 oneof)) X.drew := ⟨cell_of_row _ _ _ _ _ _ (jX), cell_of_row _ _ _ _ _ _ (hn0), cell_of_row _ _ _ _ _ _ (hn0), cell_of_row _ _ _ _ _ _ (hn0), cell_of_row _ _ _ _ _ _ (hn0), cell_of_row _ _ _ _ _ _ (hn0), cell_of_row _ _ _ _ _ _ (hn0)⟩
      have i0 : (0 : Int) ≤ (i : Int) := Int.natCast_nonneg _
      have i1 : (i : Int) < (g.length : Int) := by omega
      have Hlt := hide hlt
      have HJX := hide jX
      have HNX := hide hn0
      have HKX := hide (show Kp bb w X from (unhide HK2).trans (Kp.below hb0))
      have HTy := hide (fun w' => typeText_any (W := w') ⟨card, key, ty, nm, num, oneof⟩ hbd.2.1 hbd.2.2)
      have HIt := hide (fun w' (h : HasP w') => itoa_any h num (by omega) (by omega))
      have Hll := hide hll
      have Hfl := hide hfl
      have Hwr := hide (show wr.heap.size ≠ bb by have := (unhide HP2).bi.lt.2; omega)
      obtain ⟨tt, htt⟩ : ∃ t, typeT ⟨card, key, ty, nm, num, oneof⟩ = t := ⟨_, rfl⟩
      obtain ⟨ti, hti⟩ : ∃ t, itoaB num = t := ⟨_, rfl⟩
      have Hft : Hid (fieldL n ⟨card, key, ty, nm, num, oneof⟩ = lineL n [tt, ⟨#[32]⟩, nm, ⟨#[32, 61, 32]⟩, ti, ⟨#[59]⟩]) := by unfold fieldL sSp sEq sSemi; rw [htt]; simp only; rw [hti]; rfl
      rw [htt] at HTy
      rw [hti] at HIt
      unfold Fd.cs at HTy
      clear hr hmem hrr hfl hll hn0 jX hlt hcc hG2 hJ2 hbd htt hti
      go_upto_region 3 with fail
      refine wp_region_any (by kernel_rfl) (wpAny_of_Z (z := 99) (T := fun w' => w'.cell? ⟨qp, 0, none⟩ = some (.func (.func 80) #[] #[.pointer (some ⟨bb, 0, none⟩), .pointer (some ⟨dd, 0, none⟩)]) ∧ w'.cell? ⟨wr.heap.size, 0, none⟩ = some (.int .i64 card) ∧ w'.cell? ⟨wr.heap.size, 1, none⟩ = some (.string key) ∧ w'.cell? ⟨wr.heap.size, 2, none⟩ = some (.string ty) ∧ w'.cell? ⟨wr.heap.size, 3, none⟩ = some (.string nm) ∧ w'.cell? ⟨wr.heap.size, 4, none⟩ = some (.int .i64 num) ∧ w'.cell? ⟨wr.heap.size, 5, none⟩ = some (.int .i64 oneof)) _ _ _ _ ?_)
      try (change wpAnyZ _ _ _ _ _ _ _ _ _ (World.drew _))
      refine wpAnyZ_tk 0 (.pointer (some ⟨qp, 0, none⟩)) 10 rfl rfl (Or.inl ⟨by rfl, fun w' hw => by obtain ⟨hw0, hw1, hw2, hw3, hw4, hw5, hw6⟩ := hw; go_simp⟩) hT ?_
      simp only [Act.put, List.setIfInBounds_toArray, List.set_cons_zero, List.set_cons_succ]
      refine wpAnyZ_tk 1 (.func (.func 80) #[] #[.pointer (some ⟨bb, 0, none⟩), .pointer (some ⟨dd, 0, none⟩)]) 11 rfl rfl (Or.inl ⟨by rfl, fun w' hw => by obtain ⟨hw0, hw1, hw2, hw3, hw4, hw5, hw6⟩ := hw; go_simp⟩) hT ?_
      simp only [Act.put, List.setIfInBounds_toArray, List.set_cons_zero, List.set_cons_succ]
      refine wpAnyZ_tk 2 (.agg #[.int .i64 card, .string key, .string ty, .string nm, .int .i64 num, .int .i64 oneof]) 12 rfl rfl (Or.inl ⟨by rfl, fun w' hw => by obtain ⟨hw0, hw1, hw2, hw3, hw4, hw5, hw6⟩ := hw; go_simp⟩) hT ?_
      simp only [Act.put, List.setIfInBounds_toArray, List.set_cons_zero, List.set_cons_succ]
      refine wpAnyZ_tk 4 (.pointer (some ⟨wr.heap.size, 3, none⟩)) 14 rfl rfl (Or.inl ⟨by rfl, fun w' hw => by obtain ⟨hw0, hw1, hw2, hw3, hw4, hw5, hw6⟩ := hw; go_simp⟩) hT ?_
      simp only [Act.put, List.setIfInBounds_toArray, List.set_cons_zero, List.set_cons_succ]
      refine wpAnyZ_tk 5 (.string nm) 15 rfl rfl (Or.inl ⟨by rfl, fun w' hw => by obtain ⟨hw0, hw1, hw2, hw3, hw4, hw5, hw6⟩ := hw; go_simp⟩) hT ?_
      simp only [Act.put, List.setIfInBounds_toArray, List.set_cons_zero, List.set_cons_succ]
      refine wpAnyZ_tk 6 (.pointer (some ⟨wr.heap.size, 4, none⟩)) 16 rfl rfl (Or.inl ⟨by rfl, fun w' hw => by obtain ⟨hw0, hw1, hw2, hw3, hw4, hw5, hw6⟩ := hw; go_simp⟩) hT ?_
      simp only [Act.put, List.setIfInBounds_toArray, List.set_cons_zero, List.set_cons_succ]
      refine wpAnyZ_tk 7 (.int .i64 num) 17 rfl rfl (Or.inl ⟨by rfl, fun w' hw => by obtain ⟨hw0, hw1, hw2, hw3, hw4, hw5, hw6⟩ := hw; go_simp⟩) hT ?_
      simp only [Act.put, List.setIfInBounds_toArray, List.set_cons_zero, List.set_cons_succ]
      refine wpAnyZ_one 3 (by kernel_rfl) rfl (fun K hK => ?_)
      refine step_callD 13 rfl rfl 133 (fun vs => by kernel_rfl) #[.tmp 12] #[42] rfl #[.agg #[.int .i64 card, .string key, .string ty, .string nm, .int .i64 num, .int .i64 oneof]] (by first | rfl | simp [Act.eval]) (unhide HTy X.drew) ?_
      rintro e' w3 ⟨rfl, hb3⟩
      have hb3 : Below X.heap.size X w3 := ⟨hb3.os, hb3.tape, hb3.output, hb3.size, hb3.block⟩
      have hp3 := hpX.below hb3
      have hT3 : (fun w' : World => w'.cell? ⟨qp, 0, none⟩ = some (.func (.func 80) #[] #[.pointer (some ⟨bb, 0, none⟩), .pointer (some ⟨dd, 0, none⟩)]) ∧ w'.cell? ⟨wr.heap.size, 0, none⟩ = some (.int .i64 card) ∧ w'.cell? ⟨wr.heap.size, 1, none⟩ = some (.string key) ∧ w'.cell? ⟨wr.heap.size, 2, none⟩ = some (.string ty) ∧ w'.cell? ⟨wr.heap.size, 3, none⟩ = some (.string nm) ∧ w'.cell? ⟨wr.heap.size, 4, none⟩ = some (.int .i64 num) ∧ w'.cell? ⟨wr.heap.size, 5, none⟩ = some (.int .i64 oneof)) w3 := ⟨cell_of_row _ _ _ _ _ _ ((hb3.block _ (Array.getElem?_eq_some_iff.1 (unhide HJX)).1).trans (unhide HJX)), cell_of_row _ _ _ _ _ _ ((hb3.block _ (Array.getElem?_eq_some_iff.1 (unhide HNX)).1).trans (unhide HNX)), cell_of_row _ _ _ _ _ _ ((hb3.block _ (Array.getElem?_eq_some_iff.1 (unhide HNX)).1).trans (unhide HNX)), cell_of_row _ _ _ _ _ _ ((hb3.block _ (Array.getElem?_eq_some_iff.1 (unhide HNX)).1).trans (unhide HNX)), cell_of_row _ _ _ _ _ _ ((hb3.block _ (Array.getElem?_eq_some_iff.1 (unhide HNX)).1).trans (unhide HNX)), cell_of_row _ _ _ _ _ _ ((hb3.block _ (Array.getElem?_eq_some_iff.1 (unhide HNX)).1).trans (unhide HNX)), cell_of_row _ _ _ _ _ _ ((hb3.block _ (Array.getElem?_eq_some_iff.1 (unhide HNX)).1).trans (unhide HNX))⟩
      refine ⟨_, rfl, hK _ _ ⟨fun _ => hT3, ?_⟩⟩
      clear hK K hT
      simp only [Act.put, List.setIfInBounds_toArray, List.set_cons_zero, List.set_cons_succ]
      refine wpAnyZ_one 8 (by kernel_rfl) rfl (fun K hK => ?_)
      refine step_callD 18 rfl rfl 134 (fun vs => by kernel_rfl) #[.tmp 17] #[3] rfl #[.int .i64 num] (by first | rfl | simp [Act.eval]) (unhide HIt w3 (unhide HPu _ hp3.bel)) ?_
      rintro e' w6 ⟨rfl, hb6⟩
      have hb6 : Below X.heap.size X w6 := hb3.trans (hb6.mono hb3.size)
      have hp6 := hpX.below hb6
      have hT6 : (fun w' : World => w'.cell? ⟨qp, 0, none⟩ = some (.func (.func 80) #[] #[.pointer (some ⟨bb, 0, none⟩), .pointer (some ⟨dd, 0, none⟩)]) ∧ w'.cell? ⟨wr.heap.size, 0, none⟩ = some (.int .i64 card) ∧ w'.cell? ⟨wr.heap.size, 1, none⟩ = some (.string key) ∧ w'.cell? ⟨wr.heap.size, 2, none⟩ = some (.string ty) ∧ w'.cell? ⟨wr.heap.size, 3, none⟩ = some (.string nm) ∧ w'.cell? ⟨wr.heap.size, 4, none⟩ = some (.int .i64 num) ∧ w'.cell? ⟨wr.heap.size, 5, none⟩ = some (.int .i64 oneof)) w6 := ⟨cell_of_row _ _ _ _ _ _ ((hb6.block _ (Array.getElem?_eq_some_iff.1 (unhide HJX)).1).trans (unhide HJX)), cell_of_row _ _ _ _ _ _ ((hb6.block _ (Array.getElem?_eq_some_iff.1 (unhide HNX)).1).trans (unhide HNX)), cell_of_row _ _ _ _ _ _ ((hb6.block _ (Array.getElem?_eq_some_iff.1 (unhide HNX)).1).trans (unhide HNX)), cell_of_row _ _ _ _ _ _ ((hb6.block _ (Array.getElem?_eq_some_iff.1 (unhide HNX)).1).trans (unhide HNX)), cell_of_row _ _ _ _ _ _ ((hb6.block _ (Array.getElem?_eq_some_iff.1 (unhide HNX)).1).trans (unhide HNX)), cell_of_row _ _ _ _ _ _ ((hb6.block _ (Array.getElem?_eq_some_iff.1 (unhide HNX)).1).trans (unhide HNX)), cell_of_row _ _ _ _ _ _ ((hb6.block _ (Array.getElem?_eq_some_iff.1 (unhide HNX)).1).trans (unhide HNX))⟩
      refine ⟨_, rfl, hK _ _ ⟨fun _ => hT6, ?_⟩⟩
      clear hK K hT3 hp3 hb3
      simp only [Act.put, List.setIfInBounds_toArray, List.set_cons_zero, List.set_cons_succ]
      have hb4 : Below w6.heap.size w6 (w6.alloc (.cells #[.string tt, .string ⟨#[32]⟩, .string nm, .string ⟨#[32, 61, 32]⟩, .string ti, .string ⟨#[59]⟩] 9)) := (Below.refl _ _).alloc (Nat.le_refl _) _
      have hk4 : Kp bb X (w6.alloc (.cells #[.string tt, .string ⟨#[32]⟩, .string nm, .string ⟨#[32, 61, 32]⟩, .string ti, .string ⟨#[59]⟩] 9)) := (Kp.below hb6).trans (Kp.below hb4)
      have hT4 : (fun w' : World => w'.cell? ⟨qp, 0, none⟩ = some (.func (.func 80) #[] #[.pointer (some ⟨bb, 0, none⟩), .pointer (some ⟨dd, 0, none⟩)]) ∧ w'.cell? ⟨wr.heap.size, 0, none⟩ = some (.int .i64 card) ∧ w'.cell? ⟨wr.heap.size, 1, none⟩ = some (.string key) ∧ w'.cell? ⟨wr.heap.size, 2, none⟩ = some (.string ty) ∧ w'.cell? ⟨wr.heap.size, 3, none⟩ = some (.string nm) ∧ w'.cell? ⟨wr.heap.size, 4, none⟩ = some (.int .i64 num) ∧ w'.cell? ⟨wr.heap.size, 5, none⟩ = some (.int .i64 oneof)) (w6.alloc (.cells #[.string tt, .string ⟨#[32]⟩, .string nm, .string ⟨#[32, 61, 32]⟩, .string ti, .string ⟨#[59]⟩] 9)) := ⟨cell_of_row _ _ _ _ _ _ (hk4 _ _ _ _ (unhide Hpb) (unhide HJX) (by decide)), cell_of_row _ _ _ _ _ _ (hk4 _ _ _ _ (unhide Hwr) (unhide HNX) (by decide)), cell_of_row _ _ _ _ _ _ (hk4 _ _ _ _ (unhide Hwr) (unhide HNX) (by decide)), cell_of_row _ _ _ _ _ _ (hk4 _ _ _ _ (unhide Hwr) (unhide HNX) (by decide)), cell_of_row _ _ _ _ _ _ (hk4 _ _ _ _ (unhide Hwr) (unhide HNX) (by decide)), cell_of_row _ _ _ _ _ _ (hk4 _ _ _ _ (unhide Hwr) (unhide HNX) (by decide)), cell_of_row _ _ _ _ _ _ (hk4 _ _ _ _ (unhide Hwr) (unhide HNX) (by decide))⟩
      refine wpAnyZ_one 9 (by kernel_rfl) rfl (fun K hK => ?_)
      go_simp
      refine hK _ _ ⟨fun _ => hT4, ?_⟩
      clear hK K
      refine wpAnyZ_one 10 (by kernel_rfl) rfl (fun K hK => ?_)
      refine step_callF 20 11 rfl 80 #[] #[.pointer (some ⟨bb, 0, none⟩), .pointer (some ⟨dd, 0, none⟩)] (fun vs => by kernel_rfl) #[.tmp 19] #[22] rfl (by first | rfl | simp [Act.eval]) #[.slice (some ⟨w6.heap.size, 0, none⟩) 6 6, .pointer (some ⟨bb, 0, none⟩), .pointer (some ⟨dd, 0, none⟩)] (by first | rfl | simp [Act.eval]) (line_any (hp6.below hb4) (pt_new (ps := [tt, ⟨#[32]⟩, nm, ⟨#[32, 61, 32]⟩, ti, ⟨#[59]⟩]) (c := 6) rfl hp6.bi.lt.2) (by rw [← unhide Hft]; exact unhide Hll) (by simp)) (by rfl) ?_
      rintro e' w5 ⟨rfl, hp5, hk5⟩
      have hk5' : Kp bb X w5 := hk4.trans hk5
      have HP5 := hide (show Pn W B bb dd (L ++ (g.take (i + 1)).flatMap (fieldL n)) n w5 by rw [unhide Hfl, ← List.append_assoc, unhide Hft]; exact hp5)
      have HK5 := hide ((unhide HKX).trans hk5')
      have hT5 : (fun w' : World => w'.cell? ⟨qp, 0, none⟩ = some (.func (.func 80) #[] #[.pointer (some ⟨bb, 0, none⟩), .pointer (some ⟨dd, 0, none⟩)]) ∧ w'.cell? ⟨wr.heap.size, 0, none⟩ = some (.int .i64 card) ∧ w'.cell? ⟨wr.heap.size, 1, none⟩ = some (.string key) ∧ w'.cell? ⟨wr.heap.size, 2, none⟩ = some (.string ty) ∧ w'.cell? ⟨wr.heap.size, 3, none⟩ = some (.string nm) ∧ w'.cell? ⟨wr.heap.size, 4, none⟩ = some (.int .i64 num) ∧ w'.cell? ⟨wr.heap.size, 5, none⟩ = some (.int .i64 oneof)) w5 := ⟨cell_of_row _ _ _ _ _ _ (hk5' _ _ _ _ (unhide Hpb) (unhide HJX) (by decide)), cell_of_row _ _ _ _ _ _ (hk5' _ _ _ _ (unhide Hwr) (unhide HNX) (by decide)), cell_of_row _ _ _ _ _ _ (hk5' _ _ _ _ (unhide Hwr) (unhide HNX) (by decide)), cell_of_row _ _ _ _ _ _ (hk5' _ _ _ _ (unhide Hwr) (unhide HNX) (by decide)), cell_of_row _ _ _ _ _ _ (hk5' _ _ _ _ (unhide Hwr) (unhide HNX) (by decide)), cell_of_row _ _ _ _ _ _ (hk5' _ _ _ _ (unhide Hwr) (unhide HNX) (by decide)), cell_of_row _ _ _ _ _ _ (hk5' _ _ _ _ (unhide Hwr) (unhide HNX) (by decide))⟩
      refine ⟨_, rfl, hK _ _ ⟨fun _ => hT5, ?_⟩⟩
      clear hK K hT6 hT4 hT5 hp5 hk5 hk5' hb6 hb4 hp6 hk4 hpX hb0 HKX HJX HNX HIt HTy Hll Hfl Hft HP2 HK2
      simp only [Act.put, List.setIfInBounds_toArray, List.set_cons_zero, List.set_cons_succ]
      refine wpAnyZ_done (by kernel_rfl) ?_
      go_wp2
      go_roundg (g.length - (i + 1))
      case measure => have := unhide Hgk; have := unhide Hlt; omega
      case rel => exact ⟨i + 1, by go_num, rfl, unhide Hlt, HP5, HK5⟩
    · obtain rfl : i = g.length := by omega
      have hP9 := unhide HP2
      rw [List.take_length] at hP9
      have HE := hide (show PnQ W B bb dd (L ++ g.flatMap (fieldL n)) n w (.returned (.tuple #[])) wr from ⟨rfl, hP9, unhide HK2⟩)
      clear hP9 HP2 HK2
      go_wp2
      refine bodyPost_ret (results_none rfl _ _ _) rfl ?_
      exact unhide HE
end Go.Proofs.YtaadpiimcaabkaaGreatDoor

namespace Go.Proofs.YtaadpiimcaabkaaGreatDoor
open Go.RowKit
attribute [local go_sem ↓] Go.wp_at_zero Go.wp_at_succ

def sMessage : ByteArray := ⟨#[109, 101, 115, 115, 97, 103, 101]⟩
def sEnum : ByteArray := ⟨#[101, 110, 117, 109]⟩
def sOneof : ByteArray := ⟨#[111, 110, 101, 111, 102]⟩
def Ms.nm : Ms → ByteArray
  | .mk nm _ _ _ _ _ _ => nm
/-- A block's text. -/
def blkL (n : Nat) (a b : ByteArray) (I : List Nat) : List Nat := lineL n [a, ⟨#[32]⟩, b, ⟨#[32, 123]⟩] ++ I ++ lineL n [⟨#[125]⟩]
/-- A group of fields: a oneof, or a field alone. -/
def grpL (n : Nat) (os : List ByteArray) (G : List Fd) : List Nat := match G with
  | [] => []
  | d :: _ => if d.oneof ≠ 0 then blkL n sOneof (os.getD (d.oneof.toNat - 1) ⟨#[]⟩) (G.flatMap (fieldL (n + 1))) else G.flatMap (fieldL n)
noncomputable def enL (n : Nat) (e : En) : List Nat := blkL n sEnum e.name (valsL (n + 1) e)
/-- What stands in a message. -/
noncomputable def memL : Nat → Nat → Ms → List Nat
  | 0, _, _ => []
  | f + 1, n, .mk _ fs os ms es rs gs => rsvL n 536870911 rs gs ++ (grps fs).flatMap (grpL n os) ++ (ms.flatMap (fun m => blkL n sMessage m.nm (memL f (n + 1) m)) ++ es.flatMap (enL n))
noncomputable def innL (f n : Nat) (ms : List Ms) (es : List En) : List Nat := ms.flatMap (fun m => blkL n sMessage m.nm (memL f (n + 1) m)) ++ es.flatMap (enL n)
/-- What an enum must keep to be written. -/
structure OkE (e : En) : Prop where
  r1 : e.res.length ≤ 4096
  r2 : ∀ r ∈ e.res, (-2147483648 ≤ r.1 ∧ r.1 ≤ 2147483647) ∧ (-2147483648 ≤ r.2 ∧ r.2 ≤ 2147483647)
  g1 : e.gone.length ≤ 4096
  g2 : ∀ s ∈ e.gone, s.size ≤ 1048576
  v2 : ∀ v ∈ e.vals, -2147483648 ≤ v.2 ∧ v.2 ≤ 2147483647
def OkM : Nat → Ms → Prop
  | 0, _ => False
  | f + 1, .mk _ fs os ms es rs gs => (fs.length ≤ 4096 ∧ rs.length ≤ 4096 ∧ gs.length ≤ 4096) ∧ (∀ d ∈ fs, ((0 ≤ d.num ∧ d.num ≤ 2147483647) ∧ d.key.size ≤ 255 ∧ d.ty.size ≤ 255) ∧ (d.oneof ≠ 0 → 1 ≤ d.oneof ∧ d.oneof ≤ os.length)) ∧ (∀ r ∈ rs, (-2147483648 ≤ r.1 ∧ r.1 ≤ 2147483647) ∧ (-2147483648 ≤ r.2 ∧ r.2 ≤ 2147483647)) ∧ (∀ s ∈ gs, s.size ≤ 1048576) ∧ (∀ m ∈ ms, OkM f m) ∧ ∀ e ∈ es, OkE e
/-- What a call of members comes to. -/
def MemC (f : Nat) : Prop := ∀ (W w : World) (B bb dd ll : Nat) (L : List Nat) (n : Nat) (m : Ms) vf vo vm ve vr vg nm fs os ms es rs gs cm ce, Pn W B bb dd L n w → HasP W → HasF W → W.heap.size ≤ dd → ll ≠ bb → ll ≠ dd → n + 1 + f ≤ 500 → w.heap[ll]? = some (.cells #[fLine bb dd] 85 (0, 0)) → MsV W m vf vo vm ve vr vg nm fs os ms es rs gs cm ce → OkM f m → L.length + (memL f n m).length ≤ 1099511627776 →
  Calls Tryz.prog 89 #[.agg (penV bb dd ll), .agg #[.string nm, vf, vo, vm, ve, vr, vg]] w (PnQ W B bb dd (L ++ memL f n m) n w)
set_option maxRecDepth 100000 in
set_option maxHeartbeats 1000000 in
/-- The closure over an enum. -/
theorem inner_2 {W w : World} {B bb dd ll pp dp : Nat} {L : List Nat} {n : Nat} (h : Pn W B bb dd L n w) (hP : HasP W) (hF : HasF W) {e : En} {vv vr vg : Value} (hv : Rl W vv e.vals.length (evC e.vals)) (hr : Rl W vr e.res.length (rgC e.res)) (hg : Rl W vg e.gone.length (strC e.gone)) (ho : OkE e) (hp : w.heap[pp]? = some (.cells (penV bb dd ll) 89 (0, 0))) (hd : w.heap[dp]? = some (.cells #[.string e.name, vv, vr, vg] 67 (0, 0))) (hl : L.length + (valsL n e).length ≤ 1099511627776) :
    Calls Tryz.prog 90 #[.pointer (some ⟨pp, 0, none⟩), .pointer (some ⟨dp, 0, none⟩)] w (PnQ W B bb dd (L ++ valsL n e) n w) := by
  have HC := hide (values_any (ll := ll) h hP hF hv hr hg ho.r1 ho.r2 ho.g1 ho.g2 ho.v2 hl)
  obtain ⟨c0, c1, c2, c3⟩ := en4 hd
  unfold penV at hp HC
  have p0 : w.cell? ⟨pp, 0, none⟩ = some (fLine bb dd) := cell_of_row _ _ _ _ _ _ hp
  have p1 : w.cell? ⟨pp, 1, none⟩ = some (fBlock ll dd) := cell_of_row _ _ _ _ _ _ hp
  have p2 : w.cell? ⟨pp, 2, none⟩ = some (fWhole bb) := cell_of_row _ _ _ _ _ _ hp
  unfold fLine fBlock fWhole at HC
  unfold fLine at p0
  unfold fBlock at p1
  unfold fWhole at p2
  clear h hP hF hv hr hg ho hp hd hl
  go_enter Tryz.func90, Tryz.ntmps90
  go_wp2_with fail
  refine (unhide HC).mono ?_
  rintro e' w1 ⟨rfl, hp1, hk1⟩
  have HE := hide (show PnQ W B bb dd (L ++ valsL n e) n w (.returned (.tuple #[])) w1 from ⟨rfl, hp1, hk1⟩)
  clear hp1 hk1 HC
  go_wp2
  refine bodyPost_ret (results_none rfl _ _ _) rfl ?_
  exact unhide HE
set_option maxRecDepth 100000 in
set_option maxHeartbeats 1000000 in
/-- The closure over a message. -/
theorem inner_1 {W w : World} {B bb dd ll pp mp n : Nat} {L : List Nat} {nm : ByteArray} {vf vo vm ve vr vg : Value} (hp : w.heap[pp]? = some (.cells (penV bb dd ll) 89 (0, 0))) (hm : w.heap[mp]? = some (.cells #[.string nm, vf, vo, vm, ve, vr, vg] 46 (0, 0)))
    (hc : Calls Tryz.prog 89 #[.agg (penV bb dd ll), .agg #[.string nm, vf, vo, vm, ve, vr, vg]] w (PnQ W B bb dd L n w)) :
    Calls Tryz.prog 88 #[.pointer (some ⟨pp, 0, none⟩), .pointer (some ⟨mp, 0, none⟩)] w (PnQ W B bb dd L n w) := by
  have HC := hide hc
  have c0 : w.cell? ⟨mp, 0, none⟩ = some (.string nm) := cell_of_row _ _ _ _ _ _ hm
  have c1 : w.cell? ⟨mp, 1, none⟩ = some vf := cell_of_row _ _ _ _ _ _ hm
  have c2 : w.cell? ⟨mp, 2, none⟩ = some vo := cell_of_row _ _ _ _ _ _ hm
  have c3 : w.cell? ⟨mp, 3, none⟩ = some vm := cell_of_row _ _ _ _ _ _ hm
  have c4 : w.cell? ⟨mp, 4, none⟩ = some ve := cell_of_row _ _ _ _ _ _ hm
  have c5 : w.cell? ⟨mp, 5, none⟩ = some vr := cell_of_row _ _ _ _ _ _ hm
  have c6 : w.cell? ⟨mp, 6, none⟩ = some vg := cell_of_row _ _ _ _ _ _ hm
  unfold penV at hp HC
  have p0 : w.cell? ⟨pp, 0, none⟩ = some (fLine bb dd) := cell_of_row _ _ _ _ _ _ hp
  have p1 : w.cell? ⟨pp, 1, none⟩ = some (fBlock ll dd) := cell_of_row _ _ _ _ _ _ hp
  have p2 : w.cell? ⟨pp, 2, none⟩ = some (fWhole bb) := cell_of_row _ _ _ _ _ _ hp
  unfold fLine fBlock fWhole at HC
  unfold fLine at p0
  unfold fBlock at p1
  unfold fWhole at p2
  clear hp hm hc
  go_enter Tryz.func88, Tryz.ntmps88
  go_wp2_with fail
  refine (unhide HC).mono ?_
  rintro e' w1 ⟨rfl, hp1, hk1⟩
  have HE := hide (show PnQ W B bb dd L n w (.returned (.tuple #[])) w1 from ⟨rfl, hp1, hk1⟩)
  clear hp1 hk1 HC
  go_wp2
  refine bodyPost_ret (results_none rfl _ _ _) rfl ?_
  exact unhide HE
end Go.Proofs.YtaadpiimcaabkaaGreatDoor
