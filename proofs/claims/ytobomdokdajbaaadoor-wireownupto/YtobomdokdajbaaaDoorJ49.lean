import Derived.Test.YtobomdokdajbaaaDoorJ46
import Derived.Test.YtobomdokdajbaaaDoorJ47
import Derived.Test.YtobomdokdajbaaaDoorWOl
import Derived.Test.YtobomdokdajbaaaDoorWOg
import Derived.Test.YtobomdokdajbaaaDoorJ12
import Derived.Test.YtobomdokdajbaaaDoorJ33
import Derived.Test.YtobomdokdajbaaaDoorJ37

namespace Go.Proofs.YtobomdokdajbaaaDoor
open Go.RowKit

mutual
theorem cntR_bl : ∀ t : Rt, cntR t ≤ blR (ofT t)
  | .mk nb kd x t li => by
    have := cntL_bl li
    rw [cntR, ofT, blR]
    omega
theorem cntL_bl : ∀ ts : List Rt, cntL ts ≤ blL (ofTL ts)
  | [] => by rw [cntL]; exact Nat.zero_le _
  | t :: ts => by
    have h1 := cntR_bl t
    have h2 := cntL_bl ts
    rw [cntL, ofTL, blL]
    omega
end
/-- What Split answers, in one form, with all that is to be known of it. -/
theorem split_uni {l : List Nat} (hl : ∀ x ∈ l, x < 256) (hn : l.length ≤ 1048576) : ∃ (p c : Int) (ts : List Rt), WfL ts ∧ SmT ts ∧ cntL ts ≤ 1048576 ∧ blL (ofTL ts) ≤ 1048576 ∧
    ∀ (B : Nat) (W : World) (g cp : Nat), Bytes B W (.slice (some ⟨g, 0, none⟩) l.length cp) (byB l) → Calls Tryd.prog 14 #[.slice (some ⟨g, 0, none⟩) l.length cp, .bool false] W fun e W' =>
      (∃ a m c', e = .returned (.tuple #[.slice a m c', .int .i64 p, .int .i64 c]) ∧ HasRt W' (fun q => W.heap.size ≤ q) (.slice a m c') ts ∧ ∃ bl, HasRo W' W.heap.size (.slice a m c') ts bl ∧ bl.Nodup) ∧ Below W.heap.size W W' := by
  have key := fun (B : Nat) (W : World) (g cp : Nat) (h : Bytes B W (.slice (some ⟨g, 0, none⟩) l.length cp) (byB l)) => split_own (W := W) (l := l) (g := g) (off := 0) (c := cp) (st := false) (fun i b hb => by rw [Nat.zero_add]; exact (bytes_cell h hb).1) hl hn
  cases hr : runT (sOf l) false 63 ((sOf l).size + 1) (.inl (0, 0, [], [])) with
  | inl x =>
    obtain ⟨ts, k2⟩ := x
    obtain ⟨hw, hd, he, -⟩ := run_dec hl hr
    have hbl := bl_enc _ ts (Nat.le_refl _) hw (by omega)
    have hc := cntL_bl ts
    refine ⟨0, 0, ts, hw, sm_of _ ts (Nat.le_refl _) (by omega), by omega, by omega, fun B W g cp h => (key B W g cp h).mono fun e W' ⟨h1, h2⟩ => ?_⟩
    rw [hr] at h1
    obtain ⟨a, m, c', e1, e2, bl, e3, e4⟩ := h1
    exact ⟨⟨a, m, c', e1, e2, bl, e3, e4⟩, h2⟩
  | inr x =>
    obtain ⟨c, p⟩ := x
    refine ⟨p, c, [], WfL.nil, SmT.nil, Nat.zero_le _, Nat.zero_le _, fun B W g cp h => (key B W g cp h).mono fun e W' ⟨h1, h2⟩ => ?_⟩
    rw [hr] at h1
    exact ⟨⟨none, 0, 0, h1.1, .nil _ _, [], HasRo.nil _ _, List.nodup_nil⟩, h2⟩
theorem FlV.inC {W : World} {B : Nat} {v : Value} {L : List Value} (h : FlV W B v L) : InC W B v L := by
  cases h with
  | @row v ts us Ls hl hb h hi => exact ⟨ts, us, Ls, rfl, hl, hb, h, fun i u M hu hM => lists_one (hi i u M hu hM)⟩
theorem inB_bl {L : List Value} {q : Nat} (h : InB L q) : q ∈ L.flatMap fun u => u.ownBlock.toList := by
  obtain ⟨i, v, hv, e⟩ := h
  exact List.mem_flatMap.2 ⟨v, List.mem_of_getElem? hv, by rw [e]; simp⟩
theorem two_cells (w : World) (v1 v2 : Value) (t : TypeId) : ∀ (j : Nat) (v : Value), [v1, v2][j]? = some v → (w.alloc (.cells #[v1, v2] t)).cell? ⟨w.heap.size, 0 + j, none⟩ = some v := by
  intro j v h
  match j, h with
  | 0, h => simp at h; subst h; simp
  | 1, h => simp at h; subst h; simp
/-- The law's grownRecords of two answers. -/
theorem grown_two {w : World} {B1 B2 : Nat} {v1 v2 : Value} {ts : List Rt} {bl1 bl2 : List Nat} (h1 : HasRo w B1 v1 ts bl1) (n1 : bl1.Nodup) (h2 : HasRo w B2 v2 ts bl2) (n2 : bl2.Nodup) (hB : B1 ≤ B2) (hlt : ∀ q ∈ bl1, q < B2) (hs : B1 ≤ w.heap.size) (hc : cntL ts ≤ 1048576) :
    Calls Tryd.prog 18 #[.slice (some ⟨w.heap.size, 0, none⟩) 2 2] (w.alloc (.cells #[v1, v2] 33)) fun e w' => e = .returned (.bool true) ∧ Fr (w.alloc (.cells #[v1, v2] 33)) w' (fun q => q ∈ bl1 ∨ q ∈ bl2) := by
  obtain ⟨L1, f1, e1, c1, x1⟩ := h1.fl2
  obtain ⟨L2, f2, e2, c2, x2⟩ := (h2.lower hB).fl2
  have hfl : [L1, L2].flatten = L1 ++ L2 := by simp
  have hxs : ∀ i, i < (L1 ++ L2).length → ∃ xs : List Value, ∀ u, (L1 ++ L2)[i]? = some u → Rc B1 w u xs ∧ xs.length ≤ 5 * cntL ts := fun i hi => by
    have hu := List.getElem?_eq_getElem hi
    have hm := List.mem_of_getElem? hu
    rcases List.mem_append.1 hm with q | q
    · obtain ⟨xs, r1, r2⟩ := x1 _ q
      exact ⟨xs, fun u hu2 => by obtain rfl := Option.some.inj (hu.symm.trans hu2); exact ⟨r1, r2⟩⟩
    · obtain ⟨xs, r1, r2⟩ := x2 _ q
      exact ⟨xs, fun u hu2 => by obtain rfl := Option.some.inj (hu.symm.trans hu2); exact ⟨r1, r2⟩⟩
  obtain ⟨bss, hb1, hb2⟩ := list_choose (P := fun i (xs : List Value) => ∀ u, (L1 ++ L2)[i]? = some u → Rc B1 w u xs ∧ xs.length ≤ 5 * cntL ts) _ hxs
  have hnd : ((L1 ++ L2).flatMap fun u => u.ownBlock.toList).Nodup := by
    rw [List.flatMap_append, e1, e2]
    refine List.nodup_append.2 ⟨n1, n2, fun a ha b hb e => ?_⟩
    have := hlt a ha
    have := (h2.at b hb).1
    omega
  have hg : Lg B1 w [L1, L2].flatten bss := by
    rw [hfl]
    exact ⟨hb1, fun i v bs hv hb => (hb2 i bs hb v hv).1, apart_of hnd⟩
  have := grownRecords_any (W := w) (w0 := w.alloc (.cells #[v1, v2] 33)) (B := B1) (g := w.heap.size) (o := 0) (n := 2) (c := 2) (ans := [v1, v2]) (Ls := [L1, L2]) (bss := bss)
    ((Below.refl _ _).alloc (Nat.le_refl _) _) (by rw [World.size_alloc]; omega) rfl rfl (by omega) (two_cells w v1 v2 _)
    (fun j v L hv hL => by
      match j, hv, hL with
      | 0, hv, hL => simp at hv hL; subst hv; subst hL; exact f1.inC
      | 1, hv, hL => simp at hv hL; subst hv; subst hL; exact f2.inC)
    (by rw [hfl, List.length_append]; omega) hg hs
    (fun xs hx => by
      obtain ⟨i, hi⟩ := List.mem_iff_getElem?.1 hx
      have hlt2 := (List.getElem?_eq_some_iff.1 hi).1
      have := (hb2 i xs hi _ (List.getElem?_eq_getElem (by omega))).2
      omega)
  rw [hfl] at this
  refine this.mono fun e w' ⟨he, hf⟩ => ⟨he, fr_wide hf fun q hq => ?_⟩
  have := inB_bl hq
  rw [List.flatMap_append, e1, e2] at this
  exact List.mem_append.1 this
/-- The lists that are kept: the row's first n, and others that came behind. -/
structure KL (W w : World) (vk : Value) (n : Nat) (vs : List Value) (bss : List (List Int)) : Prop where
  hn : n ≤ vs.length
  row : w.ownsRow W.heap.size 24 1 vk n (vs.take n)
  lb : Lb W.heap.size w vs bss
  ap : ∀ b, vk.ownBlock = some b → ¬ InB vs b
  be : Below W.heap.size W w
  ln : ∀ bs ∈ bss, bs.length ≤ 1099511627776
theorem KL.nil (W : World) : KL W W (.slice none 0 0) 0 [] [] := ⟨Nat.le_refl _, World.ownsRow_nil _ _ _ _, Lb.nil _ _, fun b e => (by cases e), Below.refl _ _, fun bs h => by cases h⟩
theorem KL.call {W w w' : World} {vk v : Value} {n : Nat} {vs : List Value} {bs : List Int} {bss : List (List Int)} (h : KL W w vk n vs bss) (hb : Below w.heap.size w w') (hv : Bytes w.heap.size w' v bs) (hl : bs.length ≤ 1099511627776) : KL W w' vk n (vs ++ [v]) (bss ++ [bs]) := by
  have s := h.be.size
  refine ⟨by rw [List.length_append]; have := h.hn; omega, ?_, ?_, fun b e hi => ?_, ?_, fun x hx => ?_⟩
  · rw [List.take_append_of_le_length h.hn]
    exact own_same h.row (fun b e => hb.block b (h.row.lt b e).2)
  · exact h.lb.push (own_lower hv s) (fun b e hi => by have := (hv.lt b e).1; have := (h.lb.lt hi).2; omega) (fun q hq _ => hb.block q hq)
  · rcases inB_app hi with q | q
    · exact h.ap b e q
    · have := (hv.lt b q).1; have := (h.row.lt b e).2; omega
  · exact ⟨hb.os.trans h.be.os, hb.tape.trans h.be.tape, hb.output.trans h.be.output, Nat.le_trans s hb.size, fun q hq => (hb.block q (Nat.lt_of_lt_of_le hq s)).trans (h.be.block q hq)⟩
  · rcases List.mem_append.1 hx with q | q
    · exact h.ln x q
    · simp at q; rw [q]; exact hl
theorem KL.app {W w w2 : World} {vk vk' : Value} {n m : Nat} {vs : List Value} {bss : List (List Int)} {o1 : Obj} (h : KL W w vk n vs bss) (hm : vs.length = n + m)
    (r : w2.ownsRow W.heap.size 24 1 vk' (n + m) (vs.take n ++ vs.drop n)) (g1 : (w.alloc o1).grownBy w2 vk.ownBlock) (b : vk'.ownBlock = vk.ownBlock ∨ vk'.ownBlock = some (w.alloc o1).heap.size) : KL W w2 vk' (n + m) vs bss := by
  have s := h.be.size
  have s1 := g1.size
  rw [World.size_alloc] at s1 b
  have key : ∀ q, q < w.heap.size → vk.ownBlock ≠ some q → w2.heap[q]? = w.heap[q]? := fun q hq hne => (g1.block q (by rw [World.size_alloc]; omega) (fun e => hne e.symm)).trans (Below.heap_alloc w o1 q hq)
  refine ⟨by omega, ?_, h.lb.keep (fun q hq hi => key q hq (fun e => h.ap q e hi)), fun q e hi => ?_, ⟨g1.os.trans h.be.os, g1.tape.trans h.be.tape, g1.output.trans h.be.output, by omega, fun q hq => (key q (by omega) (fun e => by have := (h.row.lt q e).1; omega)).trans (h.be.block q hq)⟩, h.ln⟩
  · rw [← hm, List.take_length]
    rw [List.take_append_drop, ← hm] at r
    exact r
  · rcases b with c | c
    · exact h.ap q (c.symm.trans e) hi
    · have := (h.lb.lt hi).2
      have := Option.some.inj (c.symm.trans e)
      omega
theorem four_cells (w : World) (v1 v2 v3 v4 : Value) (t : TypeId) : ∀ (j : Nat) (v : Value), [v1, v2, v3, v4][j]? = some v → (w.alloc (.cells #[v1, v2, v3, v4] t)).cell? (Addr.add ⟨w.heap.size, 0, none⟩ j) = some v := by
  intro j v h
  match j, h with
  | 0, h => simp at h; subst h; simp [Addr.add]
  | 1, h => simp at h; subst h; simp [Addr.add]
  | 2, h => simp at h; subst h; simp [Addr.add]
  | 3, h => simp at h; subst h; simp [Addr.add]
/-- The row as Grown reads it. -/
theorem KL.hd {W w : World} {vk : Value} {n : Nat} {vs : List Value} {bss : List (List Int)} (h : KL W w vk n vs bss) (hn : n = vs.length) (hm : vs.length ≤ 1099511627776) : HdL w vk vs := by
  have hr := h.row
  rw [hn, List.take_length] at hr
  obtain ⟨a, c, rfl⟩ := own_shape hr
  refine ⟨a, c, rfl, hm, fun hp => ?_⟩
  obtain ⟨g, rfl⟩ := own_at hr hp
  refine ⟨g, 0, rfl, (hr.lt g rfl).2, h.ap g rfl, fun i v hv => ?_⟩
  have := hr.cells (g := g) rfl i v hv
  rwa [Go.WideShapes.add_plain] at this
/-- Join of one number. -/
theorem join_num {W : World} (x : Int) (hx : RngI x) : Calls Tryd.prog 11 #[.slice (some ⟨W.heap.size, 0, none⟩) 1 1] (W.alloc (.cells #[.int .i64 1, .int .i64 0, .int .i64 x, .string ⟨#[]⟩, .slice none 0 0] 35)) fun e W' => ∃ v bs, e = .returned (.tuple #[v, .int .i64 0]) ∧ Bytes W.heap.size W' v bs ∧ bs.length ≤ 1048576 ∧ Below W.heap.size W W' := by
  have hT : WfT 1 0 x ⟨#[]⟩ [] := ⟨⟨by omega, by omega, fun _ => rfl, fun _ => rfl, fun h => by omega, fun h => by omega⟩, hx⟩
  have hw : WfL [.mk 1 0 x ⟨#[]⟩ []] := WfL.cons hT WfL.nil WfL.nil
  have hlen : (encL [.mk 1 0 x ⟨#[]⟩ []]).length ≤ 1048576 := by
    have := enc_lg _ [.mk 1 0 x ⟨#[]⟩ []] (Nat.le_refl _) hw (by simp [lgL, lgR]; decide)
    exact Nat.le_trans this (by simp [lgL, lgR]; decide)
  have hh : HasRt (W.alloc (.cells #[.int .i64 1, .int .i64 0, .int .i64 x, .string ⟨#[]⟩, .slice none 0 0] 35)) (fun _ => True) (.slice (some ⟨W.heap.size, 0, none⟩) 1 1) [.mk 1 0 x ⟨#[]⟩ []] := by
    refine .row W.heap.size 1 1 _ (fun _ => .slice none 0 0) trivial rfl (by decide) (by rw [World.size_alloc]; omega) (fun i t ht j y hy => ?_) (fun i t ht => ?_)
    · match i, ht with
      | 0, ht =>
        simp at ht
        subst ht
        have hb := heap_alloc_new W (.cells #[.int .i64 1, .int .i64 0, .int .i64 x, .string ⟨#[]⟩, .slice none 0 0] 35)
        rw [Nat.zero_mul, Nat.zero_add]
        refine (cell_of_row _ _ _ _ _ _ hb).trans ?_
        match j, hy with
        | 0, hy => exact hy
        | 1, hy => exact hy
        | 2, hy => exact hy
        | 3, hy => exact hy
        | 4, hy => exact hy
    · match i, ht with
      | 0, ht => simp at ht; subst ht; exact .nil _ _
  refine (join_rt hh (.mk _ (by simp) (fun i t ht => ?_)) hw (by simp [deepL, deepR]) (by simp [cntL, cntR]) hlen).mono fun e W' ⟨g, c, he, hB, hb⟩ => ⟨_, _, he, own_lower hB (by rw [World.size_alloc]; omega), by simp only [byB, List.length_map]; exact hlen, ?_⟩
  · match i, ht with
    | 0, ht => simp at ht; subst ht; exact SmT.nil
  · rw [World.size_alloc] at hb
    exact ⟨hb.os, hb.tape, hb.output, (by have := hb.size; rw [World.size_alloc] at this; omega), fun q hq => (hb.block q (by omega)).trans (Below.heap_alloc W _ q hq)⟩
end Go.Proofs.YtobomdokdajbaaaDoor

namespace Go.Proofs.YtobomdokdajbaaaDoor
open Go.RowKit
attribute [local go_sem ↓] Go.wp_at_zero Go.wp_at_succ

theorem wrap64_small {a : Int} (h1 : -9223372036854775808 ≤ a) (h2 : a ≤ 9223372036854775807) : wrap64 a = a := by rw [wrap64_eq]; omega
theorem un_nat {n : Nat} (h : n < 9223372036854775808) : un (n : Int) = n := by unfold un; omega
theorem rng_nat {n : Nat} (h : n < 9223372036854775808) : Rng (n : Int) := by unfold Rng; omega

end Go.Proofs.YtobomdokdajbaaaDoor

namespace Go.Proofs.YtobomdokdajbaaaDoor
open Go.RowKit Go.Lib
attribute [local go_sem ↓] Go.wp_at_zero Go.wp_at_succ

theorem sizeText_any (W : World) (s : ByteArray) (hs : s.size ≤ 1099511627776) : Calls Tryd.prog 42 #[.string s] W fun e W' => e = .returned (.int .i64 (((vint s.size).length + s.size : Nat) : Int)) ∧ W' = W := by
  have hb := vint_ten (u := s.size) (by omega)
  have hw : wrap64 (((vint s.size).length : Int) + (s.size : Int)) = (((vint s.size).length + s.size : Nat) : Int) := by rw [wrap64_small (by omega) (by omega)]; omega
  go_enter Tryd.func42, Tryd.ntmps42
  go_wp2_with fail
  refine (sizeVarint_any W (s.size : Int) s.size (by rw [wrapu_eq]; clear hw; omega) (by clear hw; omega)).mono ?_
  rintro e w' ⟨rfl, he⟩
  obtain rfl : W = w' := he.symm
  clear hb
  go_wp2
  go_ret
  exact ⟨retI hw, rfl⟩

/-- What Text answers. -/
def TextU (W : World) (s : ByteArray) (e : Ending) (W' : World) : Prop := ∃ v' c, e = .returned (.tuple #[v', .int .i64 c]) ∧ (s.size ≤ 1048576 ∧ c = 0 ∧ Bytes W.heap.size W' v' (vint s.size ++ strB s) ∨ 1048576 < s.size ∧ c = 2 ∧ v' = .slice none 0 0) ∧ Below W.heap.size W W'

set_option maxRecDepth 100000 in
set_option maxHeartbeats 4000000 in
theorem textU (W : World) (s : ByteArray) : Calls Tryd.prog 12 #[.string s] W (TextU W s) := by
  obtain ⟨i0, hi, hz0, hz1, hz2⟩ := info_parts Tryd.infoByte
  by_cases h : s.size ≤ 1048576
  · have hd : decide ((1048576 : Int) < (s.size : Int)) = false := by simp; omega
    have hb := vint_ten (u := s.size) (by omega)
    obtain ⟨n, hn⟩ : ∃ n : Nat, n = (vint s.size).length + s.size := ⟨_, rfl⟩
    have hn2 : n ≤ 1048586 := by omega
    go_enter Tryd.func12, Tryd.ntmps12
    go_wp2_with fail
    refine (sizeText_any W s (by omega)).mono ?_
    rintro e w' ⟨rfl, he⟩
    obtain rfl : W = w' := he.symm
    rw [← hn]
    clear hn hb
    go_wp2_with (at_make; refine wpList_make_own _ rfl _ _ 24 rfl W.heap.size 5 i0 (.int .u8 0) 1 Tryd.underlying24 hi hz0 hz1 .i64 .i64 (n : Int) n rfl rfl rfl (by rw [hz2]; omega) (by unfold maxLen; omega) (Nat.le_refl _) ?_; intro w5 hown5 hgrow5)
    have hb5 : Below W.heap.size W w5 := ⟨hgrow5.os, hgrow5.tape, hgrow5.output, hgrow5.size, fun b hb => hgrow5.block b hb (by simp)⟩
    have hby : Bytes W.heap.size w5 (.slice (some ⟨W.heap.size, 0, none⟩) 0 n) [] := hown5
    refine (putText_any hby hb5.size (by simp) s (by omega)).mono ?_
    rintro e w6 ⟨v6, rfl, hB6, hE6⟩
    have hbel : Below W.heap.size w5 w6 := hE6.below hb5.size (fun b hb => (World.ownsRow.lt hby b hb).1)
    go_wp2
    go_ret2
    exact ⟨_, _, rfl, .inl ⟨h, rfl, by simpa using hB6⟩, hb5.trans hbel⟩
  · have hd : (1048576 : Int) < (s.size : Int) := by omega
    have h' : 1048576 < s.size := by omega
    clear h
    go_enter Tryd.func12, Tryd.ntmps12
    go_wp2
    go_ret2
    exact ⟨_, _, rfl, .inr ⟨h', rfl, rfl⟩, Below.refl _ _⟩

end Go.Proofs.YtobomdokdajbaaaDoor

namespace Go.Proofs.YtobomdokdajbaaaDoor
open Go.RowKit
attribute [local go_sem ↓] Go.wp_at_zero Go.wp_at_succ

theorem ret1 {a c : Int} (h1 : a = c) : Ending.returned (.int .i64 a) = .returned (.int .i64 c) := by rw [h1]
end Go.Proofs.YtobomdokdajbaaaDoor

namespace Go.Proofs.YtobomdokdajbaaaDoor
open Go.RowKit
attribute [local go_sem ↓] Go.wp_at_zero Go.wp_at_succ

/-- The lowest bytes by halves. -/
theorem lows_step (x : Int) (u i : Nat) (hi : i < 8) (hu : (u : Int) = x % 18446744073709551616 / 2 ^ (8 * i)) : x / 2 ^ (8 * i) % 256 = ((u % 256 : Nat) : Int) := by
  have h8 : i = 0 ∨ i = 1 ∨ i = 2 ∨ i = 3 ∨ i = 4 ∨ i = 5 ∨ i = 6 ∨ i = 7 := by omega
  rcases h8 with rfl | rfl | rfl | rfl | rfl | rfl | rfl | rfl <;> simp only [Nat.reduceMul, Int.reducePow] at hu ⊢ <;> omega
theorem div_step (x : Int) (u i : Nat) (hi : i < 8) (hu : (u : Int) = x % 18446744073709551616 / 2 ^ (8 * i)) : ((u / 256 : Nat) : Int) = x % 18446744073709551616 / 2 ^ (8 * (i + 1)) := by
  have h8 : i = 0 ∨ i = 1 ∨ i = 2 ∨ i = 3 ∨ i = 4 ∨ i = 5 ∨ i = 6 ∨ i = 7 := by omega
  rcases h8 with rfl | rfl | rfl | rfl | rfl | rfl | rfl | rfl <;> simp only [Nat.reduceMul, Nat.reduceAdd, Int.reducePow] at hu ⊢ <;> omega

end Go.Proofs.YtobomdokdajbaaaDoor


namespace Go.Proofs.YtobomdokdajbaaaDoor
open Go.RowKit
attribute [local go_sem ↓] Go.wp_at_zero Go.wp_at_succ

/-- What Fixed answers. -/
def okFix (x s : Int) : Prop := s = 8 ∨ s = 4 ∧ 0 ≤ x ∧ x ≤ 4294967295
def FixU (W : World) (x s : Int) (e : Ending) (W' : World) : Prop := ∃ v' c, e = .returned (.tuple #[v', .int .i64 c]) ∧ (okFix x s ∧ c = 0 ∧ Bytes W.heap.size W' v' (lows x s.toNat) ∨ ¬ okFix x s ∧ c = 1 ∧ v' = .slice none 0 0) ∧ Below W.heap.size W W'

set_option maxHeartbeats 2000000 in
theorem fixedU (W : World) (x s : Int) : Calls Tryd.prog 8 #[.int .i64 x, .int .i64 s] W (FixU W x s) := by
  by_cases h8 : s = 8
  · subst h8
    refine (fixed_any W x 8 (.inr rfl)).mono ?_
    rintro e W' ⟨v', rfl, hB, hb⟩
    exact ⟨v', 0, rfl, .inl ⟨.inl rfl, rfl, hB⟩, hb⟩
  · by_cases h4 : s = 4
    · subst h4
      by_cases hw : 0 ≤ x ∧ x ≤ 4294967295
      · refine (fixed_any W x 4 (.inl ⟨rfl, hw⟩)).mono ?_
        rintro e W' ⟨v', rfl, hB, hb⟩
        exact ⟨v', 0, rfl, .inl ⟨.inr ⟨rfl, hw⟩, rfl, hB⟩, hb⟩
      · have hno : ¬ okFix x 4 := fun h => h.elim (fun e => by omega) (fun e => hw e.2)
        have hd : decide (0 ≤ x ∧ x ≤ 4294967295) = false := decide_eq_false hw
        have HN := hide hno
        clear hw hno
        go_enter Tryd.func8, Tryd.ntmps8
        go_wp2_with fail
        refine (word_any W x).mono ?_
        rintro e w' ⟨rfl, he⟩
        obtain rfl : W = w' := he.symm
        rw [hd]
        go_wp2
        go_ret2
        exact ⟨_, _, rfl, .inr ⟨unhide HN, rfl, rfl⟩, Below.refl _ _⟩
    · have hno : ¬ okFix x s := fun h => h.elim h8 (fun e => h4 e.1)
      have e8 : (s != 8) = true := by simp [h8]
      have e4 : (s != 4) = true := by simp [h4]
      have HN := hide hno
      clear h8 h4 hno
      go_enter Tryd.func8, Tryd.ntmps8
      go_wp2
      go_ret2
      exact ⟨_, _, rfl, .inr ⟨unhide HN, rfl, rfl⟩, Below.refl _ _⟩

def okTag (n k : Int) : Prop := 1 ≤ n ∧ n ≤ 536870911 ∧ 0 ≤ k ∧ k ≤ 5
def TagU (W : World) (n k : Int) (e : Ending) (W' : World) : Prop := ∃ v' c, e = .returned (.tuple #[v', .int .i64 c]) ∧ c = (if n < 1 ∨ 536870911 < n then 24 else if k < 0 ∨ 5 < k then 23 else 0) ∧ (okTag n k ∧ Bytes W.heap.size W' v' (vint (8 * n.toNat + k.toNat)) ∨ ¬ okTag n k ∧ v' = .slice none 0 0) ∧ Below W.heap.size W W'
set_option maxHeartbeats 2000000 in
theorem tagU (W : World) (n k : Int) : Calls Tryd.prog 9 #[.int .i64 n, .int .i64 k] W (TagU W n k) := by
  by_cases h : okTag n k
  · obtain ⟨h1, h2, h3, h4⟩ := h
    obtain ⟨a, rfl⟩ : ∃ a : Nat, n = (a : Int) := ⟨n.toNat, by omega⟩
    obtain ⟨b, rfl⟩ : ∃ b : Nat, k = (b : Int) := ⟨k.toNat, by omega⟩
    refine (tagW_any W a b (by omega) (by omega)).mono ?_
    rintro e W' ⟨v', rfl, hB, hb⟩
    exact ⟨v', 0, rfl, by rw [if_neg (by omega), if_neg (by omega)], .inl ⟨⟨h1, h2, h3, h4⟩, by simpa using hB⟩, hb⟩
  · have hc : ∃ c : Int, c ≠ 0 ∧ c = (if n < 1 ∨ 536870911 < n then 24 else if k < 0 ∨ 5 < k then 23 else 0) := by
      refine ⟨_, ?_, rfl⟩
      unfold okTag at h
      split
      · decide
      · split
        · decide
        · omega
    obtain ⟨c, hc0, hc⟩ := hc
    have HN := hide h
    have e0 : (c != 0) = true := by simp [hc0]
    clear h hc0
    go_enter Tryd.func9, Tryd.ntmps9
    go_wp2_with fail
    refine (tag_any W n k).mono ?_
    rintro e w' ⟨rfl, he⟩
    obtain rfl : W = w' := he.symm
    rw [← hc]
    have Hc := hide hc
    clear hc
    go_wp2
    go_ret2
    exact ⟨_, _, rfl, unhide Hc, .inr ⟨unhide HN, rfl⟩, Below.refl _ _⟩
end Go.Proofs.YtobomdokdajbaaaDoor

namespace Go.Proofs.YtobomdokdajbaaaDoor
open Go.RowKit
attribute [local go_sem ↓] Go.wp_at_zero Go.wp_at_succ

theorem tmod_emod (v n : Int) (hn : 0 < n) : -n < v.tmod n ∧ v.tmod n < n ∧ ((0 ≤ v.tmod n ∧ v % n = v.tmod n) ∨ (v.tmod n < 0 ∧ v % n = v.tmod n + n)) := by
  rcases Int.le_total 0 v with h | h
  · have h2 : v.tmod n = v % n := Int.tmod_eq_emod_of_nonneg h
    have h3 := Int.emod_nonneg v (by omega : n ≠ 0)
    have h4 := Int.emod_lt_of_pos v hn
    exact ⟨by omega, by omega, .inl ⟨by omega, by omega⟩⟩
  · have h2 : (-v).tmod n = (-v) % n := Int.tmod_eq_emod_of_nonneg (by omega)
    rw [Int.neg_tmod] at h2
    have h3 := Int.emod_nonneg (-v) (by omega : n ≠ 0)
    have h4 := Int.emod_lt_of_pos (-v) hn
    have h5 := Int.emod_nonneg v (by omega : n ≠ 0)
    have h6 := Int.emod_lt_of_pos v hn
    have h7 : (n ∣ v + (-v) % n) := ⟨-((-v) / n), by have := Int.mul_ediv_add_emod (-v) n; rw [Int.mul_neg]; omega⟩
    by_cases h0 : (-v) % n = 0
    · have h8 : v % n = 0 := by
        rw [h0, Int.add_zero] at h7
        exact Int.emod_eq_zero_of_dvd h7
      exact ⟨by omega, by omega, .inl ⟨by omega, by omega⟩⟩
    · have h8 : v % n = n - (-v) % n := by
        have e1 : v = (n - (-v) % n) + n * (-((-v) / n) - 1) := by
          have := Int.mul_ediv_add_emod (-v) n
          rw [Int.mul_sub, Int.mul_neg, Int.mul_one]
          omega
        rw [e1, Int.add_mul_emod_self_left]
        rw [← e1]
        exact Int.emod_eq_of_lt (by omega) (by omega)
      exact ⟨by omega, by omega, .inr ⟨by omega, by omega⟩⟩
set_option maxRecDepth 100000 in
/-- within, in general. -/
theorem within_all (W : World) {v lo hi d N : Int} (hv : RngI v) (hlo : 0 ≤ lo ∧ lo ≤ 4294967295) (hd : hi - lo = d) (hN : d + 1 = N) (h0 : 0 ≤ d) (hh : hi ≤ 4294967295) :
    Calls Tryd.prog 10 #[.int .i64 v, .int .i64 lo, .int .i64 hi] W fun e w => e = .returned (.int .i64 (lo + v % N)) ∧ w = W := by
  obtain ⟨hv1, hv2⟩ := hv
  obtain ⟨b1, b2, b3⟩ := tmod_emod v N (by omega)
  obtain ⟨r, hr⟩ : ∃ r, v.tmod N = r := ⟨_, rfl⟩
  rw [hr] at b1 b2 b3
  have c1 : N ≤ 4294967296 := by omega
  have c2 : 0 < N := by omega
  have c3 : ¬ N = 0 := by omega
  have c4 : d ≤ 4294967295 := by omega
  rcases b3 with ⟨b3, b4⟩ | ⟨b3, b4⟩
  · have q1 : decide (r < 0) = false := by simp; omega
    rw [b4]
    clear b4
    go_enter Tryd.func10, Tryd.ntmps10
    go_wp2
    go_ret
    exact ⟨rfl, rfl⟩
  · have q1 : decide (r < 0) = true := by simp; omega
    rw [b4]
    clear b4
    go_enter Tryd.func10, Tryd.ntmps10
    go_wp2
    go_ret
    exact ⟨rfl, rfl⟩
theorem within_k (W : World) {v : Int} (hv : RngI v) : Calls Tryd.prog 10 #[.int .i64 v, .int .i64 0, .int .i64 4] W fun e w => e = .returned (.int .i64 (v % 5)) ∧ w = W := by
  have := within_all W (v := v) (lo := 0) (hi := 4) (d := 4) (N := 5) hv (by decide) (by decide) (by decide) (by decide) (by decide)
  rwa [Int.zero_add] at this
theorem within_n (W : World) {v : Int} (hv : RngI v) : Calls Tryd.prog 10 #[.int .i64 v, .int .i64 1, .int .i64 536870911] W fun e w => e = .returned (.int .i64 (1 + v % 536870911)) ∧ w = W :=
  within_all W (v := v) (lo := 1) (hi := 536870911) (d := 536870910) (N := 536870911) hv (by decide) (by decide) (by decide) (by decide) (by decide)
theorem within_w (W : World) {v : Int} (hv : RngI v) : Calls Tryd.prog 10 #[.int .i64 v, .int .i64 0, .int .i64 4294967295] W fun e w => e = .returned (.int .i64 (v % 4294967296)) ∧ w = W := by
  have := within_all W (v := v) (lo := 0) (hi := 4294967295) (d := 4294967295) (N := 4294967296) hv (by decide) (by decide) (by decide) (by decide) (by decide)
  rwa [Int.zero_add] at this
end Go.Proofs.YtobomdokdajbaaaDoor
