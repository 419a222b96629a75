import Derived.Test.YtlblllghgdfpoaaDoorJ47
import Derived.Test.YtlblllghgdfpoaaDoorEF

namespace Go.Proofs.YtlblllghgdfpoaaDoor
open Go.RowKit
attribute [local go_sem ↓] Go.wp_at_zero Go.wp_at_succ

/-- Where the third loop stands: the lists, and those of them that were grown. -/
structure Gw (W : World) (B : Nat) (xs : List Value) (cs : List (List Nat)) (i : Nat) (w : World) (vM : Value) (rs : List Value) : Prop where
  lb : Lb B w xs cs
  rm : w.ownsRow B 29 1 vM rs.length rs
  rl : rs.length = i
  el : ∀ (j : Nat) (r : Value) (c : List Nat), rs[j]? = some r → cs[j]? = some c → Bytes B w r (c ++ mkL (1048576 + j) 70) ∧ ∀ x, xs[j]? = some x → r.ownBlock = x.ownBlock ∨ ∃ g, r.ownBlock = some g ∧ W.heap.size ≤ g
  fr : Fr W w (InB xs)
  ap : ∀ q, vM.ownBlock = some q → W.heap.size ≤ q ∧ ¬ InB rs q
  lw : ∀ q, InB xs q → q < W.heap.size
theorem Gw.start {W : World} {B : Nat} {xs : List Value} {cs : List (List Nat)} (h : Lb B W xs cs) : Gw W B xs cs 0 W (.slice none 0 0) [] :=
  ⟨h, World.ownsRow_nil _ _ _ _, rfl, fun j r c hr => by simp at hr, Fr.refl _ _, fun q e => (by cases e), fun q hq => (h.lt hq).2⟩
theorem Gw.up {W w w' : World} {B i : Nat} {xs rs : List Value} {cs : List (List Nat)} {vM : Value} (h : Gw W B xs cs i w vM rs) (hb : Below w.heap.size w w') : Gw W B xs cs i w' vM rs :=
  ⟨h.lb.keep (fun q hq _ => hb.block q hq), own_same h.rm (fun q e => hb.block q (h.rm.lt q e).2), h.rl, fun j r c hr hc => ⟨(h.el j r c hr hc).1.upw2 hb, (h.el j r c hr hc).2⟩, h.fr.up hb, h.ap, h.lw⟩
theorem Gw.inr {W w : World} {B i : Nat} {xs rs : List Value} {cs : List (List Nat)} {vM : Value} (h : Gw W B xs cs i w vM rs) (hi : i ≤ xs.length) {q : Nat} (hq : InB rs q) : q < w.heap.size ∧ (W.heap.size ≤ q ∨ ∃ (j : Nat) (x : Value), j < i ∧ xs[j]? = some x ∧ x.ownBlock = some q) := by
  obtain ⟨j, r, hr, e⟩ := hq
  have hj : j < i := by rw [← h.rl]; exact (List.getElem?_eq_some_iff.1 hr).1
  obtain ⟨x, c, hx, hc, -⟩ := h.lb.at (show j < xs.length by omega)
  obtain ⟨k1, k2⟩ := h.el j r c hr hc
  refine ⟨(World.ownsRow.lt k1 q e).2, ?_⟩
  rcases k2 x hx with k | ⟨g, k, hg⟩
  · exact .inr ⟨j, x, hj, hx, k.symm.trans e⟩
  · have := Option.some.inj (k.symm.trans e); exact .inl (by omega)
/-- One more list is grown. -/
theorem Gw.grow {W w w' : World} {B i : Nat} {xs rs : List Value} {cs : List (List Nat)} {vM u r : Value} {c ys : List Nat} (h : Gw W B xs cs i w vM rs) (hi : xs[i]? = some u) (hc : cs[i]? = some c) (hg : GrA w B u c ys w' r) : Gw W B xs cs i w' vM rs := by
  have hil := (List.getElem?_eq_some_iff.1 hi).1
  have inu : ∀ q, u.ownBlock = some q → InB xs q := fun q e => ⟨i, u, hi, e⟩
  refine ⟨⟨h.lb.len, fun k v l hv hl => ?_, h.lb.ap⟩, own_same h.rm (fun q e => hg.far q (h.rm.lt q e).2 (fun e2 => by have := (h.ap q e).1; have := h.lw q (inu q e2); omega)), h.rl, fun j v l hv hl => ⟨own_same (h.el j v l hv hl).1 (fun q e => hg.far q (World.ownsRow.lt (h.el j v l hv hl).1 q e).2 (fun e2 => ?_)), (h.el j v l hv hl).2⟩, ⟨hg.os.trans h.fr.os, hg.tape.trans h.fr.tape, hg.output.trans h.fr.output, Nat.le_trans h.fr.size hg.size, fun q hq hn => (hg.far q (Nat.lt_of_lt_of_le hq h.fr.size) (fun e => hn (inu q e))).trans (h.fr.far q hq hn)⟩, h.ap, h.lw⟩
  · by_cases hk : k = i
    · subst hk
      obtain rfl := Option.some.inj (hv.symm.trans hi)
      obtain rfl := Option.some.inj (hl.symm.trans hc)
      exact hg.vv
    · exact own_same (h.lb.own k v l hv hl) (fun q e => hg.far q (World.ownsRow.lt (h.lb.own k v l hv hl) q e).2 (fun e2 => hk (h.lb.ap k i v u q hv hi e e2)))
  · rcases (h.inr (by omega) ⟨j, v, hv, e⟩).2 with k | ⟨m, x, hm, hx, ex⟩
    · have := h.lw q (inu q e2); omega
    · have := h.lb.ap m i x u q hx hi ex e2; omega
/-- It is kept beside the others. -/
theorem Gw.push {W w w2 : World} {B i g c' : Nat} {xs rs : List Value} {cs : List (List Nat)} {vM u r : Value} {c : List Nat} {o1 : Obj} (h : Gw W B xs cs i w vM rs) (hi : xs[i]? = some u) (hc : cs[i]? = some c) (hr : Bytes B w r (c ++ mkL (1048576 + i) 70)) (hrb : r.ownBlock = u.ownBlock ∨ ∃ g, r.ownBlock = some g ∧ W.heap.size ≤ g) (hrm : ∀ q, r.ownBlock = some q → vM.ownBlock ≠ some q)
    (hrow : w2.ownsRow B 29 1 (.slice (some ⟨g, 0, none⟩) (rs.length + 1) c') (rs.length + 1) (rs ++ [r])) (hg : (w.alloc o1).grownBy w2 vM.ownBlock) (hat : vM.ownBlock = some g ∨ (w.alloc o1).heap.size ≤ g) : Gw W B xs cs (i + 1) w2 (.slice (some ⟨g, 0, none⟩) (rs.length + 1) c') (rs ++ [r]) := by
  have hil := (List.getElem?_eq_some_iff.1 hi).1
  have s2 := hg.size
  rw [World.size_alloc] at s2 hat
  have s0 := h.fr.size
  have key : ∀ q, q < w.heap.size → vM.ownBlock ≠ some q → w2.heap[q]? = w.heap[q]? := fun q hq hn => (hg.block q (by rw [World.size_alloc]; omega) (fun e => hn e.symm)).trans (Below.heap_alloc w o1 q hq)
  have nx : ∀ q, InB xs q → vM.ownBlock ≠ some q := fun q e e2 => by have := (h.ap q e2).1; have := h.lw q e; omega
  refine ⟨h.lb.keep (fun q hq e => key q hq (nx q e)), by rw [List.length_append]; exact hrow, by rw [List.length_append, h.rl]; rfl, fun j v l hv hl => ?_, ⟨hg.os.trans h.fr.os, hg.tape.trans h.fr.tape, hg.output.trans h.fr.output, by omega, fun q hq hn => (key q (by omega) (fun e => by have := (h.ap q e).1; omega)).trans (h.fr.far q hq hn)⟩, fun q e => ?_, h.lw⟩
  · by_cases hj : j < rs.length
    · rw [List.getElem?_append_left hj] at hv
      obtain ⟨k1, k2⟩ := h.el j v l hv hl
      exact ⟨own_same k1 (fun q e => key q (World.ownsRow.lt k1 q e).2 (fun e2 => (h.ap q e2).2 ⟨j, v, hv, e⟩)), k2⟩
    · have := (List.getElem?_eq_some_iff.1 hv).1
      rw [List.length_append, List.length_singleton] at this
      obtain rfl : j = rs.length := by omega
      rw [List.getElem?_append_right (Nat.le_refl _)] at hv
      simp at hv
      subst hv
      rw [h.rl] at hl ⊢
      obtain rfl := Option.some.inj (hl.symm.trans hc)
      exact ⟨own_same hr (fun q e => key q (World.ownsRow.lt hr q e).2 (hrm q e)), fun x hx => by obtain rfl := Option.some.inj (hx.symm.trans hi); exact hrb⟩
  · have e1 : g = q := Option.some.inj e
    subst e1
    have cas : vM.ownBlock = some g ∨ w.heap.size ≤ g := hat.imp (fun k => k) (fun k => by omega)
    refine ⟨?_, fun hin => ?_⟩
    · rcases cas with k | k
      · exact (h.ap g k).1
      · omega
    · rcases inB_app hin with k | k
      · rcases cas with k2 | k2
        · exact (h.ap g k2).2 k
        · have := (h.inr (by omega) k).1; omega
      · rcases cas with k2 | k2
        · exact hrm g k k2
        · have := (World.ownsRow.lt hr g k).2; omega
set_option maxRecDepth 100000 in
set_option maxHeartbeats 4000000 in
theorem l7_any {B : Nat} {w : World} {vL : Value} {xs : List Value} {cs : List (List Nat)} {tm : Array Value} {Q : Exit → Act → World → Prop} (hr : w.ownsRow B 29 1 vL xs.length xs) (hlb : Lb B w xs cs) (hap : ∀ q, InB xs q → vL.ownBlock ≠ some q) (hcs : ∀ l ∈ cs, Byt l ∧ l.length ≤ 67108864) (hn : xs.length ≤ 2000000) (hB : B ≤ w.heap.size) (hsz : tm.size = 401) (hchk : chk tm [(3, vL), (28, .slice none 0 0)])
    (hQ : ∀ (w' : World) (vM : Value) (rs : List Value) (tm' : Array Value), tm'.size = 401 → chk tm' [(3, vL), (28, vM)] → Gw w B xs cs xs.length w' vM rs → Q .normal { tmps := tm', defers := [] } w') : qL7.wp Tryd.prog Q { tmps := tm, defers := [] } w := by
  obtain ⟨i1, qi, qz0, qz1, qz2⟩ := info_parts Tryd.infoBytes
  have hd : HdB w vL xs := by
    obtain ⟨a, c, rfl, -, -, h3⟩ := own_form hr
    refine ⟨a, c, rfl, fun hp => ?_⟩
    obtain ⟨g, rfl, hc⟩ := h3 hp
    exact ⟨g, 0, rfl, (hr.lt g rfl).2, fun e => hap g e rfl, fun i v hv => by rw [Nat.zero_add]; exact hc i v hv⟩
  obtain ⟨a, c, rfl, h3⟩ := hd
  have H3 := hide h3
  have HC := hide hcs
  have HQ := hide hQ
  have HB := hide hB
  have HG0 := hide (Gw.start hlb)
  clear hr hlb hap hcs h3 hQ hB
  obtain ⟨u, rfl⟩ := frame401 hsz
  obtain ⟨e3, e28, _⟩ := hchk
  replace e3 : u 3 = .slice a xs.length c := Option.some.inj e3
  replace e28 : u 28 = .slice none 0 0 := Option.some.inj e28
  rw [e3, e28]
  clear e3 e28
  unfold qL7
  dsimp only [tl, hd, qBody, Tryd.f21]
  go_wp2
  go_loopg [28, 29] xs.length (fun gk v28 v29 wr => ∃ (i : Nat) (rs : List Value), v29 = .int .i64 (i : Int) ∧ gk = xs.length - i ∧ i ≤ xs.length ∧ Hid (Gw w B xs cs i wr v28 rs))
  case atStart => exact ⟨0, [], rfl, rfl, by omega, unhide HG0⟩
  case round =>
    obtain ⟨i, rs, rfl, hgk, hi, HG⟩ := hrel
    have Hgk := hide hgk
    clear hgk HG0
    by_cases hlt : i < xs.length
    · obtain ⟨gA, oA, rfl, hgA, hnI, hc⟩ := unhide H3 (by omega)
      obtain ⟨v, l, hv, hl, hBy⟩ := (unhide HG).lb.at hlt
      obtain ⟨av, cv, rfl, -⟩ := bytes_shape hBy
      have hbl := (unhide HC l (List.mem_of_getElem? hl)).2
      have Hx : Hid (∀ w' : World, Fr w w' (InB xs) → w'.cell? ⟨gA, oA + i, none⟩ = some (.slice av l.length cv)) := fun w' hf => (World.cell?_of_block (a := ⟨gA, oA + i, none⟩) (hf.far gA hgA hnI)).trans (hc i _ hv)
      have HGd : Hid (Gw w B xs cs i wr.drew u28 rs) := (unhide HG).up ⟨rfl, rfl, rfl, Nat.le_refl _, fun _ _ => rfl⟩
      have x0 := unhide Hx wr.drew (unhide HGd).fr
      have hrl := (unhide HG).rl
      obtain ⟨aM, cM, hM, -⟩ := own_form (unhide HG).rm
      rw [hrl] at hM
      subst hM
      have HMk := hide (fun w' => marked_at w' 1048576 i 70 (1048576 + (i : Int)) 70 (by omega) rfl (by omega))
      have HGr : Hid (∀ w5 v5, Below wr.drew.heap.size wr.drew w5 → Bytes wr.drew.heap.size w5 v5 (mkL (1048576 + i) 70) → Calls Tryd.prog 38 #[.slice av l.length cv, v5] w5 fun e w' => ∃ a c, e = .returned (.slice a (l.length + (mkL (1048576 + i) 70).length) c) ∧ GrA w5 B (.slice av l.length cv) l (mkL (1048576 + i) 70) w' (.slice a (l.length + (mkL (1048576 + i) 70).length) c)) := fun w5 v5 h5 hv5 => by
        have hG5 := (unhide HGd).up h5
        exact grown_any (hG5.lb.own i _ l hv hl) (Nat.le_trans (unhide HB) hG5.fr.size) hv5.has (fun q e e2 => by have := (World.ownsRow.lt hv5 q e).1; have := (unhide HGd).lw q ⟨i, _, hv, e2⟩; have := (unhide HGd).fr.size; omega) (unhide HC l (List.mem_of_getElem? hl)).1 (mkL_byt _ _) (by omega) (by rw [mkL_len]; omega)
      have HSt : Hid (∀ (w5 w6 : World) (r : Value), Below wr.drew.heap.size wr.drew w5 → GrA w5 B (.slice av l.length cv) l (mkL (1048576 + i) 70) w6 r → Gw w B xs cs i w6 (.slice aM i cM) rs ∧ Bytes B w6 r (l ++ mkL (1048576 + i) 70) ∧ (r.ownBlock = (Value.slice av l.length cv).ownBlock ∨ ∃ g, r.ownBlock = some g ∧ w.heap.size ≤ g) ∧ ∀ q, r.ownBlock = some q → (Value.slice aM i cM).ownBlock ≠ some q) := fun w5 w6 r h5 hg => by
        have hG5 := (unhide HGd).up h5
        have s5 := hG5.fr.size
        have hb : r.ownBlock = (Value.slice av l.length cv).ownBlock ∨ ∃ g, r.ownBlock = some g ∧ w5.heap.size ≤ g := hg.blk
        refine ⟨hG5.grow hv hl hg, hg.rr, hb.imp (fun k => k) (fun ⟨g, k1, k2⟩ => ⟨g, k1, by omega⟩), fun q e e2 => ?_⟩
        rcases hb with k | ⟨g, k1, k2⟩
        · have := (hG5.ap q e2).1; have := hG5.lw q ⟨i, _, hv, k.symm.trans e⟩; omega
        · have := (hG5.rm.lt q e2).2; have := Option.some.inj (k1.symm.trans e); omega
      have Hv := hide hv
      have Hl := hide hl
      have Hlt := hide hlt
      have Hrl := hide hrl
      have j0 : (0 : Int) ≤ (i : Int) := Int.natCast_nonneg _
      have j1 : (i : Int) < (xs.length : Int) := by omega
      have hwr : IntKind.i64.wrap (1048576 + (i : Int)) = 1048576 + (i : Int) := by rw [IntKind.wrap_i64]; omega
      clear hc hgA hnI hBy hv hl hlt HG hrl
      go_wp2
      refine wp_region_noPanic ?_
      refine wp_region_any (by kernel_rfl) (Zz.wpAny_of_Z (z := 99) (T := fun w => w.cell? ⟨gA, oA + i, none⟩ = some (.slice av l.length cv)) _ _ _ _ ?_)
      have hT : (fun w : World => w.cell? ⟨gA, oA + i, none⟩ = some (.slice av l.length cv)) wr.drew := x0
      refine Zz.wpAnyZ_tk 0 (.slice aM i cM) 343 rfl rfl (Or.inl ⟨by rfl, fun w hw => by go_simp⟩) hT ?_
      simp only [Act.put, List.setIfInBounds_toArray, List.set_cons_zero, List.set_cons_succ]
      refine Zz.wpAnyZ_tk 1 (.slice (some ⟨gA, oA, none⟩) xs.length c) 344 rfl rfl (Or.inl ⟨by rfl, fun w hw => by go_simp⟩) hT ?_
      simp only [Act.put, List.setIfInBounds_toArray, List.set_cons_zero, List.set_cons_succ]
      refine Zz.wpAnyZ_tk 2 (.int .i64 (i : Int)) 345 rfl rfl (Or.inl ⟨by rfl, fun w hw => by go_simp⟩) hT ?_
      simp only [Act.put, List.setIfInBounds_toArray, List.set_cons_zero, List.set_cons_succ]
      refine Zz.wpAnyZ_tk 3 (.pointer (some ⟨gA, oA + i, none⟩)) 346 rfl rfl (Or.inl ⟨by rfl, fun w hw => by go_simp⟩) hT ?_
      simp only [Act.put, List.setIfInBounds_toArray, List.set_cons_zero, List.set_cons_succ]
      refine Zz.wpAnyZ_tk 4 (.slice av l.length cv) 347 rfl rfl (Or.inl ⟨by rfl, fun w hw => by go_simp⟩) hT ?_
      simp only [Act.put, List.setIfInBounds_toArray, List.set_cons_zero, List.set_cons_succ]
      refine Zz.wpAnyZ_tk 5 (.int .i64 (i : Int)) 348 rfl rfl (Or.inl ⟨by rfl, fun w hw => by go_simp⟩) hT ?_
      simp only [Act.put, List.setIfInBounds_toArray, List.set_cons_zero, List.set_cons_succ]
      refine Zz.wpAnyZ_tk 6 (.int .i64 (1048576 + (i : Int))) 349 rfl rfl (Or.inl ⟨by rfl, fun w hw => by go_simp⟩) hT ?_
      simp only [Act.put, List.setIfInBounds_toArray, List.set_cons_zero, List.set_cons_succ]
      refine Zz.wpAnyZ_one 7 (by kernel_rfl) rfl (fun KK hK => ?_)
      refine Zz.step_callD 350 rfl rfl 37 (callMk _) #[.tmp 349, .const (.int .i64 70)] #[3, 3] rfl #[.int .i64 (1048576 + (i : Int)), .int .i64 70] (by first | rfl | simp [Act.eval]) (unhide HMk _) ?_
      rintro o5 w5 ⟨v5, rfl, hB5, hb5⟩
      refine ⟨_, rfl, ?_⟩
      have x05 := unhide Hx w5 ((unhide HGd).up hb5).fr
      have HB5 := hide hB5
      have Hb5 := hide hb5
      clear hB5 hb5 HMk
      refine hK _ _ ⟨fun _ => x05, ?_⟩
      clear hK KK
      simp only [Act.put, List.setIfInBounds_toArray, List.set_cons_zero, List.set_cons_succ]
      refine Zz.wpAnyZ_one 8 (by kernel_rfl) rfl (fun KK hK => ?_)
      refine Zz.step_callD 351 rfl rfl 38 (callGr _) #[.tmp 347, .tmp 350] #[29, 29] rfl #[.slice av l.length cv, v5] (by first | rfl | simp [Act.eval]) (unhide HGr w5 v5 (unhide Hb5) (unhide HB5)) ?_
      rintro o6 w6 ⟨aR, cR, rfl, hG6⟩
      refine ⟨_, rfl, ?_⟩
      obtain ⟨hg6, hr6, hb6, hm6⟩ := unhide HSt w5 w6 _ (unhide Hb5) hG6
      obtain ⟨LG, hLG⟩ : ∃ n, l.length + (mkL (1048576 + i) 70).length = n := ⟨_, rfl⟩
      rw [hLG] at hr6 hb6 hm6 ⊢
      have x06 := unhide Hx w6 hg6.fr
      have hb7 : Below w6.heap.size w6 (w6.alloc (.cells #[.slice aR LG cR] 29)) := (Below.refl _ _).alloc (Nat.le_refl _) _
      have x07 := unhide Hx _ (hg6.up hb7).fr
      have hB7 : B ≤ w6.heap.size := Nat.le_trans (unhide HB) hg6.fr.size
      have HG6 := hide hg6
      have HR6 := hide hr6
      have Hb6 := hide hb6
      have Hm6 := hide hm6
      have HRM : Hid (w6.ownsRow B 29 1 (.slice aM i cM) i rs) := by have k := hg6.rm; rw [unhide Hrl] at k; exact k
      clear hg6 hr6 hb6 hm6 hLG hG6 HB5 Hb5 HGr HSt x05
      refine hK _ _ ⟨fun _ => x06, ?_⟩
      clear hK KK
      simp only [Act.put, List.setIfInBounds_toArray, List.set_cons_zero, List.set_cons_succ]
      refine Zz.wpAnyZ_one 9 (by kernel_rfl) rfl (fun KK hK => ?_)
      go_simp
      refine hK _ _ ⟨fun _ => x07, ?_⟩
      clear hK KK
      refine Zz.wpAnyZ_one 10 (by kernel_rfl) rfl (fun KK hK => ?_)
      refine step_append_keeps 353 rfl rfl (.tmp 343) (.tmp 352) 22 rfl B 29 i1 (.slice none 0 0) 1 24 Tryd.underlying22 qi qz0 qz1 qz2 rfl (by decide) (.slice aM i cM) i rs (by first | rfl | simp [Act.eval]) (World.ownsRow.alloc (unhide HRM) _) ⟨w6.heap.size, 0, none⟩ 1 1 [.slice aR LG cR] (by first | rfl | simp [Act.eval]) (by rfl) (cell_one_new _ _ _) (by simp [Value.oneCell']) (by decide) (by unfold maxLen; omega) (by omega) (Nat.le_trans hB7 hb7.size) ?_
      intro g8 c8 w8 hown hold hgrow hat
      have HG8 : Hid (Gw w B xs cs (i + 1) w8 (.slice (some ⟨g8, 0, none⟩) (i + 1) c8) (rs ++ [.slice aR LG cR])) := by
        have k := (unhide HG6).push (g := g8) (c' := c8) (w2 := w8) (unhide Hv) (unhide Hl) (unhide HR6) (unhide Hb6) (unhide Hm6) (by rw [unhide Hrl]; exact hown) hgrow hat
        rw [unhide Hrl] at k
        exact k
      have x08 := unhide Hx w8 (unhide HG8).fr
      clear hown hold hgrow hat HG6 HR6 Hb6 Hm6 HRM hb7 hB7
      refine hK _ _ ⟨fun _ => x08, ?_⟩
      clear hK KK hT x0 x06 x07
      have hT := x08
      try simp only [Act.put, List.setIfInBounds_toArray, List.set_cons_zero, List.set_cons_succ]
      refine Zz.wpAnyZ_tk 11 (.slice (some ⟨g8, 0, none⟩) (i + 1) c8) 28 rfl rfl (Or.inl ⟨by rfl, fun w hw => by go_simp⟩) hT ?_
      simp only [Act.put, List.setIfInBounds_toArray, List.set_cons_zero, List.set_cons_succ]
      refine Zz.wpAnyZ_done (by kernel_rfl) ?_
      refine NoPanic.normal ?_
      clear hT x08
      go_wp2
      go_roundg (xs.length - (i + 1))
      case measure => have := unhide Hgk; have := unhide Hlt; omega
      case rel => exact ⟨i + 1, _, by go_num, rfl, unhide Hlt, unhide HG8⟩
    · obtain rfl : i = xs.length := by omega
      clear hlt hi Hgk
      go_wp2
      exact unhide HQ _ _ rs _ rfl ⟨rfl, rfl, trivial⟩ (unhide HG)
end Go.Proofs.YtlblllghgdfpoaaDoor
