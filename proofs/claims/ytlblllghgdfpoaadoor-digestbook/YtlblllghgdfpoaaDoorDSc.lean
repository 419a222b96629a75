import Derived.Test.YtlblllghgdfpoaaDoorDSb
import Derived.Laws.Rows
import Derived.Laws.Tables

namespace Go.Proofs.YtlblllghgdfpoaaDoor
open Go.RowKit
attribute [local go_sem ↓] Go.wp_at_zero Go.wp_at_succ

/-- An array of words that is a block. -/
def ArrT (W : World) (b : Nat) (t : TypeId) (l : List Nat) : Prop := W.heap[b]? = some (.cells (nw l).toArray t (0, 0))
theorem ArrT.arr {W : World} {b : Nat} {t : TypeId} {l : List Nat} (h : ArrT W b t l) : Arr W b l := by
  refine ⟨fun j v hv => ?_, fun j hj => ⟨?_, ?_⟩, (Array.getElem?_eq_some_iff.1 h).1⟩
  · rw [Nat.zero_add, cell_of_row _ _ _ _ _ _ h, List.getElem?_toArray]; exact hv
  · rw [Nat.zero_add, cell_of_row _ _ _ _ _ _ h, List.getElem?_toArray, nw_at, List.getElem?_eq_getElem hj]; rfl
  · unfold World.frozen?
    rw [h]
    simp
theorem ArrT.set {W : World} {b : Nat} {t : TypeId} {l : List Nat} (h : ArrT W b t l) (i x : Nat) : ArrT (W.setCell ⟨b, i, none⟩ (.int .u32 (x : Int))) b t (l.set i x) := by
  unfold ArrT
  rw [heap_setCell_same _ b i _ t _ h]
  congr 2
  simp [nw, List.map_set]
theorem ArrT.same {A B : World} {b : Nat} {t : TypeId} {l : List Nat} (h : ArrT A b t l) (hb : B.heap[b]? = A.heap[b]?) : ArrT B b t l := hb.trans h
theorem ext_len : ∀ (k : Nat) (l : List Nat), (ext k l).length = l.length + k
  | 0, _ => rfl
  | k + 1, l => by simp only [ext]; rw [ext_len k]; simp; omega
theorem ext_more : ∀ (k : Nat) (l : List Nat), ext (k + 1) l = ext k l ++ [nextW (ext k l)]
  | 0, _ => rfl
  | k + 1, l => ext_more k (l ++ [nextW l])
theorem nextW_lt (l : List Nat) : nextW l < 4294967296 := Nat.mod_lt _ (by decide)
theorem ext_w32 : ∀ (k : Nat) (l : List Nat), W32 l → W32 (ext k l)
  | 0, _, h => h
  | k + 1, l, h => ext_w32 k _ (fun x hx => by
      rcases List.mem_append.1 hx with q | q
      · exact h x q
      · simp at q; rw [q]; exact nextW_lt l)

theorem z64_eq : (nw (List.replicate 64 0)).toArray = #[.int .u32 0, .int .u32 0, .int .u32 0, .int .u32 0, .int .u32 0, .int .u32 0, .int .u32 0, .int .u32 0, .int .u32 0, .int .u32 0, .int .u32 0, .int .u32 0, .int .u32 0, .int .u32 0, .int .u32 0, .int .u32 0, .int .u32 0, .int .u32 0, .int .u32 0, .int .u32 0, .int .u32 0, .int .u32 0, .int .u32 0, .int .u32 0, .int .u32 0, .int .u32 0, .int .u32 0, .int .u32 0, .int .u32 0, .int .u32 0, .int .u32 0, .int .u32 0, .int .u32 0, .int .u32 0, .int .u32 0, .int .u32 0, .int .u32 0, .int .u32 0, .int .u32 0, .int .u32 0, .int .u32 0, .int .u32 0, .int .u32 0, .int .u32 0, .int .u32 0, .int .u32 0, .int .u32 0, .int .u32 0, .int .u32 0, .int .u32 0, .int .u32 0, .int .u32 0, .int .u32 0, .int .u32 0, .int .u32 0, .int .u32 0, .int .u32 0, .int .u32 0, .int .u32 0, .int .u32 0, .int .u32 0, .int .u32 0, .int .u32 0, .int .u32 0] := by rfl
theorem splice_16 (w16 : List Nat) (hl : w16.length = 16) : splice (nw (List.replicate 64 0)) 0 (nw w16) = nw (w16 ++ List.replicate 48 0) := by
  unfold splice
  rw [List.take_zero, List.nil_append, nw_len, hl, Nat.zero_add]
  unfold nw
  rw [List.map_append]
  rfl
theorem sig_step {L : List Nat} {i p q r7 r16 : Nat} (hL : L.length = i) (hp : L[i - 2]? = some p) (h7 : L[i - 7]? = some r7) (hq : L[i - 15]? = some q) (h0 : L[i - 16]? = some r16) : nextW L = (sig1 p + r7 + sig0 q + r16) % 4294967296 := by
  unfold nextW
  rw [hL, List.getD_eq_getElem?_getD, List.getD_eq_getElem?_getD, List.getD_eq_getElem?_getD, List.getD_eq_getElem?_getD, hp, h7, hq, h0]
  rfl
theorem set_fill (L : List Nat) (i x : Nat) (hL : L.length = i) (hi : i < 64) : (L ++ List.replicate (64 - i) 0).set i x = (L ++ [x]) ++ List.replicate (64 - (i + 1)) 0 := by
  rw [List.set_append, if_neg (by omega), hL, Nat.sub_self, show 64 - i = (64 - (i + 1)) + 1 by omega, List.replicate_succ, List.set_cons_zero]
  simp

set_option maxRecDepth 100000 in
set_option maxHeartbeats 1000000 in
theorem spread_any (W : World) (w16 : List Nat) (hl : w16.length = 16) (hw : W32 w16) :
    Calls Tryd.prog 69 #[.agg (nw w16).toArray] W fun e W' => e = .returned (.agg (nw (ext 48 w16)).toArray) ∧ Below W.heap.size W W' := by
  obtain ⟨A, hA⟩ : ∃ A, (nw w16).toArray = A := ⟨_, rfl⟩
  have hAs : A.size = 16 := by rw [← hA]; simp [hl]
  have hszu : (Tryd.prog.info? 81).map (·.size) = some 1 := by kernel_rfl
  have hif : (Tryd.prog.info? 96).map (·.size) = some 64 := by kernel_rfl
  rw [hA]
  go_enter Tryd.func69, Tryd.ntmps69
  go_wp2
  obtain ⟨W3, hW3⟩ : ∃ w, w = ((W.alloc (.cells A 88)).alloc (.cells #[.int .u32 0, .int .u32 0, .int .u32 0, .int .u32 0, .int .u32 0, .int .u32 0, .int .u32 0, .int .u32 0, .int .u32 0, .int .u32 0, .int .u32 0, .int .u32 0, .int .u32 0, .int .u32 0, .int .u32 0, .int .u32 0, .int .u32 0, .int .u32 0, .int .u32 0, .int .u32 0, .int .u32 0, .int .u32 0, .int .u32 0, .int .u32 0, .int .u32 0, .int .u32 0, .int .u32 0, .int .u32 0, .int .u32 0, .int .u32 0, .int .u32 0, .int .u32 0, .int .u32 0, .int .u32 0, .int .u32 0, .int .u32 0, .int .u32 0, .int .u32 0, .int .u32 0, .int .u32 0, .int .u32 0, .int .u32 0, .int .u32 0, .int .u32 0, .int .u32 0, .int .u32 0, .int .u32 0, .int .u32 0, .int .u32 0, .int .u32 0, .int .u32 0, .int .u32 0, .int .u32 0, .int .u32 0, .int .u32 0, .int .u32 0, .int .u32 0, .int .u32 0, .int .u32 0, .int .u32 0, .int .u32 0, .int .u32 0, .int .u32 0, .int .u32 0] 96)).alloc (.cells #[.int .u32 0, .int .u32 0, .int .u32 0, .int .u32 0, .int .u32 0, .int .u32 0, .int .u32 0, .int .u32 0, .int .u32 0, .int .u32 0, .int .u32 0, .int .u32 0, .int .u32 0, .int .u32 0, .int .u32 0, .int .u32 0, .int .u32 0, .int .u32 0, .int .u32 0, .int .u32 0, .int .u32 0, .int .u32 0, .int .u32 0, .int .u32 0, .int .u32 0, .int .u32 0, .int .u32 0, .int .u32 0, .int .u32 0, .int .u32 0, .int .u32 0, .int .u32 0, .int .u32 0, .int .u32 0, .int .u32 0, .int .u32 0, .int .u32 0, .int .u32 0, .int .u32 0, .int .u32 0, .int .u32 0, .int .u32 0, .int .u32 0, .int .u32 0, .int .u32 0, .int .u32 0, .int .u32 0, .int .u32 0, .int .u32 0, .int .u32 0, .int .u32 0, .int .u32 0, .int .u32 0, .int .u32 0, .int .u32 0, .int .u32 0, .int .u32 0, .int .u32 0, .int .u32 0, .int .u32 0, .int .u32 0, .int .u32 0, .int .u32 0, .int .u32 0] 96) := ⟨_, rfl⟩
  rw [← hW3]
  have hsz3 : W3.heap.size = W.heap.size + 3 := by rw [hW3]; simp
  have hb3 : Below W.heap.size W W3 := by rw [hW3]; exact (((Below.refl _ _).alloc (Nat.le_refl _) _).alloc (by simp) _).alloc (by simp; omega) _
  have t0 : ArrT W3 W.heap.size 88 w16 := by
    unfold ArrT
    rw [hW3, hA, Below.heap_alloc _ _ _ (by simp; omega), Below.heap_alloc _ _ _ (by simp)]
    exact heap_new _ _
  have t1 : ArrT W3 (W.heap.size + 1) 96 (List.replicate 64 0) := by
    unfold ArrT
    rw [hW3, z64_eq, Below.heap_alloc _ _ _ (by simp)]
    exact heap_alloc2_new _ _ _
  have t2 : ArrT W3 (W.heap.size + 1 + 1) 96 (List.replicate 64 0) := by
    unfold ArrT
    rw [hW3, z64_eq]
    have := heap_alloc2_new (W.alloc (.cells A 88)) (.cells #[.int .u32 0, .int .u32 0, .int .u32 0, .int .u32 0, .int .u32 0, .int .u32 0, .int .u32 0, .int .u32 0, .int .u32 0, .int .u32 0, .int .u32 0, .int .u32 0, .int .u32 0, .int .u32 0, .int .u32 0, .int .u32 0, .int .u32 0, .int .u32 0, .int .u32 0, .int .u32 0, .int .u32 0, .int .u32 0, .int .u32 0, .int .u32 0, .int .u32 0, .int .u32 0, .int .u32 0, .int .u32 0, .int .u32 0, .int .u32 0, .int .u32 0, .int .u32 0, .int .u32 0, .int .u32 0, .int .u32 0, .int .u32 0, .int .u32 0, .int .u32 0, .int .u32 0, .int .u32 0, .int .u32 0, .int .u32 0, .int .u32 0, .int .u32 0, .int .u32 0, .int .u32 0, .int .u32 0, .int .u32 0, .int .u32 0, .int .u32 0, .int .u32 0, .int .u32 0, .int .u32 0, .int .u32 0, .int .u32 0, .int .u32 0, .int .u32 0, .int .u32 0, .int .u32 0, .int .u32 0, .int .u32 0, .int .u32 0, .int .u32 0, .int .u32 0] 96) (.cells #[.int .u32 0, .int .u32 0, .int .u32 0, .int .u32 0, .int .u32 0, .int .u32 0, .int .u32 0, .int .u32 0, .int .u32 0, .int .u32 0, .int .u32 0, .int .u32 0, .int .u32 0, .int .u32 0, .int .u32 0, .int .u32 0, .int .u32 0, .int .u32 0, .int .u32 0, .int .u32 0, .int .u32 0, .int .u32 0, .int .u32 0, .int .u32 0, .int .u32 0, .int .u32 0, .int .u32 0, .int .u32 0, .int .u32 0, .int .u32 0, .int .u32 0, .int .u32 0, .int .u32 0, .int .u32 0, .int .u32 0, .int .u32 0, .int .u32 0, .int .u32 0, .int .u32 0, .int .u32 0, .int .u32 0, .int .u32 0, .int .u32 0, .int .u32 0, .int .u32 0, .int .u32 0, .int .u32 0, .int .u32 0, .int .u32 0, .int .u32 0, .int .u32 0, .int .u32 0, .int .u32 0, .int .u32 0, .int .u32 0, .int .u32 0, .int .u32 0, .int .u32 0, .int .u32 0, .int .u32 0, .int .u32 0, .int .u32 0, .int .u32 0, .int .u32 0] 96)
    simpa using this
  clear hW3
  have hsrc : ∀ n j v, (nw w16)[j]? = some v → (W3.drewN n).cell? ((⟨W.heap.size, 0, none⟩ : Addr).add j) = some v := fun n j v hv => by
    rw [Go.WideShapes.add_plain]
    exact t0.arr.cells j v hv
  go_region_law (refine step_copy_splice rfl (.tmp 9) (.tmp 10) 101 101 rfl 81 Tryd.underlying101 hszu (some ⟨W.heap.size + 1 + 1, 0, none⟩) (some ⟨W.heap.size, 0, none⟩) 64 64 16 16 (by first | rfl | simp [Act.eval, Act.put]) (by first | rfl | simp [Act.eval, Act.put]) (W.heap.size + 1 + 1) 0 (nw (List.replicate 64 0)) 96 t2 (nw w16) (by rw [nw_len, hl]; rfl) (fun _ => ⟨rfl, _, rfl, hsrc _⟩) (by rw [nw_len, nw_len, hl]; decide) (fun v hv => by obtain ⟨b, _, rfl⟩ := List.mem_map.1 hv; rfl) (W.heap.size + 1 + 1) W3 (below_drewN (Below.refl _ _) _) (Nat.le_refl _) ?_; intro w4 hg4 hb4)
  have g2 : ArrT w4 (W.heap.size + 1 + 1) 96 (w16 ++ List.replicate 48 0) := by
    have : w4.heap[W.heap.size + 1 + 1]? = _ := hg4
    rw [splice_16 w16 hl] at this
    exact this
  have g1 : ArrT w4 (W.heap.size + 1) 96 (List.replicate 64 0) := t1.same (hb4.block _ (by omega))
  have hbw : Below W.heap.size W w4 := hb3.trans (hb4.mono (by omega))
  have hs4 : W.heap.size + 3 ≤ w4.heap.size := by have := hb4.size; omega
  clear hg4 hb4 t0 t1 t2 hsrc hsz3 hb3
  go_wp2
  go_loopg [4] 48 (fun gk v4 wr => ∃ (i : Nat), v4 = .int .i64 (i : Int) ∧ gk = 64 - i ∧ 16 ≤ i ∧ i ≤ 64 ∧ ArrT wr (W.heap.size + 1 + 1) 96 (ext (i - 16) w16 ++ List.replicate (64 - i) 0) ∧ ArrT wr (W.heap.size + 1) 96 (List.replicate 64 0) ∧ Below W.heap.size W wr)
  case atStart => exact ⟨16, rfl, rfl, by omega, by omega, g2, g1, hbw⟩
  case round =>
    clear g1 g2 hbw hs4
    obtain ⟨i, rfl, hgk, h16, h64, hR, hR1, hB⟩ := hrel
    have Hgk := hide hgk
    clear hgk
    have hL : (ext (i - 16) w16).length = i := by rw [ext_len]; omega
    have hLw : W32 (ext (i - 16) w16) := ext_w32 _ _ hw
    have hnext : ext (i + 1 - 16) w16 = ext (i - 16) w16 ++ [nextW (ext (i - 16) w16)] := by rw [show i + 1 - 16 = (i - 16) + 1 by omega, ext_more]
    have Hnext := hide hnext
    have Hlast : Hid (i = 64 → ext (i - 16) w16 = ext 48 w16) := fun e => by rw [e]
    clear hnext
    generalize ext (i - 16) w16 = L at *
    by_cases hlt : i < 64
    · obtain ⟨p, hp⟩ : ∃ p, L[i - 2]? = some p := ⟨_, List.getElem?_eq_getElem (by omega)⟩
      obtain ⟨q, hq⟩ : ∃ p, L[i - 15]? = some p := ⟨_, List.getElem?_eq_getElem (by omega)⟩
      obtain ⟨r7, hr7⟩ : ∃ p, L[i - 7]? = some p := ⟨_, List.getElem?_eq_getElem (by omega)⟩
      obtain ⟨r0, hr0⟩ : ∃ p, L[i - 16]? = some p := ⟨_, List.getElem?_eq_getElem (by omega)⟩
      have hnw := sig_step hL hp hr7 hq hr0
      have lp := hLw p (List.mem_of_getElem? hp)
      have lq := hLw q (List.mem_of_getElem? hq)
      have cc : ∀ (k x : Nat), L[k]? = some x → wr.cell? ⟨W.heap.size + 1 + 1, k, none⟩ = some (.int .u32 (x : Int)) := fun k x hk => hR.arr.cell (by rw [List.getElem?_append_left (List.getElem?_eq_some_iff.1 hk).1]; exact hk)
      have cp := cc _ _ hp
      have cq := cc _ _ hq
      have c7 := cc _ _ hr7
      have c0 := cc _ _ hr0
      have ci : wr.cell? ⟨W.heap.size + 1 + 1, i, none⟩ = some (.int .u32 ((0 : Nat) : Int)) := hR.arr.cell (by
        rw [List.getElem?_append_right (by omega), hL, Nat.sub_self, show 64 - i = (64 - (i + 1)) + 1 by omega, List.replicate_succ]
        rfl)
      have fi : wr.frozen? ⟨W.heap.size + 1 + 1, i, none⟩ = false := hR.arr.frozen (by simp; omega)
      obtain ⟨j2, e2⟩ : ∃ j, j = i - 2 := ⟨_, rfl⟩
      obtain ⟨j15, e15⟩ : ∃ j, j = i - 15 := ⟨_, rfl⟩
      obtain ⟨j7, e7⟩ : ∃ j, j = i - 7 := ⟨_, rfl⟩
      obtain ⟨j16, e16⟩ : ∃ j, j = i - 16 := ⟨_, rfl⟩
      rw [← e2] at cp
      rw [← e15] at cq
      rw [← e7] at c7
      rw [← e16] at c0
      have k2 : (i : Int) - 2 = (j2 : Int) := by omega
      have k15 : (i : Int) - 15 = (j15 : Int) := by omega
      have k7 : (i : Int) - 7 = (j7 : Int) := by omega
      have k16 : (i : Int) - 16 = (j16 : Int) := by omega
      have m2 : j2 < 64 := by omega
      have m15 : j15 < 64 := by omega
      have m7 : j7 < 64 := by omega
      have m16 : j16 < 64 := by omega
      have x1 : bits .xor .u32 ((rotr p 17 : Nat) : Int) ((rotr p 19 : Nat) : Int) = ((rotr p 17 ^^^ rotr p 19 : Nat) : Int) := u32_xor_nat _ _ (rotr_lt _ _) (rotr_lt _ _)
      have x2 : bits .xor .u32 ((rotr p 17 ^^^ rotr p 19 : Nat) : Int) ((p : Int) / 1024) = ((sig1 p : Nat) : Int) := by
        rw [show (p : Int) / 1024 = ((p / 1024 : Nat) : Int) by omega]
        exact u32_xor_nat _ _ (xor_lt32 (rotr_lt _ _) (rotr_lt _ _)) (by omega)
      have x3 : bits .xor .u32 ((rotr q 7 : Nat) : Int) ((rotr q 18 : Nat) : Int) = ((rotr q 7 ^^^ rotr q 18 : Nat) : Int) := u32_xor_nat _ _ (rotr_lt _ _) (rotr_lt _ _)
      have x4 : bits .xor .u32 ((rotr q 7 ^^^ rotr q 18 : Nat) : Int) ((q : Int) / 8) = ((sig0 q : Nat) : Int) := by
        rw [show (q : Int) / 8 = ((q / 8 : Nat) : Int) by omega]
        exact u32_xor_nat _ _ (xor_lt32 (rotr_lt _ _) (rotr_lt _ _)) (by omega)
      generalize rotr p 17 ^^^ rotr p 19 = y1 at *
      generalize rotr q 7 ^^^ rotr q 18 = y2 at *
      have hi' : (i : Int) < 64 := by omega
      have Hnw := hide hnw
      have HR := hide hR
      have HL := hide hL
      clear hp hq hr7 hr0 hnw cc e2 e15 e7 e16 hR hL
      go_wp2_with fail
      go_quiet (fail)
      obtain ⟨W1, hW1⟩ : ∃ w1, w1 = wr.drewN nq := ⟨_, rfl⟩
      rw [← hW1]
      have c7' : W1.cell? ⟨W.heap.size + 1 + 1, j7, none⟩ = some (.int .u32 (r7 : Int)) := by rw [hW1]; exact c7
      have c0' : W1.cell? ⟨W.heap.size + 1 + 1, j16, none⟩ = some (.int .u32 (r0 : Int)) := by rw [hW1]; exact c0
      have ci' : W1.cell? ⟨W.heap.size + 1 + 1, i, none⟩ = some (.int .u32 ((0 : Nat) : Int)) := by rw [hW1]; exact ci
      have fi' : W1.frozen? ⟨W.heap.size + 1 + 1, i, none⟩ = false := by rw [hW1]; exact fi
      have HR' : Hid (ArrT W1 (W.heap.size + 1 + 1) 96 (L ++ List.replicate (64 - i) 0)) := by rw [hW1]; exact unhide HR
      have hR1' : ArrT W1 (W.heap.size + 1) 96 (List.replicate 64 0) := by rw [hW1]; exact hR1
      have HR1 := hide hR1'
      have hB1 : Below W.heap.size W W1 := by rw [hW1]; exact below_drewN hB _
      clear c7 c0 ci fi cp cq HR hR1 hR1' hB hW1
      go_wp2_with fail
      refine (turned_17 _ p lp).mono ?_
      rintro o w' ⟨rfl, he⟩
      obtain rfl : _ = w' := he.symm
      go_wp2_with fail
      refine (turned_19 _ p lp).mono ?_
      rintro o w' ⟨rfl, he⟩
      obtain rfl : _ = w' := he.symm
      go_wp2_with fail
      refine (turned_7 _ q lq).mono ?_
      rintro o w' ⟨rfl, he⟩
      obtain rfl : _ = w' := he.symm
      go_wp2_with fail
      refine (turned_18 _ q lq).mono ?_
      rintro o w' ⟨rfl, he⟩
      obtain rfl : _ = w' := he.symm
      go_wp2_with fail
      go_region
      all_goals go_wp2
      all_goals go_roundg (64 - (i + 1))
      all_goals first
        | (have := unhide Hgk; omega)
        | (refine ⟨i + 1, by go_num, rfl, by omega, by omega, ?_, ?_, below_drewN (below_set hB1 (by omega) _ _) _⟩
           · have e := (unhide HR').set i (nextW L)
             rw [set_fill L i _ (unhide HL) hlt, ← unhide Hnext] at e
             rw [unhide Hnw] at e
             exact e
           · exact (unhide HR1).same (heap_setCell_other W1 ⟨W.heap.size + 1 + 1, i, none⟩ (W.heap.size + 1) _ (by simp)))
    · obtain rfl : i = 64 := by omega
      have hR' : ArrT wr (W.heap.size + 1 + 1) 96 (ext 48 w16) := by rw [unhide Hlast rfl] at hR; simpa using hR
      have hCl : (ext 48 w16).length = 64 := by rw [ext_len, hl]
      obtain ⟨C, hC⟩ : ∃ C, (nw (ext 48 w16)).toArray = C := ⟨_, rfl⟩
      have hCs : C.size = 64 := by rw [← hC]; simp [hCl]
      have hC1 : C.all (·.oneCell') = true := by rw [← hC]; exact nw_one _
      unfold ArrT at hR' hR1
      rw [hC] at hR'
      have HC := hide hC
      have hifC : (Tryd.prog.info? 96).map (·.size) = some C.size := by rw [hCs]; exact hif
      have hold : (nw (List.replicate 64 0)).toArray.size = C.size := by rw [hCs]; simp
      clear hR hCl hC Hnext Hlast hLw hL
      go_wp2_with (first
        | (refine wpList_load_row rfl 96 (.tmp 3) rfl (W.heap.size + 1 + 1) rfl 96 C (0, 0) _ hR' Tryd.underlying96 rfl hifC ?_)
        | (refine wpList_store_row rfl 96 (.tmp 2) (.tmp 55) rfl (W.heap.size + 1) C rfl rfl 96 _ hR1 hifC hold hC1 ?_))
      refine bodyPost_ret (results_cell_row rfl _ _ (W.heap.size + 1) 96 C (0, 0) _ rfl (setRow_heap wr _ _ _ _ _ hR1) Tryd.underlying96 rfl hifC) rfl ?_
      rw [unhide HC]
      exact ⟨rfl, below_setRow hB (by omega) _⟩
end Go.Proofs.YtlblllghgdfpoaaDoor
