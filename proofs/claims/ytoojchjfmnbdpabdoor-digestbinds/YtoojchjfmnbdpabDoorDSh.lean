import Derived.Test.YtoojchjfmnbdpabDoorDSg
namespace Go.Proofs.YtoojchjfmnbdpabDoor
open Go.RowKit
attribute [local go_sem ↓] Go.wp_at_zero Go.wp_at_succ

theorem only_setRow {A w : World} {g : Nat} (h : Only A g w) (cs : Array Value) : Only A g (w.setRow g cs) :=
  ⟨h.os, h.tape, h.output, by have := h.size; simpa [World.setRow] using this, fun k hk hn => (setRow_other w g k cs hn).trans (h.far k hk hn)⟩
theorem w_frozen' {W : World} {g : Nat} (i : Nat) {cs : Array Value} {t : TypeId} (h : W.heap[g]? = some (.cells cs t (0, 0))) : W.frozen? ⟨g, i, none⟩ = false := by
  unfold World.frozen?
  rw [h]
  simp
theorem slice_rest (w : World) (h o : Nat) (ho : o < 64) : (Instr.sliceAt 63 (.pointer (some ⟨h, 8, none⟩)) (some (.int .i64 (o : Int))) none none).run Tryd.prog w = .ok (.slice (some ⟨h, 8 + o, none⟩) (64 - o) (64 - o)) w := by
  have hsz : (Tryd.prog.info? 5).map (·.size) = some 1 := by kernel_rfl
  obtain ⟨i0, hi0, hi1⟩ := Option.map_eq_some_iff.1 hsz
  have h3 : ¬ 64 = o := by omega
  have h4 : (⟨h, 8, none⟩ : Addr).add o = ⟨h, 8 + o, none⟩ := Addr.add_mid h 8 o
  have hb : (Instr.sliceBound (.int .i64 (o : Int)) 64 BoundsCode.sliceB).run Tryd.prog w = .ok o w := by
    have := run_sliceBound (P := Tryd.prog) (w := w) .i64 (o : Int) 64 BoundsCode.sliceB (by omega) (by omega)
    simpa using this
  simp [Instr.sliceAt, Instr.sureAddr, run_underlying Tryd.underlying63, Instr.sliceBounds, sizeOf, typeInfo, hi0, hi1, hb, h3, h4]
theorem min_cases (m o : Nat) (hm : 0 < m) (ho : o < 64) : ∃ n, Nat.min m (64 - o) = n ∧ n ≤ m ∧ n ≤ 64 - o ∧ 0 < n ∧ (n = m ∨ n = 64 - o) := by
  by_cases q : m ≤ 64 - o
  · exact ⟨m, Nat.min_eq_left q, by omega, by omega, by omega, .inl rfl⟩
  · exact ⟨64 - o, Nat.min_eq_right (by omega), by omega, by omega, by omega, .inr rfl⟩
theorem step_copy_only {P : Program} {ops : Array Oper} {o : Oper} {a : Act} {w : World} {K : Act → World → Prop} {Q : Exit → Act → World → Prop} {E : Prop} (hgd : o.guard = none) (d s : Operand) (dT sT : TypeId)
    (ho : o.op = .call { callee := .builtin .copy, args := #[d, s], argTypes := #[dT, sT] }) (elem : TypeId) (hu : P.underlying dT = some (.slice elem)) (hsz : (P.info? elem).map (·.size) = some 1)
    (ad : Addr) (dLen dCap sLen sCap : Nat) (g off : Nat) (hd : a.eval d = .slice (some ⟨g, off, none⟩) dLen dCap) (hs : a.eval s = .slice (some ad) sLen sCap)
    (cur : List Value) (t : TypeId) (hg : w.heap[g]? = some (.cells cur.toArray t (0, 0))) (cs : List Value) (hn : cs.length = Nat.min sLen dLen)
    (hsrc : ∀ j v, cs[j]? = some v → w.cell? (ad.add j) = some v)
    (hfit : off + cs.length ≤ cur.length) (h1 : ∀ v ∈ cs, v.oneCell' = true) (w0 : World) (hb : Only w0 g w)
    (h : ∀ w', Hid (w'.heap[g]? = some (.cells (splice cur off cs).toArray t (0, 0))) → Only w0 g w' → K (a.put o.dst (goInt cs.length)) w') :
    if Region.wanted o (yielded ops a.tmps) = true then Oper.wp P o a w K Q else E := by
  have hw : Region.wanted o (yielded ops a.tmps) = true := by simp [Region.wanted, hgd]
  rw [if_pos hw]
  have hrun := run_copy_row (P := P) w dT sT o.type elem g off dLen dCap ad sLen sCap cur.toArray t cs hu hsz hg hn hsrc (by simpa using hfit) h1
  unfold Oper.wp
  simp [execOp, ho, resolve, invoke, builtin, hd, hs, hrun, Result.andThen]
  exact h _ (show _ = _ by simpa [splice] using setRow_heap w g _ _ t _ hg) (only_setRow hb _)

theorem rest_step {M cs r : List Nat} {o : Nat} (hr : r.length = 64) (ho : o = M.length % 64) (hrt : r.take o = M.drop (64 * (M.length / 64))) : (splice r o cs).take (o + cs.length) = (M ++ cs).drop (64 * (M.length / 64)) := by
  have h1 : (r.take o).length = o := by rw [List.length_take]; omega
  unfold splice
  rw [← List.append_assoc, List.take_append_of_le_length (by rw [List.length_append, h1]; omega), List.take_of_length_le (by rw [List.length_append, h1]; omega), List.drop_append_of_le_length (by omega), hrt]
theorem hash_set (s : St) (r : List Nat) (n n' : Nat) (hr : r.length = 64) : (hashCells s r n).set 72 (.int .i64 (n' : Int)) = hashCells s r n' := by
  unfold hashCells
  have h1 : (nw s.list).length = 8 := by simp [St.list]
  rw [List.set_append, if_neg (by omega), List.set_append, if_neg (by rw [nb_len]; omega), h1, nb_len, hr]
  rfl
theorem splice_byt {r c : List Nat} (hr : Byt r) (hc : Byt c) (o : Nat) : Byt (splice r o c) := by
  intro x hx
  unfold splice at hx
  rcases List.mem_append.1 hx with q | q
  · exact hr x (List.mem_of_mem_take q)
  · rcases List.mem_append.1 q with q | q
    · exact hc x q
    · exact hr x (List.mem_of_mem_drop q)
theorem hash_range (W : World) (h : Nat) (s : St) (r : List Nat) (n : Nat) (hr : r.length = 64) (hb : W.heap[h]? = some (.cells (hashCells s r n).toArray 65 (0, 0))) : W.rangeAt h 0 (nw s.list) ∧ W.rangeAt h 8 (nb r) ∧ W.there h 0 8 := by
  have h1 : (nw s.list).length = 8 := by simp [St.list]
  refine ⟨fun j v hv => ?_, fun j v hv => ?_, fun j hj => ⟨?_, w_frozen' _ hb⟩⟩
  · rw [Nat.zero_add, cell_of_row _ _ _ _ _ _ hb, List.getElem?_toArray]
    unfold hashCells
    rw [List.getElem?_append_left (List.getElem?_eq_some_iff.1 hv).1]
    exact hv
  · rw [cell_of_row _ _ _ _ _ _ hb, List.getElem?_toArray]
    unfold hashCells
    rw [List.getElem?_append_right (by omega), h1, show 8 + j - 8 = j by omega, List.getElem?_append_left (List.getElem?_eq_some_iff.1 hv).1]
    exact hv
  · rw [Nat.zero_add, cell_of_row _ _ _ _ _ _ hb, List.getElem?_toArray, List.getElem?_eq_getElem (by rw [hash_len _ _ _ hr]; omega)]
    rfl

theorem hash_store {W : World} {h : Nat} {s : St} {r : List Nat} {n : Nat} (hr : r.length = 64) (hb : W.heap[h]? = some (.cells (hashCells s r n).toArray 65 (0, 0))) (n' : Nat) : (W.setCell ⟨h, 72, none⟩ (.int .i64 (n' : Int))).heap[h]? = some (.cells (hashCells s r n').toArray 65 (0, 0)) := by
  rw [heap_setCell_same _ h 72 _ _ _ hb]
  congr 2
  rw [← hash_set s r n n' hr]
  simp
theorem only_set {A w : World} {g : Nat} (h : Only A g w) (i : Nat) (v : Value) : Only A g (w.setCell ⟨g, i, none⟩ v) := only_setCells g [v] i A w h
/-- A hash behind some more bytes. -/
theorem hash_more {W : World} {h : Nat} {M cs r : List Nat} {o n : Nat} (hr : r.length = 64) (hrb : Byt r) (ho : o = M.length % 64) (hrt : r.take o = M.drop (64 * (M.length / 64))) (hcs : cs.length = n) (hcb : Byt cs) (hn : o + n < 64)
    (hb : W.heap[h]? = some (.cells (hashCells (stOf M) (splice r o cs) (M.length + n)).toArray 65 (0, 0))) : HashAt W h (M ++ cs) := by
  have hl : (M ++ cs).length = M.length + n := by rw [List.length_append, hcs]
  refine ⟨splice r o cs, by rw [splice_len _ _ _ (by omega), hr], splice_byt hrb hcb o, ?_, ?_⟩
  · have := rest_step (cs := cs) hr ho hrt
    rw [hl, show (M.length + n) % 64 = o + cs.length by omega, show (M.length + n) / 64 = M.length / 64 by omega]
    exact this
  · rw [stOf_more M cs (by rw [hl]; omega), hl]
    exact hb
theorem hash_full {W : World} {h : Nat} {M cs r : List Nat} {o n : Nat} (hr : r.length = 64) (hrb : Byt r) (ho : o = M.length % 64) (hrt : r.take o = M.drop (64 * (M.length / 64))) (hcs : cs.length = n) (hcb : Byt cs) (hn : o + n = 64)
    (hb : W.heap[h]? = some (.cells (hashCells (block (stOf M) (wordsL 16 (splice r o cs))) (splice r o cs) (M.length + n)).toArray 65 (0, 0))) : HashAt W h (M ++ cs) := by
  have hl : (M ++ cs).length = M.length + n := by rw [List.length_append, hcs]
  have hsl : (splice r o cs).length = 64 := by rw [splice_len _ _ _ (by omega), hr]
  have hst := rest_step (cs := cs) hr ho hrt
  rw [List.take_of_length_le (by omega)] at hst
  refine ⟨splice r o cs, hsl, splice_byt hrb hcb o, ?_, ?_⟩
  · rw [hl, show (M.length + n) % 64 = 0 by omega, List.take_zero, List.drop_eq_nil_of_le (by rw [hl]; omega)]
  · rw [stOf_full M cs (by rw [hl]; omega), hl, ← hst]
    exact hb
end Go.Proofs.YtoojchjfmnbdpabDoor
