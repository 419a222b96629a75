import Derived.Test.YtaadpiimcaabkaaGreatDoorJ09
import Derived.Deep.QuietTactic
import Derived.BigQuiet
import Derived.Deep.RegionLaw
import Derived.Deep.AppendLies
import Derived.Maps.AppendAt
import Derived.Test.YtaadpiimcaabkaaGreatDoorJ00

namespace Go.Proofs.YtaadpiimcaabkaaGreatDoor
open Go.RowKit

/-- The place behind the letters and digits from k on. -/
def endRow (s : ByteArray) (k : Nat) : Nat := if h : k < s.size ∧ (isLet (byteAt s k) ∨ isDig (byteAt s k)) then endRow s (k + 1) else k
termination_by s.size - k
decreasing_by omega
/-- The next byte 10 from k on, or the end. -/
def nlAt (s : ByteArray) (k : Nat) : Nat := if h : k < s.size ∧ ¬ byteAt s k = 10 then nlAt s (k + 1) else k
termination_by s.size - k
decreasing_by omega
/-- The next star and slash from k on, or a place with less than two bytes behind it. -/
def starAt (s : ByteArray) (k : Nat) : Nat := if h : k + 2 ≤ s.size ∧ ¬ (byteAt s k = 42 ∧ byteAt s (k + 1) = 47) then starAt s (k + 1) else k
termination_by s.size - k
decreasing_by omega
theorem endRow_ge (s : ByteArray) (k : Nat) : k ≤ endRow s k := by
  rw [endRow]
  split
  · have := endRow_ge s (k + 1)
    omega
  · exact Nat.le_refl _
termination_by s.size - k
decreasing_by omega
theorem endRow_le (s : ByteArray) (k : Nat) (h : k ≤ s.size) : endRow s k ≤ s.size := by
  rw [endRow]
  split
  · exact endRow_le s (k + 1) (by omega)
  · exact h
termination_by s.size - k
decreasing_by omega
theorem nlAt_ge (s : ByteArray) (k : Nat) : k ≤ nlAt s k := by
  rw [nlAt]
  split
  · have := nlAt_ge s (k + 1)
    omega
  · exact Nat.le_refl _
termination_by s.size - k
decreasing_by omega
theorem nlAt_le (s : ByteArray) (k : Nat) (h : k ≤ s.size) : nlAt s k ≤ s.size := by
  rw [nlAt]
  split
  · exact nlAt_le s (k + 1) (by omega)
  · exact h
termination_by s.size - k
decreasing_by omega
theorem starAt_ge (s : ByteArray) (k : Nat) : k ≤ starAt s k := by
  rw [starAt]
  split
  · have := starAt_ge s (k + 1)
    omega
  · exact Nat.le_refl _
termination_by s.size - k
decreasing_by omega
theorem nlAt_lt {s : ByteArray} {k : Nat} (h : k < s.size) (h2 : byteAt s k = 47) : k < nlAt s k := by
  rw [nlAt, dif_pos ⟨h, by omega⟩]
  have := nlAt_ge s (k + 1)
  omega
def isBlk (c : Nat) : Prop := (9 ≤ c ∧ c ≤ 13) ∨ c = 32
instance (c : Nat) : Decidable (isBlk c) := by unfold isBlk; infer_instance
/-- What is passed over from k on: the place, and whether all is well. -/
def passF (s : ByteArray) : Nat → Nat → Nat × Bool
  | 0, k => (k, true)
  | f + 1, k => if k < s.size then
      if isBlk (byteAt s k) then passF s f (k + 1)
      else if k + 2 ≤ s.size ∧ byteAt s k = 47 ∧ byteAt s (k + 1) = 47 then passF s f (nlAt s k)
      else if k + 2 ≤ s.size ∧ byteAt s k = 47 ∧ byteAt s (k + 1) = 42 then
        if starAt s (k + 2) + 2 ≤ s.size then passF s f (starAt s (k + 2) + 2) else (k, false)
      else (k, true)
    else (k, true)
/-- The fuel does not matter, if it is enough. -/
theorem passF_fuel (s : ByteArray) : ∀ (f f' k : Nat), s.size - k ≤ f → s.size - k ≤ f' → passF s f k = passF s f' k := by
  intro f
  induction f with
  | zero =>
    intro f' k hf hf'
    cases f' with
    | zero => rfl
    | succ f' => rw [passF, passF, if_neg (by omega)]
  | succ f ih =>
    intro f' k hf hf'
    cases f' with
    | zero => rw [passF, passF, if_neg (by omega)]
    | succ f' =>
      rw [passF, passF]
      by_cases h : k < s.size
      · rw [if_pos h, if_pos h]
        split
        · exact ih f' (k + 1) (by omega) (by omega)
        · split
          · rename_i h2
            have := nlAt_lt h h2.2.1
            exact ih f' _ (by omega) (by omega)
          · split
            · have := starAt_ge s (k + 2)
              split
              · exact ih f' _ (by omega) (by omega)
              · rfl
            · rfl
      · rw [if_neg h, if_neg h]
theorem two_list {s : ByteArray} {k : Nat} (h : k + 2 ≤ s.size) : (s.extract k (k + 2)).data.toList = [s[k], s[k + 1]] := by
  rw [ByteArray.data_extract, Array.toList_extract]
  apply List.ext_getElem?
  intro i
  rw [List.getElem?_take, List.getElem?_drop]
  match i with
  | 0 => simp; exact Array.getElem?_eq_getElem (by show k < s.size; omega)
  | 1 => simp; exact Array.getElem?_eq_getElem (by show k + 1 < s.size; omega)
  | i + 2 => simp; omega
theorem two_eq {s : ByteArray} {k : Nat} (h : k + 2 ≤ s.size) (a b : UInt8) : ((s.extract k (k + 2)).data.toList = [a, b]) ↔ (byteAt s k = a.toNat ∧ byteAt s (k + 1) = b.toNat) := by
  rw [two_list h]
  unfold byteAt
  rw [dif_pos (by omega), dif_pos (by omega)]
  simp [UInt8.toNat_inj]
end Go.Proofs.YtaadpiimcaabkaaGreatDoor

namespace Go.Proofs.YtaadpiimcaabkaaGreatDoor
open Go.RowKit
attribute [local go_sem ↓] Go.wp_at_zero Go.wp_at_succ

/-- A scanner in memory: its text, its place, its tokens. -/
def ScanAt (W : World) (b : Nat) (s : ByteArray) (k : Nat) (v : Value) : Prop := W.heap[b]? = some (.cells #[.string s, .int .i64 (k : Int), v] 94 (0, 0))
theorem ScanAt.c0 {W : World} {b : Nat} {s : ByteArray} {k : Nat} {v : Value} (h : ScanAt W b s k v) : W.cell? ⟨b, 0, none⟩ = some (.string s) := by rw [cell_of_row _ _ _ _ _ _ h]; rfl
theorem ScanAt.c1 {W : World} {b : Nat} {s : ByteArray} {k : Nat} {v : Value} (h : ScanAt W b s k v) : W.cell? ⟨b, 1, none⟩ = some (.int .i64 (k : Int)) := by rw [cell_of_row _ _ _ _ _ _ h]; rfl
theorem ScanAt.c2 {W : World} {b : Nat} {s : ByteArray} {k : Nat} {v : Value} (h : ScanAt W b s k v) : W.cell? ⟨b, 2, none⟩ = some v := by rw [cell_of_row _ _ _ _ _ _ h]; rfl
theorem ScanAt.lt {W : World} {b : Nat} {s : ByteArray} {k : Nat} {v : Value} (h : ScanAt W b s k v) : b < W.heap.size := (Array.getElem?_eq_some_iff.1 h).1
set_option maxRecDepth 100000 in
theorem rest_any {W : World} {b : Nat} {s : ByteArray} {k : Nat} {v : Value} (h : ScanAt W b s k v) (hk : k ≤ s.size) :
    Calls Tryz.prog 141 #[.pointer (some ⟨b, 0, none⟩)] W fun e w => e = .returned (.string (s.extract k s.size)) ∧ ∃ n, w = W.drewN n := by
  have c0 := h.c0
  have c1 := h.c1
  have k0 : (0 : Int) ≤ (k : Int) := Int.natCast_nonneg _
  have k1 : (k : Int) ≤ (s.size : Int) := by omega
  clear h
  go_enter Tryz.func141, Tryz.ntmps141
  go_wp2_with fail
  go_quiet (fail)
  go_wp2
  go_ret
  exact ⟨rfl, _, rfl⟩
theorem extract_two (s : ByteArray) (k n : Nat) (h : k + n ≤ s.size) : (s.extract k s.size).extract 0 n = s.extract k (k + n) := by
  apply ByteArray.ext
  rw [ByteArray.data_extract, ByteArray.data_extract, ByteArray.data_extract]
  apply Array.ext'
  rw [Array.toList_extract, Array.toList_extract, Array.toList_extract]
  have hl : s.data.toList.length = s.size := rfl
  apply List.ext_getElem?
  intro i
  simp only [List.extract_eq_take_drop, List.getElem?_take, List.getElem?_drop]
  by_cases hi : i < n
  · rw [if_pos (by omega), if_pos (by omega), if_pos (by omega)]
    congr 1
    omega
  · rw [if_neg (by omega), if_neg (by omega)]
end Go.Proofs.YtaadpiimcaabkaaGreatDoor

namespace Go.Proofs.YtaadpiimcaabkaaGreatDoor
open Go.RowKit
attribute [local go_sem ↓] Go.wp_at_zero Go.wp_at_succ

theorem Tryz.infoTok : (Tryz.prog.info? 107).map (fun i => (i.zero, i.size, i.bytes)) = some (some (.agg #[.int .i64 0, .int .i64 0, .string ⟨#[]⟩]), 3, 32) := by kernel_rfl
theorem callT_any (w : World) (vs : Array Value) : (callFunc 141 vs).run Tryz.prog w = .ok (.enter 141 vs) w := by
  have hn : ¬ Tryz.f141.name = "runtime.NumGoroutine" := by decide +kernel
  have hb : Tryz.f141.body.isSome = true := by kernel_rfl
  obtain ⟨c, hc⟩ := Option.isSome_iff_exists.1 hb
  simp [callFunc, Tryz.func141, hn, hc]
/-- A call of a Go function, at a step of a drawn region. -/
theorem step_callT {P : Program} {ops : Array Oper} {o : Oper} {a : Act} {w : World} {K : Act → World → Prop} {Q : Exit → Act → World → Prop} {E : Prop} (x : Tmp) (hx : o.dst = some x) (hgd : o.guard = none) (f : FuncId) (hfn : ∀ vs, (callFunc f vs).run P w = .ok (.enter f vs) w) (args : Array Operand) (tys : Array TypeId)
    (ho : o.op = .call { callee := .value (.func f), args := args, argTypes := tys }) (vs : Array Value) (hv : args.map a.eval = vs) {R : Ending → World → Prop} (hc : Calls P f vs w R) (hK : ∀ e w', R e w' → ∃ v, e = .returned v ∧ K (a.put (some x) v) w') :
    if Region.wanted o (yielded ops a.tmps) = true then Oper.wp P o a w K Q else E := by
  have hw : Region.wanted o (yielded ops a.tmps) = true := by simp [Region.wanted, hgd]
  rw [if_pos hw]
  have h2 : Oper.wp P o a w K Q = o.upon P a K Q (.ok (.enter f vs) w) := by
    unfold Oper.wp
    simp [execOp, ho, resolve, invoke, ← hv, Act.eval, Deferred.ofValue, hfn]
  rw [h2, Oper.upon_enter]
  refine hc.mono ?_
  intro e w' hr
  obtain ⟨v, rfl, hk⟩ := hK e w' hr
  rw [hx]
  exact hk
theorem news_new (X : World) (cs : Array Value) (t : TypeId) (j : Nat) (u : Value) (hj : cs.toList[j]? = some u) : (X.alloc (.cells cs t)).cell? (Addr.add ⟨X.heap.size, 0, none⟩ j) = some u := by
  rw [Go.WideShapes.add_plain, Nat.zero_add, cell_of_row _ _ _ _ _ _ (heap_new X _), ← Array.getElem?_toList]
  exact hj
/-- All blocks below B but b are as they were. -/
structure BX (B b : Nat) (w w' : World) : Prop where
  os : w'.os = w.os
  tape : w'.tape = w.tape
  output : w'.output = w.output
  size : w.heap.size ≤ w'.heap.size
  block : ∀ q, q < B → q ≠ b → w'.heap[q]? = w.heap[q]?
theorem BX.refl (B b : Nat) (w : World) : BX B b w w := ⟨rfl, rfl, rfl, Nat.le_refl _, fun _ _ _ => rfl⟩
theorem BX.trans {B b : Nat} {u v w : World} (h : BX B b u v) (k : BX B b v w) : BX B b u w := ⟨k.os.trans h.os, k.tape.trans h.tape, k.output.trans h.output, Nat.le_trans h.size k.size, fun i hi hb => (k.block i hi hb).trans (h.block i hi hb)⟩
theorem BX.of {n B b : Nat} {u w : World} (h : Below n u w) (hn : B ≤ n) : BX B b u w := ⟨h.os, h.tape, h.output, h.size, fun q hq _ => h.block q (by omega)⟩
theorem BX.set {B b : Nat} {u w : World} (h : BX B b u w) (i : Nat) (v : Value) : BX B b u (w.setCell ⟨b, i, none⟩ v) := ⟨h.os, h.tape, h.output, by rw [World.size_setCell]; exact h.size, fun q hq hb => (heap_setCell_other w ⟨b, i, none⟩ q v (by simpa using hb)).trans (h.block q hq hb)⟩
theorem BX.below {n B b : Nat} {u w : World} (h : BX B b u w) (hb : n ≤ b) (hB : n ≤ B) : Below n u w := ⟨h.os, h.tape, h.output, h.size, fun q hq => h.block q (by omega) (by omega)⟩
theorem rowUp {B : Nat} {W w : World} {e : TypeId} {z m : Nat} {v : Value} {xs : List Value} (h : W.ownsRow B e z v m xs) (hb : Below W.heap.size W w) : w.ownsRow B e z v m xs := by
  obtain ⟨h1, ⟨rfl, h0⟩ | ⟨g, c, cur, rfl, h2, h3, h4⟩⟩ := h
  · exact ⟨h1, .inl ⟨rfl, h0⟩⟩
  · exact ⟨h1, .inr ⟨g, c, cur, rfl, h2, (hb.block g (Array.getElem?_eq_some_iff.1 h3).1).trans h3, h4⟩⟩
theorem ScanAt.up {W w : World} {b : Nat} {s : ByteArray} {k : Nat} {v : Value} (h : ScanAt W b s k v) (hb : Below W.heap.size W w) : ScanAt w b s k v := (hb.block b h.lt).trans h
theorem scan_row {W : World} {B b g c n i j : Nat} {e : TypeId} {xs : List Value} {u z : Value} (hgb : g ≠ b) (h : W.ownsRow B e 3 (.slice (some ⟨g, 0, none⟩) n c) n xs) : ((W.setCell ⟨b, i, none⟩ u).setCell ⟨b, j, none⟩ z).ownsRow B e 3 (.slice (some ⟨g, 0, none⟩) n c) n xs := by
  obtain ⟨h1, ⟨q, _⟩ | ⟨g', cap, cur, e1, h3, h4, h5⟩⟩ := h
  · cases q
  · refine ⟨h1, .inr ⟨g', cap, cur, e1, h3, ?_, h5⟩⟩
    have eg : g' = g := by injection e1 with e1; injection e1 with e1; injection e1 with e1; exact e1.symm
    subst eg
    exact (heap_setCell_other _ ⟨b, j, none⟩ g' z (by simpa using hgb)).trans ((heap_setCell_other W ⟨b, i, none⟩ g' u (by simpa using hgb)).trans h4)
theorem row_frozenT {W : World} {g : Nat} (i : Nat) {cs : Array Value} {t : TypeId} (h : W.heap[g]? = some (.cells cs t (0, 0))) : W.frozen? ⟨g, i, none⟩ = false := by
  unfold World.frozen?
  rw [h]
  simp
set_option maxRecDepth 100000 in
set_option maxHeartbeats 4000000 in
theorem take_any {W : World} {B b : Nat} {s : ByteArray} {k n m : Nat} {v : Value} {xs : List Value} {kind : Int} (h : ScanAt W b s k v) (hB : b < B) (hBW : B ≤ W.heap.size) (hrow : W.ownsRow B 107 3 v m xs) (hk : k + n ≤ s.size) (hs : s.size ≤ 65536) (hm : m < 16383) :
    Calls Tryz.prog 137 #[.pointer (some ⟨b, 0, none⟩), .int .i64 kind, .int .i64 (n : Int), .int .i64 0] W fun e w => e = .returned (.int .i64 0) ∧ ∃ v', ScanAt w b s (k + n) v' ∧ w.ownsRow B 107 3 v' (m + 1) (xs ++ [.int .i64 kind, .int .i64 (k : Int), .string (s.extract k (k + n))]) ∧ BX B b W w := by
  obtain ⟨i0, hi, hz0, hz1, hz2⟩ := info_parts Tryz.infoTok
  have hvb : v.ownBlock ≠ some b := fun e => by have := (hrow.lt b e).1; omega
  have c0 := h.c0
  have c1 := h.c1
  have c2 := h.c2
  obtain ⟨va, vc, hv⟩ : ∃ a c, v = .slice a m c := by
    obtain ⟨_, ⟨e, h0⟩ | ⟨g, c, _, e, _⟩⟩ := hrow
    · exact ⟨none, 0, by rw [e, h0]⟩
    · exact ⟨_, _, e⟩
  subst hv
  have hbl := h.lt
  have Hrest := hide (fun n => rest_any (W := W.drewN n) h (by omega))
  have Hrow := hide hrow
  have Hh := hide h
  have hex := extract_two s k n hk
  have hsz : (s.extract k s.size).size = s.size - k := by rw [ByteArray.size_extract]; omega
  have q1 : ((m : Int) == 16383) = false := beq_eq_false_iff_ne.2 (by omega)
  have n0 : (0 : Int) ≤ (n : Int) := Int.natCast_nonneg _
  have n1 : (n : Int) ≤ ((s.size - k : Nat) : Int) := by omega
  have O1 : Hid (m + 1 ≤ maxLen) := by show _ ≤ _; unfold maxLen; omega
  have O2 : Hid ((m + 1) * 32 ≤ 140737488355328) := by show _ ≤ _; omega
  have hsz2 : ∀ (n : Nat) (ob : Obj), ((W.drewN n).alloc ob).heap.size = W.heap.size + 1 := fun n ob => World.size_alloc _ _
  have Hsz2 := hide hsz2
  have hca2 : ∀ (n : Nat) (ob : Obj), ((W.drewN n).alloc ob).cell? ⟨b, 2, none⟩ = some (.slice va m vc) := fun n ob => ScanAt.c2 (s := s) (k := k) ((Below.heap_alloc W ob b hbl).trans h)
  clear h hrow hsz2
  go_enter Tryz.func137, Tryz.ntmps137
  go_wp2_with fail
  go_region_law (first | (refine step_callT 29 rfl rfl 141 (callT_any _) #[.tmp 28] #[134] rfl #[.pointer (some ⟨b, 0, none⟩)] (by first | rfl | simp [Act.eval, Act.put] | simp [Act.eval, Act.put, Array.getElem?_setIfInBounds] | (simp [Act.eval]; rfl) | (simp [Act.eval]; go_simp)) (unhide Hrest 1) ?_; rintro o7 w7 ⟨rfl, n7, rfl⟩; refine ⟨_, rfl, ?_⟩) | (refine step_append_lies _ rfl (.tmp 22) (.tmp 33) 51 rfl B 107 i0 (.agg #[.int .i64 0, .int .i64 0, .string ⟨#[]⟩]) 3 32 Tryz.underlying51 hi hz0 hz1 hz2 rfl (by decide) (.slice va m vc) m xs (by first | rfl | simp [Act.eval, Act.put] | simp [Act.eval, Act.put, Array.getElem?_setIfInBounds] | (simp [Act.eval]; rfl) | (simp [Act.eval]; go_simp)) ((unhide Hrow).alloc _) ⟨W.heap.size, 0, none⟩ 1 1 [.int .i64 kind, .int .i64 (k : Int), .string (s.extract k (k + n))] (by first | rfl | simp [Act.eval, Act.put] | simp [Act.eval, Act.put, Array.getElem?_setIfInBounds] | (simp [Act.eval]; rfl) | (simp [Act.eval]; go_simp)) rfl (fun j u hj => news_new (W.drewN (1 + n7)) #[.int .i64 kind, .int .i64 (k : Int), .string (s.extract k (k + n))] 107 j u hj) (by simp [Value.oneCell']) (by decide) (unhide O1) (unhide O2) (by rw [unhide Hsz2]; omega) (W.heap.size + 1) (unhide Hsz2 _ _) ?_; intro g9 c9 w9 hown9 hg9 hat9 hlt9; have hb9 : w9.heap[b]? = W.heap[b]? := (hg9.block b (by rw [unhide Hsz2]; omega) (fun e => hvb e.symm)).trans (Below.heap_alloc W _ b hbl); have hs9 : ScanAt w9 b s k (.slice va m vc) := hb9.trans (unhide Hh); have c19 := hs9.c1; have c29 := hs9.c2; have f19 := row_frozenT 1 hs9; have f29 := row_frozenT 2 hs9; have gb : g9 ≠ b := (fun e => hat9.elim (fun q => hvb (by rw [q, e])) (fun q => by omega)); have Hs9 := hide hs9; have Hown := hide hown9; have HB9 : Hid (BX B b W w9) := ⟨hg9.os, hg9.tape, hg9.output, (by have := hg9.size; rw [unhide Hsz2] at this; omega), fun q hq _ => (hg9.block q (by rw [unhide Hsz2]; omega) (fun e => by have := ((unhide Hrow).lt q e.symm).1; omega)).trans (Below.heap_alloc W _ q (by omega))⟩; clear hown9 hg9 hat9 hb9 hs9))
  all_goals go_wp2
  all_goals go_ret
  all_goals refine ⟨rfl, .slice (some ⟨g9, 0, none⟩) (m + 1) c9, ?_, ?_, ?_⟩
  all_goals first
    | (have q := heap_setCell_same _ b 1 _ _ (.int .i64 ((k + n : Nat) : Int)) (heap_setCell_same _ b 2 _ _ (.slice (some ⟨g9, 0, none⟩) (m + 1) c9) (unhide Hs9)); exact q)
    | exact scan_row gb (unhide Hown)
    | exact ((unhide HB9).set 2 _).set 1 _
end Go.Proofs.YtaadpiimcaabkaaGreatDoor
