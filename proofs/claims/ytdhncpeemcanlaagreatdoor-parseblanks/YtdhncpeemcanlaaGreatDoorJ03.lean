import Derived.Test.YtdhncpeemcanlaaGreatDoorJ02
import Derived.Test.YtdhncpeemcanlaaGreatDoorJ00
import Derived.Lib.Strings

namespace Go.Proofs.YtdhncpeemcanlaaGreatDoor
open Go.RowKit
attribute [local go_sem ↓] Go.wp_at_zero Go.wp_at_succ

theorem Tryz.infoTok : (Tryz.prog.info? 29).map (fun i => (i.zero, i.size, i.bytes)) = some (some (.agg #[.int .i64 0, .int .i64 0, .string ⟨#[]⟩]), 3, 32) := by kernel_rfl
theorem callT_any (w : World) (vs : Array Value) : (callFunc 27 vs).run Tryz.prog w = .ok (.enter 27 vs) w := by
  have hn : ¬ Tryz.f27.name = "runtime.NumGoroutine" := by decide +kernel
  have hb : Tryz.f27.body.isSome = true := by kernel_rfl
  obtain ⟨c, hc⟩ := Option.isSome_iff_exists.1 hb
  simp [callFunc, Tryz.func27, hn, hc]
/-- A call of a Go function, at a step of a drawn region. -/
theorem step_callT {P : Program} {ops : Array Oper} {o : Oper} {a : Act} {w : World} {K : Act → World → Prop} {Q : Exit → Act → World → Prop} {E : Prop} (x : Tmp) (hx : o.dst = some x) (hgd : o.guard = none) (f : FuncId) (hfn : ∀ vs, (callFunc f vs).run P w = .ok (.enter f vs) w) (args : Array Operand) (tys : Array TypeId)
    (ho : o.op = .call { callee := .value (.func f), args := args, argTypes := tys }) (vs : Array Value) (hv : args.map a.eval = vs) {R : Ending → World → Prop} (hc : Calls P f vs w R) (hK : ∀ e w', R e w' → ∃ v, e = .returned v ∧ K (a.put (some x) v) w') :
    if Region.wanted o (yielded ops a.tmps) = true then Oper.wp P o a w K Q else E := by
  have hw : Region.wanted o (yielded ops a.tmps) = true := by simp [Region.wanted, hgd]
  rw [if_pos hw]
  have h2 : Oper.wp P o a w K Q = o.upon P a K Q (.ok (.enter f vs) w) := by
    unfold Oper.wp
    simp [execOp, ho, resolve, invoke, ← hv, Act.eval, Deferred.ofValue, hfn]
  rw [h2, Oper.upon_enter]
  refine hc.mono ?_
  intro e w' hr
  obtain ⟨v, rfl, hk⟩ := hK e w' hr
  rw [hx]
  exact hk
theorem news_new (X : World) (cs : Array Value) (t : TypeId) (j : Nat) (u : Value) (hj : cs.toList[j]? = some u) : (X.alloc (.cells cs t)).cell? (Addr.add ⟨X.heap.size, 0, none⟩ j) = some u := by
  rw [Go.WideShapes.add_plain, Nat.zero_add, cell_of_row _ _ _ _ _ _ (heap_new X _), ← Array.getElem?_toList]
  exact hj
/-- All blocks below B but b are as they were. -/
structure BX (B b : Nat) (w w' : World) : Prop where
  os : w'.os = w.os
  tape : w'.tape = w.tape
  output : w'.output = w.output
  size : w.heap.size ≤ w'.heap.size
  block : ∀ q, q < B → q ≠ b → w'.heap[q]? = w.heap[q]?
theorem BX.refl (B b : Nat) (w : World) : BX B b w w := ⟨rfl, rfl, rfl, Nat.le_refl _, fun _ _ _ => rfl⟩
theorem BX.trans {B b : Nat} {u v w : World} (h : BX B b u v) (k : BX B b v w) : BX B b u w := ⟨k.os.trans h.os, k.tape.trans h.tape, k.output.trans h.output, Nat.le_trans h.size k.size, fun i hi hb => (k.block i hi hb).trans (h.block i hi hb)⟩
theorem BX.of {n B b : Nat} {u w : World} (h : Below n u w) (hn : B ≤ n) : BX B b u w := ⟨h.os, h.tape, h.output, h.size, fun q hq _ => h.block q (by omega)⟩
theorem BX.set {B b : Nat} {u w : World} (h : BX B b u w) (i : Nat) (v : Value) : BX B b u (w.setCell ⟨b, i, none⟩ v) := ⟨h.os, h.tape, h.output, by rw [World.size_setCell]; exact h.size, fun q hq hb => (heap_setCell_other w ⟨b, i, none⟩ q v (by simpa using hb)).trans (h.block q hq hb)⟩
theorem BX.below {n B b : Nat} {u w : World} (h : BX B b u w) (hb : n ≤ b) (hB : n ≤ B) : Below n u w := ⟨h.os, h.tape, h.output, h.size, fun q hq => h.block q (by omega) (by omega)⟩
theorem rowUp {B : Nat} {W w : World} {e : TypeId} {z m : Nat} {v : Value} {xs : List Value} (h : W.ownsRow B e z v m xs) (hb : Below W.heap.size W w) : w.ownsRow B e z v m xs := by
  obtain ⟨h1, ⟨rfl, h0⟩ | ⟨g, c, cur, rfl, h2, h3, h4⟩⟩ := h
  · exact ⟨h1, .inl ⟨rfl, h0⟩⟩
  · exact ⟨h1, .inr ⟨g, c, cur, rfl, h2, (hb.block g (Array.getElem?_eq_some_iff.1 h3).1).trans h3, h4⟩⟩
theorem ScanAt.up {W w : World} {b : Nat} {s : ByteArray} {k : Nat} {v : Value} (h : ScanAt W b s k v) (hb : Below W.heap.size W w) : ScanAt w b s k v := (hb.block b h.lt).trans h
theorem scan_row {W : World} {B b g c n i j : Nat} {e : TypeId} {xs : List Value} {u z : Value} (hgb : g ≠ b) (h : W.ownsRow B e 3 (.slice (some ⟨g, 0, none⟩) n c) n xs) : ((W.setCell ⟨b, i, none⟩ u).setCell ⟨b, j, none⟩ z).ownsRow B e 3 (.slice (some ⟨g, 0, none⟩) n c) n xs := by
  obtain ⟨h1, ⟨q, _⟩ | ⟨g', cap, cur, e1, h3, h4, h5⟩⟩ := h
  · cases q
  · refine ⟨h1, .inr ⟨g', cap, cur, e1, h3, ?_, h5⟩⟩
    have eg : g' = g := by injection e1 with e1; injection e1 with e1; injection e1 with e1; exact e1.symm
    subst eg
    exact (heap_setCell_other _ ⟨b, j, none⟩ g' z (by simpa using hgb)).trans ((heap_setCell_other W ⟨b, i, none⟩ g' u (by simpa using hgb)).trans h4)
theorem row_frozenT {W : World} {g : Nat} (i : Nat) {cs : Array Value} {t : TypeId} (h : W.heap[g]? = some (.cells cs t (0, 0))) : W.frozen? ⟨g, i, none⟩ = false := by
  unfold World.frozen?
  rw [h]
  simp
set_option maxRecDepth 100000 in
set_option maxHeartbeats 4000000 in
theorem take_any {W : World} {B b : Nat} {s : ByteArray} {k n m : Nat} {v : Value} {xs : List Value} {kind : Int} (h : ScanAt W b s k v) (hB : b < B) (hBW : B ≤ W.heap.size) (hrow : W.ownsRow B 29 3 v m xs) (hk : k + n ≤ s.size) (hs : s.size ≤ 65536) (hm : m < 16383) :
    Calls Tryz.prog 23 #[.pointer (some ⟨b, 0, none⟩), .int .i64 kind, .int .i64 (n : Int), .int .i64 0] W fun e w => e = .returned (.int .i64 0) ∧ ∃ v', ScanAt w b s (k + n) v' ∧ w.ownsRow B 29 3 v' (m + 1) (xs ++ [.int .i64 kind, .int .i64 (k : Int), .string (s.extract k (k + n))]) ∧ BX B b W w := by
  obtain ⟨i0, hi, hz0, hz1, hz2⟩ := info_parts Tryz.infoTok
  have hvb : v.ownBlock ≠ some b := fun e => by have := (hrow.lt b e).1; omega
  have c0 := h.c0
  have c1 := h.c1
  have c2 := h.c2
  obtain ⟨va, vc, hv⟩ : ∃ a c, v = .slice a m c := by
    obtain ⟨_, ⟨e, h0⟩ | ⟨g, c, _, e, _⟩⟩ := hrow
    · exact ⟨none, 0, by rw [e, h0]⟩
    · exact ⟨_, _, e⟩
  subst hv
  have hbl := h.lt
  have Hrest := hide (fun n => rest_any (W := W.drewN n) h (by omega))
  have Hrow := hide hrow
  have Hh := hide h
  have hex := extract_two s k n hk
  have hsz : (s.extract k s.size).size = s.size - k := by rw [ByteArray.size_extract]; omega
  have q1 : ((m : Int) == 16383) = false := beq_eq_false_iff_ne.2 (by omega)
  have n0 : (0 : Int) ≤ (n : Int) := Int.natCast_nonneg _
  have n1 : (n : Int) ≤ ((s.size - k : Nat) : Int) := by omega
  have O1 : Hid (m + 1 ≤ maxLen) := by show _ ≤ _; unfold maxLen; omega
  have O2 : Hid ((m + 1) * 32 ≤ 140737488355328) := by show _ ≤ _; omega
  have hsz2 : ∀ (n : Nat) (ob : Obj), ((W.drewN n).alloc ob).heap.size = W.heap.size + 1 := fun n ob => World.size_alloc _ _
  have Hsz2 := hide hsz2
  have hca2 : ∀ (n : Nat) (ob : Obj), ((W.drewN n).alloc ob).cell? ⟨b, 2, none⟩ = some (.slice va m vc) := fun n ob => ScanAt.c2 (s := s) (k := k) ((Below.heap_alloc W ob b hbl).trans h)
  clear h hrow hsz2
  go_enter Tryz.func23, Tryz.ntmps23
  go_wp2_with fail
  go_region_law (first | (refine step_callT 29 rfl rfl 27 (callT_any _) #[.tmp 28] #[56] rfl #[.pointer (some ⟨b, 0, none⟩)] (by first | rfl | simp [Act.eval, Act.put] | simp [Act.eval, Act.put, Array.getElem?_setIfInBounds] | (simp [Act.eval]; rfl) | (simp [Act.eval]; go_simp)) (unhide Hrest 1) ?_; rintro o7 w7 ⟨rfl, n7, rfl⟩; refine ⟨_, rfl, ?_⟩) | (refine step_append_lies _ rfl (.tmp 22) (.tmp 33) 22 rfl B 29 i0 (.agg #[.int .i64 0, .int .i64 0, .string ⟨#[]⟩]) 3 32 Tryz.underlying22 hi hz0 hz1 hz2 rfl (by decide) (.slice va m vc) m xs (by first | rfl | simp [Act.eval, Act.put] | simp [Act.eval, Act.put, Array.getElem?_setIfInBounds] | (simp [Act.eval]; rfl) | (simp [Act.eval]; go_simp)) ((unhide Hrow).alloc _) ⟨W.heap.size, 0, none⟩ 1 1 [.int .i64 kind, .int .i64 (k : Int), .string (s.extract k (k + n))] (by first | rfl | simp [Act.eval, Act.put] | simp [Act.eval, Act.put, Array.getElem?_setIfInBounds] | (simp [Act.eval]; rfl) | (simp [Act.eval]; go_simp)) rfl (fun j u hj => news_new (W.drewN (1 + n7)) #[.int .i64 kind, .int .i64 (k : Int), .string (s.extract k (k + n))] 29 j u hj) (by simp [Value.oneCell']) (by decide) (unhide O1) (unhide O2) (by rw [unhide Hsz2]; omega) (W.heap.size + 1) (unhide Hsz2 _ _) ?_; intro g9 c9 w9 hown9 hg9 hat9 hlt9; have hb9 : w9.heap[b]? = W.heap[b]? := (hg9.block b (by rw [unhide Hsz2]; omega) (fun e => hvb e.symm)).trans (Below.heap_alloc W _ b hbl); have hs9 : ScanAt w9 b s k (.slice va m vc) := hb9.trans (unhide Hh); have c19 := hs9.c1; have c29 := hs9.c2; have f19 := row_frozenT 1 hs9; have f29 := row_frozenT 2 hs9; have gb : g9 ≠ b := (fun e => hat9.elim (fun q => hvb (by rw [q, e])) (fun q => by omega)); have Hs9 := hide hs9; have Hown := hide hown9; have HB9 : Hid (BX B b W w9) := ⟨hg9.os, hg9.tape, hg9.output, (by have := hg9.size; rw [unhide Hsz2] at this; omega), fun q hq _ => (hg9.block q (by rw [unhide Hsz2]; omega) (fun e => by have := ((unhide Hrow).lt q e.symm).1; omega)).trans (Below.heap_alloc W _ q (by omega))⟩; clear hown9 hg9 hat9 hb9 hs9))
  all_goals go_wp2
  all_goals go_ret
  all_goals refine ⟨rfl, .slice (some ⟨g9, 0, none⟩) (m + 1) c9, ?_, ?_, ?_⟩
  all_goals first
    | (have q := heap_setCell_same _ b 1 _ _ (.int .i64 ((k + n : Nat) : Int)) (heap_setCell_same _ b 2 _ _ (.slice (some ⟨g9, 0, none⟩) (m + 1) c9) (unhide Hs9)); exact q)
    | exact scan_row gb (unhide Hown)
    | exact ((unhide HB9).set 2 _).set 1 _
end Go.Proofs.YtdhncpeemcanlaaGreatDoor

namespace Go.Proofs.YtdhncpeemcanlaaGreatDoor
open Go.RowKit
attribute [local go_sem ↓] Go.wp_at_zero Go.wp_at_succ

set_option maxRecDepth 100000 in
/-- No room for one more token. -/
theorem take_full {W : World} {b : Nat} {s : ByteArray} {k vc : Nat} {va : Option Addr} {kind n e : Int} (h : ScanAt W b s k (.slice va 16383 vc)) :
    Calls Tryz.prog 23 #[.pointer (some ⟨b, 0, none⟩), .int .i64 kind, .int .i64 n, .int .i64 e] W fun o w => o = .returned (.int .i64 45) ∧ w = W := by
  have c2 := h.c2
  clear h
  go_enter Tryz.func23, Tryz.ntmps23
  go_wp2
  go_ret
  exact ⟨rfl, rfl⟩
set_option maxRecDepth 100000 in
/-- A fault. -/
theorem take_err {W : World} {b : Nat} {s : ByteArray} {k m vc : Nat} {va : Option Addr} {kind n e : Int} (h : ScanAt W b s k (.slice va m vc)) (hm : m < 16383) (he : e ≠ 0) :
    Calls Tryz.prog 23 #[.pointer (some ⟨b, 0, none⟩), .int .i64 kind, .int .i64 n, .int .i64 e] W fun o w => o = .returned (.int .i64 e) ∧ w = W := by
  have c2 := h.c2
  have q1 : ((m : Int) == 16383) = false := beq_eq_false_iff_ne.2 (by omega)
  have q2 : (e != 0) = true := by simpa using he
  clear h
  go_enter Tryz.func23, Tryz.ntmps23
  go_wp2
  go_ret
  exact ⟨rfl, rfl⟩
end Go.Proofs.YtdhncpeemcanlaaGreatDoor

namespace Go.Proofs.YtdhncpeemcanlaaGreatDoor
open Go.RowKit
attribute [local go_sem ↓] Go.wp_at_zero Go.wp_at_succ

theorem ScanAt.at {W : World} {b : Nat} {s : ByteArray} {k : Nat} {v : Value} (h : ScanAt W b s k v) (j : Nat) : ScanAt (W.setCell ⟨b, 1, none⟩ (.int .i64 (j : Int))) b s j v := heap_setCell_same _ b 1 _ _ _ h
set_option maxRecDepth 100000 in
/-- The step at a blank. -/
theorem step_blank {W : World} {b : Nat} {s : ByteArray} {k : Nat} {v : Value} (h : ScanAt W b s k v) (hk : k < s.size) (hs : s.size ≤ 65536) :
    Calls Tryz.prog 24 #[.pointer (some ⟨b, 0, none⟩)] W fun e w => e = .returned (.int .i64 0) ∧ w = W.setCell ⟨b, 1, none⟩ (.int .i64 ((k + 1 : Nat) : Int)) := by
  have c1 := h.c1
  have f1 := row_frozenT 1 h
  clear h
  go_enter Tryz.func24, Tryz.ntmps24
  go_wp2
  go_ret
  exact ⟨rfl, rfl⟩
set_option maxRecDepth 100000 in
/-- The step at a sign. -/
theorem step_sign {W : World} {B b : Nat} {s : ByteArray} {k m : Nat} {v : Value} {xs : List Value} (h : ScanAt W b s k v) (hB : b < B) (hBW : B ≤ W.heap.size) (hrow : W.ownsRow B 29 3 v m xs) (hk : k + 1 ≤ s.size) (hs : s.size ≤ 65536) (hm : m < 16383) :
    Calls Tryz.prog 32 #[.pointer (some ⟨b, 0, none⟩)] W fun e w => e = .returned (.int .i64 0) ∧ ∃ v', ScanAt w b s (k + 1) v' ∧ w.ownsRow B 29 3 v' (m + 1) (xs ++ [.int .i64 4, .int .i64 (k : Int), .string (s.extract k (k + 1))]) ∧ BX B b W w := by
  have ht := take_any (n := 1) (kind := 4) h hB hBW hrow hk hs hm
  have Ht := hide ht
  clear ht h hrow
  go_enter Tryz.func32, Tryz.ntmps32
  go_wp2_with fail
  refine (unhide Ht).mono ?_
  rintro e w ⟨rfl, hx⟩
  have Hx := hide hx
  clear hx
  go_wp2
  go_ret
  exact ⟨rfl, unhide Hx⟩
end Go.Proofs.YtdhncpeemcanlaaGreatDoor

namespace Go.Proofs.YtdhncpeemcanlaaGreatDoor
open Go.RowKit
attribute [local go_sem ↓] Go.wp_at_zero Go.wp_at_succ

theorem strN_extract (s : ByteArray) (a b : Nat) : strN (s.extract a b) = ((strN s).drop a).take (b - a) := by
  unfold strN
  rw [Lib.extract_data]
  simp [List.map_take, List.map_drop]
theorem strN_inj {s t : ByteArray} (h : strN s = strN t) : s = t := by
  have h1 : s.data.toList = t.data.toList := by
    unfold strN at h
    exact (List.map_inj_right (fun a b e => UInt8.toNat_inj.1 e)).1 h
  cases s with | mk d => cases t with | mk e => cases d; cases e; simp_all
theorem list_eq_iff (s t : ByteArray) : (s.toList == t.toList) = true ↔ strN s = strN t := by
  rw [ByteArray.toList_eq, ByteArray.toList_eq]
  constructor
  · intro h
    unfold strN
    rw [eq_of_beq h]
  · intro h
    rw [strN_inj h]
    simp
/-- Does s begin so? -/
def Pre (s p : ByteArray) : Prop := (strN s).take p.size = strN p
open Classical in
noncomputable def preB (s p : ByteArray) : Bool := decide (Pre s p)
theorem preT {s p : ByteArray} (h : Pre s p) : preB s p = true := by unfold preB; simp [h]
theorem preF {s p : ByteArray} (h : ¬ Pre s p) : preB s p = false := by unfold preB; simp [h]
set_option maxRecDepth 100000 in
theorem hasPrefix0_any (W : World) (s p : ByteArray) : Calls Tryz.prog 53 #[.string s, .string p] W fun e w => e = .returned (.bool (preB s p)) ∧ w = W := by
  by_cases hl : p.size ≤ s.size
  · have e1 : decide ((p.size : Int) ≤ (s.size : Int)) = true := by simp; omega
    have hx := strN_extract s 0 p.size
    have hiff := list_eq_iff (s.extract 0 p.size) p
    have Hx := hide hx
    have Hiff := hide hiff
    clear hx hiff
    go_enter Tryz.func53, Tryz.ntmps53
    go_wp2
    go_ret
    refine ⟨?_, rfl⟩
    have : ((s.extract 0 p.size).toList == p.toList) = preB s p := by
      by_cases hpre : Pre s p
      · rw [preT hpre]
        refine (unhide Hiff).2 ?_
        rw [unhide Hx]
        simpa [Pre] using hpre
      · rw [preF hpre, ← Bool.not_eq_true]
        intro h
        have := (unhide Hiff).1 h
        rw [unhide Hx] at this
        exact hpre (by simpa [Pre] using this)
    rw [← this]
    rfl
  · have e1 : decide ((p.size : Int) ≤ (s.size : Int)) = false := by simp; omega
    have hn : ¬ Pre s p := fun h => by
      have := congrArg List.length h
      rw [List.length_take, strN_len, strN_len] at this
      omega
    rw [preF hn]
    go_enter Tryz.func53, Tryz.ntmps53
    go_wp2
    go_ret
    exact ⟨rfl, rfl⟩
set_option maxRecDepth 100000 in
theorem hasPrefix_any (W : World) (s p : ByteArray) : Calls Tryz.prog 38 #[.string s, .string p] W fun e w => e = .returned (.bool (preB s p)) ∧ w = W := by
  go_enter Tryz.func38, Tryz.ntmps38
  go_wp2_with fail
  refine (hasPrefix0_any W s p).mono ?_
  rintro e w' ⟨rfl, he⟩
  obtain rfl : W = w' := he.symm
  go_wp2
  go_ret
  exact ⟨rfl, rfl⟩
end Go.Proofs.YtdhncpeemcanlaaGreatDoor
