import Derived.Test.YtdhncpeemcanlaaGreatDoorJ12
import Derived.WalkMore
import Derived.Shelf.Pu.Clone
import Derived.Test.YtdhncpeemcanlaaGreatDoorChecked
import Derived.Test.YtdhncpeemcanlaaGreatDoorJ04
import Derived.Test.YtdhncpeemcanlaaGreatDoorJ02
import Derived.Test.YtdhncpeemcanlaaGreatDoorJ07
import Derived.Test.YtdhncpeemcanlaaGreatDoorJ11

namespace Go.Proofs.YtdhncpeemcanlaaGreatDoor
open Go.RowKit
attribute [local go_sem ↓] Go.wp_at_zero Go.wp_at_succ

/-- A call through a value, at a step of a drawn region. -/
theorem step_callV {P : Program} {ops : Array Oper} {o : Oper} {a : Act} {w : World} {K : Act → World → Prop} {Q : Exit → Act → World → Prop} {E : Prop} (x : Tmp) (hx : o.dst = some x) (hgd : o.guard = none) (f : FuncId) (hfn : ∀ vs, (callFunc f vs).run P w = .ok (.enter f vs) w) (fo : Operand) (args : Array Operand) (tys : Array TypeId)
    (ho : o.op = .call { callee := .value fo, args := args, argTypes := tys }) (hfo : a.eval fo = .func (.func f) #[] #[]) (vs : Array Value) (hv : args.map a.eval = vs) {R : Ending → World → Prop} (hc : Calls P f vs w R) (hK : ∀ e w', R e w' → ∃ v, e = .returned v ∧ K (a.put (some x) v) w') :
    if Region.wanted o (yielded ops a.tmps) = true then Oper.wp P o a w K Q else E := by
  have hw : Region.wanted o (yielded ops a.tmps) = true := by simp [Region.wanted, hgd]
  rw [if_pos hw]
  have h2 : Oper.wp P o a w K Q = o.upon P a K Q (.ok (.enter f vs) w) := by
    unfold Oper.wp
    simp [execOp, ho, resolve, invoke, ← hv, hfo, Deferred.ofValue, hfn]
  rw [h2, Oper.upon_enter]
  refine hc.mono ?_
  intro e w' hr
  obtain ⟨v, rfl, hk⟩ := hK e w' hr
  rw [hx]
  exact hk
theorem rowBase {B B' : Nat} {W : World} {e : TypeId} {z m : Nat} {v : Value} {xs : List Value} (h : W.ownsRow B e z v m xs) (hb : B' ≤ B) : W.ownsRow B' e z v m xs := by
  obtain ⟨h1, ⟨rfl, h0⟩ | ⟨g, c, cur, rfl, h2, h3⟩⟩ := h
  · exact ⟨h1, .inl ⟨rfl, h0⟩⟩
  · exact ⟨h1, .inr ⟨g, c, cur, rfl, Nat.le_trans hb h2, h3⟩⟩
/-- What run does. -/
def RunR (s : ByteArray) (b : Nat) (n0 : Nat) (w : World) (e : Ending) : List Tok ⊕ (Nat × Nat) → Prop
  | .inl ts => e = .returned (.int .i64 0) ∧ ∃ (k : Nat) (v' : Value), ScanAt w b s k v' ∧ w.ownsRow n0 29 3 v' ts.length (tcells ts)
  | .inr (k, c) => c ≠ 0 ∧ e = .returned (.int .i64 (c : Int)) ∧ ∃ v', ScanAt w b s k v'
def RunP (s : ByteArray) (b : Nat) (W : World) (e : Ending) (w : World) : Prop := BX W.heap.size b W w ∧ RunR s b W.heap.size w e (tk s 0 0)
theorem RunP.ret {s : ByteArray} {b : Nat} {W w : World} {e : Ending} (h : RunP s b W e w) : ∃ c : Int, e = .returned (.int .i64 c) := by
  have h2 := h.2
  cases hr : tk s 0 0 with
  | inl ts => rw [hr] at h2; exact ⟨0, h2.1⟩
  | inr p => obtain ⟨k, c⟩ := p; rw [hr] at h2; exact ⟨(c : Int), h2.2.1⟩
theorem BX.mono {B B' b : Nat} {u w : World} (h : BX B b u w) (hB : B' ≤ B) : BX B' b u w := ⟨h.os, h.tape, h.output, h.size, fun q hq hb => h.block q (by omega) hb⟩
theorem frontT_app (p q : List Tok) (x : List Tok ⊕ (Nat × Nat)) : frontT p (frontT q x) = frontT (p ++ q) x := by
  cases x with
  | inl l => simp [frontT]
  | inr e => rfl
theorem rowShape {W : World} {B n : Nat} {e : TypeId} {z : Nat} {v : Value} {xs : List Value} (h : W.ownsRow B e z v n xs) : ∃ a c, v = .slice a n c := by
  obtain ⟨_, ⟨e, h0⟩ | ⟨g, c, _, e, _⟩⟩ := h
  · exact ⟨none, 0, by rw [e, h0]⟩
  · exact ⟨_, _, e⟩
theorem scan_row1 {W : World} {B b g c n i : Nat} {e : TypeId} {xs : List Value} {u : Value} (hgb : g ≠ b) (h : W.ownsRow B e 3 (.slice (some ⟨g, 0, none⟩) n c) n xs) : (W.setCell ⟨b, i, none⟩ u).ownsRow B e 3 (.slice (some ⟨g, 0, none⟩) n c) n xs := by
  obtain ⟨h1, ⟨q, _⟩ | ⟨g', cap, cur, e1, h3, h4, h5⟩⟩ := h
  · cases q
  · refine ⟨h1, .inr ⟨g', cap, cur, e1, h3, ?_, h5⟩⟩
    have eg : g' = g := by injection e1 with e1; injection e1 with e1; injection e1 with e1; exact e1.symm
    subst eg
    exact (heap_setCell_other W ⟨b, i, none⟩ g' u (by simpa using hgb)).trans h4
set_option maxRecDepth 100000 in
set_option maxHeartbeats 8000000 in
theorem run_any {W0 W : World} {b : Nat} {s : ByteArray} (hE : HasE W0) (hM : HasM W0) (h0 : Below W0.heap.size W0 W) (hb : W0.heap.size ≤ b) (h : ScanAt W b s 0 (.slice none 0 0)) (hs : s.size ≤ 65536) :
    Calls Tryz.prog 10 #[.pointer (some ⟨b, 0, none⟩)] W (RunP s b W) := by
  obtain ⟨i0, hi, hz0, hz1, hz2⟩ := info_parts Tryz.infoTok
  have hbl := h.lt
  have Hh := hide h
  have HE := hide hE
  have HM := hide hM
  have H0 := hide h0
  clear h hE hM h0
  go_enter Tryz.func10, Tryz.ntmps10
  go_wp2
  go_step3
  go_wp2_with fail
  refine (steps_any W).mono ?_
  rintro e w1 ⟨rfl, hb1⟩
  have hX := hb1.size
  have HX0 : Hid (Below W.heap.size W ((w1.alloc (.cells #[.nilFunc, .nilFunc, .nilFunc, .nilFunc, .nilFunc, .nilFunc, .nilFunc] 59)).setCells w1.heap.size 0 stepCells)) := below_setCells hX _ _ _ (hb1.alloc hX _)
  have HT0 := hide (hasT_new w1)
  have hsz0 : ((w1.alloc (.cells #[.nilFunc, .nilFunc, .nilFunc, .nilFunc, .nilFunc, .nilFunc, .nilFunc] 59)).setCells w1.heap.size 0 stepCells).heap.size = w1.heap.size + 1 := by rw [size_setCells, World.size_alloc]
  have Hsz0 := hide hsz0
  have hth := there7 w1
  obtain ⟨A, hA, hTab⟩ : ∃ A, stepCells.toArray = A ∧ Tab A := ⟨_, rfl, tab_any⟩
  have hAl : A.toList = stepCells := by rw [← hA]
  rw [hA] at hth ⊢
  rw [← hAl] at HX0 HT0 Hsz0
  have hif := hTab.info
  have hone := hTab.one
  clear hb1 hA hAl hsz0 hTab
  go_wp2_with (refine wpList_store_mid rfl 59 (.tmp 3) (.tmp 4) rfl w1.heap.size 0 A rfl rfl hth hif hone ?_)
  generalize (w1.alloc (.cells #[.nilFunc, .nilFunc, .nilFunc, .nilFunc, .nilFunc, .nilFunc, .nilFunc] 59)).setCells w1.heap.size 0 A.toList = X at *
  obtain ⟨tb, htb⟩ : ∃ tb, w1.heap.size = tb := ⟨_, rfl⟩
  rw [htb] at HT0 Hsz0 hX ⊢
  clear hth hif hone htb
  have hBX : X.heap.size = tb + 1 := unhide Hsz0
  have HS0 : Hid (ScanAt X b s 0 (.slice none 0 0)) := (unhide Hh).up (unhide HX0)
  have HR0 : Hid (X.ownsRow X.heap.size 29 3 (.slice none 0 0) 0 (tcells [])) := ⟨rfl, .inl ⟨rfl, rfl⟩⟩
  have hge : ∀ w, BX X.heap.size b X w → BX W.heap.size b W w := fun w hw => (BX.of (unhide HX0) (Nat.le_refl _)).trans (hw.mono (by omega))
  have Hge := hide hge
  have hup : ∀ w, BX X.heap.size b X w → Below W0.heap.size W0 w := fun w hw => (unhide H0).trans ((hge w hw).below hb (by omega))
  have Hup := hide hup
  clear hge hup
  go_wp2
  go_step3
  go_wp2
  simp only [Act.put]
  go_loopg [2] s.size (fun gk v2 wr => ∃ (k n : Nat) (pre : List Tok) (va : Option Addr) (vc : Nat), v2 = .int .i64 0 ∧ gk = s.size - k ∧ k ≤ s.size ∧ n = pre.length ∧ n ≤ 16383 ∧ Hid (ScanAt wr b s k (.slice va n vc)) ∧ Hid (wr.ownsRow X.heap.size 29 3 (.slice va n vc) n (tcells pre)) ∧ Hid (tk s 0 0 = frontT pre (tk s k n)) ∧ Hid (BX X.heap.size b X wr))
  case atStart => exact ⟨0, 0, [], none, 0, rfl, rfl, by omega, rfl, by omega, HS0, HR0, (frontT_nil _).symm, BX.refl _ _ _⟩
  case round =>
    obtain ⟨k, n, pre, va, vc, rfl, hgk, hk, hn, hn2, HS, HR, Hq, HB⟩ := hrel
    have Hgk := hide hgk
    have Hn := hide hn
    clear hgk hn HS0 HR0
    have c0 := (unhide HS).c0
    have c1 := (unhide HS).c1
    have hbw : b < wr.heap.size := (unhide HS).lt
    have hTw : HasT wr tb := ((unhide HB).block tb (by omega) (by omega)).trans (unhide HT0)
    have HTw := hide hTw
    clear hTw
    have hXw : X.heap.size ≤ wr.heap.size := (unhide HB).size
    by_cases hlt : k < s.size
    · have qk : ((k : Int) == (s.size : Int)) = false := beq_eq_false_iff_ne.2 (by omega)
      obtain ⟨x, hx⟩ : ∃ x : Nat, s[k].toNat = x := ⟨_, rfl⟩
      have hbx : byteAt s k = x := (byteAt_eq s k hlt).trans hx
      have hx2 : x < 256 := by rw [← hbx]; exact byteAt_lt s k
      have k0 : (0 : Int) ≤ (k : Int) := Int.natCast_nonneg _
      have k1 : (k : Int) < (s.size : Int) := by omega
      have Hst : Hid (∀ m, Calls Tryz.prog (tabF (cls (byteAt s k))) #[.pointer (some ⟨b, 0, none⟩)] (wr.drewN m) (StepP X.heap.size b s k n (tcells pre) (wr.drewN m))) := fun m => stepP_any ((unhide HE).up (below_drewN (unhide Hup wr (unhide HB)) m)) ((unhide HM).up (below_drewN (unhide Hup wr (unhide HB)) m) (unhide HM).1) ⟨unhide HS, by omega, hXw, unhide HR, hlt, hs, hn2⟩
      have hcl : ∀ m, Calls Tryz.prog 18 #[.int .u8 (x : Int)] (wr.drewN m) fun e w => e = .returned (.int .i64 (cls x : Int)) ∧ w = wr.drewN m := fun m => classOf_any _ x hx2
      have Hcl := hide hcl
      have hc7 := cls_lt x
      rw [hbx] at Hst
      obtain ⟨c, hc⟩ : ∃ c, cls x = c := ⟨_, rfl⟩
      rw [hc] at Hst Hcl hc7
      have hcell := (unhide HTw).cell c hc7
      have cc0 : (0 : Int) ≤ (c : Int) := Int.natCast_nonneg _
      have cc1 : (c : Int) < 7 := by omega
      have Hc7 := hide hc7
      clear hcl hbx hc hc7
      go_wp2
      go_quiet (fail)
      go_wp2_with fail
      go_region_law (first | (refine step_callT 38 rfl rfl 18 (callC_any _) #[.tmp 37] #[5] rfl #[.int .u8 (x : Int)] (by first | rfl | simp [Act.eval]) (unhide Hcl _) ?_; rintro o7 w7 ⟨rfl, rfl⟩; refine ⟨_, rfl, ?_⟩) | (refine step_callV 42 rfl rfl (tabF c) (fun vs => callV_any _ vs c (unhide Hc7)) (.tmp 40) #[.tmp 41] #[56] rfl (by first | rfl | simp [Act.eval]) #[.pointer (some ⟨b, 0, none⟩)] (by first | rfl | simp [Act.eval]) (unhide Hst _) ?_; intro o9 w9 hq9; obtain ⟨z9, rfl⟩ := hq9.ret; refine ⟨_, rfl, ?_⟩; have Hq9 := hide hq9; clear hq9))
      all_goals (
        rcases unhide Hq9 with ⟨hbx9, ⟨e9, k', ts, v', s1, s2, s3, s4, s5, s6⟩ | ⟨c', v', n9, e9, s1, s2⟩⟩
        · obtain rfl : z9 = 0 := by injection e9 with e9; injection e9
          obtain ⟨a', c', rfl⟩ := rowShape s2
          have HB9 : Hid (BX X.heap.size b X w9) := (unhide HB).trans ((BX.of (below_drewN (Below.refl wr.heap.size wr) _) hXw).trans hbx9)
          have HS9 := hide s1
          have HR9 : Hid (w9.ownsRow X.heap.size 29 3 (.slice a' (n + ts.length) c') (n + ts.length) (tcells (pre ++ ts))) := by rw [tcells_app]; exact s2
          have Hq0 : Hid (tk s 0 0 = frontT (pre ++ ts) (tk s k' (n + ts.length))) := by show _ = _; rw [unhide Hq, s6, frontT_app]
          clear e9 s1 s2 s6 hbx9 Hq9 HB HS HR Hq
          go_wp2
          go_roundg (s.size - k')
          case measure => have := unhide Hgk; omega
          case rel => exact ⟨k', n + ts.length, pre ++ ts, a', c', rfl, rfl, s4, by have := unhide Hn; rw [List.length_append, this], s5, HS9, HR9, Hq0, HB9⟩
        · obtain rfl : z9 = (c' : Int) := by injection e9 with e9; injection e9
          have HB9 : Hid (BX X.heap.size b X w9) := (unhide HB).trans ((BX.of (below_drewN (Below.refl wr.heap.size wr) _) hXw).trans hbx9)
          have Hend : Hid (RunP s b W (.returned (.int .i64 (c' : Int))) w9) := ⟨unhide Hge _ (unhide HB9), by rw [unhide Hq, s2]; exact ⟨n9, rfl, v', s1⟩⟩
          have q9 : ((c' : Int) != 0) = true := by simp; omega
          clear e9 s1 s2 hbx9 Hq9 HB HS HR Hq HB9
          go_wp2
          try rw [Exit.noGoto_ret]
          go_ret
          exact unhide Hend)
    · obtain rfl : k = s.size := by omega
      have qk : ((s.size : Int) == (s.size : Int)) = true := by simp
      have hca2 : ∀ (n' : Nat) (ob : Obj), ((wr.drewN n').alloc ob).cell? ⟨b, 2, none⟩ = some (.slice va n vc) := fun n' ob => ScanAt.c2 (s := s) (k := s.size) ((Below.heap_alloc wr ob b hbw).trans (unhide HS))
      have c2 := (unhide HS).c2
      have hsz2 : ∀ (n' : Nat) (ob : Obj), ((wr.drewN n').alloc ob).heap.size = wr.heap.size + 1 := fun n' ob => World.size_alloc _ _
      have Hsz2 := hide hsz2
      have O1 : Hid (n + 1 ≤ maxLen) := by show _ ≤ _; unfold maxLen; omega
      have O2 : Hid ((n + 1) * 32 ≤ 140737488355328) := by show _ ≤ _; omega
      have hvb : (Value.slice va n vc).ownBlock ≠ some b := fun e => by have := ((unhide HR).lt b e).1; omega
      have Htk : Hid (tk s 0 0 = .inl (pre ++ [⟨5, s.size, ⟨#[]⟩⟩])) := by show _ = _; rw [unhide Hq, tk_end]; rfl
      clear hsz2 Hq HTw hlt
      go_wp2
      go_quiet (fail)
      go_wp2_with fail
      go_region_law (first | (refine step_append_lies _ rfl (.tmp 19) (.tmp 25) 22 rfl X.heap.size 29 i0 (.agg #[.int .i64 0, .int .i64 0, .string ⟨#[]⟩]) 3 32 Tryz.underlying22 hi hz0 hz1 hz2 rfl (by decide) (.slice va n vc) n (tcells pre) (by first | rfl | simp [Act.eval]) ((unhide HR).alloc _) ⟨wr.heap.size, 0, none⟩ 1 1 [.int .i64 5, .int .i64 (s.size : Int), .string ⟨#[]⟩] (by first | rfl | simp [Act.eval]) rfl (fun j u hj => news_new _ #[.int .i64 5, .int .i64 (s.size : Int), .string ⟨#[]⟩] 29 j u hj) (by simp [Value.oneCell']) (by decide) (unhide O1) (unhide O2) (by rw [unhide Hsz2]; omega) (wr.heap.size + 1) (unhide Hsz2 _ _) ?_; intro g9 c9 w9 hown9 hg9 hat9 hlt9; have hb9 : w9.heap[b]? = wr.heap[b]? := (hg9.block b (by rw [unhide Hsz2]; omega) (fun e => hvb e.symm)).trans (Below.heap_alloc wr _ b hbw); have hs9 : ScanAt w9 b s s.size (.slice va n vc) := hb9.trans (unhide HS); have c29 := hs9.c2; have f29 := row_frozenT 2 hs9; have gb : g9 ≠ b := (fun e => hat9.elim (fun q => hvb (by rw [q, e])) (fun q => by omega)); have Hs9 := hide hs9; have Hown := hide hown9; have HB9 : Hid (BX X.heap.size b X w9) := (unhide HB).trans ⟨hg9.os, hg9.tape, hg9.output, (by have := hg9.size; rw [unhide Hsz2] at this; omega), fun q hq _ => (hg9.block q (by rw [unhide Hsz2]; omega) (fun e => by have := ((unhide HR).lt q e.symm).1; omega)).trans (Below.heap_alloc wr _ q (by omega))⟩; clear hown9 hg9 hat9 hb9 hs9))
      all_goals go_wp2
      all_goals try rw [Exit.noGoto_ret]
      all_goals go_ret
      all_goals refine ⟨unhide Hge _ ((unhide HB9).set 2 _), ?_⟩
      all_goals rw [unhide Htk]
      all_goals refine ⟨rfl, s.size, .slice (some ⟨g9, 0, none⟩) (n + 1) c9, heap_setCell_same _ b 2 _ _ _ (unhide Hs9), ?_⟩
      all_goals rw [tcells_app, List.length_append, ← unhide Hn]
      all_goals exact rowBase (scan_row1 gb (unhide Hown)) (by omega)
end Go.Proofs.YtdhncpeemcanlaaGreatDoor
namespace Go.Proofs
open Go.Shelf
def Tryz.laysNC25_ren : Go.Shelf.Ren := ⟨fun | 25 => 16 | n => n, fun | 9 => 9 | 3 => 3 | 4 => 4 | 37 => 27 | 0 => 0 | 47 => 72 | 5 => 5 | n => n, fun | n => n⟩
theorem Tryz.laysNC25 : Go.Proofs.LaysPu.n25 Tryz.prog Tryz.laysNC25_ren := {
  mixed := by kernel_rfl
  f25 := Tryz.func16.trans (congrArg some (by kernel_rfl))
  t0 := Tryz.underlying0
  a0 := Tryz.isAgg0
  z0 := Tryz.sizeOf0
  v0 := Tryz.zeroValue0
  i0 := by kernel_rfl
  t3 := Tryz.underlying3
  a3 := Tryz.isAgg3
  z3 := Tryz.sizeOf3
  v3 := Tryz.zeroValue3
  i3 := by kernel_rfl
  t4 := Tryz.underlying4
  a4 := Tryz.isAgg4
  z4 := Tryz.sizeOf4
  v4 := Tryz.zeroValue4
  i4 := by kernel_rfl
  t5 := Tryz.underlying5
  a5 := Tryz.isAgg5
  z5 := Tryz.sizeOf5
  v5 := Tryz.zeroValue5
  i5 := by kernel_rfl
  t9 := Tryz.underlying9
  a9 := Tryz.isAgg9
  z9 := Tryz.sizeOf9
  v9 := Tryz.zeroValue9
  i9 := by kernel_rfl
  t37 := Tryz.underlying27
  a37 := Tryz.isAgg27
  z37 := Tryz.sizeOf27
  v37 := Tryz.zeroValue27
  i37 := by kernel_rfl
  t47 := Tryz.underlying72
  a47 := Tryz.isAgg72
  z47 := Tryz.sizeOf72
  v47 := Tryz.zeroValue72
  i47 := by kernel_rfl }
end Go.Proofs

namespace Go.Proofs.YtdhncpeemcanlaaGreatDoor
open Go.RowKit
attribute [local go_sem ↓] Go.wp_at_zero Go.wp_at_succ

theorem clone0_any (W : World) (s : ByteArray) (h : s.size ≤ 281474976710656) : Calls Tryz.prog 16 #[.string s] W fun e w => e = .returned (.string s) ∧ Below W.heap.size W w := AnyPu.stringslite_Clone Tryz.laysNC25 s W h
set_option maxRecDepth 100000 in
theorem clone_any (W : World) (s : ByteArray) (h : s.size ≤ 281474976710656) : Calls Tryz.prog 9 #[.string s] W fun e w => e = .returned (.string s) ∧ Below W.heap.size W w := by
  go_enter Tryz.func9, Tryz.ntmps9
  go_wp2_with fail
  refine (clone0_any W s h).mono ?_
  rintro e w ⟨rfl, hb⟩
  have Hb := hide hb
  clear hb
  go_wp2
  go_ret
  exact ⟨rfl, unhide Hb⟩
/-- What Tokens answers. -/
def TokA (n0 : Nat) (w : World) (e : Ending) : List Tok ⊕ (Nat × Nat) → Prop
  | .inl ts => ∃ v, e = .returned (.tuple #[v, .int .i64 0, .int .i64 0]) ∧ w.ownsRow n0 29 3 v ts.length (tcells ts)
  | .inr (k, c) => c ≠ 0 ∧ e = .returned (.tuple #[.slice none 0 0, .int .i64 (k : Int), .int .i64 (c : Int)])
def TokP (s : ByteArray) (W : World) (e : Ending) (w : World) : Prop := Below W.heap.size W w ∧ TokA W.heap.size w e (tokR s)
theorem tokR_long {s : ByteArray} (h : 65536 < s.size) : tokR s = .inr (0, 2) := by unfold tokR; rw [if_pos h]
theorem tokR_bad {s : ByteArray} (h : ¬ 65536 < s.size) (h2 : 0 ≤ utfAt s 0) : tokR s = .inr ((utfAt s 0).toNat, 44) := by unfold tokR; rw [if_neg h, if_pos h2]
theorem tokR_ok {s : ByteArray} (h : ¬ 65536 < s.size) (h2 : ¬ 0 ≤ utfAt s 0) : tokR s = tk s 0 0 := by unfold tokR; rw [if_neg h, if_neg h2]
set_option maxRecDepth 100000 in
set_option maxHeartbeats 2000000 in
theorem tokens_any {W : World} (hF : HasF W) (hE : HasE W) (hM : HasM W) (s : ByteArray) : Calls Tryz.prog 4 #[.string s] W (TokP s W) := by
  have hb0 := Below.refl W.heap.size W
  by_cases h0 : 65536 < s.size
  · have Hr := hide (tokR_long h0)
    have e0 := ltT (a := s.size) (k := 65536) (by omega)
    clear h0
    go_enter Tryz.func4, Tryz.ntmps4
    go_wp2
    go_ret3
    exact ⟨hb0, by rw [unhide Hr]; exact ⟨by decide, rfl⟩⟩
  · have e0 := ltF (a := s.size) (k := 65536) (by omega)
    have hs : s.size ≤ 65536 := by omega
    have H0 := hide h0
    clear h0
    go_enter Tryz.func4, Tryz.ntmps4
    go_wp2_with fail
    refine (utf8_any hF s (by omega)).mono ?_
    rintro e w1 ⟨rfl, hb1⟩
    have Hb1 := hide hb1
    clear hb1 hb0
    by_cases h1 : 0 ≤ utfAt s 0
    · have Hr := hide (tokR_bad (unhide H0) h1)
      obtain ⟨u, hu⟩ : ∃ u : Nat, utfAt s 0 = (u : Int) := ⟨(utfAt s 0).toNat, by omega⟩
      rw [hu] at Hr ⊢
      have e1 : decide (0 ≤ (u : Int)) = true := by simp
      clear hu h1
      go_wp2
      go_ret3
      exact ⟨unhide Hb1, by rw [unhide Hr]; exact ⟨by decide, rfl⟩⟩
    · have Hr := hide (tokR_ok (unhide H0) h1)
      obtain ⟨u, hu⟩ : ∃ u, u = utfAt s 0 := ⟨_, rfl⟩
      rw [← hu] at h1 ⊢
      have e1 : decide (0 ≤ u) = false := by simp; omega
      have HE := hide hE
      have HM := hide hM
      clear hu h1 hE hM
      go_wp2_with fail
      refine (clone_any w1 s (by omega)).mono ?_
      rintro e w2 ⟨rfl, hb2⟩
      have Hb2 : Hid (Below W.heap.size W w2) := (unhide Hb1).trans (hb2.mono (unhide Hb1).size)
      clear hb2
      go_wp2_with fail
      have hr := run_any (W0 := W) (W := w2.alloc (.cells #[.string s, .int .i64 0, .slice none 0 0] 44)) (b := w2.heap.size) (s := s) (unhide HE) (unhide HM) ((unhide Hb2).alloc (unhide Hb2).size _) (unhide Hb2).size (heap_new w2 _) hs
      have Hsz := hide (World.size_alloc w2 (.cells #[.string s, .int .i64 0, .slice none 0 0] 44))
      have HB0 : Hid (Below W.heap.size W (w2.alloc (.cells #[.string s, .int .i64 0, .slice none 0 0] 44))) := (unhide Hb2).alloc (unhide Hb2).size _
      have hle := (unhide Hb2).size
      have hb : ∃ b, w2.heap.size = b := ⟨_, rfl⟩
      obtain ⟨b, hb⟩ := hb
      rw [hb] at hr Hsz hle ⊢
      generalize w2.alloc (.cells #[.string s, .int .i64 0, .slice none 0 0] 44) = V at *
      clear hb Hb2
      refine hr.mono ?_
      rintro e w3 ⟨hx, hq⟩
      have hB3 : Below W.heap.size W w3 := (unhide HB0).trans (hx.below hle (unhide HB0).size)
      have HB3 := hide hB3
      have hVs : V.heap.size = b + 1 := unhide Hsz
      cases ht : tk s 0 0 with
      | inl ts =>
        rw [ht] at hq
        obtain ⟨rfl, k, v', h1, h2⟩ := hq
        have c2 := h1.c2
        have Hend : Hid (TokA W.heap.size w3 (.returned (.tuple #[v', .int .i64 0, .int .i64 0])) (tokR s)) := by
          show TokA _ _ _ _
          rw [unhide Hr, ht]
          exact ⟨v', rfl, rowBase h2 (by omega)⟩
        obtain ⟨va, vc, rfl⟩ := rowShape h2
        clear h1 h2 hx hB3 ht Hr hr
        go_wp2
        go_ret3
        exact ⟨unhide HB3, unhide Hend⟩
      | inr p =>
        obtain ⟨k, c⟩ := p
        rw [ht] at hq
        obtain ⟨hc, rfl, v', h1⟩ := hq
        have c1 := h1.c1
        have Hend : Hid (TokA W.heap.size w3 (.returned (.tuple #[.slice none 0 0, .int .i64 (k : Int), .int .i64 (c : Int)])) (tokR s)) := by
          show TokA _ _ _ _
          rw [unhide Hr, ht]
          exact ⟨hc, rfl⟩
        have q9 : ((c : Int) != 0) = true := by simp; omega
        clear h1 hx hB3 ht Hr hr hc
        go_wp2
        go_quiet (fail)
        go_wp2
        go_ret3
        exact ⟨below_drewN (unhide HB3) _, unhide Hend⟩
end Go.Proofs.YtdhncpeemcanlaaGreatDoor

namespace Go.Proofs.YtdhncpeemcanlaaGreatDoor
open Go.RowKit
attribute [local go_sem ↓] Go.wp_at_zero Go.wp_at_succ

/-- The call answers a bool that says p. -/
def SaysB (W : World) (p : Prop) (e : Ending) (w : World) : Prop := ∃ b : Bool, e = .returned (.bool b) ∧ w = W ∧ (b = true ↔ p)
theorem saysB {W : World} {p : Prop} (b : Bool) (h : b = true ↔ p) : SaysB W p (.returned (.bool b)) W := ⟨b, rfl, rfl, h⟩
end Go.Proofs.YtdhncpeemcanlaaGreatDoor

namespace Go.Proofs.YtdhncpeemcanlaaGreatDoor
open Go.RowKit
attribute [local go_sem ↓] Go.wp_at_zero Go.wp_at_succ

theorem two_beq {s : ByteArray} {k : Nat} (h : k + 2 ≤ s.size) (a b : UInt8) : ((s.extract k (k + 2)).toList == [a, b]) = decide (byteAt s k = a.toNat ∧ byteAt s (k + 1) = b.toNat) := by
  rw [ByteArray.toList_eq]
  have := two_eq h a b
  by_cases e : (s.extract k (k + 2)).data.toList = [a, b]
  · rw [decide_eq_true (this.1 e), e]; simp
  · rw [decide_eq_false (fun q => e (this.2 q))]
    exact beq_eq_false_iff_ne.2 e
theorem byte_get {s : ByteArray} {k : Nat} (h : k < s.size) : s[k].toNat = byteAt s k := by unfold byteAt; rw [dif_pos h]
end Go.Proofs.YtdhncpeemcanlaaGreatDoor

namespace Go.Proofs.YtdhncpeemcanlaaGreatDoor
open Go.RowKit
attribute [local go_sem ↓] Go.wp_at_zero Go.wp_at_succ

end Go.Proofs.YtdhncpeemcanlaaGreatDoor

namespace Go.Proofs.YtdhncpeemcanlaaGreatDoor
open Go.RowKit
attribute [local go_sem ↓] Go.wp_at_zero Go.wp_at_succ

/-- The reference's worth of a hexadecimal digit. -/
def hexI (x : Nat) : Int := if 48 ≤ x ∧ x ≤ 57 then (x : Int) - 48 else if 97 ≤ x ∧ x ≤ 102 then (x : Int) - 87 else if 65 ≤ x ∧ x ≤ 70 then (x : Int) - 55 else -1
theorem hexI_cases (x : Nat) : (hexI x = -1 ∧ (∀ d, dgv x = some d → 16 ≤ d)) ∨ (∃ d : Nat, hexI x = (d : Int) ∧ dgv x = some d ∧ d < 16) := by
  unfold hexI dgv
  by_cases h1 : 48 ≤ x ∧ x ≤ 57
  · rw [if_pos h1, if_pos h1]; exact .inr ⟨x - 48, by omega, rfl, by omega⟩
  · rw [if_neg h1, if_neg h1]
    by_cases h2 : 97 ≤ x ∧ x ≤ 102
    · rw [if_pos h2, if_neg (by omega), if_pos (by omega)]; exact .inr ⟨x - 87, by omega, rfl, by omega⟩
    · rw [if_neg h2]
      by_cases h3 : 65 ≤ x ∧ x ≤ 70
      · rw [if_pos h3, if_pos (by omega)]; exact .inr ⟨x - 55, by omega, rfl, by omega⟩
      · rw [if_neg h3]
        refine .inl ⟨rfl, fun d hd => ?_⟩
        split at hd
        · have := Option.some.inj hd; omega
        · split at hd
          · have := Option.some.inj hd; omega
          · cases hd
/-- What the reference's Digits answers. -/
def DigP (W : World) (l : List Nat) (e : Ending) (w : World) : Prop := w = W ∧ ((∃ u : Nat, e = .returned (.tuple #[.int .i64 (u : Int), .bool true]) ∧ wv l = some u) ∨ (e = .returned (.tuple #[.int .i64 0, .bool false]) ∧ wv l = none))
theorem digBad {W : World} {l : List Nat} (h : wv l = none) : DigP W l (.returned (.tuple #[.int .i64 0, .bool false])) W := ⟨rfl, .inr ⟨rfl, h⟩⟩
theorem digGood {W : World} {l : List Nat} {u : Nat} (h : wv l = some u) : DigP W l (.returned (.tuple #[.int .i64 (u : Int), .bool true])) W := ⟨rfl, .inl ⟨u, rfl, h⟩⟩
end Go.Proofs.YtdhncpeemcanlaaGreatDoor

namespace Go.Proofs.YtdhncpeemcanlaaGreatDoor
open Go.RowKit Go.Lib
attribute [local go_sem ↓] Go.wp_at_zero Go.wp_at_succ

def nmL : List Nat := [97, 98, 102, 110, 114, 116, 118, 92, 39, 34]
def wtL : List Nat := [7, 8, 12, 10, 13, 9, 11, 92, 39, 34]
theorem nm_at : ∀ i : Fin 10, nameV (nmL[i.val]'(by have := i.isLt; show _ < 10; omega)) = some (wtL[i.val]'(by have := i.isLt; show _ < 10; omega)) := by decide
theorem nm_get {i x : Nat} (h : nmL[i]? = some x) : ∃ v, nameV x = some v ∧ wtL[i]? = some v ∧ v < 256 := by
  obtain ⟨hi, rfl⟩ := List.getElem?_eq_some_iff.1 h
  have hi' : i < 10 := hi
  refine ⟨_, nm_at ⟨i, hi'⟩, List.getElem?_eq_getElem _, ?_⟩
  have key : ∀ i : Fin 10, wtL[i.val]'(by have := i.isLt; show _ < 10; omega) < 256 := by decide
  exact key ⟨i, hi'⟩
theorem nm_none {x : Nat} (h : ∀ j y : Nat, nmL[j]? = some y → ¬ y = x) : nameV x = none := by
  have g0 := h 0 97 rfl
  have g1 := h 1 98 rfl
  have g2 := h 2 102 rfl
  have g3 := h 3 110 rfl
  have g4 := h 4 114 rfl
  have g5 := h 5 116 rfl
  have g6 := h 6 118 rfl
  have g7 := h 7 92 rfl
  have g8 := h 8 39 rfl
  have g9 := h 9 34 rfl
  unfold nameV
  rw [if_neg (by omega), if_neg (by omega), if_neg (by omega), if_neg (by omega), if_neg (by omega), if_neg (by omega), if_neg (by omega), if_neg (by omega)]
theorem nmS : strN ⟨#[97, 98, 102, 110, 114, 116, 118, 92, 39, 34]⟩ = nmL := rfl
theorem isd_hex {x : Nat} : (hexI x = -1 ∧ isd 16 x = none) ∨ ∃ d : Nat, hexI x = (d : Int) ∧ isd 16 x = some d ∧ d < 16 := by
  rcases hexI_cases x with ⟨h1, h2⟩ | ⟨d, h1, h2, h3⟩
  · left
    refine ⟨h1, ?_⟩
    unfold isd
    split
    · rfl
    · rename_i d hd
      rw [if_neg (by have := h2 d hd; omega)]
  · right
    refine ⟨d, h1, ?_, h3⟩
    unfold isd
    rw [h2]
    exact if_pos h3
theorem isd8_val {x : Nat} (h : isd 8 x ≠ none) : isd 8 x = some (x - 48) ∧ 48 ≤ x ∧ x ≤ 55 := by
  obtain ⟨h1, h2⟩ := isd8.1 h
  refine ⟨?_, h1, h2⟩
  unfold isd dgv
  rw [if_pos (by omega)]
  exact if_pos (by omega)
theorem drop_get {s : ByteArray} {p x : Nat} (h : (strN s)[p]? = some x) : (strN s).drop p = x :: (strN s).drop (p + 1) := by
  obtain ⟨hl, hx'⟩ := List.getElem?_eq_some_iff.1 h
  rw [List.drop_eq_getElem_cons hl, hx']
/-- The bound of the worth of so many digits. -/
def VB (B j v : Nat) : Prop := v < B ^ j
theorem VB.next {B j v d : Nat} (h : VB B j v) (hd : d < B) : VB B (j + 1) (v * B + d) := by
  unfold VB at *
  rw [Nat.pow_succ]
  have : (v + 1) * B ≤ B ^ j * B := Nat.mul_le_mul_right B h
  rw [Nat.add_mul, Nat.one_mul] at this
  omega
theorem vb16 {j v : Nat} (h : VB 16 j v) (hj : j ≤ 2) : v ≤ 255 := by
  unfold VB at h
  have : (16 : Nat) ^ j ≤ 16 ^ 2 := Nat.pow_le_pow_right (by decide) hj
  have e : (16 : Nat) ^ 2 = 256 := by decide
  omega
theorem vb8 {j v : Nat} (h : VB 8 j v) (hj : j ≤ 3) : v ≤ 511 := by
  unfold VB at h
  have : (8 : Nat) ^ j ≤ 8 ^ 3 := Nat.pow_le_pow_right (by decide) hj
  have e : (8 : Nat) ^ 3 = 512 := by decide
  omega
theorem lt_len {s : ByteArray} {p : Nat} (h : ¬ p < s.size) : (strN s).drop p = [] := List.drop_eq_nil_of_le (by rw [strN_len]; omega)
theorem fin_zero {p : Nat × Nat} {k : Nat} (h : p.2 = 0 ∨ 255 < p.1) : fin p k = none := by unfold fin; rw [if_pos h]
theorem fin_ok {v n k : Nat} (h : ¬ n = 0) (h2 : v ≤ 255) : fin (v, n) k = some (v, k + n) := by unfold fin; rw [if_neg (by simp; omega)]
end Go.Proofs.YtdhncpeemcanlaaGreatDoor
