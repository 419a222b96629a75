import Derived.Test.YtaadpiimcaabkaaGreatDoorJ36
import Derived.WalkMore
import Derived.Shelf.Pu.Clone
import Derived.Test.YtaadpiimcaabkaaGreatDoorChecked

namespace Go.Proofs.YtaadpiimcaabkaaGreatDoor
open Go.RowKit
attribute [local go_sem ↓] Go.wp_at_zero Go.wp_at_succ

/-- A call through a value, at a step of a drawn region. -/
theorem step_callVf {P : Program} {ops : Array Oper} {o : Oper} {a : Act} {w : World} {K : Act → World → Prop} {Q : Exit → Act → World → Prop} {E : Prop} (x : Tmp) (hx : o.dst = some x) (hgd : o.guard = none) (f : FuncId) (hfn : ∀ vs, (callFunc f vs).run P w = .ok (.enter f vs) w) (fo : Operand) (args : Array Operand) (tys : Array TypeId)
    (ho : o.op = .call { callee := .value fo, args := args, argTypes := tys }) (hfo : a.eval fo = .func (.func f) #[] #[]) (vs : Array Value) (hv : args.map a.eval = vs) {R : Ending → World → Prop} (hc : Calls P f vs w R) (hK : ∀ e w', R e w' → ∃ v, e = .returned v ∧ K (a.put (some x) v) w') :
    if Region.wanted o (yielded ops a.tmps) = true then Oper.wp P o a w K Q else E := by
  have hw : Region.wanted o (yielded ops a.tmps) = true := by simp [Region.wanted, hgd]
  rw [if_pos hw]
  have h2 : Oper.wp P o a w K Q = o.upon P a K Q (.ok (.enter f vs) w) := by
    unfold Oper.wp
    simp [execOp, ho, resolve, invoke, ← hv, hfo, Deferred.ofValue, hfn]
  rw [h2, Oper.upon_enter]
  refine hc.mono ?_
  intro e w' hr
  obtain ⟨v, rfl, hk⟩ := hK e w' hr
  rw [hx]
  exact hk
theorem rowBase {B B' : Nat} {W : World} {e : TypeId} {z m : Nat} {v : Value} {xs : List Value} (h : W.ownsRow B e z v m xs) (hb : B' ≤ B) : W.ownsRow B' e z v m xs := by
  obtain ⟨h1, ⟨rfl, h0⟩ | ⟨g, c, cur, rfl, h2, h3⟩⟩ := h
  · exact ⟨h1, .inl ⟨rfl, h0⟩⟩
  · exact ⟨h1, .inr ⟨g, c, cur, rfl, Nat.le_trans hb h2, h3⟩⟩
/-- What run does. -/
def RunR (s : ByteArray) (b : Nat) (n0 : Nat) (w : World) (e : Ending) : List Tok ⊕ (Nat × Nat) → Prop
  | .inl ts => e = .returned (.int .i64 0) ∧ ∃ (k : Nat) (v' : Value), ScanAt w b s k v' ∧ w.ownsRow n0 107 3 v' ts.length (tcells ts)
  | .inr (k, c) => c ≠ 0 ∧ e = .returned (.int .i64 (c : Int)) ∧ ∃ v', ScanAt w b s k v'
def RunP (s : ByteArray) (b : Nat) (W : World) (e : Ending) (w : World) : Prop := BX W.heap.size b W w ∧ RunR s b W.heap.size w e (tk s 0 0)
theorem RunP.ret {s : ByteArray} {b : Nat} {W w : World} {e : Ending} (h : RunP s b W e w) : ∃ c : Int, e = .returned (.int .i64 c) := by
  have h2 := h.2
  cases hr : tk s 0 0 with
  | inl ts => rw [hr] at h2; exact ⟨0, h2.1⟩
  | inr p => obtain ⟨k, c⟩ := p; rw [hr] at h2; exact ⟨(c : Int), h2.2.1⟩
theorem BX.mono {B B' b : Nat} {u w : World} (h : BX B b u w) (hB : B' ≤ B) : BX B' b u w := ⟨h.os, h.tape, h.output, h.size, fun q hq hb => h.block q (by omega) hb⟩
theorem frontT_app (p q : List Tok) (x : List Tok ⊕ (Nat × Nat)) : frontT p (frontT q x) = frontT (p ++ q) x := by
  cases x with
  | inl l => simp [frontT]
  | inr e => rfl
theorem rowShape {W : World} {B n : Nat} {e : TypeId} {z : Nat} {v : Value} {xs : List Value} (h : W.ownsRow B e z v n xs) : ∃ a c, v = .slice a n c := by
  obtain ⟨_, ⟨e, h0⟩ | ⟨g, c, _, e, _⟩⟩ := h
  · exact ⟨none, 0, by rw [e, h0]⟩
  · exact ⟨_, _, e⟩
theorem scan_row1 {W : World} {B b g c n i : Nat} {e : TypeId} {xs : List Value} {u : Value} (hgb : g ≠ b) (h : W.ownsRow B e 3 (.slice (some ⟨g, 0, none⟩) n c) n xs) : (W.setCell ⟨b, i, none⟩ u).ownsRow B e 3 (.slice (some ⟨g, 0, none⟩) n c) n xs := by
  obtain ⟨h1, ⟨q, _⟩ | ⟨g', cap, cur, e1, h3, h4, h5⟩⟩ := h
  · cases q
  · refine ⟨h1, .inr ⟨g', cap, cur, e1, h3, ?_, h5⟩⟩
    have eg : g' = g := by injection e1 with e1; injection e1 with e1; injection e1 with e1; exact e1.symm
    subst eg
    exact (heap_setCell_other W ⟨b, i, none⟩ g' u (by simpa using hgb)).trans h4
set_option maxRecDepth 100000 in
set_option maxHeartbeats 8000000 in
theorem run_any {W0 W : World} {b : Nat} {s : ByteArray} (hE : HasE W0) (hM : HasM W0) (h0 : Below W0.heap.size W0 W) (hb : W0.heap.size ≤ b) (h : ScanAt W b s 0 (.slice none 0 0)) (hs : s.size ≤ 65536) :
    Calls Tryz.prog 48 #[.pointer (some ⟨b, 0, none⟩)] W (RunP s b W) := by
  obtain ⟨i0, hi, hz0, hz1, hz2⟩ := info_parts Tryz.infoTok
  have hbl := h.lt
  have Hh := hide h
  have HE := hide hE
  have HM := hide hM
  have H0 := hide h0
  clear h hE hM h0
  go_enter Tryz.func48, Tryz.ntmps48
  go_wp2
  go_step3
  go_wp2_with fail
  refine (steps_any W).mono ?_
  rintro e w1 ⟨rfl, hb1⟩
  have hX := hb1.size
  have HX0 : Hid (Below W.heap.size W ((w1.alloc (.cells #[.nilFunc, .nilFunc, .nilFunc, .nilFunc, .nilFunc, .nilFunc, .nilFunc] 137)).setCells w1.heap.size 0 stepCells)) := below_setCells hX _ _ _ (hb1.alloc hX _)
  have HT0 := hide (hasT_new w1)
  have hsz0 : ((w1.alloc (.cells #[.nilFunc, .nilFunc, .nilFunc, .nilFunc, .nilFunc, .nilFunc, .nilFunc] 137)).setCells w1.heap.size 0 stepCells).heap.size = w1.heap.size + 1 := by rw [size_setCells, World.size_alloc]
  have Hsz0 := hide hsz0
  have hth := there7 w1
  obtain ⟨A, hA, hTab⟩ : ∃ A, stepCells.toArray = A ∧ Tab A := ⟨_, rfl, tab_any⟩
  have hAl : A.toList = stepCells := by rw [← hA]
  rw [hA] at hth ⊢
  rw [← hAl] at HX0 HT0 Hsz0
  have hif := hTab.info
  have hone := hTab.one
  clear hb1 hA hAl hsz0 hTab
  go_wp2_with (refine wpList_store_mid rfl 137 (.tmp 3) (.tmp 4) rfl w1.heap.size 0 A rfl rfl hth hif hone ?_)
  generalize (w1.alloc (.cells #[.nilFunc, .nilFunc, .nilFunc, .nilFunc, .nilFunc, .nilFunc, .nilFunc] 137)).setCells w1.heap.size 0 A.toList = X at *
  obtain ⟨tb, htb⟩ : ∃ tb, w1.heap.size = tb := ⟨_, rfl⟩
  rw [htb] at HT0 Hsz0 hX ⊢
  clear hth hif hone htb
  have hBX : X.heap.size = tb + 1 := unhide Hsz0
  have HS0 : Hid (ScanAt X b s 0 (.slice none 0 0)) := (unhide Hh).up (unhide HX0)
  have HR0 : Hid (X.ownsRow X.heap.size 107 3 (.slice none 0 0) 0 (tcells [])) := ⟨rfl, .inl ⟨rfl, rfl⟩⟩
  have hge : ∀ w, BX X.heap.size b X w → BX W.heap.size b W w := fun w hw => (BX.of (unhide HX0) (Nat.le_refl _)).trans (hw.mono (by omega))
  have Hge := hide hge
  have hup : ∀ w, BX X.heap.size b X w → Below W0.heap.size W0 w := fun w hw => (unhide H0).trans ((hge w hw).below hb (by omega))
  have Hup := hide hup
  clear hge hup
  go_wp2
  go_step3
  go_wp2
  simp only [Act.put]
  go_loopg [2] s.size (fun gk v2 wr => ∃ (k n : Nat) (pre : List Tok) (va : Option Addr) (vc : Nat), v2 = .int .i64 0 ∧ gk = s.size - k ∧ k ≤ s.size ∧ n = pre.length ∧ n ≤ 16383 ∧ Hid (ScanAt wr b s k (.slice va n vc)) ∧ Hid (wr.ownsRow X.heap.size 107 3 (.slice va n vc) n (tcells pre)) ∧ Hid (tk s 0 0 = frontT pre (tk s k n)) ∧ Hid (BX X.heap.size b X wr))
  case atStart => exact ⟨0, 0, [], none, 0, rfl, rfl, by omega, rfl, by omega, HS0, HR0, (frontT_nil _).symm, BX.refl _ _ _⟩
  case round =>
    obtain ⟨k, n, pre, va, vc, rfl, hgk, hk, hn, hn2, HS, HR, Hq, HB⟩ := hrel
    have Hgk := hide hgk
    have Hn := hide hn
    clear hgk hn HS0 HR0
    have c0 := (unhide HS).c0
    have c1 := (unhide HS).c1
    have hbw : b < wr.heap.size := (unhide HS).lt
    have hTw : HasT wr tb := ((unhide HB).block tb (by omega) (by omega)).trans (unhide HT0)
    have HTw := hide hTw
    clear hTw
    have hXw : X.heap.size ≤ wr.heap.size := (unhide HB).size
    by_cases hlt : k < s.size
    · have qk : ((k : Int) == (s.size : Int)) = false := beq_eq_false_iff_ne.2 (by omega)
      obtain ⟨x, hx⟩ : ∃ x : Nat, s[k].toNat = x := ⟨_, rfl⟩
      have hbx : byteAt s k = x := (byteAt_eq s k hlt).trans hx
      have hx2 : x < 256 := by rw [← hbx]; exact byteAt_lt s k
      have k0 : (0 : Int) ≤ (k : Int) := Int.natCast_nonneg _
      have k1 : (k : Int) < (s.size : Int) := by omega
      have Hst : Hid (∀ m, Calls Tryz.prog (tabF (cls (byteAt s k))) #[.pointer (some ⟨b, 0, none⟩)] (wr.drewN m) (StepP X.heap.size b s k n (tcells pre) (wr.drewN m))) := fun m => stepP_any ((unhide HE).up (below_drewN (unhide Hup wr (unhide HB)) m)) ((unhide HM).up (below_drewN (unhide Hup wr (unhide HB)) m) (unhide HM).1) ⟨unhide HS, by omega, hXw, unhide HR, hlt, hs, hn2⟩
      have hcl : ∀ m, Calls Tryz.prog 95 #[.int .u8 (x : Int)] (wr.drewN m) fun e w => e = .returned (.int .i64 (cls x : Int)) ∧ w = wr.drewN m := fun m => classOf_any _ x hx2
      have Hcl := hide hcl
      have hc7 := cls_lt x
      rw [hbx] at Hst
      obtain ⟨c, hc⟩ : ∃ c, cls x = c := ⟨_, rfl⟩
      rw [hc] at Hst Hcl hc7
      have hcell := (unhide HTw).cell c hc7
      have cc0 : (0 : Int) ≤ (c : Int) := Int.natCast_nonneg _
      have cc1 : (c : Int) < 7 := by omega
      have Hc7 := hide hc7
      clear hcl hbx hc hc7
      go_wp2
      go_quiet (fail)
      go_wp2_with fail
      go_region_law (first | (refine step_callT 38 rfl rfl 95 (callC_any _) #[.tmp 37] #[5] rfl #[.int .u8 (x : Int)] (by first | rfl | simp [Act.eval]) (unhide Hcl _) ?_; rintro o7 w7 ⟨rfl, rfl⟩; refine ⟨_, rfl, ?_⟩) | (refine step_callVf 42 rfl rfl (tabF c) (fun vs => callV_any _ vs c (unhide Hc7)) (.tmp 40) #[.tmp 41] #[134] rfl (by first | rfl | simp [Act.eval]) #[.pointer (some ⟨b, 0, none⟩)] (by first | rfl | simp [Act.eval]) (unhide Hst _) ?_; intro o9 w9 hq9; obtain ⟨z9, rfl⟩ := hq9.ret; refine ⟨_, rfl, ?_⟩; have Hq9 := hide hq9; clear hq9))
      all_goals (
        rcases unhide Hq9 with ⟨hbx9, ⟨e9, k', ts, v', s1, s2, s3, s4, s5, s6⟩ | ⟨c', v', n9, e9, s1, s2⟩⟩
        · obtain rfl : z9 = 0 := by injection e9 with e9; injection e9
          obtain ⟨a', c', rfl⟩ := rowShape s2
          have HB9 : Hid (BX X.heap.size b X w9) := (unhide HB).trans ((BX.of (below_drewN (Below.refl wr.heap.size wr) _) hXw).trans hbx9)
          have HS9 := hide s1
          have HR9 : Hid (w9.ownsRow X.heap.size 107 3 (.slice a' (n + ts.length) c') (n + ts.length) (tcells (pre ++ ts))) := by rw [tcells_app]; exact s2
          have Hq0 : Hid (tk s 0 0 = frontT (pre ++ ts) (tk s k' (n + ts.length))) := by show _ = _; rw [unhide Hq, s6, frontT_app]
          clear e9 s1 s2 s6 hbx9 Hq9 HB HS HR Hq
          go_wp2
          go_roundg (s.size - k')
          case measure => have := unhide Hgk; omega
          case rel => exact ⟨k', n + ts.length, pre ++ ts, a', c', rfl, rfl, s4, by have := unhide Hn; rw [List.length_append, this], s5, HS9, HR9, Hq0, HB9⟩
        · obtain rfl : z9 = (c' : Int) := by injection e9 with e9; injection e9
          have HB9 : Hid (BX X.heap.size b X w9) := (unhide HB).trans ((BX.of (below_drewN (Below.refl wr.heap.size wr) _) hXw).trans hbx9)
          have Hend : Hid (RunP s b W (.returned (.int .i64 (c' : Int))) w9) := ⟨unhide Hge _ (unhide HB9), by rw [unhide Hq, s2]; exact ⟨n9, rfl, v', s1⟩⟩
          have q9 : ((c' : Int) != 0) = true := by simp; omega
          clear e9 s1 s2 hbx9 Hq9 HB HS HR Hq HB9
          go_wp2
          try rw [Exit.noGoto_ret]
          go_ret
          exact unhide Hend)
    · obtain rfl : k = s.size := by omega
      have qk : ((s.size : Int) == (s.size : Int)) = true := by simp
      have hca2 : ∀ (n' : Nat) (ob : Obj), ((wr.drewN n').alloc ob).cell? ⟨b, 2, none⟩ = some (.slice va n vc) := fun n' ob => ScanAt.c2 (s := s) (k := s.size) ((Below.heap_alloc wr ob b hbw).trans (unhide HS))
      have c2 := (unhide HS).c2
      have hsz2 : ∀ (n' : Nat) (ob : Obj), ((wr.drewN n').alloc ob).heap.size = wr.heap.size + 1 := fun n' ob => World.size_alloc _ _
      have Hsz2 := hide hsz2
      have O1 : Hid (n + 1 ≤ maxLen) := by show _ ≤ _; unfold maxLen; omega
      have O2 : Hid ((n + 1) * 32 ≤ 140737488355328) := by show _ ≤ _; omega
      have hvb : (Value.slice va n vc).ownBlock ≠ some b := fun e => by have := ((unhide HR).lt b e).1; omega
      have Htk : Hid (tk s 0 0 = .inl (pre ++ [⟨5, s.size, ⟨#[]⟩⟩])) := by show _ = _; rw [unhide Hq, tk_end]; rfl
      clear hsz2 Hq HTw hlt
      go_wp2
      go_quiet (fail)
      go_wp2_with fail
      go_region_law (first | (refine step_append_lies _ rfl (.tmp 19) (.tmp 25) 51 rfl X.heap.size 107 i0 (.agg #[.int .i64 0, .int .i64 0, .string ⟨#[]⟩]) 3 32 Tryz.underlying51 hi hz0 hz1 hz2 rfl (by decide) (.slice va n vc) n (tcells pre) (by first | rfl | simp [Act.eval]) ((unhide HR).alloc _) ⟨wr.heap.size, 0, none⟩ 1 1 [.int .i64 5, .int .i64 (s.size : Int), .string ⟨#[]⟩] (by first | rfl | simp [Act.eval]) rfl (fun j u hj => news_new _ #[.int .i64 5, .int .i64 (s.size : Int), .string ⟨#[]⟩] 107 j u hj) (by simp [Value.oneCell']) (by decide) (unhide O1) (unhide O2) (by rw [unhide Hsz2]; omega) (wr.heap.size + 1) (unhide Hsz2 _ _) ?_; intro g9 c9 w9 hown9 hg9 hat9 hlt9; have hb9 : w9.heap[b]? = wr.heap[b]? := (hg9.block b (by rw [unhide Hsz2]; omega) (fun e => hvb e.symm)).trans (Below.heap_alloc wr _ b hbw); have hs9 : ScanAt w9 b s s.size (.slice va n vc) := hb9.trans (unhide HS); have c29 := hs9.c2; have f29 := row_frozenT 2 hs9; have gb : g9 ≠ b := (fun e => hat9.elim (fun q => hvb (by rw [q, e])) (fun q => by omega)); have Hs9 := hide hs9; have Hown := hide hown9; have HB9 : Hid (BX X.heap.size b X w9) := (unhide HB).trans ⟨hg9.os, hg9.tape, hg9.output, (by have := hg9.size; rw [unhide Hsz2] at this; omega), fun q hq _ => (hg9.block q (by rw [unhide Hsz2]; omega) (fun e => by have := ((unhide HR).lt q e.symm).1; omega)).trans (Below.heap_alloc wr _ q (by omega))⟩; clear hown9 hg9 hat9 hb9 hs9))
      all_goals go_wp2
      all_goals try rw [Exit.noGoto_ret]
      all_goals go_ret
      all_goals refine ⟨unhide Hge _ ((unhide HB9).set 2 _), ?_⟩
      all_goals rw [unhide Htk]
      all_goals refine ⟨rfl, s.size, .slice (some ⟨g9, 0, none⟩) (n + 1) c9, heap_setCell_same _ b 2 _ _ _ (unhide Hs9), ?_⟩
      all_goals rw [tcells_app, List.length_append, ← unhide Hn]
      all_goals exact rowBase (scan_row1 gb (unhide Hown)) (by omega)
end Go.Proofs.YtaadpiimcaabkaaGreatDoor
namespace Go.Proofs
open Go.Shelf
def Tryz.laysNC25_ren : Go.Shelf.Ren := ⟨fun | 25 => 93 | n => n, fun | 9 => 9 | 3 => 3 | 4 => 4 | 37 => 58 | 0 => 0 | 47 => 162 | 5 => 5 | n => n, fun | n => n⟩
theorem Tryz.laysNC25 : Go.Proofs.LaysPu.n25 Tryz.prog Tryz.laysNC25_ren := {
  mixed := by kernel_rfl
  f25 := Tryz.func93.trans (congrArg some (by kernel_rfl))
  t0 := Tryz.underlying0
  a0 := Tryz.isAgg0
  z0 := Tryz.sizeOf0
  v0 := Tryz.zeroValue0
  i0 := by kernel_rfl
  t3 := Tryz.underlying3
  a3 := Tryz.isAgg3
  z3 := Tryz.sizeOf3
  v3 := Tryz.zeroValue3
  i3 := by kernel_rfl
  t4 := Tryz.underlying4
  a4 := Tryz.isAgg4
  z4 := Tryz.sizeOf4
  v4 := Tryz.zeroValue4
  i4 := by kernel_rfl
  t5 := Tryz.underlying5
  a5 := Tryz.isAgg5
  z5 := Tryz.sizeOf5
  v5 := Tryz.zeroValue5
  i5 := by kernel_rfl
  t9 := Tryz.underlying9
  a9 := Tryz.isAgg9
  z9 := Tryz.sizeOf9
  v9 := Tryz.zeroValue9
  i9 := by kernel_rfl
  t37 := Tryz.underlying58
  a37 := Tryz.isAgg58
  z37 := Tryz.sizeOf58
  v37 := Tryz.zeroValue58
  i37 := by kernel_rfl
  t47 := Tryz.underlying162
  a47 := Tryz.isAgg162
  z47 := Tryz.sizeOf162
  v47 := Tryz.zeroValue162
  i47 := by kernel_rfl }
end Go.Proofs

namespace Go.Proofs.YtaadpiimcaabkaaGreatDoor
open Go.RowKit
attribute [local go_sem ↓] Go.wp_at_zero Go.wp_at_succ

theorem clone0_any (W : World) (s : ByteArray) (h : s.size ≤ 281474976710656) : Calls Tryz.prog 93 #[.string s] W fun e w => e = .returned (.string s) ∧ Below W.heap.size W w := AnyPu.stringslite_Clone Tryz.laysNC25 s W h
set_option maxRecDepth 100000 in
theorem clone_any (W : World) (s : ByteArray) (h : s.size ≤ 281474976710656) : Calls Tryz.prog 47 #[.string s] W fun e w => e = .returned (.string s) ∧ Below W.heap.size W w := by
  go_enter Tryz.func47, Tryz.ntmps47
  go_wp2_with fail
  refine (clone0_any W s h).mono ?_
  rintro e w ⟨rfl, hb⟩
  have Hb := hide hb
  clear hb
  go_wp2
  go_ret
  exact ⟨rfl, unhide Hb⟩
/-- What Tokens answers. -/
def TokA (n0 : Nat) (w : World) (e : Ending) : List Tok ⊕ (Nat × Nat) → Prop
  | .inl ts => ∃ v, e = .returned (.tuple #[v, .int .i64 0, .int .i64 0]) ∧ w.ownsRow n0 107 3 v ts.length (tcells ts)
  | .inr (k, c) => c ≠ 0 ∧ e = .returned (.tuple #[.slice none 0 0, .int .i64 (k : Int), .int .i64 (c : Int)])
def TokP (s : ByteArray) (W : World) (e : Ending) (w : World) : Prop := Below W.heap.size W w ∧ TokA W.heap.size w e (tokR s)
theorem tokR_long {s : ByteArray} (h : 65536 < s.size) : tokR s = .inr (0, 2) := by unfold tokR; rw [if_pos h]
theorem tokR_bad {s : ByteArray} (h : ¬ 65536 < s.size) (h2 : 0 ≤ utfAt s 0) : tokR s = .inr ((utfAt s 0).toNat, 44) := by unfold tokR; rw [if_neg h, if_pos h2]
theorem tokR_ok {s : ByteArray} (h : ¬ 65536 < s.size) (h2 : ¬ 0 ≤ utfAt s 0) : tokR s = tk s 0 0 := by unfold tokR; rw [if_neg h, if_neg h2]
set_option maxRecDepth 100000 in
set_option maxHeartbeats 2000000 in
theorem tokens_any {W : World} (hF : HasF W) (hE : HasE W) (hM : HasM W) (s : ByteArray) : Calls Tryz.prog 21 #[.string s] W (TokP s W) := by
  have hb0 := Below.refl W.heap.size W
  by_cases h0 : 65536 < s.size
  · have Hr := hide (tokR_long h0)
    have e0 := ltT (a := s.size) (k := 65536) (by omega)
    clear h0
    go_enter Tryz.func21, Tryz.ntmps21
    go_wp2
    go_ret3
    exact ⟨hb0, by rw [unhide Hr]; exact ⟨by decide, rfl⟩⟩
  · have e0 := ltF (a := s.size) (k := 65536) (by omega)
    have hs : s.size ≤ 65536 := by omega
    have H0 := hide h0
    clear h0
    go_enter Tryz.func21, Tryz.ntmps21
    go_wp2_with fail
    refine (utf8_any hF s (by omega)).mono ?_
    rintro e w1 ⟨rfl, hb1⟩
    have Hb1 := hide hb1
    clear hb1 hb0
    by_cases h1 : 0 ≤ utfAt s 0
    · have Hr := hide (tokR_bad (unhide H0) h1)
      obtain ⟨u, hu⟩ : ∃ u : Nat, utfAt s 0 = (u : Int) := ⟨(utfAt s 0).toNat, by omega⟩
      rw [hu] at Hr ⊢
      have e1 : decide (0 ≤ (u : Int)) = true := by simp
      clear hu h1
      go_wp2
      go_ret3
      exact ⟨unhide Hb1, by rw [unhide Hr]; exact ⟨by decide, rfl⟩⟩
    · have Hr := hide (tokR_ok (unhide H0) h1)
      obtain ⟨u, hu⟩ : ∃ u, u = utfAt s 0 := ⟨_, rfl⟩
      rw [← hu] at h1 ⊢
      have e1 : decide (0 ≤ u) = false := by simp; omega
      have HE := hide hE
      have HM := hide hM
      clear hu h1 hE hM
      go_wp2_with fail
      refine (clone_any w1 s (by omega)).mono ?_
      rintro e w2 ⟨rfl, hb2⟩
      have Hb2 : Hid (Below W.heap.size W w2) := (unhide Hb1).trans (hb2.mono (unhide Hb1).size)
      clear hb2
      go_wp2_with fail
      have hr := run_any (W0 := W) (W := w2.alloc (.cells #[.string s, .int .i64 0, .slice none 0 0] 94)) (b := w2.heap.size) (s := s) (unhide HE) (unhide HM) ((unhide Hb2).alloc (unhide Hb2).size _) (unhide Hb2).size (heap_new w2 _) hs
      have Hsz := hide (World.size_alloc w2 (.cells #[.string s, .int .i64 0, .slice none 0 0] 94))
      have HB0 : Hid (Below W.heap.size W (w2.alloc (.cells #[.string s, .int .i64 0, .slice none 0 0] 94))) := (unhide Hb2).alloc (unhide Hb2).size _
      have hle := (unhide Hb2).size
      have hb : ∃ b, w2.heap.size = b := ⟨_, rfl⟩
      obtain ⟨b, hb⟩ := hb
      rw [hb] at hr Hsz hle ⊢
      generalize w2.alloc (.cells #[.string s, .int .i64 0, .slice none 0 0] 94) = V at *
      clear hb Hb2
      refine hr.mono ?_
      rintro e w3 ⟨hx, hq⟩
      have hB3 : Below W.heap.size W w3 := (unhide HB0).trans (hx.below hle (unhide HB0).size)
      have HB3 := hide hB3
      have hVs : V.heap.size = b + 1 := unhide Hsz
      cases ht : tk s 0 0 with
      | inl ts =>
        rw [ht] at hq
        obtain ⟨rfl, k, v', h1, h2⟩ := hq
        have c2 := h1.c2
        have Hend : Hid (TokA W.heap.size w3 (.returned (.tuple #[v', .int .i64 0, .int .i64 0])) (tokR s)) := by
          show TokA _ _ _ _
          rw [unhide Hr, ht]
          exact ⟨v', rfl, rowBase h2 (by omega)⟩
        obtain ⟨va, vc, rfl⟩ := rowShape h2
        clear h1 h2 hx hB3 ht Hr hr
        go_wp2
        go_ret3
        exact ⟨unhide HB3, unhide Hend⟩
      | inr p =>
        obtain ⟨k, c⟩ := p
        rw [ht] at hq
        obtain ⟨hc, rfl, v', h1⟩ := hq
        have c1 := h1.c1
        have Hend : Hid (TokA W.heap.size w3 (.returned (.tuple #[.slice none 0 0, .int .i64 (k : Int), .int .i64 (c : Int)])) (tokR s)) := by
          show TokA _ _ _ _
          rw [unhide Hr, ht]
          exact ⟨hc, rfl⟩
        have q9 : ((c : Int) != 0) = true := by simp; omega
        clear h1 hx hB3 ht Hr hr hc
        go_wp2
        go_quiet (fail)
        go_wp2
        go_ret3
        exact ⟨below_drewN (unhide HB3) _, unhide Hend⟩
end Go.Proofs.YtaadpiimcaabkaaGreatDoor

namespace Go.Proofs.YtaadpiimcaabkaaGreatDoor
open Go.RowKit
attribute [local go_sem ↓] Go.wp_at_zero Go.wp_at_succ

/-- What Text tells: the text and the error's number. -/
noncomputable def textR (F : Fl) : ByteArray × Int := if (fileJ F).isSome then (match tokR (ofN (fileL F)) with
    | .inl _ => (ofN (fileL F), 0)
    | .inr _ => (⟨#[]⟩, 2))
  else (⟨#[]⟩, 60)
set_option maxRecDepth 100000 in
set_option maxHeartbeats 2000000 in
theorem text_any {W : World} {v vi vm ve : Value} {F : Fl} {cm ce : List Value} (hM : HasM W) (hE : HasE W) (hP : HasP W) (hF : HasF W) (hFl : FlL W v F vi vm ve cm ce) (hsz : ∀ m ∈ F.ms, SzM 32 m) :
    Calls Tryz.prog 8 #[v] W fun e w => e = .returned (.tuple #[.string (textR F).1, .int .i64 (textR F).2]) ∧ Below W.heap.size W w := by
  have hb0 : Below W.heap.size W (W.alloc (.cells #[.string F.pkg, vi, vm, ve] 26)) := (Below.refl _ _).alloc (Nat.le_refl _) _
  have k0 := heap_new W (.cells #[.string F.pkg, vi, vm, ve] 26)
  obtain ⟨V, hV⟩ : ∃ V, W.alloc (.cells #[.string F.pkg, vi, vm, ve] 26) = V := ⟨_, rfl⟩
  rw [hV] at hb0 k0
  have HR := hide (rightFile_any (hM.up hb0 hM.1) (hFl.up hb0) hsz)
  have hv := hFl.is
  subst hv
  have HW : Hid ((fileJ F).isSome = true → ∀ w1, Below V.heap.size V w1 → Calls Tryz.prog 20 #[.agg #[.string F.pkg, vi, vm, ve]] w1 fun e w => e = .returned (.string (ofN (fileL F))) ∧ Below w1.heap.size w1 w) := by
    intro h w1 hb
    obtain ⟨-, c1, c2, c3, c4, c5⟩ := file_cost h
    exact written_any ((hP.up hb0).up hb) ((hF.up hb0).up hb) ((hFl.up hb0).up hb) c1 c2 c3 c4 c5 (fileL_byt F)
  have HT : Hid (∀ w1, Below V.heap.size V w1 → Calls Tryz.prog 21 #[.string (ofN (fileL F))] w1 (TokP (ofN (fileL F)) w1)) := fun w1 hb =>
    tokens_any ((hF.up hb0).up hb) ((hE.up hb0).up hb) ((hM.up hb0 hM.1).up hb (hM.up hb0 hM.1).1) _
  have HB := hide hb0
  have HK := hide k0
  obtain ⟨ai, ci, rfl, hni, -⟩ := hFl.hi
  obtain ⟨am, cm', rfl, hnm, -⟩ := hFl.hm
  obtain ⟨ae, ce', rfl, hne, -⟩ := hFl.he
  have c0 : V.cell? ⟨W.heap.size, 0, none⟩ = some (.string F.pkg) := cell_of_row _ _ _ _ _ _ k0
  have c1 : V.cell? ⟨W.heap.size, 1, none⟩ = some (.slice ai F.imps.length ci) := cell_of_row _ _ _ _ _ _ k0
  have c2 : V.cell? ⟨W.heap.size, 2, none⟩ = some (.slice am F.ms.length cm') := cell_of_row _ _ _ _ _ _ k0
  have c3 : V.cell? ⟨W.heap.size, 3, none⟩ = some (.slice ae F.es.length ce') := cell_of_row _ _ _ _ _ _ k0
  unfold textR
  obtain ⟨q, hq⟩ : ∃ q, (fileJ F).isSome = q := ⟨_, rfl⟩
  obtain ⟨t, ht⟩ : ∃ t, tokR (ofN (fileL F)) = t := ⟨_, rfl⟩
  obtain ⟨T, hT⟩ : ∃ T, ofN (fileL F) = T := ⟨_, rfl⟩
  rw [hT] at HW HT ht
  rw [hq] at HR HW
  rw [hq, hT, ht]
  have Ht := hide ht
  have Hlt := hide (show W.heap.size < V.heap.size by rw [← hV, World.size_alloc]; omega)
  clear hq hT ht hM hE hP hF hFl hsz hb0 k0
  cases q with
  | false =>
    clear HW HT Ht
    go_enter Tryz.func8, Tryz.ntmps8
    go_wp2_with fail
    refine (unhide HR).mono ?_
    rintro e w1 ⟨rfl, hb1⟩
    have HE := hide ((unhide HB).trans (hb1.mono (unhide HB).size))
    clear hb1 HR HB
    go_wp2
    go_ret2
    exact ⟨rfl, unhide HE⟩
  | true =>
    go_enter Tryz.func8, Tryz.ntmps8
    go_wp2_with fail
    refine (unhide HR).mono ?_
    rintro e w1 ⟨rfl, hb1⟩
    have hd := (hb1.block _ (unhide Hlt)).trans (unhide HK)
    have d0 : w1.cell? ⟨W.heap.size, 0, none⟩ = some (.string F.pkg) := cell_of_row _ _ _ _ _ _ hd
    have d1 : w1.cell? ⟨W.heap.size, 1, none⟩ = some (.slice ai F.imps.length ci) := cell_of_row _ _ _ _ _ _ hd
    have d2 : w1.cell? ⟨W.heap.size, 2, none⟩ = some (.slice am F.ms.length cm') := cell_of_row _ _ _ _ _ _ hd
    have d3 : w1.cell? ⟨W.heap.size, 3, none⟩ = some (.slice ae F.es.length ce') := cell_of_row _ _ _ _ _ _ hd
    have HW1 := hide (unhide HW trivial w1 hb1)
    have HB1 := hide hb1
    clear hb1 HR HW hd c0 c1 c2 c3
    go_wp2_with fail
    refine (unhide HW1).mono ?_
    rintro e w2 ⟨rfl, hb2⟩
    have hb2 := (unhide HB1).trans (hb2.mono (unhide HB1).size)
    have HT2 := hide (unhide HT w2 hb2)
    have HB2 := hide hb2
    clear hb2 HT HW1 HB1 d0 d1 d2 d3
    go_wp2_with fail
    refine (unhide HT2).mono ?_
    rintro e w3 ⟨hb3, hA⟩
    have HE := hide ((unhide HB).trans (((unhide HB2).trans (hb3.mono (unhide HB2).size)).mono (unhide HB).size))
    rw [unhide Ht] at hA
    clear hb3 HB HB2 HT2
    cases t with
    | inl ts =>
      obtain ⟨x, rfl, -⟩ := hA
      go_wp2
      go_ret2
      exact ⟨rfl, unhide HE⟩
    | inr r =>
      obtain ⟨k, c⟩ := r
      obtain ⟨hc, rfl⟩ := hA
      have n0 : ((c : Int) == 0) = false := by simp; omega
      have n1 : ((c : Int) != 0) = true := by simp; omega
      have n2 : ¬ (c : Int) = 0 := by omega
      go_wp2
      go_ret2
      exact ⟨rfl, unhide HE⟩
end Go.Proofs.YtaadpiimcaabkaaGreatDoor
