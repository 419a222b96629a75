import Derived.Test.YtlblllghgdfpoaaDoorJ50
import Derived.Test.YtlblllghgdfpoaaDoorJ17
import Derived.Test.YtlblllghgdfpoaaDoorDRe
import Derived.Test.YtlblllghgdfpoaaDoorJ21
import Derived.Lib.LaidTab
import Derived.Lib.LaidU8
import Derived.Test.YtlblllghgdfpoaaDoorDRd

namespace Go.Proofs.YtlblllghgdfpoaaDoor
open Go.RowKit
attribute [local go_sem ↓] Go.wp_at_zero Go.wp_at_succ

/-- Between two rounds. -/
def BJ (b : Nat) (W1 : World) (ls : List (List Nat)) (v0 : Value) (m : Nat) (a : Act) (w : World) : Prop := ∃ (tm : Array Value) (i : Nat) (vo : Value), a = ⟨tm, []⟩ ∧ tm.size = 228 ∧ chk tm [(0, v0), (3, .pointer (some ⟨b, 0, none⟩)), (4, vo), (5, .int .i64 (i : Int))] ∧ m = ls.length + 1 - i ∧ i ≤ ls.length + 1 ∧ MK b W1 (fun _ => False) (300000 * i) (3 * i) w vo ∧ (0 < i → 4 + fsize (ls.take (i - 1)) ≤ 67108864)
set_option maxRecDepth 100000 in
set_option maxHeartbeats 4000000 in
theorem bl_any {b vc : Nat} {va : Option Addr} {W1 w : World} {vo : Value} {ls : List (List Nat)} {tm : Array Value} {Q : Exit → Act → World → Prop} (hW : W1.heap.size = b) (hS : HasS W1) (hK : HasK W1) (h : HasBB W1 (.slice va ls.length vc) ls) (hl : BytB ls) (hn : ls.length ≤ 200) (hz : ∀ l ∈ ls, l.length ≤ 140737488351232) (hM : MK b W1 (fun _ => False) 0 0 w vo) (hsz : tm.size = 228) (hchk : chk tm [(0, .slice va ls.length vc), (3, .pointer (some ⟨b, 0, none⟩)), (4, vo)])
    (hR : ∀ (w' : World) (tm' : Array Value), tm'.size = 228 → chk tm' [(2, .bool true)] → Below b W1 w' → Q .ret { tmps := tm', defers := [] } w')
    (hQ : ∀ (vo' : Value) (w' : World) (tm' : Array Value), tm'.size = 228 → chk tm' [(0, .slice va ls.length vc), (3, .pointer (some ⟨b, 0, none⟩)), (4, vo')] → MK b W1 (fun _ => False) 61000000 1000 w' vo' → 4 + fsize ls ≤ 67108864 → Q .normal { tmps := tm', defers := [] } w') :
    bL.wp Tryd.prog Q { tmps := tm, defers := [] } w := by
  have hvc : ls.length ≤ vc := by obtain ⟨_, _, e, hm, -⟩ := h; injection e with _ _ e3; rw [e3]; exact hm.1
  have HO : Hid (∀ (i : Nat) (w : World) (vo : Value) (tm : Array Value) (Q' : Exit → Act → World → Prop), i ≤ ls.length → 4 + fsize (ls.take i) ≤ 67108864 → tm.size = 228 → chk tm [(0, .slice va ls.length vc), (3, .pointer (some ⟨b, 0, none⟩)), (4, vo), (5, .int .i64 (i : Int))] → MK b W1 (fun _ => False) (300000 * i) (3 * i) w vo → (∀ (vo' : Value) (w' : World) (tm' : Array Value), tm'.size = 228 → chk tm' [(0, .slice va ls.length vc), (3, .pointer (some ⟨b, 0, none⟩)), (4, vo'), (5, .int .i64 (i : Int))] → MK b W1 (fun _ => False) (300000 * (i + 1)) (3 * (i + 1)) w' vo' → Q' .normal { tmps := tm', defers := [] } w') → bRnd.wp Tryd.prog Q' { tmps := tm, defers := [] } w) := fun i w vo tm Q' h1 h2 h3 h4 h5 h6 =>
    bround_ok hW hS hK (h.take i h1) (by rw [List.length_take]; omega) (by omega) (fun l hm => hl l (List.mem_of_mem_take hm)) (fun l hm => hz l (List.mem_of_mem_take hm)) h2 (by omega) h5 h3 h4 h6
  have HNo : Hid (∀ (i : Nat) (w : World) (vo : Value) (tm : Array Value) (Q' : Exit → Act → World → Prop), i ≤ ls.length → ¬ 4 + fsize (ls.take i) ≤ 67108864 → tm.size = 228 → chk tm [(0, .slice va ls.length vc), (3, .pointer (some ⟨b, 0, none⟩)), (4, vo), (5, .int .i64 (i : Int))] → MK b W1 (fun _ => False) (300000 * i) (3 * i) w vo → (∀ (w' : World) (tm' : Array Value), tm'.size = 228 → chk tm' [(2, .bool true)] → Below b W1 w' → Q' .ret { tmps := tm', defers := [] } w') → bRnd.wp Tryd.prog Q' { tmps := tm, defers := [] } w) := fun i w vo tm Q' h1 h2 h3 h4 h5 h6 => by
    rw [bRnd_split]
    have hP : HasBB w (.slice va i vc) (ls.take i) := (h.take i h1).up (by rw [hW]; exact h5.be)
    refine b0_no (FL := []) (by omega) (by have k := frame_own hP (fun hh => fsize_few (fun l hm => hz l (List.mem_of_mem_take hm)) hh); rw [frameA_no (by omega)] at k; exact k) (fun w1 hb => (h5.up hb).still (by omega)) h3 h4 ?_
    intro w' tm' s k hb
    exact h6 w' tm' s k (h5.be.trans (hb.mono h5.le))
  have HR := hide hR
  have HQ := hide hQ
  have HM := hide hM
  obtain ⟨u, rfl⟩ := frame228 hsz
  obtain ⟨e0, e3, e4, _⟩ := hchk
  replace e0 : u 0 = .slice va ls.length vc := Option.some.inj e0
  replace e3 : u 3 = .pointer (some ⟨b, 0, none⟩) := Option.some.inj e3
  replace e4 : u 4 = vo := Option.some.inj e4
  rw [e0, e3, e4]
  clear hQ hR hS hK h hl hz hM hW hvc e0 e3 e4
  rw [bL_split]
  obtain ⟨t, ht⟩ : ∃ t, bRnd = t := ⟨_, rfl⟩
  rw [ht] at HO HNo ⊢
  clear ht
  unfold bLW
  dsimp only [tl, bL, hd, bBody, Tryd.f3]
  go_wp2
  refine wp_loop_count (BJ b W1 ls (.slice va ls.length vc)) ?_ (ls.length + 1) _ _ ⟨_, 0, _, rfl, rfl, ⟨rfl, rfl, rfl, rfl, trivial⟩, rfl, Nat.zero_le _, unhide HM, fun h => by omega⟩
  rintro m _ wr ⟨tm, i, vo', rfl, hsz, hchk, hm, hi, hq, hf⟩
  have Hm := hide hm
  have Hq := hide hq
  have Hf := hide hf
  obtain ⟨z, rfl⟩ := frame228 hsz
  obtain ⟨e0, e3, e4, e5, _⟩ := hchk
  replace e0 : z 0 = .slice va ls.length vc := Option.some.inj e0
  replace e3 : z 3 = .pointer (some ⟨b, 0, none⟩) := Option.some.inj e3
  replace e4 : z 4 = vo' := Option.some.inj e4
  replace e5 : z 5 = .int .i64 (i : Int) := Option.some.inj e5
  rw [e0, e3, e4, e5]
  clear e0 e3 e4 e5 hm hq hf HM
  by_cases c1 : i ≤ ls.length
  · have q1 : (i : Int) ≤ (ls.length : Int) := by omega
    have HC := hide c1
    by_cases hok : 4 + fsize (ls.take i) ≤ 67108864
    · have Hok := hide hok
      clear c1 hok
      go_wp2
      refine unhide HO i _ _ _ _ (unhide HC) (unhide Hok) rfl ⟨rfl, rfl, rfl, rfl, trivial⟩ (unhide Hq) ?_
      intro vo2 w' tm' hsz hchk hq'
      have Hq' := hide hq'
      obtain ⟨y, rfl⟩ := frame228 hsz
      obtain ⟨e0, e3, e4, e5, _⟩ := hchk
      replace e0 : y 0 = .slice va ls.length vc := Option.some.inj e0
      replace e3 : y 3 = .pointer (some ⟨b, 0, none⟩) := Option.some.inj e3
      replace e4 : y 4 = vo2 := Option.some.inj e4
      replace e5 : y 5 = .int .i64 (i : Int) := Option.some.inj e5
      rw [e0, e3, e4, e5]
      clear e0 e3 e4 e5 hq'
      go_wp2
      exact ⟨ls.length + 1 - (i + 1), by have := unhide Hm; have := unhide HC; omega, _, i + 1, _, rfl, rfl, ⟨rfl, rfl, rfl, by go_num, trivial⟩, rfl, by have := unhide HC; omega, unhide Hq', fun _ => by rw [Nat.add_sub_cancel]; exact unhide Hok⟩
    · have Hok := hide hok
      clear c1 hok
      go_wp2
      refine unhide HNo i _ _ _ _ (unhide HC) (unhide Hok) rfl ⟨rfl, rfl, rfl, rfl, trivial⟩ (unhide Hq) ?_
      intro w' tm' hsz hchk hb
      exact unhide HR w' tm' hsz hchk hb
  · have q1 : ¬ (i : Int) ≤ (ls.length : Int) := by omega
    have HE : Hid (MK b W1 (fun _ => False) 61000000 1000 wr vo' ∧ 4 + fsize ls ≤ 67108864) := by
      have hil : i = ls.length + 1 := by omega
      refine ⟨(unhide Hq).weak (fun q h => h) (by omega) (by omega), ?_⟩
      have k := unhide Hf (by omega)
      rw [hil, Nat.add_sub_cancel, List.take_length] at k
      exact k
    clear c1
    go_wp2
    exact unhide HQ _ _ _ rfl ⟨rfl, rfl, rfl, trivial⟩ (unhide HE).1 (unhide HE).2
set_option maxRecDepth 100000 in
set_option maxHeartbeats 4000000 in
theorem book_any {W : World} {v : Value} {ls : List (List Nat)} (hS : HasS W) (hK : HasK W) (hX : HasX W) (h : HasBB W v ls) (hl : BytB ls) (hn : ls.length ≤ 5864062014634 ∧ ∀ l ∈ ls, l.length ≤ 140737488351232) :
    Calls Tryd.prog 3 #[v] W fun e W' => e = .returned (.bool true) ∧ Below W.heap.size W W' := by
  obtain ⟨va, vc, rfl, -⟩ := id h
  have Hhd := hide (fun w (hw : Below W.heap.size W w) => head_any (hK.up hw) (hS.up hw))
  have HLp : Hid (∀ (W1 : World) (vo : Value) (w : World) (tm : Array Value) (Q : Exit → Act → World → Prop), Below W.heap.size W W1 → ls.length ≤ 200 → MK W1.heap.size W1 (fun _ => False) 0 0 w vo → tm.size = 228 → chk tm [(0, .slice va ls.length vc), (3, .pointer (some ⟨W1.heap.size, 0, none⟩)), (4, vo)] → (∀ (w' : World) (tm' : Array Value), tm'.size = 228 → chk tm' [(2, .bool true)] → Below W1.heap.size W1 w' → Q .ret { tmps := tm', defers := [] } w') → (∀ (vo' : Value) (w' : World) (tm' : Array Value), tm'.size = 228 → chk tm' [(0, .slice va ls.length vc), (3, .pointer (some ⟨W1.heap.size, 0, none⟩)), (4, vo')] → MK W1.heap.size W1 (fun _ => False) 61000000 1000 w' vo' → 4 + fsize ls ≤ 67108864 → Q .normal { tmps := tm', defers := [] } w') → bL.wp Tryd.prog Q { tmps := tm, defers := [] } w) := fun W1 vo w tm Q h1 h2 h3 h4 h5 h6 h7 => bl_any rfl (hS.up h1) (hK.up h1) (h.up h1) hl h2 hn.2 h3 h4 h5 h6 h7
  have HQu : Hid (∀ w, Below W.heap.size W w → 4 + fsize ls ≤ 67108864 → Calls Tryd.prog 21 #[.slice va ls.length vc] w fun e w' => e = .returned (.bool true) ∧ Below w.heap.size w w') := fun w hw hf => quiet_any (hS.up hw) (hK.up hw) (hX.up hw) (h.up hw) hl hf
  clear hS hK hX h hl hn
  refine calls_of_wp Tryd.func3 b_split ?_
  obtain ⟨tL, htL⟩ : ∃ t, bL = t := ⟨_, rfl⟩
  rw [htL] at HLp ⊢
  clear htL
  unfold bW bEnd
  dsimp only [tl, hd, bBody, Tryd.f3]
  simp only [List.size_toArray, List.length_cons, List.length_nil, Nat.reduceAdd, Nat.reduceSub, Array.replicate_succ, Array.replicate_zero, List.push_toArray, List.append_toArray, List.nil_append, List.cons_append]
  go_wp2_with fail
  refine (unhide Hhd _ (Below.refl _ _)).mono ?_
  rintro e W1 ⟨rfl, hb1⟩
  have Hb1 := hide hb1
  by_cases hbig : 200 < ls.length
  · have q0 : (200 : Int) < (ls.length : Int) := by omega
    clear hb1
    go_wp2_with fail
    refine (unhide Hhd _ (unhide Hb1)).mono ?_
    rintro e W2 ⟨rfl, hb2⟩
    have HE := hide ((unhide Hb1).trans (hb2.mono (unhide Hb1).size))
    clear hb2
    go_wp2
    go_ret
    exact ⟨rfl, unhide HE⟩
  · have q0 : ¬ (200 : Int) < (ls.length : Int) := by omega
    have HM0 : Hid (MK W1.heap.size W1 (fun _ => False) 0 0 (W1.alloc (.cells #[.int .i64 0, .slice none 0 0, .slice none 0 0] 27)) (.slice none 0 0)) := ⟨_, _, [], [], [], [], mb_start (W := W1) rfl 0 rfl, Nat.le_refl _, Nat.le_refl _, fun us h => by simp at h, fun q h => h.elim⟩
    have HN : Hid (ls.length ≤ 200) := by show _ ≤ _; omega
    clear hb1 Hhd
    go_wp2
    refine unhide HLp W1 _ _ _ _ (unhide Hb1) (unhide HN) (unhide HM0) rfl ⟨rfl, rfl, rfl, trivial⟩ ?_ ?_
    · intro w' tm' s k hb
      have HE : Hid (Below W.heap.size W w') := (unhide Hb1).trans (hb.mono (unhide Hb1).size)
      obtain ⟨y, rfl⟩ := frame228 s
      obtain ⟨e2, _⟩ := k
      replace e2 : y 2 = .bool true := Option.some.inj e2
      rw [e2]
      clear e2 hb
      go_wp2
      go_ret
      exact ⟨rfl, unhide HE⟩
    · intro vo' w' tm' s k hm hf
      have Hls := hide (hm.lists (by omega) (by omega))
      have HF := hide hf
      obtain ⟨y, rfl⟩ := frame228 s
      obtain ⟨e0, e3, e4, _⟩ := k
      replace e0 : y 0 = .slice va ls.length vc := Option.some.inj e0
      replace e3 : y 3 = .pointer (some ⟨W1.heap.size, 0, none⟩) := Option.some.inj e3
      replace e4 : y 4 = vo' := Option.some.inj e4
      rw [e0, e3, e4]
      clear e0 e3 e4 hm hf HM0 HLp
      go_wp2_with fail
      refine (unhide Hls).mono ?_
      rintro e w1 ⟨rfl, hbe, hst⟩
      have HBe : Hid (Below W.heap.size W w1) := (unhide Hb1).trans (hbe.mono (unhide Hb1).size)
      have HSt := hide hst
      clear hbe hst Hls
      go_wp2_with fail
      refine (unhide HSt).mono ?_
      rintro e w2 ⟨rfl, m, he⟩
      have HB2 : Hid (Below W.heap.size W w2) := by rw [he]; exact below_drewN (unhide HBe) m
      have Hq := hide (unhide HQu w2 (unhide HB2) (unhide HF))
      clear he HSt
      go_wp2_with fail
      refine (unhide Hq).mono ?_
      rintro e w3 ⟨rfl, hb3⟩
      have HE : Hid (Below W.heap.size W w3) := (unhide HB2).trans (hb3.mono (unhide HB2).size)
      clear hb3
      go_wp2
      go_ret
      exact ⟨rfl, unhide HE⟩
end Go.Proofs.YtlblllghgdfpoaaDoor

namespace Go.Proofs.YtlblllghgdfpoaaDoor
open Go.ChangeShapes Go.WideShapes Go.ChangeAt Go.RowKit

theorem tab_reads {P : Program} {W : World} {name : String} {k : IntKind} {zs : List Int} {g : Nat} {t e : TypeId} {n : Nat}
    (hg : P.globalNamed name = some g) (hty : (P.globals[g]?).map (·.type) = some t) (ht : P.underlying t = some (.array n e)) (he : P.underlying e = some (.int k)) (hce : P.cellsOf e = 1) (hct : P.cellsOf t = n)
    (h : Lib.VarReads P W name (Lib.tabData k zs)) : ∀ i z, zs[i]? = some z → W.cell? ⟨g, i, none⟩ = some (.int k z) := by
  obtain ⟨g', t', cs, fuel, p, hg', ht', hvar, hd⟩ := h
  obtain rfl := Option.some.inj (hg.symm.trans hg')
  obtain rfl := Option.some.inj (hty.symm.trans ht')
  have hc := World.var?_cell hg hvar
  have e1 := Lib.cells_of_tab ht he hce hct hd
  intro i z hz
  rw [hc]
  have : cs.toList[i]? = some (.int k z) := by rw [e1, List.getElem?_map, hz]; rfl
  simpa using this
end Go.Proofs.YtlblllghgdfpoaaDoor

namespace Go.Proofs.YtlblllghgdfpoaaDoor
open Go.ChangeShapes Go.WideShapes Go.ChangeAt Go.RowKit

theorem hasX_of {W : World} {laid : List (String × DataW Unit)} (h : laidMet Tryd.prog laid W) (hm : ("sigil/sigilref3.keys", Rows.laid_sigil_sigilref3_keys) ∈ laid) : HasX W := by
  have h1 : Lib.VarReads Tryd.prog W "sigil/sigilref3.keys" (Lib.tabData .i64 (kw.map Int.ofNat)) := Lib.laidMet.reads h hm
  have h2 := tab_reads (g := 1) (t := 77) (e := 3) (n := 64) (by kernel_rfl) (by kernel_rfl) Tryd.underlying77 Tryd.underlying3 (by kernel_rfl) (by kernel_rfl) h1
  have h3 : ∀ (i t : Nat), kw[i]? = some t → W.cell? ⟨1, i, none⟩ = some (.int .i64 (t : Int)) := fun i t hi => h2 i t (by rw [List.getElem?_map, hi]; rfl)
  exact ⟨World.block_lt_of_cell? W _ (h3 0 _ rfl), h3⟩
end Go.Proofs.YtlblllghgdfpoaaDoor

namespace Go.Proofs.YtlblllghgdfpoaaDoor
open Go.ChangeShapes Go.WideShapes Go.ChangeAt Go.RowKit

theorem hasK_of {W : World} {laid : List (String × DataW Unit)} (h : laidMet Tryd.prog laid W) (hm : ("sigil/digest.roundWords", Rows.laid_sigil_digest_roundWords) ∈ laid) : HasK W := by
  have h1 : Lib.VarReads Tryd.prog W "sigil/digest.roundWords" (Lib.tabData .u32 (kw.map Int.ofNat)) := Lib.laidMet.reads h hm
  have h2 := tab_reads (g := 2) (t := 96) (e := 81) (n := 64) (by kernel_rfl) (by kernel_rfl) Tryd.underlying96 Tryd.underlying81 (by kernel_rfl) (by kernel_rfl) h1
  have h3 : ∀ (i t : Nat), kw[i]? = some t → W.cell? ⟨2, i, none⟩ = some (.int .u32 (t : Int)) := fun i t hi => h2 i t (by rw [List.getElem?_map, hi]; rfl)
  exact ⟨World.block_lt_of_cell? W _ (h3 0 _ rfl), h3⟩
theorem hasS_of {W : World} {laid : List (String × DataW Unit)} (h : laidMet Tryd.prog laid W) (hm : ("sigil/digest.firstState", Rows.laid_sigil_digest_firstState) ∈ laid) : HasS W := by
  have h1 : Lib.VarReads Tryd.prog W "sigil/digest.firstState" (Lib.tabData .u32 (st0.list.map Int.ofNat)) := Lib.laidMet.reads h hm
  have h2 := tab_reads (g := 0) (t := 83) (e := 81) (n := 8) (by kernel_rfl) (by kernel_rfl) Tryd.underlying83 Tryd.underlying81 (by kernel_rfl) (by kernel_rfl) h1
  have h3 : ∀ (i t : Nat), st0.list[i]? = some t → W.cell? ⟨0, i, none⟩ = some (.int .u32 (t : Int)) := fun i t hi => h2 i t (by rw [List.getElem?_map, hi]; rfl)
  exact ⟨World.block_lt_of_cell? W _ (h3 0 _ rfl), h3⟩
end Go.Proofs.YtlblllghgdfpoaaDoor
