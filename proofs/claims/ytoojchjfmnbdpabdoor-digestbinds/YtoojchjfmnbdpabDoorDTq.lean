import Derived.Test.YtoojchjfmnbdpabDoorDTp
import Derived.Test.YtoojchjfmnbdpabDoorDTn
import Derived.Deep.CutBlock
import Derived.Deep.DeepCutAuto
import Derived.Deep.CutRange
import Derived.Deep.QuietTactic
import Derived.BigQuiet
import Derived.Deep.RegionHeld3
namespace Go.Proofs.YtoojchjfmnbdpabDoor
open Go.RowKit
attribute [local go_sem ↓] Go.wp_at_zero Go.wp_at_succ

theorem HasBB.shape {W : World} {v : Value} {ls : List (List Nat)} (h : HasBB W v ls) : ∃ a c, v = .slice a ls.length c := by obtain ⟨a, c, e, _⟩ := h; exact ⟨a, c, e⟩
theorem proveA_out {ks : List (List Nat)} {z : Int} (hn : ks.length ≤ 65536) (hz : z < 0 ∨ (ks.length : Int) ≤ z) : proveA ks z = (32, []) := by
  unfold proveA
  rw [if_neg (by omega), if_pos hz]
theorem rebuildA_cases (leaf : List Nat) (a n : Nat) (pf : List (List Nat)) (ha : a < n) (hn : n ≤ 65536) : rebuildA leaf (a : Int) (n : Int) pf = (32, []) ∨ (rebuildA leaf (a : Int) (n : Int) pf = (0, comeF n leaf a n pf) ∧ pf.length = stepsF n a n ∧ ∀ l ∈ pf, l.length = 32) := by
  unfold rebuildA
  rw [if_neg (by omega)]
  simp only [Int.toNat_natCast]
  by_cases h : pf.length ≠ stepsF n a n ∨ ¬ ∀ l ∈ pf, l.length = 32
  · left; rw [if_pos h]
  · right
    rw [if_neg h]
    refine ⟨rfl, ?_, ?_⟩
    · by_cases e : pf.length = stepsF n a n
      · exact e
      · exact absurd (.inl e) h
    · by_cases e : ∀ l ∈ pf, l.length = 32
      · exact e
      · exact absurd (.inr e) h
theorem callS_any (w : World) (vs : Array Value) : (callFunc 16 vs).run Tryd.prog w = .ok (.enter 16 vs) w := by
  have hn : ¬ Tryd.f16.name = "runtime.NumGoroutine" := by decide +kernel
  have hb : Tryd.f16.body.isSome = true := by kernel_rfl
  obtain ⟨c, hc⟩ := Option.isSome_iff_exists.1 hb
  simp [callFunc, Tryd.func16, hn, hc]
theorem callM_any (w : World) (vs : Array Value) : (callFunc 25 vs).run Tryd.prog w = .ok (.enter 25 vs) w := by
  have hn : ¬ Tryd.f25.name = "runtime.NumGoroutine" := by decide +kernel
  have hb : Tryd.f25.body.isSome = true := by kernel_rfl
  obtain ⟨c, hc⟩ := Option.isSome_iff_exists.1 hb
  simp [callFunc, Tryd.func25, hn, hc]
/-- A call under a guard that holds. -/
theorem step_callG {P : Program} {ops : Array Oper} {o : Oper} {a : Act} {w : World} {K : Act → World → Prop} {Q : Exit → Act → World → Prop} {E : Prop} (x : Tmp) (hx : o.dst = some x) (hw : Region.wanted o (yielded ops a.tmps) = true) (f : FuncId) (hfn : ∀ vs, (callFunc f vs).run P w = .ok (.enter f vs) w) (args : Array Operand) (tys : Array TypeId)
    (ho : o.op = .call { callee := .value (.func f), args := args, argTypes := tys }) (vs : Array Value) (hv : args.map a.eval = vs) {R : Ending → World → Prop} (hc : Calls P f vs w R) (hK : ∀ e w', R e w' → ∃ v, e = .returned v ∧ K (a.put (some x) v) w') :
    if Region.wanted o (yielded ops a.tmps) = true then Oper.wp P o a w K Q else E := by
  rw [if_pos hw]
  have h2 : Oper.wp P o a w K Q = o.upon P a K Q (.ok (.enter f vs) w) := by
    unfold Oper.wp
    simp [execOp, ho, resolve, invoke, ← hv, Act.eval, Deferred.ofValue, hfn]
  rw [h2, Oper.upon_enter]
  refine hc.mono ?_
  intro e w' hr
  obtain ⟨v, rfl, hk⟩ := hK e w' hr
  rw [hx]
  exact hk
set_option maxRecDepth 100000 in
set_option maxHeartbeats 16000000 in
theorem binds_any {W : World} (hS : HasS W) (hK : HasK W) {v u p : Value} {ls pf : List (List Nat)} {leaf : List Nat} {z : Int} {o : Bool} (h : HasBB W v ls) (hl : BytB ls) (hn : ls.length ≤ 5864062014634 ∧ ∀ l ∈ ls, l.length ≤ 140737488351232) (hz : -9223372036854775808 ≤ z ∧ z ≤ 9223372036854775807) (hf : HasB W u leaf) (hfb : Byt leaf) (hfn : leaf.length ≤ 140737488351232) (g : HasBB W p pf) (hp : BytB pf) (gn : pf.length ≤ 5864062014634 ∧ ∀ l ∈ pf, l.length ≤ 140737488351232) :
    Calls Tryd.prog 5 #[v, .int .i64 z, u, p, .bool o] W fun e W' => e = .returned (.bool true) ∧ Below W.heap.size W W' := by
  obtain ⟨n1, n2⟩ := id hn
  obtain ⟨n3, n4⟩ := id gn
  have hbn : ∀ l ∈ ls, Byt l ∧ l.length ≤ 140737488351232 := fun l hl' => ⟨hl l hl', n2 l hl'⟩
  have Hh := hide h
  have Hf := hide hf
  have Hg := hide g
  have Hz := hide hz
  clear hz
  obtain ⟨va, vc, rfl, hvm, _⟩ := h
  have hvc : vc ≤ 9223372036854775807 := by have := hvm.2.1; unfold maxLen at this; omega
  have hvc2 := hvm.1
  obtain ⟨ua, uc, rfl, _, _⟩ := hf
  obtain ⟨pa, pc, rfl, hpm, _⟩ := g
  have hpc : pc ≤ 9223372036854775807 := by have := hpm.2.1; unfold maxLen at this; omega
  have hpc2 := hpm.1
  clear hvm hpm
  go_enter Tryd.func5, Tryd.ntmps5
  have bB : Below W.heap.size W (W.alloc (.cells #[.slice none 0 0] 28)) := (Below.refl _ _).alloc (Nat.le_refl _) _
  have hbb := hasBB_one (W := W) (hasB_nil W) 28
  have f1 := root_any (hK.up bB) (hS.up bB) hbb (fun l hl' => by rw [List.mem_singleton.1 hl']; exact ⟨fun x hx => (by cases hx), by decide⟩)
  rw [rootA_one] at f1
  have F1 := hide f1
  have BB := hide bB
  clear f1 hbb bB
  go_wp2_with fail
  refine (unhide F1).mono ?_
  rintro e w2 ⟨v2, rfl, ⟨hB2, a2, c2, hv2⟩, hb2⟩
  have hb02 : Below W.heap.size W w2 := (unhide BB).trans (hb2.mono (unhide BB).size)
  subst hv2
  clear F1 BB hb2
  go_wp2_with fail
  refine (num_any w2 0).mono ?_
  rintro e w' ⟨rfl, he⟩
  obtain rfl : w2 = w' := he.symm
  clear he
  go_wp2_with fail
  refine (xhex_any hB2 (sha_byt _) (by rw [sha_len]; decide)).mono ?_
  rintro e w3 ⟨rfl, hb3⟩
  have hb03 := hb02.trans (hb3.mono hb02.size)
  rw [le_sha]
  have hof : ofN leH = ⟨#[54, 101, 51, 52, 48, 98, 57, 99, 102, 102, 98, 51, 55, 97, 57, 56, 57, 99, 97, 53, 52, 52, 101, 54, 98, 98, 55, 56, 48, 97, 50, 99, 55, 56, 57, 48, 49, 100, 51, 102, 98, 51, 51, 55, 51, 56, 55, 54, 56, 53, 49, 49, 97, 51, 48, 54, 49, 55, 97, 102, 97, 48, 49, 100]⟩ := rfl
  rw [hof]
  clear hof hb3 hB2 hb02
  go_upto_if 41 with fail
  go_cut [0] (fun v0 wc => ∃ (N : Nat) (ks : List (List Nat)), v0 = .slice va N vc ∧ N ≤ 300 ∧ N ≤ vc ∧ Hid (ks.length = N ∧ HasBB W (.slice va N vc) ks ∧ ∀ l ∈ ks, Byt l ∧ l.length ≤ 140737488351232) ∧ wc = w3)
  case first =>
    by_cases hbig : 300 < ls.length
    · have q3 : decide (300 < (ls.length : Int)) = true := decide_eq_true (by omega)
      have h300 : (300 : Int) ≤ (vc : Int) := by omega
      have Hk : Hid ((ls.take 300).length = 300 ∧ HasBB W (.slice va 300 vc) (ls.take 300) ∧ ∀ l ∈ ls.take 300, Byt l ∧ l.length ≤ 140737488351232) := ⟨by rw [List.length_take]; omega, (unhide Hh).take 300 (by omega), fun l hl' => hbn l (List.mem_of_mem_take hl')⟩
      go_wp2
      go_meet
      case rel => exact ⟨300, ls.take 300, rfl, by omega, by omega, Hk, rfl⟩
    · have q3 : decide (300 < (ls.length : Int)) = false := decide_eq_false (by omega)
      obtain ⟨ks, hkd⟩ : ∃ ks, ks = ls := ⟨_, rfl⟩
      have Hk : Hid (ks.length = ls.length ∧ HasBB W (.slice va ls.length vc) ks ∧ ∀ l ∈ ks, Byt l ∧ l.length ≤ 140737488351232) := ⟨by rw [hkd], by rw [hkd]; exact unhide Hh, fun l hl' => hbn l (by rw [← hkd]; exact hl')⟩
      clear hkd
      go_wp2
      go_meet
      case rel => exact ⟨ls.length, ks, rfl, by omega, by omega, Hk, rfl⟩
  case rest =>
    obtain ⟨N, ks, rfl, hN, hNc, Hks, hwc⟩ := hcut
    obtain rfl : w3 = wc := hwc.symm
    obtain ⟨hkl, hk0, hkb⟩ := unhide Hks
    clear hwc Hks hbn n2 n1 hl hn Hh
    have hk6 : ks.length ≤ 65536 := by omega
    have Hk := hide hk0
    have Hkb := hide hkb
    have Hkl := hide hkl
    have hr := root_any (hK.up hb03) (hS.up hb03) (hk0.up hb03) hkb
    rw [rootA_in hk6] at hr
    have HRl := hide (rootF_len 65536 ks)
    have HRb := hide (rootF_byt 65536 ks)
    clear hk0 hkb
    go_wp2_with fail
    refine hr.mono ?_
    rintro e w4 ⟨v4, rfl, ⟨hB4, a4, c4, hv4⟩, hb4⟩
    have hb04 := hb03.trans (hb4.mono hb03.size)
    subst hv4
    clear hr hb4 hb03
    have s04 := hb04.size
    by_cases hout : z < 0 ∨ (N : Int) ≤ z
    · have hpr := prove_any (z := z) (hK.up hb04) (hS.up hb04) ((unhide Hk).up hb04) (unhide Hkb)
      rw [proveA_out hk6 (by rw [hkl]; exact hout)] at hpr
      have Hpr := hide hpr
      clear hpr hkl
      go_wp2_with fail
      refine (unhide Hpr).mono ?_
      rintro e w5 ⟨v5, rfl, ⟨hP5, a5, n5, c5, hv5⟩, hb5⟩
      subst hv5
      have Hb5 : Hid (Below W.heap.size W w5) := hb04.trans (hb5.mono hb04.size)
      clear hP5 hb5 Hpr hb04 hB4
      by_cases hz0 : z < 0
      · have q5 : decide (z < 0) = true := decide_eq_true hz0
        go_wp2_with fail
        refine (num_any w5 0).mono ?_
        rintro e w' ⟨rfl, he⟩
        obtain rfl : w5 = w' := he.symm
        clear he
        go_wp2_with fail
        refine (num_any w5 32).mono ?_
        rintro e w' ⟨rfl, he⟩
        obtain rfl : w5 = w' := he.symm
        clear he
        go_wp2
        go_ret
        exact ⟨rfl, unhide Hb5⟩
      · have q5 : decide (z < 0) = false := decide_eq_false hz0
        have q6 : decide ((N : Int) ≤ z) = true := decide_eq_true (hout.resolve_left hz0)
        go_wp2_with fail
        refine (num_any w5 0).mono ?_
        rintro e w' ⟨rfl, he⟩
        obtain rfl : w5 = w' := he.symm
        clear he
        go_wp2_with fail
        refine (num_any w5 32).mono ?_
        rintro e w' ⟨rfl, he⟩
        obtain rfl : w5 = w' := he.symm
        clear he
        go_wp2
        go_ret
        exact ⟨rfl, unhide Hb5⟩
    · have q5 : decide (z < 0) = false := decide_eq_false (by omega)
      have q6 : decide ((N : Int) ≤ z) = false := decide_eq_false (by omega)
      obtain ⟨a, ha⟩ : ∃ a : Nat, z = (a : Int) := ⟨z.toNat, by omega⟩
      subst ha
      have haN : a < N := by omega
      have hpr := prove_own (at' := a) (hK.up hb04) (hS.up hb04) ((unhide Hk).up hb04) (unhide Hkb) (by omega) hk6
      have hpr2 := fun (w : World) (hb : Below W.heap.size W w) => prove_own (at' := a) (hK.up hb) (hS.up hb) ((unhide Hk).up hb) (unhide Hkb) (by omega) hk6
      have hws := way_steps 65536 N ks a hk6 (by omega)
      rw [hkl] at hws
      have hst := fun w => xsteps_any N (W := w) (a := a) (c := N) (Nat.le_refl _) (by omega) (by omega)
      rw [← hws] at hst
      obtain ⟨lf, hlf⟩ : ∃ x, ks[a]? = some x := ⟨_, List.getElem?_eq_getElem (by omega)⟩
      have hcw := come_way 65536 N ks a lf hk6 (by omega) hlf
      rw [hkl] at hcw
      have hwb := wayF_byt 65536 ks a
      have Hst := hide hst
      have Hpr := hide hpr
      have Hpr2 := hide hpr2
      have Hws := hide hws
      have Hcw := hide hcw
      have Hwb := hide hwb
      have Hlf := hide hlf
      clear hst hpr hpr2 hws hcw hwb hlf hkl hout
      generalize wayF 65536 ks a = way at *
      generalize rootF 65536 ks = R at *
      go_wp2_with fail
      refine (unhide Hpr).mono ?_
      rintro e w5 ⟨v5, rfl, ⟨us5, hO5⟩, hb5⟩
      obtain ⟨a5, c5, e5⟩ := hO5.has.shape
      subst e5
      have HW5 := hide hO5.wbb
      have Hb45 := hide hb5
      clear hO5 hb5 Hpr
      go_wp2_with fail
      refine (unhide Hst w5).mono ?_
      rintro e w' ⟨rfl, he⟩
      obtain rfl : w5 = w' := he.symm
      clear he
      go_wp2_with fail
      refine (num_any w5 0).mono ?_
      rintro e w' ⟨rfl, he⟩
      obtain rfl : w5 = w' := he.symm
      clear he
      go_wp2_with fail
      refine (num_any w5 0).mono ?_
      rintro e w' ⟨rfl, he⟩
      obtain rfl : w5 = w' := he.symm
      clear he
      have q7 : (((way.length : Nat) : Int) != ((way.length : Nat) : Int)) = false := by simp
      have Hb04 := hide hb04
      have HB4 := hide hB4
      clear hb04 hB4
      go_upto_if 89 with fail
      go_cut [3] (fun v3 wc => ∃ (ps : List (List Nat)) (a3 : Option Addr) (c3 : Nat), v3 = .slice a3 ps.length c3 ∧ Hid (HasBB wc (.slice a3 ps.length c3) ps ∧ ∀ l ∈ ps, Byt l) ∧ Hid (Below w4.heap.size w4 wc))
      case first =>
        cases o with
        | false =>
          have Hd : Hid (HasBB w5 (.slice pa pf.length pc) pf ∧ ∀ l ∈ pf, Byt l) := ⟨(unhide Hg).up ((unhide Hb04).trans ((unhide Hb45).mono s04)), hp⟩
          go_wp2
          go_meet
          case rel => exact ⟨pf, pa, pc, rfl, Hd, Hb45⟩
        | true =>
          go_wp2
          go_loopg [18] way.length (fun gk v18 wr => ∃ (i : Nat) (ps : List (List Nat)), v18 = .int .i64 (i : Int) ∧ gk = way.length - i ∧ i ≤ way.length ∧ Hid (ps.length = way.length ∧ (∀ l ∈ ps, Byt l) ∧ WBB w4.heap.size wr (.slice a5 way.length c5) ps) ∧ Hid (Below w4.heap.size w4 wr))
          case atStart => exact ⟨0, way, rfl, rfl, by omega, ⟨rfl, fun l hl' => (unhide Hwb l hl').1, unhide HW5⟩, Hb45⟩
          case round =>
            clear HW5 Hb45
            obtain ⟨i, ps, rfl, hgk, hi, HP, HB⟩ := hrel
            have Hgk := hide hgk
            clear hgk
            obtain ⟨hpl, hpb, hWB⟩ := unhide HP
            have i0' : (0 : Int) ≤ (i : Int) := Int.natCast_nonneg _
            by_cases hi1 : i < pf.length
            · have q8 : decide ((i : Int) < (pf.length : Int)) = true := decide_eq_true (by omega)
              have i1' : (i : Int) < (pf.length : Int) := by omega
              by_cases hi2 : i < way.length
              · have q9 : decide ((i : Int) < (way.length : Int)) = true := decide_eq_true (by omega)
                have i2' : (i : Int) < (way.length : Int) := by omega
                obtain ⟨a', c', e', hm', h3'⟩ := id (unhide Hg)
                injection e' with e1 _ e3
                subst e1 e3
                obtain ⟨g, off, rfl, hg, hcl⟩ := h3' (by omega)
                obtain ⟨l, hl⟩ : ∃ x, pf[i]? = some x := ⟨_, List.getElem?_eq_getElem hi1⟩
                obtain ⟨u, hu, hBu⟩ := hcl i l hl
                have b0r : Below W.heap.size W wr := (unhide Hb04).trans ((unhide HB).mono s04)
                have cu := (b0r.cell (p := ⟨g, off + i, none⟩) hg).trans hu
                have hlb := hp l (List.mem_of_getElem? hl)
                by_cases h32 : l.length = 32
                · have hub : ∀ b, u.ownBlock = some b → b < w4.heap.size := fun b hb => by
                    obtain ⟨xa, xc, rfl, _, h8⟩ := id hBu
                    obtain ⟨xg, xo, rfl, hxg, _⟩ := h8 (by omega)
                    have : xg = b := by injection hb
                    omega
                  obtain ⟨wg, wc', e5, hwg, hwc', hfz, ⟨zz, hzz⟩, hW2⟩ := hWB.set (i := i) (l := l) (by omega) (hBu.up b0r) hub
                  rw [hpl] at e5
                  injection e5 with e5 _ e6
                  subst e5 e6
                  obtain ⟨xa, xc, rfl, _, _⟩ := id hBu
                  have q10 : ((l.length : Int) == 32) = true := by rw [h32]; decide
                  have HP2 : Hid ((ps.set i l).length = way.length ∧ (∀ x ∈ ps.set i l, Byt x) ∧ WBB w4.heap.size (wr.setCell ⟨wg, i, none⟩ (.slice xa l.length xc)) (.slice (some ⟨wg, 0, none⟩) way.length c5) (ps.set i l)) := ⟨by rw [List.length_set]; exact hpl, fun x hx => by
                    rcases List.mem_or_eq_of_mem_set hx with hx | rfl
                    · exact hpb x hx
                    · exact hlb, hW2⟩
                  have HB2 : Hid (Below w4.heap.size w4 (wr.setCell ⟨wg, i, none⟩ (.slice xa l.length xc))) := below_set (unhide HB) hwg i _
                  clear hpl hpb hWB hW2 hcl h3' hm' hu hBu b0r hub h32 HP hl
                  go_wp2
                  go_roundg (way.length - (i + 1))
                  case measure => have := unhide Hgk; omega
                  case rel => exact ⟨i + 1, ps.set i l, by go_num, rfl, by omega, HP2, HB2⟩
                · obtain ⟨xa, xc, rfl, _, _⟩ := id hBu
                  have q10 : ((l.length : Int) == 32) = false := beq_eq_false_iff_ne.2 (by omega)
                  clear hpl hpb hWB hcl h3' hm' hu hBu b0r h32 hl
                  go_wp2
                  go_roundg (way.length - (i + 1))
                  case measure => have := unhide Hgk; omega
                  case rel => exact ⟨i + 1, ps, by go_num, rfl, by omega, HP, HB⟩
              · have q9 : decide ((i : Int) < (way.length : Int)) = false := decide_eq_false (by omega)
                have e9 : Value.slice a5 way.length c5 = .slice a5 ps.length c5 := by rw [hpl]
                have Hd : Hid (HasBB wr (.slice a5 ps.length c5) ps ∧ ∀ l ∈ ps, Byt l) := ⟨e9 ▸ hWB.1, hpb⟩
                have H9 := hide e9
                clear hpl hpb hWB e9 HP
                go_wp2
                go_meet
                case rel => exact ⟨ps, a5, c5, unhide H9, Hd, HB⟩
            · have q8 : decide ((i : Int) < (pf.length : Int)) = false := decide_eq_false (by omega)
              have e9 : Value.slice a5 way.length c5 = .slice a5 ps.length c5 := by rw [hpl]
              have Hd : Hid (HasBB wr (.slice a5 ps.length c5) ps ∧ ∀ l ∈ ps, Byt l) := ⟨e9 ▸ hWB.1, hpb⟩
              have H9 := hide e9
              clear hpl hpb hWB e9 HP
              go_wp2
              go_meet
              case rel => exact ⟨ps, a5, c5, unhide H9, Hd, HB⟩
      case rest =>
        obtain ⟨ps, a3, c3, rfl, HP, HB45⟩ := hcut
        obtain ⟨hPB, hPb⟩ := unhide HP
        have b0c : Below W.heap.size W wc := (unhide Hb04).trans ((unhide HB45).mono s04)
        have HBr : Hid (HasB wc (.slice a4 R.length c4) R) := (unhide HB4).up (unhide HB45)
        have hrb := rebuild_any (z := (a : Int)) (c := (N : Int)) (hK.up b0c) (hS.up b0c) ((unhide Hf).up b0c) hfb hfn hPB hPb
        have B0c := hide b0c
        clear HB4 Hb04 HW5 Hb45 b0c
        rcases rebuildA_cases leaf a N ps haN (by omega) with hra | ⟨hra, hrl, hr32⟩
        · rw [hra] at hrb
          have Hrb := hide hrb
          clear hra hrb hPB hPb
          go_wp2_with fail
          refine (unhide Hrb).mono ?_
          rintro e w6 ⟨v6, rfl, ⟨hB6, a6, c6, hv6⟩, hb6⟩
          subst hv6
          have Hb6 : Hid (Below W.heap.size W w6) := (unhide B0c).trans (hb6.mono (unhide B0c).size)
          clear hB6 hb6 Hrb
          go_wp2_with fail
          refine (num_any w6 32).mono ?_
          rintro e w' ⟨rfl, he⟩
          obtain rfl : w6 = w' := he.symm
          clear he
          go_wp2_with fail
          refine (num_any w6 32).mono ?_
          rintro e w' ⟨rfl, he⟩
          obtain rfl : w6 = w' := he.symm
          clear he
          go_wp2_with fail
          refine (num_any w6 32).mono ?_
          rintro e w' ⟨rfl, he⟩
          obtain rfl : w6 = w' := he.symm
          clear he
          go_wp2
          go_ret
          exact ⟨rfl, unhide Hb6⟩
        · rw [hra] at hrb
          have hbind := fun (e : comeF N leaf a N ps = R) (ne : leaf ≠ lf) => binds N leaf lf a N ps way (Nat.le_refl _) hrl (unhide Hws) hr32 (fun l hl' => (unhide Hwb l hl').2) (e.trans (unhide Hcw).symm) ne
          have hXup := fun (w : World) (hb : Below wc.heap.size wc w) => ups_any N (hK.up ((unhide B0c).trans (hb.mono (unhide B0c).size))) (hS.up ((unhide B0c).trans (hb.mono (unhide B0c).size))) ((unhide Hf).up ((unhide B0c).trans (hb.mono (unhide B0c).size))) hfb hfn (hPB.up hb) (fun l hl' => ⟨hPb l hl', hr32 l hl'⟩) hrl (Nat.le_refl _) (by omega) (a := a) (by omega)
          have hCb := comeF_byt N leaf a N ps
          have hpw : ps.length = way.length := by rw [hrl]; exact (unhide Hws).symm
          have hXb := ups_byt N leaf a N ps hfb hfn (fun l hl' => ⟨hPb l hl', by rw [hr32 l hl']; decide⟩)
          have Hrb := hide hrb
          have Hbind := hide hbind
          have HXup := hide hXup
          have HCb := hide hCb
          have Hpw := hide hpw
          have HXb := hide hXb
          clear hra hrb hbind hXup hrl hr32 hCb hpw hXb hPB hPb HP
          generalize comeF N leaf a N ps = C at *
          generalize upsF N leaf a N ps = X at *
          go_wp2_with fail
          refine (unhide Hrb).mono ?_
          rintro e w6 ⟨v6, rfl, ⟨hB6, a6, c6, hv6⟩, hb6⟩
          subst hv6
          have Hc6 := hide hb6
          have B06 : Hid (Below W.heap.size W w6) := (unhide B0c).trans (hb6.mono (unhide B0c).size)
          have hBr6 := (unhide HBr).up hb6
          clear hb6 Hrb HBr
          go_wp2_with fail
          refine (num_any w6 0).mono ?_
          rintro e w' ⟨rfl, he⟩
          obtain rfl : w6 = w' := he.symm
          clear he
          go_wp2_with fail
          refine (same_any hB6 hBr6 (unhide HCb) (unhide HRb)).mono ?_
          rintro e w' ⟨rfl, he⟩
          obtain rfl : w6 = w' := he.symm
          clear he hB6 hBr6
          by_cases hCR : C = R
          · rw [decide_eq_true hCR]
            obtain ⟨a', c', e', hm', h3'⟩ := id (unhide Hk)
            rw [unhide Hkl] at e' hm' h3'
            injection e' with e1 _ e3
            subst e1 e3
            obtain ⟨g, off, rfl, hg, hcl⟩ := h3' (by omega)
            obtain ⟨ul, hul, hBul⟩ := hcl a lf (unhide Hlf)
            obtain ⟨lfb, lfn⟩ := unhide Hkb lf (List.mem_of_getElem? (unhide Hlf))
            have Hul := hide hul
            have HBul := hide hBul
            have cul := ((unhide B06).cell (p := ⟨g, off + a, none⟩) hg).trans hul
            obtain ⟨la, lc, rfl, _, _⟩ := id hBul
            have a0' : (0 : Int) ≤ (a : Int) := Int.natCast_nonneg _
            have a1' : (a : Int) < (N : Int) := by omega
            have HCR := hide hCR
            clear hcl h3' hm' hul hBul hCR
            go_wp2_with fail
            refine (same_any ((unhide Hf).up (unhide B06)) ((unhide HBul).up (unhide B06)) hfb lfb).mono ?_
            rintro e w' ⟨rfl, he⟩
            obtain rfl : w6 = w' := he.symm
            clear he
            by_cases hEq : leaf = lf
            · rw [decide_eq_true hEq]
              go_wp2_with fail
              refine (num_any w6 0).mono ?_
              rintro e w' ⟨rfl, he⟩
              obtain rfl : w6 = w' := he.symm
              clear he
              go_wp2
              go_ret
              exact ⟨rfl, unhide B06⟩
            · rw [decide_eq_false hEq]
              obtain ⟨i0, xu, xv, hxu, hxv, hne, hse⟩ := unhide Hbind (unhide HCR) hEq
              have hYb := ups_byt N lf a N way lfb lfn (fun l hl' => ⟨(unhide Hwb l hl').1, by rw [(unhide Hwb l hl').2]; decide⟩)
              have hYup := fun (w : World) (pv : Value) (hb : Below W.heap.size W w) (hpv : HasBB w pv way) => ups_any N (hK.up hb) (hS.up hb) ((unhide HBul).up hb) lfb lfn hpv (unhide Hwb) (unhide Hws) (Nat.le_refl _) (by omega) (a := a) (by omega)
              have Hi0 : Hid (∃ xu xv, X[i0]? = some xu ∧ (upsF N lf a N way)[i0]? = some xv ∧ xu ≠ xv ∧ sha xu = sha xv) := ⟨xu, xv, hxu, hxv, hne, hse⟩
              have HYb := hide hYb
              have HYup := hide hYup
              have hpr7 := unhide Hpr2 w6 (unhide B06)
              have Hpr7 := hide hpr7
              have epw : (ps.length : Int) = (way.length : Int) := by rw [unhide Hpw]
              clear hYb hYup hxu hxv hne hse hEq HCR Hbind HCb hpr7 cul
              generalize upsF N lf a N way = Y at *
              go_wp2_with fail
              refine (unhide Hpr7).mono ?_
              rintro e w7 ⟨v7, rfl, ⟨us7, hO7⟩, hb7⟩
              obtain ⟨a7, c7, e7⟩ := hO7.has.shape
              subst e7
              have B07 : Hid (Below W.heap.size W w7) := (unhide B06).trans (hb7.mono (unhide B06).size)
              have Bc7 : Hid (Below wc.heap.size wc w7) := (unhide Hc6).trans (hb7.mono (unhide Hc6).size)
              have hP7 := hO7.has
              have HP7 := hide hP7
              have hx8 := unhide HXup w7 (unhide Bc7)
              have Hx8 := hide hx8
              have cul7 := ((unhide B07).cell (p := ⟨g, off + a, none⟩) hg).trans (unhide Hul)
              clear hO7 hb7 hP7 hx8 Hpr7 Hc6 B06
              have q11 : ((ps.length : Int) != (way.length : Int)) = false := by rw [epw]; simp
              go_wp2_with fail
              refine (unhide Hx8).mono ?_
              rintro e w8 ⟨v8, rfl, ⟨us8, hO8⟩, hb8⟩
              obtain ⟨a8, c8, e8⟩ := hO8.has.shape
              subst e8
              have B08 : Hid (Below W.heap.size W w8) := (unhide B07).trans (hb8.mono (unhide B07).size)
              have HX8 := hide hO8.has
              have hy9 := unhide HYup w8 _ (unhide B08) ((unhide HP7).up hb8)
              have Hy9 := hide hy9
              have cul8 := ((unhide B08).cell (p := ⟨g, off + a, none⟩) hg).trans (unhide Hul)
              clear hO8 hb8 hy9 Hx8 cul7 B07 HP7 HYup HXup
              go_wp2_with fail
              refine (unhide Hy9).mono ?_
              rintro e w9 ⟨v9, rfl, ⟨us9, hO9⟩, hb9⟩
              obtain ⟨a9, c9, e9⟩ := hO9.has.shape
              subst e9
              have B09 : Hid (Below W.heap.size W w9) := (unhide B08).trans (hb9.mono (unhide B08).size)
              have HX9 := hide ((unhide HX8).up hb9)
              have HY9 := hide hO9.has
              have k9 := hK.up (unhide B09)
              have s9 := hS.up (unhide B09)
              clear hO9 hb9 Hy9 cul8 B08 HX8 epw q11
              go_wp2
              go_loopg [25] (i0 + 1) (fun gk v25 wr => ∃ (i : Nat), v25 = .int .i64 (i : Int) ∧ gk = i0 + 1 - i ∧ i ≤ i0 ∧ Hid (Below w9.heap.size w9 wr))
              case atStart => exact ⟨0, rfl, rfl, by omega, Below.refl _ _⟩
              case round =>
                obtain ⟨i, rfl, hgk, hi, HB⟩ := hrel
                have Hgk := hide hgk
                clear hgk
                obtain ⟨xu, xv, hxu, hxv, hne, hse⟩ := unhide Hi0
                have l1 := (List.getElem?_eq_some_iff.1 hxu).1
                have l2 := (List.getElem?_eq_some_iff.1 hxv).1
                obtain ⟨x, hx⟩ : ∃ x, X[i]? = some x := ⟨_, List.getElem?_eq_getElem (by omega)⟩
                obtain ⟨y, hy⟩ : ∃ y, Y[i]? = some y := ⟨_, List.getElem?_eq_getElem (by omega)⟩
                have hlast : (x = y ∨ sha x ≠ sha y) → i ≠ i0 := fun q e => by
                  subst e
                  rw [hxu] at hx
                  rw [hxv] at hy
                  obtain rfl := Option.some.inj hx
                  obtain rfl := Option.some.inj hy
                  rcases q with q | q
                  · exact hne q
                  · exact q hse
                obtain ⟨ga, gc, e1, hm1, h1⟩ := id (unhide HX9)
                have hiB : i < 9223372036854775807 := by have := hm1.1; have := hm1.2.1; unfold maxLen at this; omega
                clear hm1
                injection e1 with e1 _ e2
                subst e1 e2
                obtain ⟨gx, ox, rfl, hgx, hcx⟩ := h1 (by omega)
                obtain ⟨ux, hux, hBx⟩ := hcx i x hx
                obtain ⟨ga, gc, e1, _, h2⟩ := id (unhide HY9)
                injection e1 with e1 _ e2
                subst e1 e2
                obtain ⟨gy, oy, rfl, hgy, hcy⟩ := h2 (by omega)
                obtain ⟨uy, huy, hBy⟩ := hcy i y hy
                obtain ⟨bx1, bx2⟩ := unhide HXb x (List.mem_of_getElem? hx)
                obtain ⟨by1, by2⟩ := unhide HYb y (List.mem_of_getElem? hy)
                have cx := ((unhide HB).cell (p := ⟨gx, ox + i, none⟩) hgx).trans hux
                have cy := ((unhide HB).cell (p := ⟨gy, oy + i, none⟩) hgy).trans huy
                have hBx' := hBx.up (unhide HB)
                have hBy' := hBy.up (unhide HB)
                have HBx := hide hBx'
                have HBy := hide hBy'
                obtain ⟨xa, xc, rfl, _, _⟩ := id hBx
                obtain ⟨ya, yc, rfl, _, _⟩ := id hBy
                have q12 : decide ((i : Int) < (X.length : Int)) = true := decide_eq_true (by omega)
                have q13 : decide ((i : Int) < (Y.length : Int)) = true := decide_eq_true (by omega)
                have j0' : (0 : Int) ≤ (i : Int) := Int.natCast_nonneg _
                have j1' : (i : Int) < (X.length : Int) := by omega
                have j2' : (i : Int) < (Y.length : Int) := by omega
                have Hlast := hide hlast
                have kr := k9.up (unhide HB)
                have sr := s9.up (unhide HB)
                have Hgx := hide hgx
                have Hgy := hide hgy
                have hgx' : gx < wr.heap.size := Nat.lt_of_lt_of_le hgx (unhide HB).size
                have hgy' : gy < wr.heap.size := Nat.lt_of_lt_of_le hgy (unhide HB).size
                clear hlast h1 h2 hcx hcy hux huy hBx hBy hBx' hBy' hxu hxv hne hse hx hy l1 l2
                go_upto_region 31 with fail
                go_cut [215] from 181 to 215 (fun v215 wx => ∃ b : Bool, v215 = .bool b ∧ Hid (b = (decide (x ≠ y) && decide (sha x = sha y))) ∧ Hid (Below wr.heap.size wr wx))
                case first =>
                  by_cases exy : x = y
                  · have hsm : ∀ n, Calls Tryd.prog 16 #[(.slice xa x.length xc), (.slice ya y.length yc)] (wr.drewN n) fun o w' => o = .returned (.bool (decide (x = y))) ∧ w' = wr.drewN n := fun n => same_any ((unhide HBx).up (below_drewN (Below.refl _ _) n)) ((unhide HBy).up (below_drewN (Below.refl _ _) n)) bx1 by1
                    rw [decide_eq_true exy] at hsm
                    have Hsm := hide hsm
                    have Exy := hide exy
                    clear exy hsm
                    go_quiet (first | (go_at_call 16; exact Calls.quiet_of_same (unhide Hsm _)))
                    go_wp2
                    go_meet
                    case rel => exact ⟨false, rfl, (by show _ = _; rw [decide_eq_false (show ¬ x ≠ y from fun q => q (unhide Exy)), Bool.false_and]), below_drewN (Below.refl _ _) _⟩
                  · have hsm : ∀ n, Calls Tryd.prog 16 #[(.slice xa x.length xc), (.slice ya y.length yc)] (wr.drewN n) fun o w' => o = .returned (.bool (decide (x = y))) ∧ w' = wr.drewN n := fun n => same_any ((unhide HBx).up (below_drewN (Below.refl _ _) n)) ((unhide HBy).up (below_drewN (Below.refl _ _) n)) bx1 by1
                    rw [decide_eq_false exy] at hsm
                    have Hsm := hide hsm
                    have Exy := hide exy
                    have hsx := sum_any (W := wr.drewN 1) (kr.up (below_drewN (Below.refl _ _) 1)) (sr.up (below_drewN (Below.refl _ _) 1)) ((unhide HBx).up (below_drewN (Below.refl _ _) 1)) bx1 (by omega)
                    have Hsx := hide hsx
                    clear exy hsm hsx
                    have HSB : ∀ w' : World, Below wr.heap.size wr w' → (w'.cell? ⟨gx, ox + i, none⟩ = some (.slice xa x.length xc) ∧ w'.cell? ⟨gy, oy + i, none⟩ = some (.slice ya y.length yc)) := fun w' hb => ⟨(hb.cell (p := ⟨gx, ox + i, none⟩) hgx').trans cx, (hb.cell (p := ⟨gy, oy + i, none⟩) hgy').trans cy⟩
                    go_region_held3 (fun w' => w'.cell? ⟨gx, ox + i, none⟩ = some (.slice xa x.length xc) ∧ w'.cell? ⟨gy, oy + i, none⟩ = some (.slice ya y.length yc)) ((refine HSB _ ?_; first | exact (Below.refl _ _).drew | exact hB2 | exact hB1 | exact Below.refl _ _))
                      (first
                        | (go_at_call 16; refine (unhide Hsm 1).mono ?_; rintro o W0 ⟨rfl, hw0⟩; obtain rfl : wr.drewN 1 = W0 := hw0.symm)
                        | (go_at_call 25; refine (unhide Hsx).mono ?_; rintro o W1 ⟨v7, rfl, hB7, hb7⟩; have hB1 : Below wr.heap.size wr W1 := (below_drewN (Below.refl _ _) 1).trans hb7; have HB7 := hide hB7.has; clear hB7 hb7)
                        | (go_at_call 25; refine (sum_any (kr.up hB1) (sr.up hB1) ((unhide HBy).up hB1) by1 (by omega)).mono ?_; rintro o W2 ⟨v8, rfl, hB8, hb8⟩; have hB2 : Below wr.heap.size wr W2 := hB1.trans (hb8.mono hB1.size); have HB78 := hide ((unhide HB7).up hb8); have HB8 := hide hB8.has; clear hB8 hb8)
                        | (go_at_call 16; refine (same_any (unhide HB78) (unhide HB8) (sha_byt x) (sha_byt y)).mono ?_; rintro o W3 ⟨rfl, hw3⟩; obtain rfl : W2 = W3 := hw3.symm))
                    go_wp2
                    go_meet
                    case rel => exact ⟨decide (sha x = sha y), rfl, (by show _ = _; rw [decide_eq_true (show x ≠ y from unhide Exy), Bool.true_and]), hB2⟩
                case rest =>
                  obtain ⟨b, rfl, Hb, HBx2⟩ := hcut
                  have B9 : Hid (Below w9.heap.size w9 wc) := (unhide HB).trans ((unhide HBx2).mono (unhide HB).size)
                  cases b with
                  | true =>
                    have B9' : Hid (Below W.heap.size W wc) := (unhide B09).trans ((unhide B9).mono (unhide B09).size)
                    go_wp2
                    go_ret
                    exact ⟨rfl, unhide B9'⟩
                  | false =>
                    have hi2 : i ≠ i0 := unhide Hlast (by
                      have e := unhide Hb
                      by_cases exy : x = y
                      · exact .inl exy
                      · right
                        intro es
                        rw [decide_eq_true (show x ≠ y from exy), decide_eq_true es] at e
                        cases e)
                    go_wp2
                    go_roundg (i0 + 1 - (i + 1))
                    case measure => have := unhide Hgk; omega
                    case rel => exact ⟨i + 1, by go_num, rfl, by omega, B9⟩
          · rw [decide_eq_false hCR]
            go_wp2_with fail
            refine (num_any w6 0).mono ?_
            rintro e w' ⟨rfl, he⟩
            obtain rfl : w6 = w' := he.symm
            clear he
            go_wp2
            go_ret
            exact ⟨rfl, unhide B06⟩
end Go.Proofs.YtoojchjfmnbdpabDoor
