import Derived.Test.YtobomdokdajbaaaDoorJ51
import Derived.Test.YtobomdokdajbaaaDoorJ51
import Derived.Test.YtobomdokdajbaaaDoorCards
import Derived.Test.YtobomdokdajbaaaDoorTie
import Derived.WalkKit
import Derived.ProofKit
import Derived.OpenShut
import Derived.Deep.DeepHandedRow
import Derived.Lib.LaidTab
import Derived.SizedLaws
import Derived.JoinedCond
namespace Go.Proofs.YtobomdokdajbaaaDoor
open Go.ChangeShapes Go.WideShapes Go.ChangeAt Go.RowKit
namespace PWireOwn
theorem own : ownKnob Tryd.prog.godebug = none := by kernel_rfl
theorem laidOut : laidOutB Tryd.prog = true := by kernel_rfl
set_option maxRecDepth 100000 in
theorem contract (H : Type) (enc : TypeId × Value → H) (W : World) (base : Nat) (args : Array Value) (ds gs : List (DataW H)) (before : List MemPlace) (F : Stop.Interp)
    (hval0 : ∀ (j : Nat) t v, Tryd.f3.params[j]? = some t → args[j]? = some v → Value.okWide Tryd.prog W .any base t v)
    (hW : DataW.Whole enc Tryd.prog Tryd.f3.params.toList (Rows.OpenSpec.upto Rows.wireOwnSpec).vars false W args.toList ds gs before) (hk : Rows.uptoSmall H (ds ++ gs) = true) (hL : laidMetH Tryd.prog Rows.wireOwnUptoRow.laid W) :
    Calls Tryd.prog 3 args W fun e W' => ∃ v, e = .returned v ∧ ((Rows.OpenSpec.upto Rows.wireOwnSpec).at F).post enc Tryd.prog Tryd.f3 false true false false W args v W' := by
  have hval := hval0
  have hW' := hW
  obtain ⟨p, q, hA0, hV, rfl, hfz, hnd⟩ := hW
  have hA : DataW.TrodAll enc Tryd.prog W 0 (fun _ => true) true Tryd.f3.params.toList args.toList ds p := hA0
  rw [Tryd.params3] at hA hval
  obtain ⟨v0, vs0, d0, ds0, p0, q0, hargs0, rfl, rfl, h0, r0⟩ := trodAll_cons hA
  obtain ⟨v1, vs1, d1, ds1, p1, q1, hargs1, rfl, rfl, h1, r1⟩ := trodAll_cons r0
  obtain ⟨v2, vs2, d2, ds2, p2, q2, hargs2, rfl, rfl, h2, r2⟩ := trodAll_cons r1
  obtain ⟨rfl, rfl, rfl⟩ := trodAll_nil r2
  obtain rfl : args = #[v0, v1, v2] := by cases args; simp_all
  obtain ⟨rfl, rfl⟩ := trodVars_none hV
  have hbulk : Rows.uptoBulkAll ([d0, d1, d2] ++ []) ≤ 1048576 := of_decide_eq_true hk
  simp only [List.append_nil, Rows.uptoBulkAll] at hbulk
  have t_forms : HasF W := hasF_of (rest := _) hL
  have k0 := h0
  have lt0 : ∀ x ∈ p0, x.block < W.heap.size := by obtain ⟨m, hm⟩ := k0; exact DataW.trod_lt m _ _ _ hm
  obtain ⟨a0, len0, cap0, rfl⟩ := okWide_slice Tryd.underlying22 (hval 0 22 v0 rfl rfl)
  obtain ⟨l0, hl0, hb0, hs0⟩ : ∃ l, HasI W (.slice a0 len0 cap0) l ∧ (∀ z ∈ l, -9223372036854775808 ≤ z ∧ z ≤ 9223372036854775807) ∧ (l.length = 0 ∨ ∃ e s, d0 = .slice e s ∧ l.length = e.length) := by obtain ⟨fuel, hf⟩ := h0; exact open_hasI hf
  have hn0 : l0.length ≤ 1048576 := by have := upto_len hs0; omega
  have k1 := h1
  have lt1 : ∀ x ∈ p1, x.block < W.heap.size := by obtain ⟨m, hm⟩ := k1; exact DataW.trod_lt m _ _ _ hm
  obtain ⟨a1, len1, cap1, rfl⟩ := okWide_slice Tryd.underlying23 (hval 1 23 v1 rfl rfl)
  obtain ⟨l1, hl1, hs1⟩ : ∃ l, HasS W (.slice a1 len1 cap1) l ∧ (l.length = 0 ∨ ∃ e s, d1 = .slice e s ∧ l.length = e.length) := by obtain ⟨fuel, hf⟩ := h1; exact open_hasS hf
  have hn1 : l1.length ≤ 1048576 := by have := upto_len hs1; omega
  have k2 := h2
  have lt2 : ∀ x ∈ p2, x.block < W.heap.size := by obtain ⟨m, hm⟩ := k2; exact DataW.trod_lt m _ _ _ hm
  obtain ⟨a2, len2, cap2, rfl⟩ := okWide_slice Tryd.underlying24 (hval 2 24 v2 rfl rfl)
  obtain ⟨l2, hl2, hb2, hs2⟩ : ∃ l, HasBN W (.slice a2 len2 cap2) l ∧ (∀ x ∈ l, x < 256) ∧ (l.length = 0 ∨ ∃ e s, d2 = .slice e s ∧ l.length = e.length) := by obtain ⟨fuel, hf⟩ := h2; exact open_hasBN hf
  have hn2 : l2.length ≤ 1048576 := by have := upto_len hs2; omega
  clear hA0 hval0
  refine (wireOwn_row t_forms hl0 hb0 hn0 hl1 hn1 hl2 hb2 hn2).mono fun e W' ⟨he, bel⟩ => ?_
  subst he
  exact ⟨_, rfl, _, _, _, [], _, [], hW', trodAll_mk1 (shut_bool Tryd.underlying4 _), (trodAll_cons_mk (Below.trod laidOut (by kernel_rfl) (of_decide_eq_true (by kernel_rfl)) k0 bel lt0) (trodAll_cons_mk (Below.trod laidOut (by kernel_rfl) (of_decide_eq_true (by kernel_rfl)) k1 bel lt1) (trodAll_cons_mk (Below.trod laidOut (by kernel_rfl) (of_decide_eq_true (by kernel_rfl)) k2 bel lt2) trodAll_mk0))), rfl, bel.frame _, fun h => by cases h⟩
/-- A world for the witness: the tables hold what is laid. -/
noncomputable def laidWorld (os : Os) : World :=
  { World.holding Tryd.prog os ⟨#[], #[], []⟩ with heap := ((World.holding Tryd.prog os ⟨#[], #[], []⟩).heap.modify 0 fun | .cells _ t frozen => .cells #[.int .u8 0, .int .u8 127, .int .u8 0, .int .u8 0, .int .u8 0, .int .u8 194, .int .u8 223, .int .u8 1, .int .u8 128, .int .u8 191, .int .u8 224, .int .u8 224, .int .u8 2, .int .u8 160, .int .u8 191, .int .u8 225, .int .u8 236, .int .u8 2, .int .u8 128, .int .u8 191, .int .u8 237, .int .u8 237, .int .u8 2, .int .u8 128, .int .u8 159, .int .u8 238, .int .u8 239, .int .u8 2, .int .u8 128, .int .u8 191, .int .u8 240, .int .u8 240, .int .u8 3, .int .u8 144, .int .u8 191, .int .u8 241, .int .u8 243, .int .u8 3, .int .u8 128, .int .u8 191, .int .u8 244, .int .u8 244, .int .u8 3, .int .u8 128, .int .u8 143] t frozen | o => o) }
theorem laid_met (os : Os) : laidMet Tryd.prog Rows.wireOwnUptoRow.laid ((laidWorld os).forCall (fun _ _ => 0) ⟨#[], #[.slice none 0 0, .slice none 0 0, .slice none 0 0], []⟩).memory :=
  laidMet_of_run' 8 (by kernel_rfl) (by kernel_rfl)
theorem reads (os : Os) {H : Type} (enc : TypeId × Value → H) : ∃ places, DataW.whole enc Tryd.prog ((laidWorld os).forCall (fun _ _ => 0) ⟨#[], #[.slice none 0 0, .slice none 0 0, .slice none 0 0], []⟩).memory Tryd.f3.params.toList (Rows.OpenSpec.upto Rows.wireOwnSpec).vars false (#[.slice none 0 0, .slice none 0 0, .slice none 0 0] : Array Value).toList 8 = some ([.nil, .nil, .nil], [], places) :=
  ⟨[], by kernel_rfl⟩
set_option maxRecDepth 100000 in
theorem lifted (os : Os) (started : os.Started) (H : Type) (enc : TypeId × Value → H) (F : Stop.Interp) :
    ReturnsInHanded {} Tryd.checked os 3 .any ((Rows.OpenSpec.upto Rows.wireOwnSpec).preRow enc Tryd.prog Tryd.f3 Rows.wireOwnUptoRow.domain false Rows.wireOwnUptoRow.laid) (((Rows.OpenSpec.upto Rows.wireOwnSpec).at F).post enc Tryd.prog Tryd.f3 false true false false) := by
  obtain ⟨places, hx⟩ := reads os enc
  refine returnsInHanded_of_row (C := Tryd.checked) (s := Rows.OpenSpec.upto Rows.wireOwnSpec) own started (by kernel_rfl) Tryd.func3
    (witness_row_at (enc := enc) (C := Tryd.checked) false (laidWorld os) #[.slice none 0 0, .slice none 0 0, .slice none 0 0] rfl (by kernel_rfl) (by kernel_rfl) (by kernel_rfl)
      (OpenSpec.preRow_of_cond 8 hx (by kernel_rfl) (fun k hk => by obtain rfl := (Option.some.inj hk).symm; kernel_rfl) (by kernel_rfl) (laid_met os))) ?_
  intro W base args ds gs before hval hW _ hk hsz hL _ _
  exact contract H enc W base args ds gs before F hval hW (hk _ rfl) hL
theorem said : Rows.WireOwnUptoSaid :=
  OpenClaim.holds_of_cond 3 Tryd.f3 rfl rfl rfl rfl rfl rfl rfl ⟨rfl, rfl, rfl, rfl, rfl⟩ rfl rfl rfl rfl rfl (by kernel_rfl) Tryd.func3 (by kernel_rfl)
    (of_decide_eq_true (by kernel_rfl)) (by unfold Func.isWrapper; first | (rw [if_pos (by decide +kernel)]; kernel_rfl) | (rw [if_neg (by decide +kernel)]; exact ⟨rfl, rfl⟩))
    (fun os started H enc _ F => by rw [OpenClaim.pre_eq_preRow]; exact lifted os started H enc F)
theorem plain (f : FuncId) (fn : Func) (hf : Tryd.pinned.checked.prog.funcNamed "sigil/sigillaw2.WireOwn" = some f) (hfn : Tryd.pinned.checked.prog.funcs[f]? = some fn) :
    false = Tryd.pinned.checked.prog.looks [] ∧ ∀ (j : Nat) t, fn.params[j]? = some t → Tryd.pinned.checked.prog.wantsStandIn t = false := by
  obtain rfl : f = 3 := Option.some.inj ((show Tryd.prog.funcNamed "sigil/sigillaw2.WireOwn" = some 3 by kernel_rfl).symm.trans hf) |>.symm
  obtain rfl : fn = Tryd.f3 := (Option.some.inj (Tryd.func3.symm.trans hfn)).symm
  refine ⟨by kernel_rfl, fun j t ht => ?_⟩
  rw [Tryd.params3] at ht
  have hm : t ∈ [22, 23, 24] := by have := Array.mem_of_getElem? ht; simpa using this
  simp at hm
  have w22 : Tryd.pinned.checked.prog.wantsStandIn 22 = false := (show Tryd.prog.wantsStandIn 22 = false by kernel_rfl)
  have w23 : Tryd.pinned.checked.prog.wantsStandIn 23 = false := (show Tryd.prog.wantsStandIn 23 = false by kernel_rfl)
  have w24 : Tryd.pinned.checked.prog.wantsStandIn 24 = false := (show Tryd.prog.wantsStandIn 24 = false by kernel_rfl)
  rcases hm with rfl | rfl | rfl
  all_goals first | with_reducible exact w22 | with_reducible exact w23 | with_reducible exact w24
theorem card : Rows.WireOwnUptoCardSaid :=
  Claim7.holds_tied_plain_at .later [] _ _ _ _ said (fun _ h => by cases h) (by kernel_rfl) (fun _ h => by cases h) wireOwnUpto_row_tie rfl ⟨rfl, rfl⟩ (by kernel_rfl) rfl plain (by kernel_rfl)
end PWireOwn
/-- The statement. -/
theorem proved : Rows.WireOwnUptoCardSaid := PWireOwn.card
#print axioms proved
end Go.Proofs.YtobomdokdajbaaaDoor
