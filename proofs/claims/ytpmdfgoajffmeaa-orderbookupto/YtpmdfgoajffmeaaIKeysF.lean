import Derived.Test.YtpmdfgoajffmeaaIKeys

namespace Go.Proofs.Ytpmdfgoajffmeaa
open Go.RowKit Go.Shelf
attribute [local go_sem] Oper.semAt_some


set_option maxRecDepth 100000 in
set_option maxHeartbeats 2000000 in
theorem keys_full {W : World} {m : Option Addr} {T : BT} (h : IsM W m T) (hsz : T.io.length * 8 ≤ 140737488355328) :
    Calls Try.prog 10 #[.pointer m] W fun o W' => ∃ g, o = .returned (.slice (some ⟨g, 0, none⟩) T.io.length T.io.length) ∧ W.heap.size ≤ g ∧ W'.ownsRow W.heap.size 3 1 (.slice (some ⟨g, 0, none⟩) T.io.length T.io.length) T.io.length (T.io.map fun x => .int .i64 x.1) ∧ Below W.heap.size W W' := by
  obtain ⟨i0, hi, hz0, hz1, hz2⟩ := info_parts Try.infoKey
  have hmax : T.io.length ≤ maxLen := by unfold maxLen; omega
  have hM := h
  obtain ⟨bm, p, rfl, h1, h2, h3, h4⟩ := h
  have H3 := hide h3
  have HM := hide hM
  clear h3 h4 hM
  refine (callsIn_wide (n := 5)).1 ?_
  refine callsIn_of_wp_marks Try.func10 rfl trivial ?_ rfl
  simp only [Try.ntmps10, List.size_toArray, List.length_cons, List.length_nil, Nat.reduceAdd, Nat.reduceSub, Array.replicate_succ, Array.replicate_zero, List.push_toArray, List.append_toArray, List.nil_append, List.cons_append]
  gi_wp2_with (first
    | ((try refine ⟨trivial, ?_⟩); gi_at_call 7; refine (callsIn_wide.2 (len_any (unhide HM))).mono ?_; rintro o w' ⟨rfl, he⟩; obtain rfl : W = w' := he.symm)
    | (gi_at_make; refine wpListIn_make_own _ rfl _ _ 22 rfl W.heap.size 3 i0 (.int .i64 0) 1 Try.underlying22 hi hz0 hz1 .i64 .i64 T.io.length T.io.length rfl rfl rfl (by rw [hz2]; omega) hmax (Nat.le_refl _) ?_; intro w1 hown1 hgrow1))
  have hB1 : Below W.heap.size W w1 := (Below.refl _ W).grown hgrow1 (Nat.le_refl _) (fun k e => by cases e)
  have bO := Boxed.new w1 22 (.slice (some ⟨W.heap.size, 0, none⟩) 0 T.io.length)
  have hB2 : Below W.heap.size W (w1.alloc (.cells #[.slice (some ⟨W.heap.size, 0, none⟩) 0 T.io.length] 22)) := hB1.alloc hB1.size _
  have hown2 := hown1.alloc (.cells #[.slice (some ⟨W.heap.size, 0, none⟩) 0 T.io.length] 22)
  have hs2 : (w1.alloc (.cells #[.slice (some ⟨W.heap.size, 0, none⟩) 0 T.io.length] 22)).heap.size = w1.heap.size + 1 := World.size_alloc _ _
  generalize w1.alloc (.cells #[.slice (some ⟨W.heap.size, 0, none⟩) 0 T.io.length] 22) = w2 at *
  refine ⟨trivial, ?_⟩
  refine (all_in Fence.wide 4 trivial rfl bm p w2 ((hB2.cell (p := ⟨bm, 0, none⟩) h1).trans h2)).mono ?_
  rintro e w' ⟨rfl, rfl⟩
  have hB3 : Below W.heap.size W (w2.alloc (.cells #[.pointer p] 49)) := hB2.alloc hB2.size _
  have bN := Boxed.new w2 49 (.pointer p)
  rw [hs2] at bN
  have bO3 := bO.alloc (.cells #[.pointer p] 49)
  have hown3 := hown2.alloc (.cells #[.pointer p] 49)
  have hs3 : (w2.alloc (.cells #[.pointer p] 49)).heap.size = w2.heap.size + 1 := World.size_alloc _ _
  gi_wp2
  generalize w2.alloc (.cells #[.pointer p] 49) = w3 at *
  have hn1 : W.heap.size ≤ w1.heap.size := hB1.size
  refine wpIn_rangeFunc_ownG (F := Fence.wide) rfl (by omega) (gf := 23) (lb := #[.pointer (some ⟨w1.heap.size + 1, 0, none⟩)]) rfl trivial (enters_of Try.func23 (by kernel_rfl) rfl)
    (all_stops Fence.wide rfl _ trivial trivial rfl (w1.heap.size + 1) W.heap.size p T w3 (by omega) (by omega) bN.cell ((unhide H3).below hB3)) belowK_t (belowK_b (by omega)) (Below.refl _ _) (fun _ => rfl)
    (fun (pre : List Ent) W' => (∃ v, Boxed W' w1.heap.size 22 v ∧ W'.ownsRow W.heap.size 3 1 v pre.length (pre.map fun x => .int .i64 x.1) ∧ v = .slice (some ⟨W.heap.size, 0, none⟩) pre.length T.io.length) ∧ Below W.heap.size W W')
    (fun _ _ _ => False)
    (OwnFrom.and (Own.from (holdsRow_own W.heap.size w1.heap.size 22 3 1 (fun pre : List Ent => pre.length) (fun pre : List Ent => pre.map fun x => .int .i64 x.1) (fun pre v => v = .slice (some ⟨W.heap.size, 0, none⟩) pre.length T.io.length)) _) (ownFrom_below (Nat.le_refl _) (by omega)))
    (fun _ _ _ _ _ hs _ _ => hs)
    ⟨⟨_, bO3, hown3, rfl⟩, hB3⟩
    (fun x : Ent => { tmps := #[.pointer (some ⟨bm, 0, none⟩), undef, .slice none 0 0, .pointer (some ⟨w1.heap.size, 0, none⟩), .int .i64 x.1, .pointer (some ⟨bm, 0, none⟩), .int .i64 T.io.length, .slice (some ⟨W.heap.size, 0, none⟩) 0 T.io.length, .pointer (some ⟨bm, 0, none⟩), .func (.func 23) #[] #[.pointer (some ⟨w1.heap.size + 1, 0, none⟩)], .int .i64 x.1, .int .i64 x.2, undef, undef, undef, undef, undef], defers := [] }) ?assign ?body ?done ?stop
  case assign =>
    intro l x W K hK
    gi_wp2
    exact hK
  case body =>
    rintro l pre x W' ⟨⟨v, hv, hrow, rfl⟩, hB⟩ hlt
    have hc := hv.cell
    gi_wp2_with (gi_at_builtin; refine wpListIn_append_fits _ rfl _ _ 22 rfl W.heap.size 3 i0 1 Try.underlying22 hi hz1 _ _ _ _ rfl (hrow.alloc _) ⟨W'.heap.size, 0, none⟩ 1 1 [.int .i64 x.1] rfl rfl (cell_one_new _ _ _) (by simp [Value.oneCell']) (by omega) ?_; intro w4 hown' hgrow; obtain ⟨hv1, hv2, hr2, hk2, hb2⟩ := hv.appended (by decide) hrow hB.size hn1 hown' hgrow; have hc1 := hv1.cell; have hf1 := hv1.frozen)
    exact ⟨hk2.from _, hb2, ⟨_, hv2, by simpa using hr2, by simp⟩, hB.trans hb2⟩
  case done =>
    rintro D ys W' hD rfl ⟨⟨v, hv, hrow, rfl⟩, hB⟩ hK
    have hc := hv.cell
    gi_wp2
    refine ⟨by simp, .inl ⟨_, _, rfl, run_takeDeferred hK, ?_⟩⟩
    exact ⟨_, results_tmp rfl _ _ _, W.heap.size, rfl, Nat.le_refl _, ownsRow_putObj hrow _ hK rfl, hB.trans (belowK_b (w := W) (Nat.le_refl _) W' D _ _ (by omega) hK rfl rfl)⟩
  case stop =>
    rintro D c pre W' _ _ h _
    exact h.elim
end Go.Proofs.Ytpmdfgoajffmeaa
