import Derived.Test.YtcbcahnajabhfaaSLaw4a
import Derived.RangeFuncNested
import Derived.LoopNIn
namespace Go.Proofs.Ytcbcahnajabhfaa
open Go.RowKit Go.Shelf
attribute [local go_sem] kless_eq keq_eq kne_eq kgeq_eq
attribute [local go_sem] Oper.semAt_some

/-- The two rounds of 'runs', and its end. -/
noncomputable def runsTail : Code := match Try.f23.body with
  | some (.seq _ (.seq _ (.seq _ (.seq _ (.seq _ (.seq _ (.seq _ t))))))) => t
  | _ => .skip

noncomputable def runsWith (t : Code) : Code := match Try.f23.body with
  | some (.seq c0 (.seq c1 (.seq c2 (.seq c3 (.seq c4 (.seq c5 (.seq c6 _))))))) => .seq c0 (.seq c1 (.seq c2 (.seq c3 (.seq c4 (.seq c5 (.seq c6 t))))))
  | _ => .skip
theorem runs_split : Try.f23.body = some (runsWith runsTail) := rfl

def cut (B : Int) (L : List Ent) : List Ent := if 0 ≤ B ∧ B < (L.length : Int) then L.take B.toNat else L

def RunI (U : World) (bn : Nat) (B : Int) (L : List Ent) (pre : List Ent) (W : World) : Prop := Boxed W bn 3 (.int .i64 (pre.length : Int)) ∧ (pre <+: L ∧ (0 ≤ B → B < (L.length : Int) → (pre.length : Int) ≤ B)) ∧ Below U.heap.size U W
def RunX (U : World) (bn : Nat) (B : Int) (L : List Ent) (c : Code) (pre : List Ent) (W : World) : Prop := (c = .ret ∧ ¬ pre <+: L) ∨ (c = .exit 2 ∧ Boxed W bn 3 (.int .i64 B) ∧ (0 ≤ B ∧ B < (L.length : Int)) ∧ Below U.heap.size U W)
theorem runI_own (V : World) (bn : Nat) (B : Int) (L : List Ent) (b : Nat) (hb : V.heap.size ≤ b) : OwnFrom b (RunI V bn B L) :=
  OwnFrom.and (Own.from (boxed_own _ _ _) _) (OwnFrom.and (ownFrom_pure _ _) (ownFrom_below (Nat.le_refl _) hb))
theorem runX_own (V : World) (bn : Nat) (B : Int) (L : List Ent) (b : Nat) (hb : V.heap.size ≤ b) (c : Code) : OwnFrom b (RunX V bn B L c) := by
  rintro s X Y row (h | h) hg hr
  · exact .inl h
  · exact .inr ((OwnFrom.and (ownFrom_pure b (fun _ : List Ent => c = .exit 2)) (OwnFrom.and (Own.from (boxed_own bn 3 (fun _ : List Ent => .int .i64 B)) b) (OwnFrom.and (ownFrom_pure b (fun _ : List Ent => 0 ≤ B ∧ B < (L.length : Int))) (ownFrom_below (Nat.le_refl _) hb)))) s X Y row h hg hr)

theorem cut_len_of {B : Int} {L : List Ent} (h : 0 ≤ B ∧ B < (L.length : Int)) : ((cut B L).length : Int) = B := by
  unfold cut
  rw [if_pos h, List.length_take]
  omega
theorem cut_all {B : Int} {L : List Ent} (h : ¬ (0 ≤ B ∧ B < (L.length : Int))) : cut B L = L := by
  unfold cut
  rw [if_neg h]
theorem cut_lt {B : Int} {L : List Ent} {j : Nat} (hj : j < L.length) (hle : 0 ≤ B → B < (L.length : Int) → (j : Int) ≤ B) (hne : (j : Int) ≠ B) : j < (cut B L).length := by
  by_cases h : 0 ≤ B ∧ B < (L.length : Int)
  · have := cut_len_of h
    have := hle h.1 h.2
    omega
  · rw [cut_all h]; exact hj
theorem cut_at {B : Int} {L : List Ent} {j : Nat} (hj : j < (cut B L).length) : (cut B L)[j]? = L[j]? := by
  by_cases h : 0 ≤ B ∧ B < (L.length : Int)
  · have h2 := cut_len_of h
    unfold cut at hj ⊢
    rw [if_pos h] at hj ⊢
    rw [List.getElem?_take_of_lt]
    rw [List.length_take] at hj
    omega
  · rw [cut_all h]
theorem prefix_next {L pre : List Ent} {x y : Ent} (hp : pre <+: L) (hy : L[pre.length]? = some y) : pre ++ [x] <+: L ↔ x = y := by
  obtain ⟨t, rfl⟩ := hp
  constructor
  · rintro ⟨u, hu⟩
    rw [← hu] at hy
    simpa using hy
  · rintro rfl
    cases t with
    | nil => simp at hy
    | cons z t =>
      obtain rfl : z = x := by simpa using hy
      exact ⟨t, by simp⟩

theorem inBlock_here {id : Nat} {Q : Exit → Act → World → Prop} {a : Act} {w : World} (h : Q .normal a w) : Exit.inBlock id Q (.exit id) a w := by
  show (if id = id then Q .normal a w else Q (.exit id) a w)
  rw [if_pos rfl]
  exact h

/-- One of the two loops: the count is what the document's table says. -/
theorem runs_loop {P : Program} {g : Operand} {ps : Array Tmp} {assign body : Code} {Q : Exit → Act → World → Prop} {a : Act} {w V U : World} {B : Int} {L : List Ent} (A1 : Act → Ent → Act)
    {gf : Nat} {lb : Array Value} (hg : a.eval g = .func (.func gf) #[] lb) (eg : ∀ args w, (callFunc gf args).run P w = .ok (.enter gf args) w)
    {encs : Ent → Array Value} (hseq : SeqStopsK Fence.wide 4 P gf lb encs (Below V.heap.size) (fun ys => ys = L) (fun pre => pre <+: L) L.length V)
    (hV : Below V.heap.size V U) (hU : Below U.heap.size U w) (hs : w.heap.size = U.heap.size + 1) (hps : ∀ x, (encs x).size = ps.size) (hbn : Boxed w U.heap.size 3 (.int .i64 0))
    (hassign : ∀ (l : Nat) (x : Ent) (W : World) (K : Act → World → Prop), K (A1 a x) W →
      assign.wpIn (Fence.wide.inRound l) 3 P (Exit.then K (fun _ _ _ => False)) { tmps := (ps.zip (encs x)).foldl (fun t (p, v) => t.setIfInBounds p v) a.tmps, defers := [] } W)
    (hbody : ∀ (l : Nat) (pre : List Ent) (x : Ent) (W : World), RunI U U.heap.size B L pre W → pre.length < L.length → body.wpIn (Fence.wide.inRound l) 3 P (ownPostG w.heap.size (Below V.heap.size) (RunI U U.heap.size B L) (RunX U U.heap.size B L) (pre ++ [x]) W) (A1 a x) W)
    (hend : ∀ (D : Nat) (W : World), w.heap.size ≤ D → Boxed W U.heap.size 3 (.int .i64 ((cut B L).length : Int)) → Below U.heap.size U W → W.heap[D]? = some (.deferred (some [])) → Q .normal { a with defers := { target := .collected D, args := #[] } :: a.defers } W) :
    (Code.rangeFunc g ps assign body).wpIn Fence.wide 5 P (Exit.inBlock 2 Q) a w := by
  have hz := hV.size
  refine wpIn_rangeFunc_ownG (F := Fence.wide) rfl (by omega) hg trivial eg hseq belowK_t (belowK_b (by omega)) (hV.trans (hU.mono hz)) hps (RunI U U.heap.size B L) (RunX U U.heap.size B L) (runI_own _ _ _ _ _ (by omega)) (runX_own _ _ _ _ _ (by omega)) ⟨hbn, ⟨List.nil_prefix, fun h _ => by simpa using h⟩, hU⟩ (A1 a) hassign hbody ?done ?stop
  case done =>
    rintro D xs W hD rfl ⟨h1, ⟨_, h2⟩, h3⟩ hK
    refine hend D W hD ?_ h3 hK
    by_cases h : 0 ≤ B ∧ B < (xs.length : Int)
    · have := h2 h.1 h.2
      omega
    · rw [cut_all h]; exact h1
  case stop =>
    rintro D c pre W hD hS (⟨rfl, hno⟩ | ⟨rfl, h1, h2, h3⟩) hK
    · exact (hno hS).elim
    · refine wpIn_exit ?_
      exact inBlock_here (hend D W hD (by rw [cut_len_of h2]; exact h1) h3 hK)

set_option maxRecDepth 100000 in
set_option maxHeartbeats 4000000 in
theorem tail_any {W V : World} {bo br bq gf : Nat} {lb : Array Value} {L : List Ent} {B : Int} {wv : Value} (hB : Below W.heap.size W V) (eg : ∀ args w, (callFunc gf args).run Try.prog w = .ok (.enter gf args) w)
    (hseq : SeqStopsK Fence.wide 4 Try.prog gf lb (fun x : Ent => #[.string x.1, .int .i64 x.2]) (Below V.heap.size) (fun ys => ys = L) (fun pre => pre <+: L) L.length V)
    (hbo : V.cell? ⟨bo, 4, none⟩ = some (.int .i64 B)) (hbo' : bo < V.heap.size) (hbq : V.cell? ⟨bq, 0, none⟩ = some wv) (hbq' : bq < V.heap.size) (hwv : IsR V wv (cut B L)) (hbr : Boxed V br 4 (.bool false)) (hbr' : W.heap.size ≤ br)
    (hBa : -9223372036854775808 ≤ B) (hBb : B ≤ 9223372036854775807) (hL : (L.length : Int) ≤ 1152921504606846976)
    (s0 s1 s2 s5 s8 s9 s10 s11 s12 s13 s14 s15 s16 s17 s18 s19 s20 s21 s22 s23 s24 s25 s26 s27 s28 s29 s30 s31 s32 s33 s34 s35 s36 s37 s38 s39 s40 s41 s42 s43 s44 s45 s46 s47 s48 s49 s50 s51 s52 s53 s54 s55 s56 s57 s58 s59 s60 s61 s62 s63 s64 s65 s66 s67 s68 s69 s70 s71 s72 s73 s74 s75 s76 s77 s78 s79 s80 s81 s82 s83 s84 s85 s86 s87 s88 s89 s90 s91 s92 s93 s94 s95 s96 s97 s98 s99 s100 s101 s102 s103 s104 s105 s106 : Value) :
    runsTail.wpIn Fence.wide 5 Try.prog (bodyPostM Fence.wide 5 Try.prog Try.f23 fun e W' => e = .returned (.bool true) ∧ Below W.heap.size W W') { tmps := #[s0, s1, s2, .pointer (some ⟨bo, 0, none⟩), .pointer (some ⟨br, 0, none⟩), s5, .func (.func gf) #[] lb, .pointer (some ⟨bq, 0, none⟩), s8, s9, s10, s11, s12, s13, s14, s15, s16, s17, s18, s19, s20, s21, s22, s23, s24, s25, s26, s27, s28, s29, s30, s31, s32, s33, s34, s35, s36, s37, s38, s39, s40, s41, s42, s43, s44, s45, s46, s47, s48, s49, s50, s51, s52, s53, s54, s55, s56, s57, s58, s59, s60, s61, s62, s63, s64, s65, s66, s67, s68, s69, s70, s71, s72, s73, s74, s75, s76, s77, s78, s79, s80, s81, s82, s83, s84, s85, s86, s87, s88, s89, s90, s91, s92, s93, s94, s95, s96, s97, s98, s99, s100, s101, s102, s103, s104, s105, s106], defers := [] } V := by
  have hB0 : Below V.heap.size V V := Below.refl _ _
  obtain ⟨aw, cw, rfl, r1, r2, r3⟩ := hwv
  have R3 := hide r3
  clear r3
  unfold runsTail
  dsimp only [Try.f23]
  gi_wp2
  refine wpIn_loop_rounds 3 ?_
  rw [roundsIn_succ]
  gi_wp2
  have b0 := Boxed.new V 3 (.int .i64 0)
  have e0 : (V.alloc (.cells #[.int .i64 0] 3)).heap.size = V.heap.size + 1 := World.size_alloc _ _
  have h0 : Below V.heap.size V (V.alloc (.cells #[.int .i64 0] 3)) := (Below.refl _ _).alloc (Nat.le_refl _) _
  have z0 := hB0.size
  generalize V.alloc (.cells #[.int .i64 0] 3) = N0 at *
  refine runs_loop (U := V) (B := B) (fun a x => { tmps := (((a.tmps.setIfInBounds 73 (.string x.1)).setIfInBounds 74 (.int .i64 x.2)).setIfInBounds 10 (.string x.1)).setIfInBounds 11 (.int .i64 x.2), defers := [] }) (gf := gf) (lb := lb) rfl eg hseq hB0 h0 e0 (fun _ => rfl) b0 ?assign ?body ?fin
  case assign =>
    intro l x W K hK
    simp only [List.setIfInBounds_toArray, List.set_cons_succ, List.set_cons_zero] at hK
    gi_wp2
    exact hK
  case body =>
    rintro l pre x W' ⟨bn', ⟨hpre, hle⟩, hBW⟩ hlt
    simp only [List.setIfInBounds_toArray, List.set_cons_succ, List.set_cons_zero]
    have hBB : Below V.heap.size V W' := hB0.trans (hBW.mono z0)
    have ho : W'.cell? ⟨bo, 4, none⟩ = some (.int .i64 B) := (hBB.cell (p := ⟨bo, 4, none⟩) hbo').trans hbo
    have hq : W'.cell? ⟨bq, 0, none⟩ = some (.slice aw (cut B L).length cw) := (hBB.cell (p := ⟨bq, 0, none⟩) hbq').trans hbq
    have hr : Boxed W' br 4 (.bool false) := (hBB.block br hbr.lt).trans hbr
    have hr1 := hr.cell
    have hr2 := hr.frozen
    obtain ⟨y, hy⟩ : ∃ y, L[pre.length]? = some y := ⟨_, List.getElem?_eq_getElem hlt⟩
    have hnx := prefix_next (x := x) hpre hy
    have hln : ((pre ++ [x]).length : Int) = (pre.length : Int) + 1 := by simp
    obtain ⟨j, hj⟩ : ∃ j, pre.length = j := ⟨_, rfl⟩
    rw [hj] at bn' hle hlt hy hln
    have hc1 := bn'.cell
    have hc2 := bn'.frozen
    by_cases hnB : (j : Int) = B
    · have hE : (((j : Int) == B) : Bool) = true := by simp [hnB]
      have HX : Hid (RunX V V.heap.size B L (.exit 2) (pre ++ [x]) W') := .inr ⟨rfl, by rw [← hnB]; exact bn', ⟨by omega, by omega⟩, hBW⟩
      gi_wp2
      exact ⟨(KeepsOthers.refl _).from _, unhide HX⟩
    · have hjc := cut_lt hlt hle hnB
      have hya : (cut B L)[j]? = some y := (cut_at hjc).trans hy
      obtain ⟨g, o, rfl, hg, hcells⟩ := unhide R3 (by omega)
      have c0 : W'.cell? ⟨g, o + j * 2, none⟩ = some (.string y.1) := (hBB.cell (p := ⟨g, o + j * 2, none⟩) hg).trans (hcells j y hya).1
      have c1 : W'.cell? ⟨g, o + j * 2 + 1, none⟩ = some (.int .i64 y.2) := (hBB.cell (p := ⟨g, o + j * 2 + 1, none⟩) hg).trans (hcells j y hya).2
      have hj0 : (0 : Int) ≤ (j : Int) := Int.natCast_nonneg _
      have hj1 : (j : Int) < ((cut B L).length : Int) := by omega
      have hE : (((j : Int) == B) : Bool) = false := by simp [hnB]
      have hG : decide (((cut B L).length : Int) ≤ (j : Int)) = false := by simp; omega
      have HB := hide hBW
      have Hle : Hid (0 ≤ B → B < (L.length : Int) → (j : Int) + 1 ≤ B) := fun p q => by have := hle p q; omega
      have Hnx := hide hnx
      clear hcells hya hy hpre hnx hle
      by_cases hx1 : x.1 = y.1
      · have hd1 : (x.1 != y.1) = false := by simp [hx1]
        by_cases hx2 : x.2 = y.2
        · have hd2 : (x.2 != y.2) = false := by simp [hx2]
          have hxy : x = y := Prod.ext hx1 hx2
          have Hxy := hide hxy
          clear hxy hx1 hx2
          gi_wp2
          refine ⟨(KeepsOthers.setCell _ _ _).from _, (Below.refl _ W').setCell (p := ⟨V.heap.size, 0, none⟩) z0 _, ?_, ⟨(unhide Hnx).2 (unhide Hxy), ?_⟩, (unhide HB).setCell (p := ⟨V.heap.size, 0, none⟩) (Nat.le_refl _) _⟩
          · rw [hln]; exact bn'.set _
          · rw [hln]; exact unhide Hle
        · have hd2 : (x.2 != y.2) = true := by simp [hx2]
          have HX : Hid (¬ pre ++ [x] <+: L) := fun h => hx2 (by rw [(unhide Hnx).1 h])
          clear hx1 hx2
          gi_wp2
          exact ⟨(KeepsOthers.setCell _ _ _).from _, .inl ⟨rfl, unhide HX⟩⟩
      · have hd1 : (x.1 != y.1) = true := by simp [hx1]
        have HX : Hid (¬ pre ++ [x] <+: L) := fun h => hx1 (by rw [(unhide Hnx).1 h])
        clear hx1
        gi_wp2
        exact ⟨(KeepsOthers.setCell _ _ _).from _, .inl ⟨rfl, unhide HX⟩⟩
  case fin =>
    rintro D0 V1 hD0 bn' hBW hK0
    have hB1 : Below V.heap.size V V1 := hB0.trans (hBW.mono z0)
    have hc1 := bn'.cell
    have hq : V1.cell? ⟨bq, 0, none⟩ = some (.slice aw (cut B L).length cw) := (hB1.cell (p := ⟨bq, 0, none⟩) hbq').trans hbq
    have hne : (((cut B L).length : Int) != ((cut B L).length : Int)) = false := by simp
    gi_wp2
    rw [roundsIn_succ]
    gi_wp2
    have b1 := Boxed.new V1 3 (.int .i64 0)
    have e1 : (V1.alloc (.cells #[.int .i64 0] 3)).heap.size = V1.heap.size + 1 := World.size_alloc _ _
    have h1 : Below V1.heap.size V1 (V1.alloc (.cells #[.int .i64 0] 3)) := (Below.refl _ _).alloc (Nat.le_refl _) _
    have z1 := hB1.size
    generalize V1.alloc (.cells #[.int .i64 0] 3) = N1 at *
    refine runs_loop (U := V1) (B := B) (fun a x => { tmps := (((a.tmps.setIfInBounds 73 (.string x.1)).setIfInBounds 74 (.int .i64 x.2)).setIfInBounds 10 (.string x.1)).setIfInBounds 11 (.int .i64 x.2), defers := [] }) (gf := gf) (lb := lb) rfl eg hseq hB1 h1 e1 (fun _ => rfl) b1 ?assign ?body ?fin
    case assign =>
      intro l x W K hK
      simp only [List.setIfInBounds_toArray, List.set_cons_succ, List.set_cons_zero] at hK
      gi_wp2
      exact hK
    case body =>
      rintro l pre x W' ⟨bn', ⟨hpre, hle⟩, hBW⟩ hlt
      simp only [List.setIfInBounds_toArray, List.set_cons_succ, List.set_cons_zero]
      have hBB : Below V.heap.size V W' := hB1.trans (hBW.mono z1)
      have ho : W'.cell? ⟨bo, 4, none⟩ = some (.int .i64 B) := (hBB.cell (p := ⟨bo, 4, none⟩) hbo').trans hbo
      have hq : W'.cell? ⟨bq, 0, none⟩ = some (.slice aw (cut B L).length cw) := (hBB.cell (p := ⟨bq, 0, none⟩) hbq').trans hbq
      have hr : Boxed W' br 4 (.bool false) := (hBB.block br hbr.lt).trans hbr
      have hr1 := hr.cell
      have hr2 := hr.frozen
      obtain ⟨y, hy⟩ : ∃ y, L[pre.length]? = some y := ⟨_, List.getElem?_eq_getElem hlt⟩
      have hnx := prefix_next (x := x) hpre hy
      have hln : ((pre ++ [x]).length : Int) = (pre.length : Int) + 1 := by simp
      obtain ⟨j, hj⟩ : ∃ j, pre.length = j := ⟨_, rfl⟩
      rw [hj] at bn' hle hlt hy hln
      have hc1 := bn'.cell
      have hc2 := bn'.frozen
      by_cases hnB : (j : Int) = B
      · have hE : (((j : Int) == B) : Bool) = true := by simp [hnB]
        have HX : Hid (RunX V1 V1.heap.size B L (.exit 2) (pre ++ [x]) W') := .inr ⟨rfl, by rw [← hnB]; exact bn', ⟨by omega, by omega⟩, hBW⟩
        gi_wp2
        exact ⟨(KeepsOthers.refl _).from _, unhide HX⟩
      · have hjc := cut_lt hlt hle hnB
        have hya : (cut B L)[j]? = some y := (cut_at hjc).trans hy
        obtain ⟨g, o, rfl, hg, hcells⟩ := unhide R3 (by omega)
        have c0 : W'.cell? ⟨g, o + j * 2, none⟩ = some (.string y.1) := (hBB.cell (p := ⟨g, o + j * 2, none⟩) hg).trans (hcells j y hya).1
        have c1 : W'.cell? ⟨g, o + j * 2 + 1, none⟩ = some (.int .i64 y.2) := (hBB.cell (p := ⟨g, o + j * 2 + 1, none⟩) hg).trans (hcells j y hya).2
        have hj0 : (0 : Int) ≤ (j : Int) := Int.natCast_nonneg _
        have hj1 : (j : Int) < ((cut B L).length : Int) := by omega
        have hE : (((j : Int) == B) : Bool) = false := by simp [hnB]
        have hG : decide (((cut B L).length : Int) ≤ (j : Int)) = false := by simp; omega
        have HB := hide hBW
        have Hle : Hid (0 ≤ B → B < (L.length : Int) → (j : Int) + 1 ≤ B) := fun p q => by have := hle p q; omega
        have Hnx := hide hnx
        clear hcells hya hy hpre hnx hle
        by_cases hx1 : x.1 = y.1
        · have hd1 : (x.1 != y.1) = false := by simp [hx1]
          by_cases hx2 : x.2 = y.2
          · have hd2 : (x.2 != y.2) = false := by simp [hx2]
            have hxy : x = y := Prod.ext hx1 hx2
            have Hxy := hide hxy
            clear hxy hx1 hx2
            gi_wp2
            refine ⟨(KeepsOthers.setCell _ _ _).from _, (Below.refl _ W').setCell (p := ⟨V1.heap.size, 0, none⟩) z1 _, ?_, ⟨(unhide Hnx).2 (unhide Hxy), ?_⟩, (unhide HB).setCell (p := ⟨V1.heap.size, 0, none⟩) (Nat.le_refl _) _⟩
            · rw [hln]; exact bn'.set _
            · rw [hln]; exact unhide Hle
          · have hd2 : (x.2 != y.2) = true := by simp [hx2]
            have HX : Hid (¬ pre ++ [x] <+: L) := fun h => hx2 (by rw [(unhide Hnx).1 h])
            clear hx1 hx2
            gi_wp2
            exact ⟨(KeepsOthers.setCell _ _ _).from _, .inl ⟨rfl, unhide HX⟩⟩
        · have hd1 : (x.1 != y.1) = true := by simp [hx1]
          have HX : Hid (¬ pre ++ [x] <+: L) := fun h => hx1 (by rw [(unhide Hnx).1 h])
          clear hx1
          gi_wp2
          exact ⟨(KeepsOthers.setCell _ _ _).from _, .inl ⟨rfl, unhide HX⟩⟩
    case fin =>
      rintro D1 V2 hD1 bn' hBW hK1
      have hB2 : Below V.heap.size V V2 := hB1.trans (hBW.mono z1)
      have hc1 := bn'.cell
      have hq : V2.cell? ⟨bq, 0, none⟩ = some (.slice aw (cut B L).length cw) := (hB2.cell (p := ⟨bq, 0, none⟩) hbq').trans hbq
      have hne : (((cut B L).length : Int) != ((cut B L).length : Int)) = false := by simp
      have hK0' := hK0
      have hK2 : V2.heap[D0]? = some (.deferred (some [])) := (hBW.block D0 (Array.getElem?_eq_some_iff.1 hK0).1).trans hK0
      have hr : Boxed V2 br 4 (.bool false) := (hB2.block br hbr.lt).trans hbr
      have hr1 := hr.cell
      have hr2 := hr.frozen
      gi_wp2
      rw [roundsIn_succ]
      gi_wp2
      have hr0 := hr.lt
      have q0 := (Array.getElem?_eq_some_iff.1 hK0').1
      have hbl : br < V.heap.size := hbr.lt
      have hZ1 : (V2.setCell ⟨br, 0, none⟩ (.bool true)).heap[D1]? = some (.deferred (some [])) := (Below.heap_setCell V2 ⟨br, 0, none⟩ _ _ (by show D1 ≠ br; omega)).trans hK1
      have hZ0 : (V2.setCell ⟨br, 0, none⟩ (.bool true)).heap[D0]? = some (.deferred (some [])) := (Below.heap_setCell V2 ⟨br, 0, none⟩ _ _ (by show D0 ≠ br; omega)).trans hK2
      have hZ2 : (V2.setCell ⟨br, 0, none⟩ (.bool true)).cell? ⟨br, 0, none⟩ = some (.bool true) := (hr.set (.bool true)).cell
      have hZB : Below W.heap.size W (V2.setCell ⟨br, 0, none⟩ (.bool true)) := (hB.trans (hB2.mono hB.size)).setCell (p := ⟨br, 0, none⟩) hbr' _
      generalize V2.setCell ⟨br, 0, none⟩ (.bool true) = Z at *
      have hY0 : (Z.putObj D1 (.deferred none)).heap[D0]? = some (.deferred (some [])) := (World.putObj_heap_other (by omega)).trans hZ0
      have hY2 : (Z.putObj D1 (.deferred none)).cell? ⟨br, 0, none⟩ = some (.bool true) := (World.cell?_of_block (World.putObj_heap_other (k := br) (by omega))).trans hZ2
      have hYB : Below W.heap.size W (Z.putObj D1 (.deferred none)) := hZB.trans (belowK_b (w := W) (Nat.le_refl _) Z D1 _ _ (by have := hB.size; omega) hZ1 rfl rfl)
      refine ⟨by simp, .inl ⟨_, _, rfl, run_takeDeferred hZ1, ?_⟩⟩
      generalize Z.putObj D1 (.deferred none) = Y at *
      have hX2 : (Y.putObj D0 (.deferred none)).cell? ⟨br, 0, none⟩ = some (.bool true) := (World.cell?_of_block (World.putObj_heap_other (k := br) (by omega))).trans hY2
      have hXB : Below W.heap.size W (Y.putObj D0 (.deferred none)) := hYB.trans (belowK_b (w := W) (Nat.le_refl _) Y D0 _ _ (by have := hB.size; omega) hY0 rfl rfl)
      refine ⟨by simp, .inl ⟨_, _, rfl, run_takeDeferred hY0, ?_⟩⟩
      exact ⟨.bool true, by simp [results, go_sem, hX2], rfl, hXB⟩
end Go.Proofs.Ytcbcahnajabhfaa
