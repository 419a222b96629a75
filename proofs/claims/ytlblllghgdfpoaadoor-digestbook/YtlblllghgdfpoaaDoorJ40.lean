import Derived.Test.YtlblllghgdfpoaaDoorJ39
import Derived.Test.YtlblllghgdfpoaaDoorJ39
import Derived.Deep.DeepCutAuto

namespace Go.Proofs.YtlblllghgdfpoaaDoor
open Go.RowKit

/-- What stands in some slots. -/
def chk (tm : Array Value) : List (Nat × Value) → Prop
  | [] => True
  | p :: r => tm[p.1]? = some p.2 ∧ chk tm r
set_option maxRecDepth 100000 in
theorem frame401 {tm : Array Value} (h : tm.size = 401) : ∃ u : Nat → Value, tm = #[u 0, u 1, u 2, u 3, u 4, u 5, u 6, u 7, u 8, u 9, u 10, u 11, u 12, u 13, u 14, u 15, u 16, u 17, u 18, u 19, u 20, u 21, u 22, u 23, u 24, u 25, u 26, u 27, u 28, u 29, u 30, u 31, u 32, u 33, u 34, u 35, u 36, u 37, u 38, u 39, u 40, u 41, u 42, u 43, u 44, u 45, u 46, u 47, u 48, u 49, u 50, u 51, u 52, u 53, u 54, u 55, u 56, u 57, u 58, u 59, u 60, u 61, u 62, u 63, u 64, u 65, u 66, u 67, u 68, u 69, u 70, u 71, u 72, u 73, u 74, u 75, u 76, u 77, u 78, u 79, u 80, u 81, u 82, u 83, u 84, u 85, u 86, u 87, u 88, u 89, u 90, u 91, u 92, u 93, u 94, u 95, u 96, u 97, u 98, u 99, u 100, u 101, u 102, u 103, u 104, u 105, u 106, u 107, u 108, u 109, u 110, u 111, u 112, u 113, u 114, u 115, u 116, u 117, u 118, u 119, u 120, u 121, u 122, u 123, u 124, u 125, u 126, u 127, u 128, u 129, u 130, u 131, u 132, u 133, u 134, u 135, u 136, u 137, u 138, u 139, u 140, u 141, u 142, u 143, u 144, u 145, u 146, u 147, u 148, u 149, u 150, u 151, u 152, u 153, u 154, u 155, u 156, u 157, u 158, u 159, u 160, u 161, u 162, u 163, u 164, u 165, u 166, u 167, u 168, u 169, u 170, u 171, u 172, u 173, u 174, u 175, u 176, u 177, u 178, u 179, u 180, u 181, u 182, u 183, u 184, u 185, u 186, u 187, u 188, u 189, u 190, u 191, u 192, u 193, u 194, u 195, u 196, u 197, u 198, u 199, u 200, u 201, u 202, u 203, u 204, u 205, u 206, u 207, u 208, u 209, u 210, u 211, u 212, u 213, u 214, u 215, u 216, u 217, u 218, u 219, u 220, u 221, u 222, u 223, u 224, u 225, u 226, u 227, u 228, u 229, u 230, u 231, u 232, u 233, u 234, u 235, u 236, u 237, u 238, u 239, u 240, u 241, u 242, u 243, u 244, u 245, u 246, u 247, u 248, u 249, u 250, u 251, u 252, u 253, u 254, u 255, u 256, u 257, u 258, u 259, u 260, u 261, u 262, u 263, u 264, u 265, u 266, u 267, u 268, u 269, u 270, u 271, u 272, u 273, u 274, u 275, u 276, u 277, u 278, u 279, u 280, u 281, u 282, u 283, u 284, u 285, u 286, u 287, u 288, u 289, u 290, u 291, u 292, u 293, u 294, u 295, u 296, u 297, u 298, u 299, u 300, u 301, u 302, u 303, u 304, u 305, u 306, u 307, u 308, u 309, u 310, u 311, u 312, u 313, u 314, u 315, u 316, u 317, u 318, u 319, u 320, u 321, u 322, u 323, u 324, u 325, u 326, u 327, u 328, u 329, u 330, u 331, u 332, u 333, u 334, u 335, u 336, u 337, u 338, u 339, u 340, u 341, u 342, u 343, u 344, u 345, u 346, u 347, u 348, u 349, u 350, u 351, u 352, u 353, u 354, u 355, u 356, u 357, u 358, u 359, u 360, u 361, u 362, u 363, u 364, u 365, u 366, u 367, u 368, u 369, u 370, u 371, u 372, u 373, u 374, u 375, u 376, u 377, u 378, u 379, u 380, u 381, u 382, u 383, u 384, u 385, u 386, u 387, u 388, u 389, u 390, u 391, u 392, u 393, u 394, u 395, u 396, u 397, u 398, u 399, u 400] := by
  refine ⟨fun i => tm.getD i undef, ?_⟩
  have e : tm = ((List.range 401).map fun i => tm.getD i undef).toArray := by
    apply Array.ext
    · simp [h]
    · intro i h1 h2
      simp [Array.getD, h1]
  exact e.trans rfl
/-- A loop of so many rounds, over whatever the frame is. -/
theorem wp_loop_count {P : Program} {c : Code} {Q : Exit → Act → World → Prop} (J : Nat → Act → World → Prop) (round : ∀ n a w, J n a w → c.wp P (Exit.then (fun a' w' => ∃ m, n = m + 1 ∧ J m a' w') Q) a w) (n : Nat) (a : Act) (w : World) (h : J n a w) : (Code.loop c).wp P Q a w := by
  refine wp_loop_rounds (n + 1) ?_
  induction n generalizing a w with
  | zero =>
    refine Code.wp_mono (fun e a' w' q => ?_) (round 0 a w h)
    cases e <;> first | exact q | (obtain ⟨m, hm, _⟩ := q; omega)
  | succ n ih =>
    refine Code.wp_mono (fun e a' w' q => ?_) (round (n + 1) a w h)
    cases e <;> first | exact q | (obtain ⟨m, hm, hj⟩ := q; obtain rfl : n = m := by omega
                                   exact ih a' w' hj)
/-- Codes in a row: what lies behind the first k; the first n, and X behind them. -/
noncomputable def tl : Nat → Code → Code
  | 0, c => c
  | k + 1, .seq _ c => tl k c
  | _ + 1, _ => .skip
noncomputable def hd : Code → Code
  | .seq a _ => a
  | c => c
noncomputable def qBody : Code := match Tryd.f21.body with
  | some c => c
  | _ => .skip
noncomputable def qL1 : Code := hd (tl 3 qBody)
noncomputable def qRnd : Code := match qL1 with
  | .seq _ (.block _ (.loop (.seq _ (.seq (.block _ r) _)))) => r
  | _ => .skip
noncomputable def qq0 (X : Code) : Code := match tl 0 qRnd with
  | .seq a0 (.seq a1 (.seq a2 (.seq a3 (_)))) => .seq a0 (.seq a1 (.seq a2 (.seq a3 (X))))
  | _ => .skip
noncomputable def qq1 (X : Code) : Code := match tl 4 qRnd with
  | .seq a0 (.seq a1 (.seq a2 (_))) => .seq a0 (.seq a1 (.seq a2 (X)))
  | _ => .skip
noncomputable def qq2 (X : Code) : Code := match tl 7 qRnd with
  | .seq a0 (.seq a1 (.seq a2 (_))) => .seq a0 (.seq a1 (.seq a2 (X)))
  | _ => .skip
noncomputable def qq3 (X : Code) : Code := match tl 10 qRnd with
  | .seq a0 (.seq a1 (.seq a2 (_))) => .seq a0 (.seq a1 (.seq a2 (X)))
  | _ => .skip
noncomputable def qq4 (X : Code) : Code := match tl 13 qRnd with
  | .seq a0 (.seq a1 (.seq a2 (_))) => .seq a0 (.seq a1 (.seq a2 (X)))
  | _ => .skip
noncomputable def qq5 (X : Code) : Code := match tl 16 qRnd with
  | .seq a0 (.seq a1 (.seq a2 (_))) => .seq a0 (.seq a1 (.seq a2 (X)))
  | _ => .skip
noncomputable def qq6 (X : Code) : Code := match tl 19 qRnd with
  | .seq a0 (.seq a1 (.seq a2 (_))) => .seq a0 (.seq a1 (.seq a2 (X)))
  | _ => .skip
noncomputable def qq7 (X : Code) : Code := match tl 22 qRnd with
  | .seq a0 (_) => .seq a0 (X)
  | _ => .skip
noncomputable def qq8 (X : Code) : Code := match tl 23 qRnd with
  | .seq a0 (_) => .seq a0 (X)
  | _ => .skip
noncomputable def qq9 (X : Code) : Code := match tl 24 qRnd with
  | .seq a0 (.seq a1 (.seq a2 (.seq a3 (_)))) => .seq a0 (.seq a1 (.seq a2 (.seq a3 (X))))
  | _ => .skip
noncomputable def qq10 (X : Code) : Code := match tl 28 qRnd with
  | .seq a0 (_) => .seq a0 (X)
  | _ => .skip
noncomputable def qq11 : Code := tl 29 qRnd
theorem qRnd_split : qRnd = qq0 (qq1 (qq2 (qq3 (qq4 (qq5 (qq6 (qq7 (qq8 (qq9 (qq10 qq11)))))))))) := rfl
noncomputable def qL1W (r : Code) : Code := match qL1 with
  | .seq a (.block i (.loop (.seq x (.seq (.block j _) y)))) => .seq a (.block i (.loop (.seq x (.seq (.block j r) y))))
  | _ => .skip
theorem qL1_split : qL1 = qL1W qRnd := rfl
noncomputable def qL4 : Code := hd (tl 4 qBody)
noncomputable def qL5 : Code := hd (tl 5 qBody)
noncomputable def qR58 : Code := hd (tl 6 qBody)
noncomputable def qL7 : Code := hd (tl 7 qBody)
noncomputable def qL8 : Code := hd (tl 8 qBody)
noncomputable def qEnd : Code := tl 9 qBody
noncomputable def qW (l1 l4 l5 r58 l7 l8 e : Code) : Code := match qBody with
  | .seq a0 (.seq a1 (.seq a2 _)) => .seq a0 (.seq a1 (.seq a2 (.seq l1 (.seq l4 (.seq l5 (.seq r58 (.seq l7 (.seq l8 e))))))))
  | _ => .skip
theorem q_split : Tryd.f21.body = some (qW qL1 qL4 qL5 qR58 qL7 qL8 qEnd) := rfl
end Go.Proofs.YtlblllghgdfpoaaDoor

namespace Go.Proofs.YtlblllghgdfpoaaDoor
open Go.RowKit

set_option maxRecDepth 100000 in
theorem frame228 {tm : Array Value} (h : tm.size = 228) : ∃ u : Nat → Value, tm = #[u 0, u 1, u 2, u 3, u 4, u 5, u 6, u 7, u 8, u 9, u 10, u 11, u 12, u 13, u 14, u 15, u 16, u 17, u 18, u 19, u 20, u 21, u 22, u 23, u 24, u 25, u 26, u 27, u 28, u 29, u 30, u 31, u 32, u 33, u 34, u 35, u 36, u 37, u 38, u 39, u 40, u 41, u 42, u 43, u 44, u 45, u 46, u 47, u 48, u 49, u 50, u 51, u 52, u 53, u 54, u 55, u 56, u 57, u 58, u 59, u 60, u 61, u 62, u 63, u 64, u 65, u 66, u 67, u 68, u 69, u 70, u 71, u 72, u 73, u 74, u 75, u 76, u 77, u 78, u 79, u 80, u 81, u 82, u 83, u 84, u 85, u 86, u 87, u 88, u 89, u 90, u 91, u 92, u 93, u 94, u 95, u 96, u 97, u 98, u 99, u 100, u 101, u 102, u 103, u 104, u 105, u 106, u 107, u 108, u 109, u 110, u 111, u 112, u 113, u 114, u 115, u 116, u 117, u 118, u 119, u 120, u 121, u 122, u 123, u 124, u 125, u 126, u 127, u 128, u 129, u 130, u 131, u 132, u 133, u 134, u 135, u 136, u 137, u 138, u 139, u 140, u 141, u 142, u 143, u 144, u 145, u 146, u 147, u 148, u 149, u 150, u 151, u 152, u 153, u 154, u 155, u 156, u 157, u 158, u 159, u 160, u 161, u 162, u 163, u 164, u 165, u 166, u 167, u 168, u 169, u 170, u 171, u 172, u 173, u 174, u 175, u 176, u 177, u 178, u 179, u 180, u 181, u 182, u 183, u 184, u 185, u 186, u 187, u 188, u 189, u 190, u 191, u 192, u 193, u 194, u 195, u 196, u 197, u 198, u 199, u 200, u 201, u 202, u 203, u 204, u 205, u 206, u 207, u 208, u 209, u 210, u 211, u 212, u 213, u 214, u 215, u 216, u 217, u 218, u 219, u 220, u 221, u 222, u 223, u 224, u 225, u 226, u 227] := by
  refine ⟨fun i => tm.getD i undef, ?_⟩
  have e : tm = ((List.range 228).map fun i => tm.getD i undef).toArray := by
    apply Array.ext
    · simp [h]
    · intro i h1 h2
      simp [Array.getD, h1]
  exact e.trans rfl
noncomputable def bBody : Code := match Tryd.f3.body with
  | some c => c
  | _ => .skip
noncomputable def bL : Code := hd (tl 4 bBody)
noncomputable def bRnd : Code := match bL with
  | .seq _ (.block _ (.loop (.seq _ (.seq (.block _ r) _)))) => r
  | _ => .skip
noncomputable def bb0 (X : Code) : Code := match tl 0 bRnd with
  | .seq a0 (.seq a1 (.seq a2 (_))) => .seq a0 (.seq a1 (.seq a2 (X)))
  | _ => .skip
noncomputable def bb1 (X : Code) : Code := match tl 3 bRnd with
  | .seq a0 (.seq a1 (.seq a2 (.seq a3 (.seq a4 (_))))) => .seq a0 (.seq a1 (.seq a2 (.seq a3 (.seq a4 (X)))))
  | _ => .skip
noncomputable def bb2 (X : Code) : Code := match tl 8 bRnd with
  | .seq a0 (_) => .seq a0 (X)
  | _ => .skip
noncomputable def bb3 (X : Code) : Code := match tl 9 bRnd with
  | .seq a0 (.seq a1 (_)) => .seq a0 (.seq a1 (X))
  | _ => .skip
noncomputable def bb4 (X : Code) : Code := match tl 11 bRnd with
  | .seq a0 (_) => .seq a0 (X)
  | _ => .skip
noncomputable def bb5 (X : Code) : Code := match tl 12 bRnd with
  | .seq a0 (_) => .seq a0 (X)
  | _ => .skip
noncomputable def bb6 (X : Code) : Code := match tl 13 bRnd with
  | .seq a0 (.seq a1 (_)) => .seq a0 (.seq a1 (X))
  | _ => .skip
noncomputable def bb7 : Code := tl 15 bRnd
theorem bRnd_split : bRnd = bb0 (bb1 (bb2 (bb3 (bb4 (bb5 (bb6 bb7)))))) := rfl
noncomputable def bLW (r : Code) : Code := match bL with
  | .seq a (.block i (.loop (.seq x (.seq (.block j _) y)))) => .seq a (.block i (.loop (.seq x (.seq (.block j r) y))))
  | _ => .skip
theorem bL_split : bL = bLW bRnd := rfl
noncomputable def bEnd : Code := tl 5 bBody
noncomputable def bW (l e : Code) : Code := match bBody with
  | .seq a0 (.seq a1 (.seq a2 (.seq a3 _))) => .seq a0 (.seq a1 (.seq a2 (.seq a3 (.seq l e))))
  | _ => .skip
theorem b_split : Tryd.f3.body = some (bW bL bEnd) := rfl
end Go.Proofs.YtlblllghgdfpoaaDoor

namespace Go.Proofs.YtlblllghgdfpoaaDoor
open Go.RowKit
attribute [local go_sem ↓] Go.wp_at_zero Go.wp_at_succ

set_option maxRecDepth 100000 in
set_option maxHeartbeats 4000000 in
theorem b1_any {b i : Nat} {w : World} {p0 vo vp vf : Value} {zd : Int} {pl : List (List Nat)} {DL RL SL : List Nat} {tm : Array Value} {X : Code} {Q : Exit → Act → World → Prop} (h1 : Calls Tryd.prog 8 #[vf] w fun e w' => ∃ v', e = .returned (.tuple #[v', .int .i64 0]) ∧ (∃ us, OwnBA w.heap.size w' v' us pl) ∧ Below w.heap.size w w') (h2 : ∀ w1, Below w.heap.size w w1 → Calls Tryd.prog 9 #[.string ⟨#[120]⟩, vp] w1 fun e w' => ∃ v', e = .returned (.tuple #[v', .int .i64 zd]) ∧ Bytes w1.heap.size w' v' DL ∧ Below w1.heap.size w1 w') (h3 : ∀ w1, Below w.heap.size w w1 → Calls Tryd.prog 10 #[vp] w1 fun e w' => ∃ v', e = .returned (.tuple #[v', .int .i64 0]) ∧ Bytes w1.heap.size w' v' RL ∧ Below w1.heap.size w1 w') (h4 : ∀ w1, Below w.heap.size w w1 → Calls Tryd.prog 11 #[vf] w1 fun e w' => ∃ v', e = .returned v' ∧ Bytes w1.heap.size w' v' SL ∧ Below w1.heap.size w1 w') (hsz : tm.size = 228) (hchk : chk tm [(0, p0), (3, .pointer (some ⟨b, 0, none⟩)), (4, vo), (5, .int .i64 (i : Int)), (6, vp), (7, vf)])
    (hX : ∀ (vl vd vr vs vt : Value) (usl : List Value) (w' : World) (z1 z2 z3 z4 z5 : Nat) (tm' : Array Value), tm'.size = 228 → chk tm' [(0, p0), (3, .pointer (some ⟨b, 0, none⟩)), (4, vo), (5, .int .i64 (i : Int)), (6, vp), (7, vf), (9, vl), (10, .int .i64 0), (11, vd), (12, .int .i64 zd), (13, vr), (14, .int .i64 0), (15, vs), (16, vt)] → Below w.heap.size w w' → OwnBA w.heap.size w' vl usl pl → (∀ q, vl.ownBlock = some q ∨ InB usl q → w.heap.size ≤ q ∧ q < z1) → Bytes z1 w' vd DL → (∀ q, vd.ownBlock = some q → q < z2) → Bytes z2 w' vr RL → (∀ q, vr.ownBlock = some q → q < z3) → Bytes z3 w' vs SL → (∀ q, vs.ownBlock = some q → q < z4) → Bytes z4 w' vt SL → (∀ q, vt.ownBlock = some q → q < z5) → w.heap.size ≤ z1 ∧ z1 ≤ z2 ∧ z2 ≤ z3 ∧ z3 ≤ z4 ∧ z4 ≤ z5 ∧ z5 ≤ w'.heap.size → X.wp Tryd.prog Q { tmps := tm', defers := [] } w') :
    (bb1 X).wp Tryd.prog Q { tmps := tm, defers := [] } w := by
  have HX := hide hX
  have H1 := hide h1
  have H2 := hide h2
  have H3 := hide h3
  have H4 := hide h4
  clear hX h1 h2 h3 h4
  obtain ⟨u, rfl⟩ := frame228 hsz
  obtain ⟨e0, e3, e4, e5, e6, e7, _⟩ := hchk
  replace e0 : u 0 = p0 := Option.some.inj e0
  replace e3 : u 3 = .pointer (some ⟨b, 0, none⟩) := Option.some.inj e3
  replace e4 : u 4 = vo := Option.some.inj e4
  replace e5 : u 5 = .int .i64 (i : Int) := Option.some.inj e5
  replace e6 : u 6 = vp := Option.some.inj e6
  replace e7 : u 7 = vf := Option.some.inj e7
  rw [e0, e3, e4, e5, e6, e7]
  clear e0 e3 e4 e5 e6 e7
  unfold bb1
  dsimp only [tl, bRnd, bL, hd, bBody, Tryd.f3]
  go_wp2_with fail
  refine (unhide H1).mono ?_
  rintro e w1 ⟨vl, rfl, ⟨usl, hl⟩, hb1⟩
  have HL := hide hl
  have Hb1 := hide hb1
  clear hl hb1 H1
  go_wp2_with fail
  refine (unhide H2 _ (unhide Hb1)).mono ?_
  rintro e w2 ⟨vd, rfl, hf, hb1⟩
  have HD := hide hf
  have Hc2 := hide hb1
  have Hb2 : Hid (Below w.heap.size w w2) := (unhide Hb1).trans (hb1.mono (unhide Hb1).size)
  clear hf hb1
  go_wp2_with fail
  refine (unhide H3 _ (unhide Hb2)).mono ?_
  rintro e w3 ⟨vr, rfl, hf, hb1⟩
  have HR := hide hf
  have Hc3 := hide hb1
  have Hb3 : Hid (Below w.heap.size w w3) := (unhide Hb2).trans (hb1.mono (unhide Hb2).size)
  clear hf hb1
  go_wp2_with fail
  refine (unhide H4 _ (unhide Hb3)).mono ?_
  rintro e w4 ⟨vs, rfl, hf, hb1⟩
  have HS := hide hf
  have Hc4 := hide hb1
  have Hb4 : Hid (Below w.heap.size w w4) := (unhide Hb3).trans (hb1.mono (unhide Hb3).size)
  clear hf hb1
  go_wp2_with fail
  refine (unhide H4 _ (unhide Hb4)).mono ?_
  rintro e w5 ⟨vt, rfl, hf, hb1⟩
  have HT := hide hf
  have Hc5 := hide hb1
  have Hb5 : Hid (Below w.heap.size w w5) := (unhide Hb4).trans (hb1.mono (unhide Hb4).size)
  clear hf hb1
  go_wp2
  have k5 := unhide Hc5
  have k4 : Below w3.heap.size w3 w5 := (unhide Hc4).trans (k5.mono (unhide Hc4).size)
  have k3 : Below w2.heap.size w2 w5 := (unhide Hc3).trans (k4.mono (unhide Hc3).size)
  have k2 : Below w1.heap.size w1 w5 := (unhide Hc2).trans (k3.mono (unhide Hc2).size)
  exact unhide HX _ _ _ _ _ _ _ w1.heap.size w2.heap.size w3.heap.size w4.heap.size w5.heap.size _ rfl ⟨rfl, rfl, rfl, rfl, rfl, rfl, rfl, rfl, rfl, rfl, rfl, rfl, rfl, rfl, trivial⟩ (unhide Hb5) ((unhide HL).up k2) (fun q e => by rcases e with e | e; exact (unhide HL).bb.row.lt q e; exact (unhide HL).lb.lt e) ((unhide HD).upw2 k3) (fun q e => (World.ownsRow.lt (unhide HD) q e).2) ((unhide HR).upw2 k4) (fun q e => (World.ownsRow.lt (unhide HR) q e).2) ((unhide HS).upw2 k5) (fun q e => (World.ownsRow.lt (unhide HS) q e).2) (unhide HT) (fun q e => (World.ownsRow.lt (unhide HT) q e).2) ⟨(unhide Hb1).size, (unhide Hc2).size, (unhide Hc3).size, (unhide Hc4).size, (unhide Hc5).size, Nat.le_refl _⟩
set_option maxRecDepth 100000 in
set_option maxHeartbeats 4000000 in
theorem b3_any {b i : Nat} {w : World} {p0 vo vp vf vl vd vr vs vt : Value} {tm : Array Value} {X : Code} {Q : Exit → Act → World → Prop} {hx : ByteArray} {SL : List Nat} (h1 : Calls Tryd.prog 15 #[vs] w fun e w' => e = .returned (.string hx) ∧ Below w.heap.size w w') (h2 : ∀ w1, Calls Tryd.prog 14 #[.string hx] w1 fun e w' => ∃ v', e = .returned (.tuple #[v', .int .i64 0]) ∧ Bytes w1.heap.size w' v' SL ∧ Below w1.heap.size w1 w') (h3 : ∀ w1 v', Below w.heap.size w w1 → HasB w1 v' SL → Calls Tryd.prog 13 #[v', vs] w1 fun e w' => e = .returned (.bool true) ∧ w' = w1) (hsz : tm.size = 228) (hchk : chk tm [(0, p0), (3, .pointer (some ⟨b, 0, none⟩)), (4, vo), (5, .int .i64 (i : Int)), (6, vp), (7, vf), (9, vl), (11, vd), (13, vr), (15, vs), (16, vt)])
    (hX : ∀ (vu : Value) (w' : World) (z : Nat) (tm' : Array Value), tm'.size = 228 → chk tm' [(0, p0), (3, .pointer (some ⟨b, 0, none⟩)), (4, vo), (5, .int .i64 (i : Int)), (6, vp), (7, vf), (9, vl), (11, vd), (13, vr), (15, vs), (16, vt), (17, vu)] → Below w.heap.size w w' → Bytes z w' vu SL → w.heap.size ≤ z → X.wp Tryd.prog Q { tmps := tm', defers := [] } w') :
    (bb3 X).wp Tryd.prog Q { tmps := tm, defers := [] } w := by
  have HX := hide hX
  have H1 := hide h1
  have H2 := hide h2
  have H3 := hide h3
  clear hX h1 h2 h3
  obtain ⟨u, rfl⟩ := frame228 hsz
  obtain ⟨e0, e3, e4, e5, e6, e7, e9, e11, e13, e15, e16, _⟩ := hchk
  replace e0 : u 0 = p0 := Option.some.inj e0
  replace e3 : u 3 = .pointer (some ⟨b, 0, none⟩) := Option.some.inj e3
  replace e4 : u 4 = vo := Option.some.inj e4
  replace e5 : u 5 = .int .i64 (i : Int) := Option.some.inj e5
  replace e6 : u 6 = vp := Option.some.inj e6
  replace e7 : u 7 = vf := Option.some.inj e7
  replace e9 : u 9 = vl := Option.some.inj e9
  replace e11 : u 11 = vd := Option.some.inj e11
  replace e13 : u 13 = vr := Option.some.inj e13
  replace e15 : u 15 = vs := Option.some.inj e15
  replace e16 : u 16 = vt := Option.some.inj e16
  rw [e0, e3, e4, e5, e6, e7, e9, e11, e13, e15, e16]
  clear e0 e3 e4 e5 e6 e7 e9 e11 e13 e15 e16
  unfold bb3
  dsimp only [tl, bRnd, bL, hd, bBody, Tryd.f3]
  go_wp2_with fail
  refine (unhide H1).mono ?_
  rintro e w1 ⟨rfl, hb1⟩
  have Hb1 := hide hb1
  clear hb1 H1
  go_wp2_with fail
  refine (unhide H2 _).mono ?_
  rintro e w2 ⟨vu, rfl, hu, hb2⟩
  have HU := hide hu
  have Hb2 : Hid (Below w.heap.size w w2) := (unhide Hb1).trans (hb2.mono (unhide Hb1).size)
  have H3n := hide (unhide H3 w2 vu (unhide Hb2) hu.has)
  clear hu hb2 H2 H3
  go_wp2_with fail
  refine (num_any _ _).mono ?_
  rintro e wz ⟨rfl, he⟩
  obtain rfl : w2 = wz := he.symm
  clear he
  go_wp2_with fail
  refine (unhide H3n).mono ?_
  rintro e wz ⟨rfl, he⟩
  obtain rfl : w2 = wz := he.symm
  clear he
  go_wp2
  exact unhide HX _ _ _ _ rfl ⟨rfl, rfl, rfl, rfl, rfl, rfl, rfl, rfl, rfl, rfl, rfl, rfl, trivial⟩ (unhide Hb2) (unhide HU) (unhide Hb1).size
end Go.Proofs.YtlblllghgdfpoaaDoor
