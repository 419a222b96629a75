import Derived.Test.YtkkbccdjbgjjaaaDoorSOA

namespace Go.Proofs.YtkkbccdjbgjjaaaDoor
open Go.RowKit
attribute [local go_sem ↓] Go.wp_at_zero Go.wp_at_succ

/-- Between two rounds of a loop that counts (frames of 199). -/
def CntS (R : Nat → World → Prop) (n : Nat) (L : Nat → List (Nat × Value)) (m : Nat) (a : Act) (w : World) : Prop := ∃ (tm : Array Value) (i : Nat), a = ⟨tm, []⟩ ∧ tm.size = 199 ∧ chk tm (L i) ∧ m = n - i ∧ i ≤ n ∧ R i w
theorem kept_far {w w' : World} {row : Option Nat} (hg : w.grownBy w' row) {b i : Nat} {v : Value} (h : w.cell? ⟨b, i, none⟩ = some v) (hne : some b ≠ row) : w'.cell? ⟨b, i, none⟩ = some v := (World.cell?_of_block (a := ⟨b, i, none⟩) (hg.block b (lt_of_cell h) hne)).trans h
set_option maxRecDepth 100000 in
set_option maxHeartbeats 4000000 in
theorem inB_any {W : World} {p0 p4 p5 p11 : Value} {B g3 c3 i : Nat} {ys : List (Value × List Tk)} {y : Value × List Tk} (hA : Al B W (.slice (some ⟨g3, 0, none⟩) ys.length c3) ys) (hy : ys[i]? = some y) (hl20 : ys.length ≤ 20)
    {tm : Array Value} (hsz : tm.size = 199) (hchk : chk tm [(0, p0), (3, .slice (some ⟨g3, 0, none⟩) ys.length c3), (4, p4), (5, p5), (11, p11), (14, .int .i64 (i : Int))]) {Q : Exit → Act → World → Prop}
    (hQ : ∀ W', RowT B W' y.1 (mkA i y.2.length) → W.grownBy W' y.1.ownBlock → ∀ tm : Array Value, tm.size = 199 → chk tm [(0, p0), (3, .slice (some ⟨g3, 0, none⟩) ys.length c3), (4, p4), (5, p5), (11, p11), (14, .int .i64 (i : Int))] → Q .normal { tmps := tm, defers := [] } W') :
    (ckOne oB).wp Tryd.prog Q { tmps := tm, defers := [] } W := by
  obtain ⟨yv, ks⟩ := y
  have hm : (yv, ks) ∈ ys := List.mem_of_getElem? hy
  obtain ⟨h1, h2, h3⟩ := hA.each _ hm
  obtain ⟨g, c, e⟩ := h1.pos h2
  simp only at e h1 h2 h3 hQ
  subst e
  have hil : i < ys.length := (List.getElem?_eq_some_iff.1 hy).1
  have hne : g3 ≠ g := fun e => hA.ne _ hm (by rw [e]; rfl)
  have hcell := hA.cell hy
  simp only at hcell
  obtain ⟨L, hL⟩ : ∃ L, ks.length = L := ⟨_, rfl⟩
  rw [hL] at h1 h2 h3 hQ hcell
  have HQ := hide hQ
  have H1 := hide h1
  have HL := hide hL
  have Hcell := hide hcell
  have Hne := hide hne
  obtain ⟨x, rfl⟩ := frame199 hsz
  obtain ⟨e0, e3, e4, e5, e11, e14, _⟩ := hchk
  replace e0 : x 0 = p0 := Option.some.inj e0
  replace e3 : x 3 = .slice (some ⟨g3, 0, none⟩) ys.length c3 := Option.some.inj e3
  replace e4 : x 4 = p4 := Option.some.inj e4
  replace e5 : x 5 = p5 := Option.some.inj e5
  replace e11 : x 11 = p11 := Option.some.inj e11
  replace e14 : x 14 = .int .i64 (i : Int) := Option.some.inj e14
  rw [e0, e3, e4, e5, e11, e14]
  clear e0 e3 e4 e5 e11 e14
  clear hQ hA hy hm h1 hL hcell hne
  have hi0 : (0 : Int) ≤ (i : Int) := Int.natCast_nonneg _
  have hi1 : (i : Int) < (ys.length : Int) := by omega
  unfold ckOne oB owBody
  dsimp only [Tryd.f8]
  go_wp2
  refine wp_loop_count (CntS (fun k w => RowT B w (.slice (some ⟨g, 0, none⟩) L c) (mkA i k ++ ks.drop k) ∧ W.grownBy w (some g)) L (fun k => [(0, p0), (3, .slice (some ⟨g3, 0, none⟩) ys.length c3), (4, p4), (5, p5), (11, p11), (14, .int .i64 (i : Int)), (15, .int .i64 (k : Int))])) ?_ L _ _ ⟨_, 0, rfl, rfl, ⟨rfl, rfl, rfl, rfl, rfl, rfl, rfl, trivial⟩, rfl, Nat.zero_le _, by simpa [mkA] using unhide H1, World.grownBy.refl _ _⟩
  rintro m _ wr ⟨tm, k, rfl, hsz, hchk, hm, hk, hR, hG⟩
  obtain ⟨u, rfl⟩ := frame199 hsz
  obtain ⟨e0, e3, e4, e5, e11, e14, e15, _⟩ := hchk
  replace e0 : u 0 = p0 := Option.some.inj e0
  replace e3 : u 3 = .slice (some ⟨g3, 0, none⟩) ys.length c3 := Option.some.inj e3
  replace e4 : u 4 = p4 := Option.some.inj e4
  replace e5 : u 5 = p5 := Option.some.inj e5
  replace e11 : u 11 = p11 := Option.some.inj e11
  replace e14 : u 14 = .int .i64 (i : Int) := Option.some.inj e14
  replace e15 : u 15 = .int .i64 (k : Int) := Option.some.inj e15
  rw [e0, e3, e4, e5, e11, e14, e15]
  clear e0 e3 e4 e5 e11 e14 e15
  have Hm := hide hm
  have c3' := kept_far hG (unhide Hcell) (fun e => unhide Hne (by simpa using e))
  clear hm
  by_cases hlt : k < L
  · have hl2 : k < ks.length := by have := unhide HL; omega
    obtain ⟨x, hx⟩ : ∃ x, (mkA i k ++ ks.drop k)[k]? = some x := ⟨_, List.getElem?_eq_getElem (by simp [mkA]; omega)⟩
    obtain ⟨y1, y2, y3⟩ := hR.cell hx
    have f1 := hR.frozenAt (k * 3)
    have f2 := hR.frozenAt (k * 3 + 1)
    have f3 := hR.frozenAt (k * 3 + 2)
    obtain ⟨r1, r2⟩ := hR.set k ⟨7000 + (i : Int), (k : Int), ⟨#[]⟩⟩
    rw [mkA_step hl2] at r1
    have R1 := hide r1
    have R2 := hide (hG.trans r2)
    have hk0 : (0 : Int) ≤ (k : Int) := Int.natCast_nonneg _
    have hk1 : (k : Int) < (L : Int) := by omega
    have hd : decide ((k : Int) < (L : Int)) = true := by simp; omega
    clear hx r1 r2 hR hG
    go_wp2
    exact ⟨L - (k + 1), by have := unhide Hm; omega, _, k + 1, rfl, rfl, ⟨rfl, rfl, rfl, rfl, rfl, rfl, rfl, trivial⟩, rfl, by omega, unhide R1, unhide R2⟩
  · obtain rfl : k = L := by omega
    have hd : decide ((k : Int) < (k : Int)) = false := by simp
    have Hx : Hid (RowT B wr (.slice (some ⟨g, 0, none⟩) k c) (mkA i k)) := by
      have := hR
      rw [List.drop_eq_nil_of_le (by have := unhide HL; omega), List.append_nil] at this
      exact this
    have HG := hide hG
    clear hR hG
    go_wp2
    exact unhide HQ _ (unhide Hx) (unhide HG) _ rfl ⟨rfl, rfl, rfl, rfl, rfl, rfl, trivial⟩
/-- Between two rounds of the filling. -/
def BJ (W : World) (B : Nat) (v3 : Value) (zs : List (Value × List Tk)) (L : Nat → List (Nat × Value)) (m : Nat) (a : Act) (w : World) : Prop := ∃ (tm : Array Value) (i : Nat) (ys : List (Value × List Tk)), a = ⟨tm, []⟩ ∧ tm.size = 199 ∧ chk tm (L i) ∧ m = zs.length - i ∧ i ≤ zs.length ∧ Al B w v3 ys ∧ ys.length = zs.length ∧ ys.map (·.1) = zs.map (·.1) ∧ (∀ j y, j < i → ys[j]? = some y → y.2 = mkA j y.2.length) ∧ FarV (zs.map (·.1)) W w
set_option maxRecDepth 100000 in
set_option maxHeartbeats 4000000 in
theorem oB_any {W : World} {p0 p4 p5 p11 : Value} {B g3 c3 n3 : Nat} {zs : List (Value × List Tk)} (hA : Al B W (.slice (some ⟨g3, 0, none⟩) n3 c3) zs) (hn3 : zs.length = n3) (hl20 : n3 ≤ 20)
    {tm : Array Value} (hsz : tm.size = 199) (hchk : chk tm [(0, p0), (3, .slice (some ⟨g3, 0, none⟩) n3 c3), (4, p4), (5, p5), (11, p11)]) {Q : Exit → Act → World → Prop}
    (hQ : ∀ W' (ys : List (Value × List Tk)), Al B W' (.slice (some ⟨g3, 0, none⟩) n3 c3) ys → ys.length = n3 → ys.map (·.1) = zs.map (·.1) → (∀ j y, ys[j]? = some y → y.2 = mkA j y.2.length) → FarV (zs.map (·.1)) W W' → ∀ tm : Array Value, tm.size = 199 → chk tm [(0, p0), (3, .slice (some ⟨g3, 0, none⟩) n3 c3), (4, p4), (5, p5), (11, p11)] → Q .normal { tmps := tm, defers := [] } W') :
    oB.wp Tryd.prog Q { tmps := tm, defers := [] } W := by
  have HQ := hide hQ
  have HA := hide hA
  have Hn3 := hide hn3
  obtain ⟨x, rfl⟩ := frame199 hsz
  obtain ⟨e0, e3, e4, e5, e11, _⟩ := hchk
  replace e0 : x 0 = p0 := Option.some.inj e0
  replace e3 : x 3 = .slice (some ⟨g3, 0, none⟩) n3 c3 := Option.some.inj e3
  replace e4 : x 4 = p4 := Option.some.inj e4
  replace e5 : x 5 = p5 := Option.some.inj e5
  replace e11 : x 11 = p11 := Option.some.inj e11
  rw [e0, e3, e4, e5, e11]
  clear e0 e3 e4 e5 e11
  clear hQ hA hn3
  rw [oB_split]
  obtain ⟨t, ht⟩ : ∃ t, ckOne oB = t := ⟨_, rfl⟩
  rw [ht]
  unfold ckWith oB owBody
  dsimp only [Tryd.f8]
  go_wp2
  refine wp_loop_count (BJ W B (.slice (some ⟨g3, 0, none⟩) n3 c3) zs (fun i => [(0, p0), (3, .slice (some ⟨g3, 0, none⟩) n3 c3), (4, p4), (5, p5), (11, p11), (14, .int .i64 (i : Int))])) ?_ zs.length _ _ ⟨_, 0, zs, rfl, rfl, ⟨rfl, rfl, rfl, rfl, rfl, rfl, trivial⟩, rfl, Nat.zero_le _, unhide HA, rfl, rfl, fun j y h => by omega, FarV.refl _ _⟩
  rintro m _ wr ⟨tm, i, ys, rfl, hsz, hchk, hm, hi, hA, hyl, hym, hyf, hF⟩
  obtain ⟨u, rfl⟩ := frame199 hsz
  obtain ⟨e0, e3, e4, e5, e11, e14, _⟩ := hchk
  replace e0 : u 0 = p0 := Option.some.inj e0
  replace e3 : u 3 = .slice (some ⟨g3, 0, none⟩) n3 c3 := Option.some.inj e3
  replace e4 : u 4 = p4 := Option.some.inj e4
  replace e5 : u 5 = p5 := Option.some.inj e5
  replace e11 : u 11 = p11 := Option.some.inj e11
  replace e14 : u 14 = .int .i64 (i : Int) := Option.some.inj e14
  rw [e0, e3, e4, e5, e11, e14]
  clear e0 e3 e4 e5 e11 e14
  rw [unhide Hn3] at hm hi hyl
  have Hm := hide hm
  have HA' := hide hA
  have Hym := hide hym
  have Hyf := hide hyf
  have HF := hide hF
  have Hyl := hide hyl
  clear hm hA hym hyf hF hyl
  by_cases hlt : i < n3
  · have hd : decide ((i : Int) < (n3 : Int)) = true := by simp; omega
    obtain ⟨y, hy⟩ : ∃ y, ys[i]? = some y := ⟨_, List.getElem?_eq_getElem (by have := unhide Hyl; omega)⟩
    have Hy := hide hy
    clear hy
    go_wp2
    rw [← ht]
    have hA2 := unhide HA'
    have hel := unhide Hyl
    rw [← hel] at hA2
    refine inB_any hA2 (unhide Hy) (by omega) rfl (by rw [hel]; exact ⟨rfl, rfl, rfl, rfl, rfl, rfl, trivial⟩) ?_
    intro W' r1 r2 tm hsz hchk
    rw [hel] at hchk
    have HA3 := hide ((unhide HA').set (unhide Hy) r2 r1 (mkA_len _ _))
    have HF3 := hide ((unhide HF).step (by rw [← unhide Hym]; exact List.mem_map.2 ⟨y, List.mem_of_getElem? (unhide Hy), rfl⟩) r2)
    clear r1 r2 hA2 hel
    obtain ⟨z, rfl⟩ := frame199 hsz
    obtain ⟨e0, e3, e4, e5, e11, e14, _⟩ := hchk
    replace e0 : z 0 = p0 := Option.some.inj e0
    replace e3 : z 3 = .slice (some ⟨g3, 0, none⟩) n3 c3 := Option.some.inj e3
    replace e4 : z 4 = p4 := Option.some.inj e4
    replace e5 : z 5 = p5 := Option.some.inj e5
    replace e11 : z 11 = p11 := Option.some.inj e11
    replace e14 : z 14 = .int .i64 (i : Int) := Option.some.inj e14
    rw [e0, e3, e4, e5, e11, e14]
    clear e0 e3 e4 e5 e11 e14
    go_wp2
    refine ⟨n3 - (i + 1), by have := unhide Hm; omega, _, i + 1, ys.set i (y.1, mkA i y.2.length), rfl, rfl, ⟨rfl, rfl, rfl, rfl, rfl, rfl, trivial⟩, by rw [unhide Hn3], by rw [unhide Hn3]; omega, unhide HA3, by rw [List.length_set, unhide Hyl, unhide Hn3], by rw [set_map (unhide Hy)]; exact unhide Hym, ?_, unhide HF3⟩
    intro j x hj hx
    rw [List.getElem?_set] at hx
    split at hx
    · next e =>
      subst e
      have hil : i < ys.length := by have := unhide Hyl; omega
      rw [if_pos hil] at hx
      obtain rfl := Option.some.inj hx
      simp only [mkA_len]
    · exact unhide Hyf j x (by omega) hx
  · obtain rfl : i = n3 := by omega
    have hd : decide ((i : Int) < (i : Int)) = false := by simp
    go_wp2
    exact unhide HQ _ ys (unhide HA') (unhide Hyl) (unhide Hym) (fun j y hj => unhide Hyf j y (by have := (List.getElem?_eq_some_iff.1 hj).1; have := unhide Hyl; omega) hj) (unhide HF) _ rfl ⟨rfl, rfl, rfl, rfl, rfl, trivial⟩
end Go.Proofs.YtkkbccdjbgjjaaaDoor

namespace Go.Proofs.YtkkbccdjbgjjaaaDoor
open Go.RowKit
attribute [local go_sem ↓] Go.wp_at_zero Go.wp_at_succ

/-- The longer lists. -/
structure Mz (B Bm : Nat) (w : World) (v16 : Value) (ys : List (Value × List Tk)) (ms : List Value) : Prop where
  row : w.ownsRow Bm 25 1 v16 ms.length ms
  each : ∀ (j : Nat) (m : Value) (y : Value × List Tk), ms[j]? = some m → ys[j]? = some y → RowT B w m (y.2 ++ mkM j 96)
  sep : ∀ (j : Nat) (m : Value), ms[j]? = some m → m.ownBlock ≠ v16.ownBlock ∧ ∀ (j' : Nat) (y : Value × List Tk), ys[j']? = some y → y.1.ownBlock = m.ownBlock → j' = j
  le : ms.length ≤ ys.length
theorem Mz.kept {B Bm : Nat} {w w' : World} {v16 : Value} {ys : List (Value × List Tk)} {ms : List Value} {row : Option Nat} (h : Mz B Bm w v16 ys ms) (hg : w.grownBy w' row) (h16 : v16.ownBlock = none ∨ v16.ownBlock ≠ row) (hm : ∀ (j : Nat) (m : Value), ms[j]? = some m → m.ownBlock ≠ row) : Mz B Bm w' v16 ys ms :=
  ⟨h.row.kept hg h16, fun j m y hj hy => (h.each j m y hj hy).kept hg (.inr (hm j m hj)), h.sep, h.le⟩
theorem Mz.form {B Bm : Nat} {w : World} {v16 : Value} {ys : List (Value × List Tk)} {ms : List Value} (h : Mz B Bm w v16 ys ms) : ∃ a c, v16 = .slice a ms.length c := by
  rcases h.row.2 with ⟨rfl, h0⟩ | ⟨g, cap, _, rfl, _⟩
  · exact ⟨_, _, by rw [h0]⟩
  · exact ⟨_, _, rfl⟩
theorem grown_two {W w w' : World} {r1 r2 : Option Nat} (h : W.grownBy w r1) (k : w.grownBy w' r2) (hr : r2 = r1 ∨ ∃ b, r2 = some b ∧ W.heap.size ≤ b) : W.grownBy w' r1 :=
  ⟨k.os.trans h.os, k.tape.trans h.tape, k.output.trans h.output, Nat.le_trans h.size k.size, fun i hi hne => (k.block i (Nat.lt_of_lt_of_le hi h.size) (fun e => by
    rcases hr with q | ⟨b, q, q2⟩
    · exact hne (e.trans q)
    · rw [q] at e
      simp at e
      omega)).trans (h.block i hi hne)⟩
/-- Between two appends. -/
def CIJ (W : World) (B i : Nat) (yv : Value) (ks : List Tk) (C : Value → Nat → List (Nat × Value)) (m : Nat) (a : Act) (w : World) : Prop := ∃ (tm : Array Value) (k : Nat) (gv : Value), a = ⟨tm, []⟩ ∧ tm.size = 199 ∧ chk tm (C gv k) ∧ m = 96 - k ∧ k ≤ 96 ∧ RowT B w gv (ks ++ mkM i k) ∧ RowT B w yv ks ∧ (gv.ownBlock = yv.ownBlock ∨ ∃ b, gv.ownBlock = some b ∧ W.heap.size ≤ b) ∧ W.grownBy w yv.ownBlock
theorem one_tok (w : World) (t : Tk) (ty : TypeId) : ∀ j u, (kcells [t])[j]? = some u → (w.alloc (.cells #[.int .i64 t.kind, .int .i64 t.spot, .string t.text] ty)).cell? ((⟨w.heap.size, 0, none⟩ : Addr).add j) = some u := three_new w t ty
/-- One append more. -/
theorem step_cij {W w w' : World} {B i k gg cg g' c' L : Nat} {yv : Value} {ks : List Tk} {ob : Obj} (hL : ks.length = L) (hp : 0 < L) (h1 : RowT B w (.slice (some ⟨gg, 0, none⟩) (L + k) cg) (ks ++ mkM i k)) (h2 : RowT B w yv ks) (h3 : (Value.slice (some ⟨gg, 0, none⟩) (L + k) cg).ownBlock = yv.ownBlock ∨ ∃ b, (Value.slice (some ⟨gg, 0, none⟩) (L + k) cg).ownBlock = some b ∧ W.heap.size ≤ b) (h4 : W.grownBy w yv.ownBlock) (hyv : ∀ b, yv.ownBlock = some b → b < W.heap.size)
    (o1 : w'.ownsRow B 31 3 (.slice (some ⟨g', 0, none⟩) (L + k + 1) c') (L + k + 1) (kcells (ks ++ mkM i k) ++ kcells [⟨-1 - (i : Int), (k : Int), ⟨#[]⟩⟩])) (o2 : w'.ownsRow B 31 3 (.slice (some ⟨gg, 0, none⟩) (L + k) cg) (L + k) (kcells (ks ++ mkM i k))) (o3 : (w.alloc ob).grownBy w' (some gg)) (o4 : some gg = some g' ∨ (w.alloc ob).heap.size ≤ g') :
    RowT B w' (.slice (some ⟨g', 0, none⟩) (L + k + 1) c') (ks ++ mkM i (k + 1)) ∧ RowT B w' yv ks ∧ ((Value.slice (some ⟨g', 0, none⟩) (L + k + 1) c').ownBlock = yv.ownBlock ∨ ∃ b, (Value.slice (some ⟨g', 0, none⟩) (L + k + 1) c').ownBlock = some b ∧ W.heap.size ≤ b) ∧ W.grownBy w' yv.ownBlock := by
  have hgr := grown_alloc o3
  have hs := h4.size
  refine ⟨?_, ?_, ?_, grown_two h4 hgr h3⟩
  · unfold RowT
    rw [mkM_succ, ← List.append_assoc, kcells_app (ks ++ mkM i k)]
    have e : (ks ++ mkM i k ++ [(⟨-1 - (i : Int), (k : Int), ⟨#[]⟩⟩ : Tk)]).length = L + k + 1 := by simp [mkM, hL]; omega
    rw [e]
    exact o1
  · rcases h3 with h3 | ⟨b, h3, hb⟩
    · refine row_front h2 h1 ?_ (by omega) h3
      unfold RowT
      have e : (ks ++ mkM i k).length = L + k := by simp [mkM, hL]
      rw [e]
      exact o2
    · refine h2.kept hgr (.inr fun q => ?_)
      have := hyv gg q
      obtain rfl : gg = b := by simpa [Value.ownBlock] using h3
      omega
  · rcases o4 with o4 | o4
    · obtain rfl : gg = g' := by simpa using o4
      exact h3
    · rw [World.size_alloc] at o4
      exact .inr ⟨g', rfl, by omega⟩
theorem al_same {B i : Nat} {w w' : World} {v3 : Value} {ys : List (Value × List Tk)} {y : Value × List Tk} (h : Al B w v3 ys) (hy : ys[i]? = some y) (hg : w.grownBy w' y.1.ownBlock) (hr : RowT B w' y.1 y.2) : Al B w' v3 ys :=
  ⟨h.row.kept hg (.inr fun e => h.ne y (List.mem_of_getElem? hy) e.symm), fun z hz => by
    obtain ⟨j, hj⟩ := List.mem_iff_getElem?.1 hz
    by_cases e : j = i
    · subst e
      obtain rfl : y = z := Option.some.inj (hy.symm.trans hj)
      exact ⟨hr, (h.each y hz).2⟩
    · exact ⟨(h.each z hz).1.kept hg (.inr fun q => e (h.nd j i z y hj hy q)), (h.each z hz).2⟩, h.nd, h.ne⟩
theorem al_new {B n c g3 lo : Nat} {w w' : World} {ys : List (Value × List Tk)} {row : Option Nat} (h : Al B w (.slice (some ⟨g3, 0, none⟩) n c) ys) (hg : w.grownBy w' row) (hr : ∀ k, row = some k → lo ≤ k) (hl : ∀ z ∈ ys, ∀ b, z.1.ownBlock = some b → b < lo) (h3 : g3 < lo) : Al B w' (.slice (some ⟨g3, 0, none⟩) n c) ys :=
  ⟨h.row.kept hg (.inr fun e => by have := hr g3 e.symm; omega), fun z hz => ⟨(h.each z hz).1.kept hg (own_ne fun k e q => by have h1 := hl z hz k e; have h2 := hr k q.symm; omega), (h.each z hz).2⟩, h.nd, h.ne⟩
theorem mz_far {B Bm i : Nat} {w w' : World} {v16 : Value} {ys : List (Value × List Tk)} {ms : List Value} {y : Value × List Tk} (h : Mz B Bm w v16 ys ms) (hy : ys[i]? = some y) (hml : ms.length = i) (hg : w.grownBy w' y.1.ownBlock) (hyv : ∀ b, y.1.ownBlock = some b → b < Bm) : Mz B Bm w' v16 ys ms :=
  h.kept hg (own_ne fun k e q => by have h1 := (h.row.lt k e).1; have h2 := hyv k q.symm; omega) (fun j m hj e => by
    have h1 := (h.sep j m hj).2 i y hy e.symm
    have h2 := (List.getElem?_eq_some_iff.1 hj).1
    omega)
theorem mz_push {B Bm i gg L cg : Nat} {W w w' : World} {v16 v' : Value} {ys : List (Value × List Tk)} {ms : List Value} {y : Value × List Tk} {ob : Obj} (h : Mz B Bm w v16 ys ms) (hy : ys[i]? = some y) (hml : ms.length = i) (hr : RowT B w (.slice (some ⟨gg, 0, none⟩) (L + 96) cg) (y.2 ++ mkM i 96)) (ho : (Value.slice (some ⟨gg, 0, none⟩) (L + 96) cg).ownBlock = y.1.ownBlock ∨ ∃ b, (Value.slice (some ⟨gg, 0, none⟩) (L + 96) cg).ownBlock = some b ∧ W.heap.size ≤ b)
    (hW : Bm ≤ W.heap.size) (hyv : ∀ b, y.1.ownBlock = some b → b < Bm) (hlt : ∀ z ∈ ys, ∀ b, z.1.ownBlock = some b → b < Bm) (h16 : ∀ k, v16.ownBlock = some k → k < W.heap.size) (nd : ∀ (i j : Nat) (z y : Value × List Tk), ys[i]? = some z → ys[j]? = some y → z.1.ownBlock = y.1.ownBlock → i = j)
    (hg : (w.alloc ob).grownBy w' v16.ownBlock) (hown : w'.ownsRow Bm 25 1 v' (ms.length + 1) (ms ++ [.slice (some ⟨gg, 0, none⟩) (L + 96) cg])) (hat : v'.ownBlock = v16.ownBlock ∨ v'.ownBlock = some (w.alloc ob).heap.size) : Mz B Bm w' v' ys (ms ++ [.slice (some ⟨gg, 0, none⟩) (L + 96) cg]) := by
  have hgg := grown_alloc hg
  have hgv : (Value.slice (some ⟨gg, 0, none⟩) (L + 96) cg).ownBlock = some gg := rfl
  have hne : some gg ≠ v16.ownBlock := fun e => by
    have h1 := h16 gg e.symm
    have h2 := (h.row.lt gg e.symm).1
    rcases ho with ho | ⟨b, ho, hb⟩
    · have := hyv gg ho.symm
      omega
    · obtain rfl : gg = b := by simpa [hgv] using ho
      omega
  have hall : ∀ (j : Nat) (m : Value), (ms ++ [.slice (some ⟨gg, 0, none⟩) (L + 96) cg])[j]? = some m → (ms[j]? = some m ∧ j < ms.length) ∨ (j = i ∧ m = .slice (some ⟨gg, 0, none⟩) (L + 96) cg) := by
    intro j m hj
    by_cases hl : j < ms.length
    · rw [List.getElem?_append_left hl] at hj
      exact .inl ⟨hj, hl⟩
    · have hj1 : j < ms.length + 1 := by have := (List.getElem?_eq_some_iff.1 hj).1; simpa using this
      obtain rfl : j = ms.length := by omega
      rw [List.getElem?_append_right (Nat.le_refl _)] at hj
      simp at hj
      exact .inr ⟨by omega, hj.symm⟩
  have hsz : ∀ (j : Nat) (m : Value) (y' : Value × List Tk), ms[j]? = some m → ys[j]? = some y' → ∀ b, m.ownBlock = some b → b < w.heap.size := fun j m y' hj hy' b e => (World.ownsRow.lt (h.each j m y' hj hy') b e).2
  have hyl : i < ys.length := (List.getElem?_eq_some_iff.1 hy).1
  refine ⟨by simpa using hown, fun j m y' hj hy' => ?_, fun j m hj => ⟨fun q => ?_, fun j' y' hy' e => ?_⟩, by rw [List.length_append]; simp; omega⟩
  · rcases hall j m hj with ⟨hj, _⟩ | ⟨rfl, rfl⟩
    · exact (h.each j m y' hj hy').kept hgg (.inr (h.sep j m hj).1)
    · obtain rfl : y = y' := Option.some.inj (hy.symm.trans hy')
      exact hr.kept hgg (.inr hne)
  · have hold : m.ownBlock ≠ v16.ownBlock := by
      rcases hall j m hj with ⟨hj, _⟩ | ⟨rfl, rfl⟩
      · exact (h.sep j m hj).1
      · exact hne
    rcases hat with he | he
    · exact hold (q.trans he)
    · rw [he, World.size_alloc] at q
      rcases hall j m hj with ⟨hj, hjl⟩ | ⟨rfl, rfl⟩
      · obtain ⟨y', hy'⟩ : ∃ y', ys[j]? = some y' := ⟨_, List.getElem?_eq_getElem (by omega)⟩
        have := hsz j m y' hj hy' _ q
        omega
      · have h1 := hr.lt.2
        have h2 : gg = w.heap.size + 1 := by simpa [hgv] using q
        omega
  · rcases hall j m hj with ⟨hj, _⟩ | ⟨rfl, rfl⟩
    · exact (h.sep j m hj).2 j' y' hy' e
    · rcases ho with ho | ⟨b, ho, hb⟩
      · exact nd j' j y' y hy' hy (e.trans ho)
      · have h1 := hlt y' (List.mem_of_getElem? hy') b (e.trans ho)
        omega
set_option maxRecDepth 100000 in
set_option maxHeartbeats 4000000 in
theorem inC_any {W0 W : World} {p0 p4 p5 p11 v16 : Value} {B g3 c3 n3 i : Nat} {ys : List (Value × List Tk)} {ms : List Value} {y : Value × List Tk} (hA : Al B W (.slice (some ⟨g3, 0, none⟩) n3 c3) ys) (hn3 : ys.length = n3) (hl20 : n3 ≤ 20) (hB : B ≤ W0.heap.size) (hy : ys[i]? = some y) (hM : Mz B W0.heap.size W v16 ys ms) (hml : ms.length = i) (hF : FarV (ys.map (·.1)) W0 W) (hlt0 : ∀ z ∈ ys, ∀ b, z.1.ownBlock = some b → b < W0.heap.size) (h30 : g3 < W0.heap.size)
    {tm : Array Value} (hsz : tm.size = 199) (hchk : chk tm [(0, p0), (3, .slice (some ⟨g3, 0, none⟩) n3 c3), (4, p4), (5, p5), (11, p11), (16, v16), (17, .int .i64 (i : Int))]) {Q : Exit → Act → World → Prop}
    (hQ : ∀ W' v16' gv, Al B W' (.slice (some ⟨g3, 0, none⟩) n3 c3) ys → Mz B W0.heap.size W' v16' ys (ms ++ [gv]) → FarV (ys.map (·.1)) W0 W' → ∀ tm : Array Value, tm.size = 199 → chk tm [(0, p0), (3, .slice (some ⟨g3, 0, none⟩) n3 c3), (4, p4), (5, p5), (11, p11), (16, v16'), (17, .int .i64 (i : Int))] → Q .normal { tmps := tm, defers := [] } W') :
    (ckOne oC).wp Tryd.prog Q { tmps := tm, defers := [] } W := by
  obtain ⟨i0, hi0, hz0, hz1, hz2⟩ := info_parts Tryd.infoTok
  obtain ⟨i1, qi, qz0, qz1, qz2⟩ := info_parts Tryd.infoToks
  obtain ⟨a16, c16, rfl⟩ := hM.form
  obtain ⟨yv, ks⟩ := y
  have hm : (yv, ks) ∈ ys := List.mem_of_getElem? hy
  obtain ⟨h1, h2, h3⟩ := hA.each _ hm
  have hyv := hlt0 _ hm
  obtain ⟨g, c, e⟩ := h1.pos h2
  simp only at e h1 h2 h3 hyv
  have hil : i < n3 := by rw [← hn3]; exact (List.getElem?_eq_some_iff.1 hy).1
  have hcell := hA.cell hy
  simp only at hcell
  obtain ⟨L, hL⟩ : ∃ L, ks.length = L := ⟨_, rfl⟩
  rw [e] at hcell
  rw [hL] at e h2 h3 hcell
  have hsF := hF.size
  have HQ := hide hQ
  have HA := hide hA
  have HM := hide hM
  have HF := hide hF
  have H1 := hide h1
  have HL := hide hL
  have He := hide e
  have Hyv := hide hyv
  have Hy := hide hy
  have Hml := hide hml
  have Hlt0 := hide hlt0
  have Hm := hide hm
  obtain ⟨x, rfl⟩ := frame199 hsz
  obtain ⟨e0, e3, e4, e5, e11, e16, e17, _⟩ := hchk
  replace e0 : x 0 = p0 := Option.some.inj e0
  replace e3 : x 3 = .slice (some ⟨g3, 0, none⟩) n3 c3 := Option.some.inj e3
  replace e4 : x 4 = p4 := Option.some.inj e4
  replace e5 : x 5 = p5 := Option.some.inj e5
  replace e11 : x 11 = p11 := Option.some.inj e11
  replace e16 : x 16 = .slice a16 ms.length c16 := Option.some.inj e16
  replace e17 : x 17 = .int .i64 (i : Int) := Option.some.inj e17
  rw [e0, e3, e4, e5, e11, e16, e17]
  clear e0 e3 e4 e5 e11 e16 e17
  clear hQ hA hM hF h1 hL e hyv hy hml hlt0 hm hn3
  have hi0' : (0 : Int) ≤ (i : Int) := Int.natCast_nonneg _
  have hi1' : (i : Int) < (n3 : Int) := by omega
  unfold ckOne oC owBody
  dsimp only [Tryd.f8]
  go_wp2
  refine wp_loop_count (CIJ W B i yv ks (fun gv k => [(0, p0), (3, .slice (some ⟨g3, 0, none⟩) n3 c3), (4, p4), (5, p5), (11, p11), (16, .slice a16 ms.length c16), (17, .int .i64 (i : Int)), (18, gv), (19, .int .i64 (k : Int))])) ?_ 96 _ _ ⟨_, 0, .slice (some ⟨g, 0, none⟩) L c, rfl, rfl, ⟨rfl, rfl, rfl, rfl, rfl, rfl, rfl, rfl, rfl, trivial⟩, rfl, by omega, by have := unhide H1; rw [unhide He] at this; simpa [mkM] using this, unhide H1, .inl (by rw [unhide He]), World.grownBy.refl _ _⟩
  rintro m _ wr ⟨tm, k, gv, rfl, hsz, hchk, hm, hk, hR, hY, hO, hG⟩
  obtain ⟨gg, cg, rfl⟩ := hR.pos (by rw [List.length_append, unhide HL]; omega)
  rw [List.length_append, unhide HL, mkM_len] at hchk hR hO
  obtain ⟨u, rfl⟩ := frame199 hsz
  obtain ⟨e0, e3, e4, e5, e11, e16, e17, e18, e19, _⟩ := hchk
  replace e0 : u 0 = p0 := Option.some.inj e0
  replace e3 : u 3 = .slice (some ⟨g3, 0, none⟩) n3 c3 := Option.some.inj e3
  replace e4 : u 4 = p4 := Option.some.inj e4
  replace e5 : u 5 = p5 := Option.some.inj e5
  replace e11 : u 11 = p11 := Option.some.inj e11
  replace e16 : u 16 = .slice a16 ms.length c16 := Option.some.inj e16
  replace e17 : u 17 = .int .i64 (i : Int) := Option.some.inj e17
  replace e18 : u 18 = .slice (some ⟨gg, 0, none⟩) (L + k) cg := Option.some.inj e18
  replace e19 : u 19 = .int .i64 (k : Int) := Option.some.inj e19
  rw [e0, e3, e4, e5, e11, e16, e17, e18, e19]
  clear e0 e3 e4 e5 e11 e16 e17 e18 e19
  have HR := hide hR
  have HY := hide hY
  have HO := hide hO
  have HG := hide hG
  have Hmm := hide hm
  have hsG := hG.size
  clear hR hY hO hG hm
  by_cases hlt : k < 96
  · have hd : decide ((k : Int) < 96) = true := by simp; omega
    have hrw : Hid (wr.ownsRow B 31 3 (.slice (some ⟨gg, 0, none⟩) (L + k) cg) (L + k) (kcells (ks ++ mkM i k))) := by
      have := unhide HR
      unfold RowT at this
      rw [List.length_append, unhide HL, mkM_len] at this
      exact this
    go_wp2_with (at_builtin; refine wpList_append_keeps _ rfl _ _ 25 rfl B 31 i0 _ 3 32 Tryd.underlying25 hi0 hz0 hz1 hz2 rfl (by decide) _ (L + k) _ rfl (World.ownsRow.alloc (unhide hrw) _) ⟨wr.heap.size, 0, none⟩ 1 1 (kcells [⟨-1 - (i : Int), (k : Int), ⟨#[]⟩⟩]) rfl rfl (one_tok _ _ _) (kcells_one _) (by decide) (by unfold maxLen; omega) (by omega) (by rw [World.size_alloc]; omega) ?_; intro g' c' w' o1 o2 o3 o4 _; have HS := hide (step_cij (unhide HL) h2 (unhide HR) (unhide HY) (unhide HO) (unhide HG) (fun b e => Nat.lt_of_lt_of_le (unhide Hyv b e) hsF) o1 o2 o3 o4); clear o1 o2 o3 o4)
    obtain ⟨r1, r2, r3, r4⟩ := unhide HS
    exact ⟨96 - (k + 1), by have := unhide Hmm; omega, _, k + 1, _, rfl, rfl, ⟨rfl, rfl, rfl, rfl, rfl, rfl, rfl, rfl, rfl, trivial⟩, rfl, by omega, r1, r2, r3, r4⟩
  · obtain rfl : k = 96 := by omega
    have HA2 : Hid (Al B wr (.slice (some ⟨g3, 0, none⟩) n3 c3) ys) := al_same (unhide HA) (unhide Hy) (unhide HG) (unhide HY)
    have HM2 : Hid (Mz B W0.heap.size wr (.slice a16 ms.length c16) ys ms) := mz_far (unhide HM) (unhide Hy) (unhide Hml) (unhide HG) (unhide Hyv)
    have HF2 : Hid (FarV (ys.map (·.1)) W0 wr) := (unhide HF).step (List.mem_map.2 ⟨_, unhide Hm, rfl⟩) (unhide HG)
    have hsF2 := (unhide HF2).size
    have hml : ms.length ≤ 20 := by have := unhide Hml; omega
    go_wp2_with (at_builtin; refine wpList_append_own_at _ rfl _ _ 24 rfl W0.heap.size 25 i1 (.slice none 0 0) 1 24 Tryd.underlying24 qi qz0 qz1 qz2 rfl (by decide) _ _ _ rfl ((unhide HM2).row.alloc _) ⟨wr.heap.size, 0, none⟩ 1 1 [.slice (some ⟨gg, 0, none⟩) (L + 96) cg] rfl rfl (cell_one_new _ _ _) (by simp [Value.oneCell']) (by unfold maxLen; omega) (by omega) (by rw [World.size_alloc]; omega) ?_; intro v' w4 hown' hgrow _ hat; have HA4 : Hid (Al B w4 (.slice (some ⟨g3, 0, none⟩) n3 c3) ys) := al_new (unhide HA2) (grown_alloc hgrow) (fun k e => ((unhide HM2).row.lt k e).1) (unhide Hlt0) h30; have HM4 := hide (mz_push (unhide HM2) (unhide Hy) (unhide Hml) (unhide HR) (unhide HO) hsF (unhide Hyv) (unhide Hlt0) (fun k e => ((unhide HM).row.lt k e).2) (unhide HA).nd hgrow hown' hat); have HF4 : Hid (FarV (ys.map (·.1)) W0 w4) := (unhide HF2).new (grown_alloc hgrow) (fun k e => ((unhide HM2).row.lt k e).1); clear hown' hgrow hat)
    exact unhide HQ _ _ _ (unhide HA4) (unhide HM4) (unhide HF4) _ rfl ⟨rfl, rfl, rfl, rfl, rfl, rfl, rfl, trivial⟩
end Go.Proofs.YtkkbccdjbgjjaaaDoor

namespace Go.Proofs.YtkkbccdjbgjjaaaDoor
open Go.RowKit
attribute [local go_sem ↓] Go.wp_at_zero Go.wp_at_succ

/-- Between two rounds of the appending. -/
def CJ (W0 : World) (B : Nat) (v3 : Value) (ys : List (Value × List Tk)) (C : Value → Nat → List (Nat × Value)) (m : Nat) (a : Act) (w : World) : Prop := ∃ (tm : Array Value) (i : Nat) (v16 : Value) (ms : List Value), a = ⟨tm, []⟩ ∧ tm.size = 199 ∧ chk tm (C v16 i) ∧ m = ys.length - i ∧ i ≤ ys.length ∧ ms.length = i ∧ Al B w v3 ys ∧ Mz B W0.heap.size w v16 ys ms ∧ FarV (ys.map (·.1)) W0 w
set_option maxRecDepth 100000 in
set_option maxHeartbeats 4000000 in
theorem oC_any {W : World} {p0 p4 p5 p11 : Value} {B g3 c3 n3 : Nat} {ys : List (Value × List Tk)} (hA : Al B W (.slice (some ⟨g3, 0, none⟩) n3 c3) ys) (hn3 : ys.length = n3) (hl20 : n3 ≤ 20) (hB : B ≤ W.heap.size) (h30 : g3 < W.heap.size)
    {tm : Array Value} (hsz : tm.size = 199) (hchk : chk tm [(0, p0), (3, .slice (some ⟨g3, 0, none⟩) n3 c3), (4, p4), (5, p5), (11, p11), (16, .slice none 0 0)]) {Q : Exit → Act → World → Prop}
    (hQ : ∀ W' v16 ms, ms.length = n3 → Al B W' (.slice (some ⟨g3, 0, none⟩) n3 c3) ys → Mz B W.heap.size W' v16 ys ms → FarV (ys.map (·.1)) W W' → ∀ tm : Array Value, tm.size = 199 → chk tm [(0, p0), (3, .slice (some ⟨g3, 0, none⟩) n3 c3), (4, p4), (5, p5), (11, p11), (16, v16)] → Q .normal { tmps := tm, defers := [] } W') :
    oC.wp Tryd.prog Q { tmps := tm, defers := [] } W := by
  have HQ := hide hQ
  have HA := hide hA
  have Hn3 := hide hn3
  have Hlt0 : Hid (∀ z ∈ ys, ∀ b, z.1.ownBlock = some b → b < W.heap.size) := fun z hz b e => (World.ownsRow.lt (hA.each z hz).1 b e).2
  obtain ⟨x, rfl⟩ := frame199 hsz
  obtain ⟨e0, e3, e4, e5, e11, e16, _⟩ := hchk
  replace e0 : x 0 = p0 := Option.some.inj e0
  replace e3 : x 3 = .slice (some ⟨g3, 0, none⟩) n3 c3 := Option.some.inj e3
  replace e4 : x 4 = p4 := Option.some.inj e4
  replace e5 : x 5 = p5 := Option.some.inj e5
  replace e11 : x 11 = p11 := Option.some.inj e11
  replace e16 : x 16 = .slice none 0 0 := Option.some.inj e16
  rw [e0, e3, e4, e5, e11, e16]
  clear e0 e3 e4 e5 e11 e16
  clear hQ hA hn3
  rw [oC_split]
  obtain ⟨t, ht⟩ : ∃ t, ckOne oC = t := ⟨_, rfl⟩
  rw [ht]
  unfold ckWith oC owBody
  dsimp only [Tryd.f8]
  go_wp2
  refine wp_loop_count (CJ W B (.slice (some ⟨g3, 0, none⟩) n3 c3) ys (fun v16 i => [(0, p0), (3, .slice (some ⟨g3, 0, none⟩) n3 c3), (4, p4), (5, p5), (11, p11), (16, v16), (17, .int .i64 (i : Int))])) ?_ ys.length _ _ ⟨_, 0, _, [], rfl, rfl, ⟨rfl, rfl, rfl, rfl, rfl, rfl, rfl, trivial⟩, rfl, Nat.zero_le _, rfl, unhide HA, ⟨World.ownsRow_nil _ _ _ _, fun j m y h => by simp at h, fun j m h => by simp at h, Nat.zero_le _⟩, FarV.refl _ _⟩
  clear HA
  rintro m _ wr ⟨tm, i, v16, ms, rfl, hsz, hchk, hm, hi, hml, hA, hM, hF⟩
  obtain ⟨u, rfl⟩ := frame199 hsz
  obtain ⟨e0, e3, e4, e5, e11, e16, e17, _⟩ := hchk
  replace e0 : u 0 = p0 := Option.some.inj e0
  replace e3 : u 3 = .slice (some ⟨g3, 0, none⟩) n3 c3 := Option.some.inj e3
  replace e4 : u 4 = p4 := Option.some.inj e4
  replace e5 : u 5 = p5 := Option.some.inj e5
  replace e11 : u 11 = p11 := Option.some.inj e11
  replace e16 : u 16 = v16 := Option.some.inj e16
  replace e17 : u 17 = .int .i64 (i : Int) := Option.some.inj e17
  rw [e0, e3, e4, e5, e11, e16, e17]
  clear e0 e3 e4 e5 e11 e16 e17
  rw [unhide Hn3] at hm hi
  have Hm := hide hm
  have HA := hide hA
  have HM := hide hM
  have HF := hide hF
  have Hml := hide hml
  clear hm hA hM hF hml
  by_cases hlt : i < n3
  · have hd : decide ((i : Int) < (n3 : Int)) = true := by simp; omega
    obtain ⟨y, hy⟩ : ∃ y, ys[i]? = some y := ⟨_, List.getElem?_eq_getElem (by have := unhide Hn3; omega)⟩
    have Hy := hide hy
    clear hy
    go_wp2
    rw [← ht]
    refine inC_any (unhide HA) (unhide Hn3) hl20 hB (unhide Hy) (unhide HM) (unhide Hml) (unhide HF) (unhide Hlt0) h30 rfl ⟨rfl, rfl, rfl, rfl, rfl, rfl, rfl, trivial⟩ ?_
    intro W' v16' gv r1 r2 r3 tm hsz hchk
    have R1 := hide r1
    have R2 := hide r2
    have R3 := hide r3
    clear r1 r2 r3
    obtain ⟨z, rfl⟩ := frame199 hsz
    obtain ⟨e0, e3, e4, e5, e11, e16, e17, _⟩ := hchk
    replace e0 : z 0 = p0 := Option.some.inj e0
    replace e3 : z 3 = .slice (some ⟨g3, 0, none⟩) n3 c3 := Option.some.inj e3
    replace e4 : z 4 = p4 := Option.some.inj e4
    replace e5 : z 5 = p5 := Option.some.inj e5
    replace e11 : z 11 = p11 := Option.some.inj e11
    replace e16 : z 16 = v16' := Option.some.inj e16
    replace e17 : z 17 = .int .i64 (i : Int) := Option.some.inj e17
    rw [e0, e3, e4, e5, e11, e16, e17]
    clear e0 e3 e4 e5 e11 e16 e17
    go_wp2
    exact ⟨n3 - (i + 1), by have := unhide Hm; omega, _, i + 1, _, ms ++ [gv], rfl, rfl, ⟨rfl, rfl, rfl, rfl, rfl, rfl, rfl, trivial⟩, by rw [unhide Hn3], by rw [unhide Hn3]; omega, by rw [List.length_append, unhide Hml]; rfl, unhide R1, unhide R2, unhide R3⟩
  · obtain rfl : i = n3 := by omega
    have hd : decide ((i : Int) < (i : Int)) = false := by simp
    go_wp2
    exact unhide HQ _ _ ms (unhide Hml) (unhide HA) (unhide HM) (unhide HF) _ rfl ⟨rfl, rfl, rfl, rfl, rfl, rfl, trivial⟩
end Go.Proofs.YtkkbccdjbgjjaaaDoor

namespace Go.Proofs.YtkkbccdjbgjjaaaDoor
open Go.RowKit
attribute [local go_sem ↓] Go.wp_at_zero Go.wp_at_succ

set_option maxRecDepth 100000 in
set_option maxHeartbeats 4000000 in
theorem inD_any {W : World} {p0 p4 p5 p11 : Value} {B B' g3 c3 g16 c16 n3 i L g c gm cm : Nat} (hin : i < n3) (hl20 : n3 ≤ 20) (hL : L ≤ 16384) (h3 : W.cell? ⟨g3, i, none⟩ = some (.slice (some ⟨g, 0, none⟩) L c)) (h16 : W.cell? ⟨g16, i, none⟩ = some (.slice (some ⟨gm, 0, none⟩) (L + 96) cm)) (hr : RowT B W (.slice (some ⟨g, 0, none⟩) L c) (mkA i L)) (hm : RowT B' W (.slice (some ⟨gm, 0, none⟩) (L + 96) cm) (mkA i L ++ mkM i 96))
    {tm : Array Value} (hsz : tm.size = 199) (hchk : chk tm [(0, p0), (3, .slice (some ⟨g3, 0, none⟩) n3 c3), (4, p4), (5, p5), (11, p11), (16, .slice (some ⟨g16, 0, none⟩) n3 c16), (20, .int .i64 (i : Int))]) {Q : Exit → Act → World → Prop}
    (hQ : ∀ W', Below W.heap.size W W' → ∀ tm : Array Value, tm.size = 199 → chk tm [(0, p0), (3, .slice (some ⟨g3, 0, none⟩) n3 c3), (4, p4), (5, p5), (11, p11), (16, .slice (some ⟨g16, 0, none⟩) n3 c16), (20, .int .i64 (i : Int))] → Q .normal { tmps := tm, defers := [] } W') :
    (ckOne oD).wp Tryd.prog Q { tmps := tm, defers := [] } W := by
  have HQ := hide hQ
  have Hr := hide hr
  have Hm := hide hm
  have H3 := hide h3
  have H16 := hide h16
  have l3 := lt_of_cell h3
  have l16 := lt_of_cell h16
  obtain ⟨x, rfl⟩ := frame199 hsz
  obtain ⟨e0, e3, e4, e5, e11, e16, e20, _⟩ := hchk
  replace e0 : x 0 = p0 := Option.some.inj e0
  replace e3 : x 3 = .slice (some ⟨g3, 0, none⟩) n3 c3 := Option.some.inj e3
  replace e4 : x 4 = p4 := Option.some.inj e4
  replace e5 : x 5 = p5 := Option.some.inj e5
  replace e11 : x 11 = p11 := Option.some.inj e11
  replace e16 : x 16 = .slice (some ⟨g16, 0, none⟩) n3 c16 := Option.some.inj e16
  replace e20 : x 20 = .int .i64 (i : Int) := Option.some.inj e20
  rw [e0, e3, e4, e5, e11, e16, e20]
  clear e0 e3 e4 e5 e11 e16 e20
  have hi0 : (0 : Int) ≤ (i : Int) := Int.natCast_nonneg _
  have hi1 : (i : Int) < (n3 : Int) := by omega
  clear hQ hr hm h16
  unfold ckOne oD owBody
  dsimp only [Tryd.f8]
  go_wp2
  refine wp_loop_count (CntS (fun _ w => Below W.heap.size W w) L (fun k => [(0, p0), (3, .slice (some ⟨g3, 0, none⟩) n3 c3), (4, p4), (5, p5), (11, p11), (16, .slice (some ⟨g16, 0, none⟩) n3 c16), (20, .int .i64 (i : Int)), (21, .int .i64 (L : Int)), (22, .int .i64 (k : Int))])) ?_ L _ _ ⟨_, 0, rfl, rfl, ⟨rfl, rfl, rfl, rfl, rfl, rfl, rfl, rfl, rfl, trivial⟩, rfl, Nat.zero_le _, Below.refl _ _⟩
  rintro m _ wr ⟨tm, k, rfl, hsz, hchk, hm, hk, hB⟩
  obtain ⟨u, rfl⟩ := frame199 hsz
  obtain ⟨e0, e3, e4, e5, e11, e16, e20, e21, e22, _⟩ := hchk
  replace e0 : u 0 = p0 := Option.some.inj e0
  replace e3 : u 3 = .slice (some ⟨g3, 0, none⟩) n3 c3 := Option.some.inj e3
  replace e4 : u 4 = p4 := Option.some.inj e4
  replace e5 : u 5 = p5 := Option.some.inj e5
  replace e11 : u 11 = p11 := Option.some.inj e11
  replace e16 : u 16 = .slice (some ⟨g16, 0, none⟩) n3 c16 := Option.some.inj e16
  replace e20 : u 20 = .int .i64 (i : Int) := Option.some.inj e20
  replace e21 : u 21 = .int .i64 (L : Int) := Option.some.inj e21
  replace e22 : u 22 = .int .i64 (k : Int) := Option.some.inj e22
  rw [e0, e3, e4, e5, e11, e16, e20, e21, e22]
  clear e0 e3 e4 e5 e11 e16 e20 e21 e22
  have Hmm := hide hm
  have HB := hide hB
  have b3 := (hB.cell (p := ⟨g3, i, none⟩) l3).trans (unhide H3)
  have b16 := (hB.cell (p := ⟨g16, i, none⟩) l16).trans (unhide H16)
  clear hm hB h3
  by_cases hlt : k < L
  · obtain ⟨x1, x2, x3⟩ := ((unhide Hr).up (unhide HB)).cell (mkA_at (j := i) hlt)
    obtain ⟨y1, y2, y3⟩ := ((unhide Hm).up (unhide HB)).cell (i := k) (t := ⟨7000 + (i : Int), (k : Int), ⟨#[]⟩⟩) (by rw [List.getElem?_append_left (by rw [mkA_len]; omega)]; exact mkA_at hlt)
    have hd : decide ((k : Int) < (L : Int)) = true := by simp; omega
    have hk0 : (0 : Int) ≤ (k : Int) := Int.natCast_nonneg _
    have hk1 : (k : Int) < (L : Int) := by omega
    have hk2 : (k : Int) < ((L + 96 : Nat) : Int) := by omega
    have hk3 : (k : Int) < (L : Int) + 96 := by omega
    simp only at x1 x2 x3 y1 y2 y3
    go_wp2
    go_quiet (fail)
    go_wp2
    exact ⟨L - (k + 1), by have := unhide Hmm; omega, _, k + 1, rfl, rfl, ⟨rfl, rfl, rfl, rfl, rfl, rfl, rfl, rfl, rfl, trivial⟩, rfl, by omega, below_drewN (unhide HB) _⟩
  · obtain rfl : k = L := by omega
    have hd : decide ((k : Int) < (k : Int)) = false := by simp
    clear b3 b16
    go_wp2
    refine wp_loop_count (CntS (fun _ w => Below W.heap.size W w) 96 (fun m => [(0, p0), (3, .slice (some ⟨g3, 0, none⟩) n3 c3), (4, p4), (5, p5), (11, p11), (16, .slice (some ⟨g16, 0, none⟩) n3 c16), (20, .int .i64 (i : Int)), (21, .int .i64 (k : Int)), (23, .int .i64 (m : Int))])) ?_ 96 _ _ ⟨_, 0, rfl, rfl, ⟨rfl, rfl, rfl, rfl, rfl, rfl, rfl, rfl, rfl, trivial⟩, rfl, Nat.zero_le _, unhide HB⟩
    clear HB Hmm
    rintro m _ wr ⟨tm, j, rfl, hsz, hchk, hm, hj, hB⟩
    obtain ⟨z, rfl⟩ := frame199 hsz
    obtain ⟨e0, e3, e4, e5, e11, e16, e20, e21, e23, _⟩ := hchk
    replace e0 : z 0 = p0 := Option.some.inj e0
    replace e3 : z 3 = .slice (some ⟨g3, 0, none⟩) n3 c3 := Option.some.inj e3
    replace e4 : z 4 = p4 := Option.some.inj e4
    replace e5 : z 5 = p5 := Option.some.inj e5
    replace e11 : z 11 = p11 := Option.some.inj e11
    replace e16 : z 16 = .slice (some ⟨g16, 0, none⟩) n3 c16 := Option.some.inj e16
    replace e20 : z 20 = .int .i64 (i : Int) := Option.some.inj e20
    replace e21 : z 21 = .int .i64 (k : Int) := Option.some.inj e21
    replace e23 : z 23 = .int .i64 (j : Int) := Option.some.inj e23
    rw [e0, e3, e4, e5, e11, e16, e20, e21, e23]
    clear e0 e3 e4 e5 e11 e16 e20 e21 e23
    have Hmm := hide hm
    have HB := hide hB
    have b16 := (hB.cell (p := ⟨g16, i, none⟩) l16).trans (unhide H16)
    clear hm hB
    by_cases hlt : j < 96
    · obtain ⟨x1, x2, x3⟩ := ((unhide Hm).up (unhide HB)).cell (i := k + j) (t := ⟨-1 - (i : Int), (j : Int), ⟨#[]⟩⟩) (by rw [List.getElem?_append_right (by rw [mkA_len]; omega), mkA_len, Nat.add_sub_cancel_left]; exact mkM_at hlt)
      have hd : decide ((j : Int) < 96) = true := by simp; omega
      have y1 : (0 : Int) ≤ (k : Int) + (j : Int) := by omega
      have y2 : (k : Int) + (j : Int) < (k : Int) + 96 := by omega
      have y3 : (k : Int) + (j : Int) < ((k + 96 : Nat) : Int) := by omega
      have y4 : ((k : Int) + (j : Int)).toNat = k + j := by omega
      simp only at x1 x2 x3
      go_wp2
      exact ⟨96 - (j + 1), by have := unhide Hmm; omega, _, j + 1, rfl, rfl, ⟨rfl, rfl, rfl, rfl, rfl, rfl, rfl, rfl, rfl, trivial⟩, rfl, by omega, unhide HB⟩
    · obtain rfl : j = 96 := by omega
      go_wp2
      exact unhide HQ _ (unhide HB) _ rfl ⟨rfl, rfl, rfl, rfl, rfl, rfl, rfl, trivial⟩
set_option maxRecDepth 100000 in
set_option maxHeartbeats 4000000 in
theorem oD_any {W : World} {p0 p4 p5 p11 : Value} {B Bm g3 c3 g16 c16 n3 : Nat} {ys : List (Value × List Tk)} {ms : List Value} (hA : Al B W (.slice (some ⟨g3, 0, none⟩) n3 c3) ys) (hyf : ∀ j y, ys[j]? = some y → y.2 = mkA j y.2.length) (hn3 : ys.length = n3) (hl20 : n3 ≤ 20) (hM : Mz B Bm W (.slice (some ⟨g16, 0, none⟩) n3 c16) ys ms) (hml : ms.length = n3)
    {tm : Array Value} (hsz : tm.size = 199) (hchk : chk tm [(0, p0), (3, .slice (some ⟨g3, 0, none⟩) n3 c3), (4, p4), (5, p5), (11, p11), (16, .slice (some ⟨g16, 0, none⟩) n3 c16)]) {Q : Exit → Act → World → Prop}
    (hQ : ∀ W', Below W.heap.size W W' → ∀ tm : Array Value, tm.size = 199 → chk tm [(0, p0), (3, .slice (some ⟨g3, 0, none⟩) n3 c3), (4, p4), (5, p5), (11, p11), (16, .slice (some ⟨g16, 0, none⟩) n3 c16)] → Q .normal { tmps := tm, defers := [] } W') :
    oD.wp Tryd.prog Q { tmps := tm, defers := [] } W := by
  have HQ := hide hQ
  have HIN : Hid (∀ (i : Nat) (w : World), i < n3 → Below W.heap.size W w → ∀ (tm : Array Value), tm.size = 199 → chk tm [(0, p0), (3, .slice (some ⟨g3, 0, none⟩) n3 c3), (4, p4), (5, p5), (11, p11), (16, .slice (some ⟨g16, 0, none⟩) n3 c16), (20, .int .i64 (i : Int))] → ∀ (Q : Exit → Act → World → Prop), (∀ W', Below w.heap.size w W' → ∀ tm : Array Value, tm.size = 199 → chk tm [(0, p0), (3, .slice (some ⟨g3, 0, none⟩) n3 c3), (4, p4), (5, p5), (11, p11), (16, .slice (some ⟨g16, 0, none⟩) n3 c16), (20, .int .i64 (i : Int))] → Q .normal { tmps := tm, defers := [] } W') → (ckOne oD).wp Tryd.prog Q { tmps := tm, defers := [] } w) := by
    intro i w hi hb tm h1 h2 Q h3
    obtain ⟨⟨yv, ks⟩, hy⟩ : ∃ y, ys[i]? = some y := ⟨_, List.getElem?_eq_getElem (by omega)⟩
    obtain ⟨mv, hmv⟩ : ∃ m, ms[i]? = some m := ⟨_, List.getElem?_eq_getElem (by omega)⟩
    have hA' := hA.up hb
    obtain ⟨r1, r2, r3⟩ := hA'.each _ (List.mem_of_getElem? hy)
    have hf := hyf i _ hy
    simp only at hf r1 r2 r3
    have hmr := (hM.each i mv _ hmv hy).up hb
    have hc3 := hA'.cell hy
    have hc16 := row1_cell (ownsRow_up (by have := hM.row; rw [hml] at this; exact this) hb) hmv
    obtain ⟨g, c, rfl⟩ := r1.pos r2
    obtain ⟨gm, cm, rfl⟩ := hmr.pos (by rw [List.length_append]; simp only; omega)
    have hlm : (ks ++ mkM i 96).length = ks.length + 96 := by rw [List.length_append, mkM_len]
    simp only at hc3 hmr
    rw [hlm] at hc16 hmr
    generalize ks.length = L at *
    subst hf
    exact inD_any hi hl20 r3 hc3 hc16 r1 hmr h1 h2 h3
  obtain ⟨x, rfl⟩ := frame199 hsz
  obtain ⟨e0, e3, e4, e5, e11, e16, _⟩ := hchk
  replace e0 : x 0 = p0 := Option.some.inj e0
  replace e3 : x 3 = .slice (some ⟨g3, 0, none⟩) n3 c3 := Option.some.inj e3
  replace e4 : x 4 = p4 := Option.some.inj e4
  replace e5 : x 5 = p5 := Option.some.inj e5
  replace e11 : x 11 = p11 := Option.some.inj e11
  replace e16 : x 16 = .slice (some ⟨g16, 0, none⟩) n3 c16 := Option.some.inj e16
  rw [e0, e3, e4, e5, e11, e16]
  clear e0 e3 e4 e5 e11 e16
  clear hQ hA hyf hM hml
  rw [oD_split]
  obtain ⟨t, ht⟩ : ∃ t, ckOne oD = t := ⟨_, rfl⟩
  rw [ht]
  unfold ckWith oD owBody
  dsimp only [Tryd.f8]
  go_wp2
  refine wp_loop_count (CntS (fun _ w => Below W.heap.size W w) n3 (fun i => [(0, p0), (3, .slice (some ⟨g3, 0, none⟩) n3 c3), (4, p4), (5, p5), (11, p11), (16, .slice (some ⟨g16, 0, none⟩) n3 c16), (20, .int .i64 (i : Int))])) ?_ n3 _ _ ⟨_, 0, rfl, rfl, ⟨rfl, rfl, rfl, rfl, rfl, rfl, rfl, trivial⟩, rfl, Nat.zero_le _, Below.refl _ _⟩
  rintro m _ wr ⟨tm, i, rfl, hsz, hchk, hm, hi, hB⟩
  obtain ⟨u, rfl⟩ := frame199 hsz
  obtain ⟨e0, e3, e4, e5, e11, e16, e20, _⟩ := hchk
  replace e0 : u 0 = p0 := Option.some.inj e0
  replace e3 : u 3 = .slice (some ⟨g3, 0, none⟩) n3 c3 := Option.some.inj e3
  replace e4 : u 4 = p4 := Option.some.inj e4
  replace e5 : u 5 = p5 := Option.some.inj e5
  replace e11 : u 11 = p11 := Option.some.inj e11
  replace e16 : u 16 = .slice (some ⟨g16, 0, none⟩) n3 c16 := Option.some.inj e16
  replace e20 : u 20 = .int .i64 (i : Int) := Option.some.inj e20
  rw [e0, e3, e4, e5, e11, e16, e20]
  clear e0 e3 e4 e5 e11 e16 e20
  have Hm := hide hm
  have HB := hide hB
  clear hm hB
  by_cases hlt : i < n3
  · have hd : decide ((i : Int) < (n3 : Int)) = true := by simp; omega
    go_wp2
    rw [← ht]
    refine unhide HIN i wr hlt (unhide HB) _ rfl ⟨rfl, rfl, rfl, rfl, rfl, rfl, rfl, trivial⟩ _ ?_
    intro W' hb tm hsz hchk
    have HB' : Hid (Below W.heap.size W W') := (unhide HB).trans (hb.mono (unhide HB).size)
    clear hb
    obtain ⟨z, rfl⟩ := frame199 hsz
    obtain ⟨e0, e3, e4, e5, e11, e16, e20, _⟩ := hchk
    replace e0 : z 0 = p0 := Option.some.inj e0
    replace e3 : z 3 = .slice (some ⟨g3, 0, none⟩) n3 c3 := Option.some.inj e3
    replace e4 : z 4 = p4 := Option.some.inj e4
    replace e5 : z 5 = p5 := Option.some.inj e5
    replace e11 : z 11 = p11 := Option.some.inj e11
    replace e16 : z 16 = .slice (some ⟨g16, 0, none⟩) n3 c16 := Option.some.inj e16
    replace e20 : z 20 = .int .i64 (i : Int) := Option.some.inj e20
    rw [e0, e3, e4, e5, e11, e16, e20]
    clear e0 e3 e4 e5 e11 e16 e20
    go_wp2
    exact ⟨n3 - (i + 1), by have := unhide Hm; omega, _, i + 1, rfl, rfl, ⟨rfl, rfl, rfl, rfl, rfl, rfl, rfl, trivial⟩, rfl, by omega, unhide HB'⟩
  · obtain rfl : i = n3 := by omega
    have hd : decide ((i : Int) < (i : Int)) = false := by simp
    go_wp2
    exact unhide HQ _ (unhide HB) _ rfl ⟨rfl, rfl, rfl, rfl, rfl, rfl, trivial⟩
end Go.Proofs.YtkkbccdjbgjjaaaDoor

namespace Go.Proofs.YtkkbccdjbgjjaaaDoor
open Go.RowKit
attribute [local go_sem ↓] Go.wp_at_zero Go.wp_at_succ

theorem below_far {vs : List Value} {V a b : World} (h : Below V.heap.size V a) (k : FarV vs a b) (hg : ∀ v ∈ vs, ∀ i, v.ownBlock = some i → V.heap.size ≤ i) : Below V.heap.size V b := h.trans (k.below h.size hg)
theorem al_lo {B : Nat} {w : World} {v3 : Value} {zs : List (Value × List Tk)} (h : Al B w v3 zs) : ∀ v ∈ zs.map (·.1), ∀ i, v.ownBlock = some i → B ≤ i ∧ i < w.heap.size := by
  intro v hv i e
  obtain ⟨z, hz, rfl⟩ := List.mem_map.1 hv
  exact World.ownsRow.lt (h.each z hz).1 i e
set_option maxRecDepth 100000 in
set_option maxHeartbeats 8000000 in
theorem owned_any {V : World} {a0 : Option Addr} {c0 : Nat} {l : List ByteArray} (hF : HasF V) (hE : HasE V) (hM : HasM V) (hT : HasS V (.slice a0 l.length c0) l) (hn : l.length ≤ 1048576) :
    Calls Tryd.prog 8 #[.slice a0 l.length c0] V fun e W' => e = .returned (.bool true) ∧ Below V.heap.size V W' := by
  have HTK : Hid (∀ w1 s, Below V.heap.size V w1 → Calls Tryd.prog 5 #[.string s] w1 (TkA s w1)) := fun w1 s hb1 => tokens_own (hF.up hb1) (hE.up hb1) (hM.up hb1 hM.1) s
  refine calls_of_wp Tryd.func8 ow_split ?_
  have HOA : Hid (∀ {tm : Array Value}, tm.size = 199 → chk tm [(0, .slice a0 l.length c0), (3, .slice none 0 0), (4, .slice none 0 0), (5, .string ⟨#[]⟩)] → ∀ {Q : Exit → Act → World → Prop}, (∀ W' v3 v4 sx (zs : List (Value × List Tk)), Aw V.heap.size W' v3 v4 sx zs → zs.length ≤ 20 → Below V.heap.size V W' → ∀ tm : Array Value, tm.size = 199 → chk tm [(0, .slice a0 l.length c0), (3, v3), (4, v4), (5, .string sx)] → Q .normal { tmps := tm, defers := [] } W') → oA.wp Tryd.prog Q { tmps := tm, defers := [] } V) := fun h1 h2 _ h3 => oA_any hF hE hM hT hn (Below.refl _ _) h1 h2 h3
  obtain ⟨tA, hA0⟩ : ∃ t, oA = t := ⟨_, rfl⟩
  obtain ⟨tB, hB0⟩ : ∃ t, oB = t := ⟨_, rfl⟩
  obtain ⟨tC, hC0⟩ : ∃ t, oC = t := ⟨_, rfl⟩
  obtain ⟨tD, hD0⟩ : ∃ t, oD = t := ⟨_, rfl⟩
  rw [hA0, hB0, hC0, hD0]
  unfold owWith owBody
  dsimp only [Tryd.f8]
  simp only [List.size_toArray, List.length_cons, List.length_nil, Nat.reduceAdd, Nat.reduceSub, Array.replicate_succ, Array.replicate_zero, List.push_toArray, List.append_toArray, List.nil_append, List.cons_append]
  clear hF hE hM hT
  go_wp2
  rw [← hA0]
  refine unhide HOA rfl ⟨rfl, rfl, rfl, rfl, trivial⟩ ?_
  clear HOA
  intro V2 v3 v4 sx zs hA hz20 hb2 tm hsz hchk
  obtain ⟨a3, c3, rfl⟩ := hA.al.form
  obtain ⟨u, rfl⟩ := frame199 hsz
  obtain ⟨e0, e3, e4, e5, _⟩ := hchk
  replace e0 : u 0 = .slice a0 l.length c0 := Option.some.inj e0
  replace e3 : u 3 = .slice a3 zs.length c3 := Option.some.inj e3
  replace e4 : u 4 = v4 := Option.some.inj e4
  replace e5 : u 5 = .string sx := Option.some.inj e5
  rw [e0, e3, e4, e5]
  clear e0 e3 e4 e5
  have HA := hide hA
  have HB2 := hide hb2
  clear hA hb2
  by_cases hz : zs.length = 0
  · have hd : ((zs.length : Int) == 0) = true := by simp [hz]
    go_wp2
    go_ret
    exact ⟨rfl, unhide HB2⟩
  · have hd : ((zs.length : Int) == 0) = false := beq_eq_false_iff_ne.2 (by omega)
    obtain ⟨g3, c3', e3⟩ := (unhide HA).al.pos (by omega)
    simp only [Value.slice.injEq] at e3
    obtain ⟨rfl, _, rfl⟩ := e3
    obtain ⟨n3, hn3⟩ : ∃ n, zs.length = n := ⟨_, rfl⟩
    obtain ⟨ts, kk, hO, hp, hw4, hwz, hw3⟩ := (unhide HA).want (by omega)
    have hal := (unhide HA).al
    rw [hn3] at hal hw3 hd hz20 ⊢
    have hL : ts.length ≤ 16384 := by have := tkO_len sx; rw [hO] at this; exact this
    have tk0 := unhide HTK V2 sx (unhide HB2)
    unfold TkA at tk0
    rw [hO] at tk0
    have TK0 := hide tk0
    have HTS : Hid (∀ w1, Below V.heap.size V w1 → Calls Tryd.prog 5 #[.string sx] w1 fun e w => ∃ v, e = .returned (.tuple #[v, .int .i64 (kk : Int), .int .i64 (0 : Int)]) ∧ RowT w1.heap.size w v (ts.map Tok.tk) ∧ HasTok w v ts ∧ Below w1.heap.size w1 w) := fun w1 hb1 => by
      have := unhide HTK w1 sx hb1
      unfold TkA at this
      rw [hO] at this
      exact this
    have HAL := hide hal
    have HW4 := hide hw4
    have HWZ := hide hwz
    have Hn3 := hide hn3
    have hn0 : 0 < n3 := by omega
    have hg30 : g3 < V2.heap.size := (hal.row.lt g3 rfl).2
    clear tk0 hO hal hw4 hwz hw3 hn3 HA hz HTK
    go_wp2_with fail
    refine (unhide TK0).mono ?_
    rintro e w1 ⟨v11, rfl, q1, _, hb1⟩
    obtain ⟨a11, c11, e11⟩ := q1.form
    rw [List.length_map] at e11
    have Q1 := hide q1
    have HB1 : Hid (Below V.heap.size V w1) := (unhide HB2).trans (hb1.mono (unhide HB2).size)
    have HAL1 := hide ((unhide HAL).up hb1)
    have HW1 := hide ((unhide HW4).up hb1)
    have hs12 := hb1.size
    have E11 := hide e11
    clear q1 hb1 TK0 e11 HW4
    rw [unhide E11]
    go_wp2
    rw [← hB0]
    refine oB_any (p0 := .slice a0 l.length c0) (p4 := v4) (p5 := .string sx) (p11 := .slice a11 ts.length c11) (unhide HAL1) (unhide Hn3) hz20 rfl ⟨rfl, rfl, rfl, rfl, rfl, trivial⟩ ?_
    intro W3 ys hA3 hyl hym hyf hF3 tm hsz hchk
    have HB3 := hide (below_far (unhide HB1) hF3 (fun v hv i e => (al_lo (unhide HAL) v hv i e).1))
    have HW3 := hide (hF3.row (unhide HW1) (fun u hu k e q => by obtain ⟨z, hz, rfl⟩ := List.mem_map.1 hu; exact unhide HWZ z hz (q.trans e.symm)))
    have HQ3 := hide (hF3.row (unhide Q1) (fun u hu k e q => by have h1 := (al_lo (unhide HAL) u hu k q).2; have h2 := (World.ownsRow.lt (unhide Q1) k e).1; omega))
    have hs3 := hF3.size
    have HA3 := hide hA3
    have Hyl := hide hyl
    have Hym := hide hym
    have Hyf := hide hyf
    clear hA3 hyl hym hyf hF3
    obtain ⟨z, rfl⟩ := frame199 hsz
    obtain ⟨e0, e3, e4, e5, e11, _⟩ := hchk
    replace e0 : z 0 = .slice a0 l.length c0 := Option.some.inj e0
    replace e3 : z 3 = .slice (some ⟨g3, 0, none⟩) n3 c3 := Option.some.inj e3
    replace e4 : z 4 = v4 := Option.some.inj e4
    replace e5 : z 5 = .string sx := Option.some.inj e5
    replace e11 : z 11 = .slice a11 ts.length c11 := Option.some.inj e11
    rw [e0, e3, e4, e5, e11]
    clear e0 e3 e4 e5 e11
    go_wp2
    rw [← hC0]
    refine oC_any (p0 := .slice a0 l.length c0) (p4 := v4) (p5 := .string sx) (p11 := .slice a11 ts.length c11) (unhide HA3) (unhide Hyl) hz20 (unhide HB3).size (by omega) rfl ⟨rfl, rfl, rfl, rfl, rfl, rfl, trivial⟩ ?_
    intro W4 v16 ms hml hA4 hM4 hF4 tm hsz hchk
    rw [unhide Hym] at hF4
    have HB4 := hide (below_far (unhide HB3) hF4 (fun v hv i e => (al_lo (unhide HAL) v hv i e).1))
    have HW4 := hide (hF4.row (unhide HW3) (fun u hu k e q => by obtain ⟨z, hz, rfl⟩ := List.mem_map.1 hu; exact unhide HWZ z hz (q.trans e.symm)))
    have HQ4 := hide (hF4.row (unhide HQ3) (fun u hu k e q => by have h1 := (al_lo (unhide HAL) u hu k q).2; have h2 := (World.ownsRow.lt (unhide Q1) k e).1; omega))
    have hrow := hM4.row
    rw [hml] at hrow
    obtain ⟨g16, c16, e16⟩ : ∃ g c, v16 = .slice (some ⟨g, 0, none⟩) n3 c := by
      rcases hrow.2 with ⟨_, h0⟩ | ⟨g, cap, _, rfl, _⟩
      · omega
      · exact ⟨_, _, rfl⟩
    subst e16
    have HA4 := hide hA4
    have HM4 := hide hM4
    have Hml := hide hml
    clear hA4 hM4 hml hF4 hrow
    obtain ⟨x1, rfl⟩ := frame199 hsz
    obtain ⟨e0, e3, e4, e5, e11, e16, _⟩ := hchk
    replace e0 : x1 0 = .slice a0 l.length c0 := Option.some.inj e0
    replace e3 : x1 3 = .slice (some ⟨g3, 0, none⟩) n3 c3 := Option.some.inj e3
    replace e4 : x1 4 = v4 := Option.some.inj e4
    replace e5 : x1 5 = .string sx := Option.some.inj e5
    replace e11 : x1 11 = .slice a11 ts.length c11 := Option.some.inj e11
    replace e16 : x1 16 = .slice (some ⟨g16, 0, none⟩) n3 c16 := Option.some.inj e16
    rw [e0, e3, e4, e5, e11, e16]
    clear e0 e3 e4 e5 e11 e16
    go_wp2
    rw [← hD0]
    refine oD_any (p0 := .slice a0 l.length c0) (p4 := v4) (p5 := .string sx) (p11 := .slice a11 ts.length c11) (unhide HA4) (unhide Hyf) (unhide Hyl) hz20 (unhide HM4) (unhide Hml) rfl ⟨rfl, rfl, rfl, rfl, rfl, rfl, trivial⟩ ?_
    intro W5 hb5 tm hsz hchk
    have HB5 : Hid (Below V.heap.size V W5) := (unhide HB4).trans (hb5.mono (unhide HB4).size)
    have HW5 := hide ((unhide HW4).up hb5)
    have HQ5 := hide ((unhide HQ4).up hb5)
    clear hb5
    obtain ⟨x2, rfl⟩ := frame199 hsz
    obtain ⟨e0, e3, e4, e5, e11, e16, _⟩ := hchk
    replace e0 : x2 0 = .slice a0 l.length c0 := Option.some.inj e0
    replace e3 : x2 3 = .slice (some ⟨g3, 0, none⟩) n3 c3 := Option.some.inj e3
    replace e4 : x2 4 = v4 := Option.some.inj e4
    replace e5 : x2 5 = .string sx := Option.some.inj e5
    replace e11 : x2 11 = .slice a11 ts.length c11 := Option.some.inj e11
    replace e16 : x2 16 = .slice (some ⟨g16, 0, none⟩) n3 c16 := Option.some.inj e16
    rw [e0, e3, e4, e5, e11, e16]
    clear e0 e3 e4 e5 e11 e16
    go_wp2_with fail
    refine (unhide HTS W5 (unhide HB5)).mono ?_
    rintro e w6 ⟨v24, rfl, _, h24, hb6⟩
    obtain ⟨a24, c24, rfl, _⟩ := id h24
    have H24 := hide h24
    have HB6 : Hid (Below V.heap.size V w6) := (unhide HB5).trans (hb6.mono (unhide HB5).size)
    have HW6 := hide (hasTok_row ((unhide HW5).up hb6))
    have HQ6 : Hid (HasTok w6 (.slice a11 ts.length c11) ts) := by have := hasTok_row ((unhide HQ5).up hb6); rw [unhide E11] at this; exact this
    clear h24 hb6
    go_wp2_with fail
    refine (sameTok_any (unhide HQ6) (unhide HW6) (by omega)).mono ?_
    rintro e w7 ⟨rfl, m7, rfl⟩
    have HB7 : Hid (Below V.heap.size V (w6.drewN m7)) := below_drewN (unhide HB6) _
    have H24' := hide ((unhide H24).up (below_drewN (Below.refl _ _) m7))
    have HW7 := hide ((unhide HW6).up (below_drewN (Below.refl _ _) m7))
    generalize w6.drewN m7 = w7 at *
    clear H24 HW6 HQ6 HB6
    go_wp2_with fail
    refine (sameTok_any (unhide H24') (unhide HW7) (by omega)).mono ?_
    rintro e w8 ⟨rfl, m8, rfl⟩
    have HB8 : Hid (Below V.heap.size V (w7.drewN m8)) := below_drewN (unhide HB7) _
    go_wp2
    go_ret
    exact ⟨rfl, unhide HB8⟩
end Go.Proofs.YtkkbccdjbgjjaaaDoor
