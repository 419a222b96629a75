import Derived.Test.YtadmamfekodkaaaDoorHsB

namespace Go.Proofs.YtadmamfekodkaaaDoor
open Go.RowKit
attribute [local go_sem ↓] Go.wp_at_zero Go.wp_at_succ

/-- Between two lists that are marked. -/
def BK (W : World) (B N : Nat) (v5 : Value) (C : Nat → List (Nat × Value)) (m : Nat) (a : Act) (w : World) : Prop := ∃ (tm : Array Value) (i : Nat) (ys : List (Value × List Value)), a = ⟨tm, []⟩ ∧ tm.size = 233 ∧ chk tm (C i) ∧ m = N - i ∧ i ≤ N ∧ ys.length = N ∧ Al B w v5 ys ∧ (∀ (j : Nat) (y : Value × List Value), ys[j]? = some y → j < i → y.2 = List.replicate y.2.length (keptV j)) ∧ Below B W w
theorem BK.step {i : Nat} {ys : List (Value × List Value)} {z : Value × List Value} (_hz : ys[i]? = some z) (h : ∀ (j : Nat) (y : Value × List Value), ys[j]? = some y → j < i → y.2 = List.replicate y.2.length (keptV j)) : ∀ (j : Nat) (y : Value × List Value), (ys.set i (z.1, List.replicate z.2.length (keptV i)))[j]? = some y → j < i + 1 → y.2 = List.replicate y.2.length (keptV j) := by
  intro j y hj hlt
  rw [List.getElem?_set] at hj
  split at hj
  · next e =>
    subst e
    split at hj
    · obtain rfl := Option.some.inj hj
      simp
    · cases hj
  · next e => exact h j y hj (by omega)
set_option maxRecDepth 100000 in
set_option maxHeartbeats 4000000 in
theorem oB_any {W : World} {B N g5 c5 : Nat} {p0 p6 : Value} {zs : List (Value × List Value)} (hA : Al B W (.slice (some ⟨g5, 0, none⟩) N c5) zs) (hzl : zs.length = N) (hn : N ≤ 9000) (hBW : B ≤ W.heap.size)
    {tm : Array Value} (hsz : tm.size = 233) (hchk : chk tm [(0, p0), (5, .slice (some ⟨g5, 0, none⟩) N c5), (6, p6)]) {Q : Exit → Act → World → Prop}
    (hQ : ∀ W' ys, Al B W' (.slice (some ⟨g5, 0, none⟩) N c5) ys → ys.length = N → (∀ (j : Nat) (y : Value × List Value), ys[j]? = some y → y.2 = List.replicate y.2.length (keptV j)) → Below B W W' → ∀ tm : Array Value, tm.size = 233 → chk tm [(0, p0), (5, .slice (some ⟨g5, 0, none⟩) N c5), (6, p6)] → Q .normal { tmps := tm, defers := [] } W') :
    kB.wp Tryd.prog Q { tmps := tm, defers := [] } W := by
  have HIN : Hid (∀ (i : Nat) (w : World) (ys : List (Value × List Value)) (z : Value × List Value), Al B w (.slice (some ⟨g5, 0, none⟩) N c5) ys → ys[i]? = some z → ys.length = N → B ≤ w.heap.size → ∀ (tm : Array Value), tm.size = 233 → chk tm [(0, p0), (5, .slice (some ⟨g5, 0, none⟩) N c5), (6, p6), (14, .int .i64 (i : Int))] → ∀ (Q : Exit → Act → World → Prop), (∀ W', Al B W' (.slice (some ⟨g5, 0, none⟩) N c5) (ys.set i (z.1, List.replicate z.2.length (keptV i))) → Below B w W' → ∀ tm : Array Value, tm.size = 233 → chk tm [(0, p0), (5, .slice (some ⟨g5, 0, none⟩) N c5), (6, p6), (14, .int .i64 (i : Int))] → Q .normal { tmps := tm, defers := [] } W') → (ckOne kB).wp Tryd.prog Q { tmps := tm, defers := [] } w) := fun i w ys z h1 h2 h3 h4 tm h5 h6 Q h7 => inB_any h1 h2 (by omega) h4 h5 h6 h7
  have HQ := hide hQ
  have HA := hide hA
  have Hzl := hide hzl
  obtain ⟨u, rfl⟩ := frame233 hsz
  obtain ⟨e0, e5, e6, _⟩ := hchk
  replace e0 : u 0 = p0 := Option.some.inj e0
  replace e5 : u 5 = .slice (some ⟨g5, 0, none⟩) N c5 := Option.some.inj e5
  replace e6 : u 6 = p6 := Option.some.inj e6
  rw [e0, e5, e6]
  clear e0 e5 e6
  clear hQ hA hzl
  rw [kB_split]
  obtain ⟨t, ht⟩ : ∃ t, ckOne kB = t := ⟨_, rfl⟩
  rw [ht]
  unfold ckWith kB kBody
  dsimp only [Tryd.f6]
  go_wp2
  refine wp_loop_count (BK W B N (.slice (some ⟨g5, 0, none⟩) N c5) (fun i => [(0, p0), (5, .slice (some ⟨g5, 0, none⟩) N c5), (6, p6), (14, .int .i64 (i : Int))])) ?_ N _ _ ⟨_, 0, zs, rfl, rfl, ⟨rfl, rfl, rfl, rfl, trivial⟩, rfl, Nat.zero_le _, unhide Hzl, unhide HA, fun j y _ h => absurd h (Nat.not_lt_zero _), Below.refl _ _⟩
  clear HA Hzl
  rintro m _ wr ⟨tm, i, ys, rfl, hsz, hchk, hm, hi, hyl, hA, hF, hB⟩
  obtain ⟨x, rfl⟩ := frame233 hsz
  obtain ⟨e0, e5, e6, e14, _⟩ := hchk
  replace e0 : x 0 = p0 := Option.some.inj e0
  replace e5 : x 5 = .slice (some ⟨g5, 0, none⟩) N c5 := Option.some.inj e5
  replace e6 : x 6 = p6 := Option.some.inj e6
  replace e14 : x 14 = .int .i64 (i : Int) := Option.some.inj e14
  rw [e0, e5, e6, e14]
  clear e0 e5 e6 e14
  have Hm := hide hm
  have HA := hide hA
  have HF := hide hF
  have HB := hide hB
  have Hyl := hide hyl
  clear hm hA hF hB hyl
  by_cases hlt : i < N
  · have k1 : (i : Int) < (N : Int) := by omega
    obtain ⟨z, hz⟩ : ∃ z, ys[i]? = some z := ⟨_, List.getElem?_eq_getElem (by have := unhide Hyl; omega)⟩
    have Hz := hide hz
    clear hz
    go_wp2
    rw [← ht]
    refine unhide HIN i wr ys z (unhide HA) (unhide Hz) (unhide Hyl) (Nat.le_trans hBW (unhide HB).size) _ rfl ⟨rfl, rfl, rfl, rfl, trivial⟩ _ ?_
    intro W' r1 r2 tm hsz hchk
    have R1 := hide r1
    have HB' := hide ((unhide HB).trans r2)
    clear r1 r2
    obtain ⟨zz, rfl⟩ := frame233 hsz
    obtain ⟨e0, e5, e6, e14, _⟩ := hchk
    replace e0 : zz 0 = p0 := Option.some.inj e0
    replace e5 : zz 5 = .slice (some ⟨g5, 0, none⟩) N c5 := Option.some.inj e5
    replace e6 : zz 6 = p6 := Option.some.inj e6
    replace e14 : zz 14 = .int .i64 (i : Int) := Option.some.inj e14
    rw [e0, e5, e6, e14]
    clear e0 e5 e6 e14
    go_wp2
    exact ⟨N - (i + 1), by have := unhide Hm; omega, _, i + 1, _, rfl, rfl, ⟨rfl, rfl, rfl, (by first | rfl | (congr 1; go_num) | (simp; go_num)), trivial⟩, rfl, by omega, by rw [List.length_set]; exact unhide Hyl, unhide R1, BK.step (unhide Hz) (unhide HF), unhide HB'⟩
  · obtain rfl : i = N := by omega
    have k1 : ¬ (i : Int) < (i : Int) := by omega
    go_wp2
    exact unhide HQ _ ys (unhide HA) (unhide Hyl) (fun j y h => unhide HF j y h (by have := (List.getElem?_eq_some_iff.1 h).1; have := unhide Hyl; omega)) (unhide HB) _ rfl ⟨rfl, rfl, rfl, trivial⟩
theorem step_app_keeps {P : Program} {w : World} {ops : Array Oper} {o : Oper} {a : Act} {K : Act → World → Prop} {Q : Exit → Act → World → Prop} {E : Prop} (x0 : Tmp) (hx0 : o.dst = some x0) (hgd : o.guard = none) (s x : Operand) (t : TypeId)
    (ho : o.op = .call { callee := .builtin .append, args := #[s, x], argTypes := #[t, t] })
    (base : Nat) (e : TypeId) (i : TypeInfo) (z : Value) (size bytes : Nat) (ht : P.underlying t = some (.slice e)) (hi : P.info? e = some i) (hz : i.zero = some z)
    (hsize : i.size = size) (hby : i.bytes = bytes) (hzs : z.cells.size = size) (hsz : 0 < size)
    (v : Value) (n : Nat) (xs : List Value) (hs : a.eval s = v) (hown : w.ownsRow base e size v n xs)
    (ad : Addr) (m c : Nat) (news : List Value) (hx : a.eval x = .slice (some ad) m c) (hl : news.length = m * size) (hnews : ∀ j u, news[j]? = some u → w.cell? (ad.add j) = some u) (h1 : ∀ u ∈ news, u.oneCell' = true)
    (hm : 0 < m) (h63 : n + m ≤ maxLen) (hbytes : (n + m) * bytes ≤ 140737488355328) (hbase : base ≤ w.heap.size)
    (h : ∀ g' c' w', w'.ownsRow base e size (.slice (some ⟨g', 0, none⟩) (n + m) c') (n + m) (xs ++ news) → w'.ownsRow base e size v n xs → w.grownBy w' v.ownBlock → (v.ownBlock = some g' ∨ w.heap.size ≤ g') → K (a.put (some x0) (.slice (some ⟨g', 0, none⟩) (n + m) c')) w') :
    if Region.wanted o (yielded ops a.tmps) = true then Oper.wp P o a w K Q else E := by
  rw [← hx0] at h
  have hw : Region.wanted o (yielded ops a.tmps) = true := by simp [Region.wanted, hgd]
  rw [if_pos hw]
  obtain ⟨g', c', w', hr, h2, h3, h4, h5, -⟩ := run_append_keeps (P := P) w t o.type base e i z size bytes ht hi hz hsize hby hzs hsz v n xs hown ad m c news hl hnews h1 hm h63 hbytes hbase
  unfold Oper.wp execOp
  simp only [ho, resolve, invoke, builtin, Sem.run_bind, Sem.run_pure, Result.andThen_ok, List.map_toArray, List.map_cons, List.map_nil, hs, hx, hr]
  exact h g' c' w' h2 h3 h4 h5
theorem Gr.row {W w : World} {B n : Nat} {yv gv : Value} {ks ls : List Value} (h : Gr W B yv ks ls w gv) (hn : n = ks.length + ls.length) : w.ownsRow B 9 1 gv n (ks ++ ls) := by
  have := h.long
  unfold Rs at this
  rw [List.length_append, ← hn] at this
  exact this
theorem moreL_len (i k : Nat) : (moreL i k).length = k := by simp [moreL]
theorem moreL_one (i : Nat) : moreL i 1 = [] ++ [moreV i] := rfl
/-- Between two appends. -/
def CIJ (W : World) (B i L : Nat) (yv : Value) (ks : List Value) (C : Value → Nat → List (Nat × Value)) (m : Nat) (a : Act) (w : World) : Prop := ∃ (tm : Array Value) (k g c : Nat), a = ⟨tm, []⟩ ∧ tm.size = 233 ∧ chk tm (C (.slice (some ⟨g, 0, none⟩) (L + 1 + k) c) k) ∧ m = 70 - k ∧ k ≤ 70 ∧ Gr W B yv ks (moreL i (k + 1)) w (.slice (some ⟨g, 0, none⟩) (L + 1 + k) c)
set_option maxRecDepth 100000 in
set_option maxHeartbeats 8000000 in
theorem inC_any {W : World} {B i : Nat} {p0 v5 v6 : Value} {ys : List (Value × List Value)} {ms : List Value} {y : Value × List Value} (hA : Al B W v5 ys) (hM : Mz B W v5 v6 ys ms) (hy : ys[i]? = some y) (hml : ms.length = i) (hn : ys.length ≤ 9000) (hBW : B ≤ W.heap.size)
    {tm : Array Value} (hsz : tm.size = 233) (hchk : chk tm [(0, p0), (5, v5), (6, v6), (17, .int .i64 (i : Int))]) {Q : Exit → Act → World → Prop}
    (hQ : ∀ W' v6' gv, Al B W' v5 ys → Mz B W' v5 v6' ys (ms ++ [gv]) → Below B W W' → ∀ tm : Array Value, tm.size = 233 → chk tm [(0, p0), (5, v5), (6, v6'), (17, .int .i64 (i : Int))] → Q .normal { tmps := tm, defers := [] } W') :
    (ckOne kC).wp Tryd.prog Q { tmps := tm, defers := [] } W := by
  obtain ⟨i0, hi0, hz0, hz1, hz2⟩ := info_parts infoS
  obtain ⟨i1, qi, qz0, qz1, qz2⟩ := info_parts infoStrs
  have hil : i < ys.length := (List.getElem?_eq_some_iff.1 hy).1
  obtain ⟨yv, ks⟩ := y
  obtain ⟨hr, hks⟩ := hA.each _ (List.mem_of_getElem? hy)
  simp only at hr hks
  have hyv : ∀ b, yv.ownBlock = some b → B ≤ b ∧ b < W.heap.size := fun b e => World.ownsRow.lt hr b e
  obtain ⟨g5, c5, rfl, hc5⟩ := hA.cell hy
  simp only at hc5
  have hg5 : g5 < W.heap.size := (World.ownsRow.lt hA.row g5 rfl).2
  have hne5 : some g5 ≠ yv.ownBlock := fun e => by
    rcases (row_ne hA.row hr).2 with q | q
    · cases q
    · exact q e
  obtain ⟨a6, c6, rfl⟩ := hM.form
  obtain ⟨L, hL⟩ : ∃ L, ks.length = L := ⟨_, rfl⟩
  rw [hL] at hks
  obtain ⟨mi, hmi⟩ : ∃ m, mkS i = m := ⟨_, rfl⟩
  have hms : mi.size ≤ 9001 := by rw [← hmi]; have := mkS_size i; omega
  have n1 : ¬ 9223372036854775807 < 5 + mi.size := by omega
  have HMk : Hid (∀ w, Calls Tryd.prog 12 #[.int .i64 (i : Int)] w fun e w' => e = .returned (.string mi) ∧ Below w.heap.size w w') := fun w => by
    rw [← hmi]
    exact marked_any i (by omega) w
  have HU : Hid (moreV i = .string (⟨#[109, 111, 114, 101, 32]⟩ ++ mi)) := by
    show _ = _
    rw [← hmi]
    rfl
  have HG0 := hide (Gr.start hr)
  have HQ := hide hQ
  have HA := hide hA
  have HM := hide hM
  have Hy := hide hy
  have Hml := hide hml
  have HL := hide hL
  have Hyv := hide hyv
  have k0 : (0 : Int) ≤ (i : Int) := Int.natCast_nonneg _
  have k1 : (i : Int) < (ys.length : Int) := by omega
  obtain ⟨u, rfl⟩ := frame233 hsz
  obtain ⟨e0, e5, e6, e17, _⟩ := hchk
  replace e0 : u 0 = p0 := Option.some.inj e0
  replace e5 : u 5 = .slice (some ⟨g5, 0, none⟩) ys.length c5 := Option.some.inj e5
  replace e6 : u 6 = .slice a6 ms.length c6 := Option.some.inj e6
  replace e17 : u 17 = .int .i64 (i : Int) := Option.some.inj e17
  rw [e0, e5, e6, e17]
  clear e0 e5 e6 e17
  clear hQ hA hM hy hml hL hyv hmi hms hr
  unfold ckOne kC kBody
  dsimp only [Tryd.f6]
  go_upto_region 27 with fail
  refine wp_region_noPanic ?_
  refine wp_region_any (by kernel_rfl) ?_
  try (change wpAny _ _ _ _ _ _ _ (World.drew _))
  have hdr : Below W.heap.size W W.drew := below_drewN (Below.refl _ _) 1
  have hTd : W.drew.cell? ⟨g5, i, none⟩ = some yv := (hdr.cell (p := ⟨g5, i, none⟩) hg5).trans hc5
  have HBd := hide hdr
  have HGd := hide ((unhide HG0).up hdr)
  obtain ⟨wd, hwd⟩ : ∃ x, W.drew = x := ⟨_, rfl⟩
  rw [hwd] at hTd HBd HGd ⊢
  clear hwd hdr HG0 hc5
  refine wpAny_of_Z (z := 9) (T := fun w' => w'.cell? ⟨g5, i, none⟩ = some yv) _ _ _ _ ?_
  have hT : (fun w' : World => w'.cell? ⟨g5, i, none⟩ = some yv) wd := hTd
  refine wpAnyZ_tk 0 (.slice (some ⟨g5, 0, none⟩) ys.length c5) 141 rfl rfl (Or.inl ⟨by rfl, fun w' hw => by have hw' : w'.cell? ⟨g5, i, none⟩ = some yv := hw; go_simp⟩) hT ?_
  simp only [Act.put, List.setIfInBounds_toArray, List.set_cons_zero, List.set_cons_succ]
  refine wpAnyZ_tk 1 (.int .i64 (i : Int)) 142 rfl rfl (Or.inl ⟨by rfl, fun w' hw => by have hw' : w'.cell? ⟨g5, i, none⟩ = some yv := hw; go_simp⟩) hT ?_
  simp only [Act.put, List.setIfInBounds_toArray, List.set_cons_zero, List.set_cons_succ]
  refine wpAnyZ_tk 2 (.pointer (some ⟨g5, i, none⟩)) 143 rfl rfl (Or.inl ⟨by rfl, fun w' hw => by have hw' : w'.cell? ⟨g5, i, none⟩ = some yv := hw; go_simp⟩) hT ?_
  simp only [Act.put, List.setIfInBounds_toArray, List.set_cons_zero, List.set_cons_succ]
  refine wpAnyZ_tk 3 (yv) 144 rfl rfl (Or.inl ⟨by rfl, fun w' hw => by have hw' : w'.cell? ⟨g5, i, none⟩ = some yv := hw; go_simp⟩) hT ?_
  simp only [Act.put, List.setIfInBounds_toArray, List.set_cons_zero, List.set_cons_succ]
  refine wpAnyZ_tk 4 (.int .i64 (i : Int)) 145 rfl rfl (Or.inl ⟨by rfl, fun w' hw => by have hw' : w'.cell? ⟨g5, i, none⟩ = some yv := hw; go_simp⟩) hT ?_
  simp only [Act.put, List.setIfInBounds_toArray, List.set_cons_zero, List.set_cons_succ]
  refine wpAnyZ_one 5 (by kernel_rfl) rfl (fun K hK => ?_)
  refine step_callD 146 rfl rfl 12 (fun vs => by kernel_rfl) #[.tmp 145] #[3] rfl #[.int .i64 (i : Int)] (by first | rfl | simp [Act.eval]) (unhide HMk wd) ?_
  rintro e w1 ⟨rfl, hb1⟩
  have hT1 : w1.cell? ⟨g5, i, none⟩ = some yv := (hb1.cell (p := ⟨g5, i, none⟩) (Nat.lt_of_lt_of_le hg5 (unhide HBd).size)).trans hTd
  have HB1 := hide ((unhide HBd).trans (hb1.mono (unhide HBd).size))
  have HG1 := hide ((unhide HGd).up hb1)
  refine ⟨_, rfl, ?_⟩
  refine hK _ _ ⟨fun _ => hT1, ?_⟩
  clear hK K hb1 hT hTd HGd HBd
  simp only [Act.put, List.setIfInBounds_toArray, List.set_cons_zero, List.set_cons_succ]
  refine wpAnyZ_one 6 (by kernel_rfl) rfl (fun K hK => ?_)
  go_simp
  refine hK _ _ ⟨fun _ => hT1, ?_⟩
  clear hK K
  refine wpAnyZ_one 7 (by kernel_rfl) rfl (fun K hK => ?_)
  go_simp
  have hnw := cells_new w1 [.string (⟨#[109, 111, 114, 101, 32]⟩ ++ mi)] 9
  have hba : Below w1.heap.size w1 (w1.alloc (.cells #[.string (⟨#[109, 111, 114, 101, 32]⟩ ++ mi)] 9)) := (Below.refl _ _).alloc (Nat.le_refl _) _
  have hT2 : (w1.alloc (.cells #[.string (⟨#[109, 111, 114, 101, 32]⟩ ++ mi)] 9)).cell? ⟨g5, i, none⟩ = some yv := (hba.cell (p := ⟨g5, i, none⟩) (Nat.lt_of_lt_of_le hg5 (unhide HB1).size)).trans hT1
  have HG2 := hide ((unhide HG1).up hba)
  have HB2 := hide ((unhide HB1).trans (hba.mono (unhide HB1).size))
  refine hK _ _ ⟨fun _ => hT2, ?_⟩
  clear hK K hT1 HG1 HB1
  obtain ⟨w2, hw2⟩ : ∃ x, w1.alloc (.cells #[.string (⟨#[109, 111, 114, 101, 32]⟩ ++ mi)] 9) = x := ⟨_, rfl⟩
  have hnw2 : ∀ j u, [Value.string (⟨#[109, 111, 114, 101, 32]⟩ ++ mi)][j]? = some u → w2.cell? ((⟨w1.heap.size, 0, none⟩ : Addr).add j) = some u := by rw [← hw2]; exact hnw
  rw [hw2] at hT2 HG2 HB2 ⊢
  clear hw2 hba hnw
  refine wpAnyZ_one 8 (by kernel_rfl) rfl (fun K hK => ?_)
  refine step_app_keeps 149 rfl rfl (.tmp 144) (.tmp 148) 22 rfl B 9 i0 (.string ByteArray.empty) 1 16 Tryd.underlying22 hi0 hz0 hz1 hz2 rfl (by decide) yv L (ks ++ []) (by first | rfl | simp [Act.eval]) ((unhide HG2).row (by rw [unhide HL]; rfl)) ⟨w1.heap.size, 0, none⟩ 1 1 [.string (⟨#[109, 111, 114, 101, 32]⟩ ++ mi)] (by first | rfl | simp [Act.eval]) rfl hnw2 (by simp [Value.oneCell']) (by decide) (by unfold maxLen; omega) (by omega) (Nat.le_trans hBW (unhide HB2).size) ?_
  intro g' c' w4 o1 o2 o3 o4
  have hG4 := Gr.step (unhide HG2) (fun b e => (unhide Hyv b e).2) (n := L) (by rw [unhide HL]; rfl) o1 o2 o3 o4
  have hT4 : w4.cell? ⟨g5, i, none⟩ = some yv := (World.cell?_of_block (a := ⟨g5, i, none⟩) (o3.block g5 (Nat.lt_of_lt_of_le hg5 (unhide HB2).size) hne5)).trans hT2
  rw [← unhide HU, ← moreL_one] at hG4
  have HG4 := hide hG4
  refine hK _ _ ⟨fun _ => hT4, ?_⟩
  clear hK K o1 o2 o3 o4 hG4 hT2 HG2 HB2 hnw2
  simp only [Act.put, List.setIfInBounds_toArray, List.set_cons_zero, List.set_cons_succ]
  refine wpAnyZ_one 9 (by kernel_rfl) rfl (fun K hK => ?_)
  go_simp
  refine hK _ _ ⟨fun q => absurd rfl q, ?_⟩
  clear hK K hT4
  refine wpAnyZ_done (by kernel_rfl) ?_
  refine NoPanic.normal ?_
  go_wp2
  refine wp_loop_count (CIJ W B i L yv ks (fun gv k => [(0, p0), (5, .slice (some ⟨g5, 0, none⟩) ys.length c5), (6, .slice a6 ms.length c6), (17, .int .i64 (i : Int)), (18, gv), (19, .int .i64 (k : Int))])) ?_ 70 _ _ ⟨_, 0, g', c', rfl, rfl, ⟨rfl, rfl, rfl, rfl, rfl, rfl, trivial⟩, rfl, Nat.zero_le _, unhide HG4⟩
  clear HG4
  rintro m _ wr ⟨tm, k, g, c, rfl, hsz, hchk, hm, hk, hG⟩
  obtain ⟨x, rfl⟩ := frame233 hsz
  obtain ⟨e0, e5, e6, e17, e18, e19, _⟩ := hchk
  replace e0 : x 0 = p0 := Option.some.inj e0
  replace e5 : x 5 = .slice (some ⟨g5, 0, none⟩) ys.length c5 := Option.some.inj e5
  replace e6 : x 6 = .slice a6 ms.length c6 := Option.some.inj e6
  replace e17 : x 17 = .int .i64 (i : Int) := Option.some.inj e17
  replace e18 : x 18 = .slice (some ⟨g, 0, none⟩) (L + 1 + k) c := Option.some.inj e18
  replace e19 : x 19 = .int .i64 (k : Int) := Option.some.inj e19
  rw [e0, e5, e6, e17, e18, e19]
  clear e0 e5 e6 e17 e18 e19
  have Hm := hide hm
  have HG := hide hG
  clear hm hG
  by_cases hlt : k < 70
  · have q1 : (k : Int) < 70 := by omega
    have q0 : (0 : Int) ≤ (k : Int) := Int.natCast_nonneg _
    obtain ⟨n, hn2⟩ : ∃ n, L + 1 + k = n := ⟨_, rfl⟩
    have hnl : n ≤ 70100 := by omega
    have Hn := hide hn2
    rw [hn2] at HG ⊢
    clear hn2
    go_wp2_with fail
    refine (unhide HMk wr).mono ?_
    rintro e w1 ⟨rfl, hb1⟩
    have hba : Below w1.heap.size w1 (w1.alloc (.cells #[.string (⟨#[109, 111, 114, 101, 32]⟩ ++ mi)] 9)) := (Below.refl _ _).alloc (Nat.le_refl _) _
    have hGa := ((unhide HG).up hb1).up hba
    have hsa : B ≤ (w1.alloc (.cells #[.string (⟨#[109, 111, 114, 101, 32]⟩ ++ mi)] 9)).heap.size := Nat.le_trans (Nat.le_trans hBW hGa.grown.size) (Nat.le_refl _)
    have HGa := hide hGa
    have Hsa := hide hsa
    clear hb1 hba HG hGa hsa
    go_wp2_with (at_builtin; refine wpList_append_keeps _ rfl _ _ 22 rfl B 9 i0 (.string ByteArray.empty) 1 16 Tryd.underlying22 hi0 hz0 hz1 hz2 rfl (by decide) _ n (ks ++ moreL i (k + 1)) rfl ((unhide HGa).row (by have := unhide Hn; have := unhide HL; rw [moreL_len]; omega)) ⟨w1.heap.size, 0, none⟩ 1 1 [.string (⟨#[109, 111, 114, 101, 32]⟩ ++ mi)] rfl rfl (cells_new _ _ _) (by simp [Value.oneCell']) (by decide) (by unfold maxLen; omega) (by omega) (unhide Hsa) ?_; intro g' c' w4 o1 o2 o3 o4 _; have HG4 := hide (Gr.step (unhide HGa) (fun b e => (unhide Hyv b e).2) (n := n) (by have := unhide Hn; have := unhide HL; rw [moreL_len]; omega) o1 o2 o3 o4); clear o1 o2 o3 o4)
    rw [← unhide HU, ← moreL_succ] at HG4
    have hn3 : n + 1 = L + 1 + (k + 1) := by have := unhide Hn; omega
    rw [hn3] at HG4
    exact ⟨70 - (k + 1), by have := unhide Hm; omega, _, k + 1, g', c', rfl, rfl, ⟨rfl, rfl, rfl, rfl, (by first | rfl | (rw [← hn3]; rfl)), (by first | rfl | (congr 1; go_num) | (simp; go_num)), trivial⟩, rfl, by omega, unhide HG4⟩
  · obtain rfl : k = 70 := by omega
    obtain ⟨n, hn2⟩ : ∃ n, L + 1 + 70 = n := ⟨_, rfl⟩
    rw [hn2] at HG ⊢
    have hM2 := (unhide HM).far (unhide Hy) (unhide Hml) ((unhide HA).each _ (List.mem_of_getElem? (unhide Hy))).1 (unhide HG)
    have HR := hide hM2.row
    have hml : ms.length ≤ 9000 := by have := unhide Hml; omega
    have hgs := (unhide HG).grown.size
    clear hM2 hn2
    go_wp2_with (at_builtin; refine wpList_append_own_at _ rfl _ _ 35 rfl B 22 i1 (.slice none 0 0) 1 24 Tryd.underlying35 qi qz0 qz1 qz2 rfl (by decide) _ _ _ rfl ((unhide HR).alloc _) ⟨wr.heap.size, 0, none⟩ 1 1 [.slice (some ⟨g, 0, none⟩) n c] rfl rfl (cells_new _ _ _) (by simp [Value.oneCell']) (by unfold maxLen; omega) (by omega) (by rw [World.size_alloc]; omega) ?_; intro v' w4 hown hgrow _ hat; obtain ⟨hM4, hA4⟩ := (unhide HM).push (unhide HA) (unhide Hy) (unhide Hml) (unhide HG) hgrow hown hat; have HB4 : Hid (Below B W w4) := (Below.mono ((Below.refl _ _ : Below W.heap.size W W)) hBW).trans (((Below.refl B W).grown (unhide HG).grown hBW (fun b e => (unhide Hyv b e).1)).trans ((Below.refl B wr).grown ((World.grownBy_alloc wr _ _).trans hgrow) (Nat.le_trans hBW hgs) (fun b e => (World.ownsRow.lt (unhide HR) b e).1))); have HM4 := hide hM4; have HA4 := hide hA4; clear hM4 hA4 hown hgrow hat)
    exact unhide HQ _ _ _ (unhide HA4) (unhide HM4) (unhide HB4) _ rfl ⟨rfl, rfl, rfl, rfl, trivial⟩
end Go.Proofs.YtadmamfekodkaaaDoor
