import Derived.Test.YtadmamfekodkaaaDoorHsL
import Derived.Test.YtadmamfekodkaaaDoorSO

namespace Go.Proofs.YtadmamfekodkaaaDoor
open Go.RowKit
attribute [local go_sem ↓] Go.wp_at_zero Go.wp_at_succ

theorem run_len : ∀ (L : List Nat) (s : RS), (runR L s).words.length ≤ s.words.length + L.length
  | [], s => Nat.le_refl _
  | c :: r, s => by
    rw [runR]
    split
    · exact Nat.le_add_right _ _
    · have h1 := run_len r (nextR c s)
      have h2 := (next_len c s).2
      rw [List.length_cons]
      omega
theorem wR_len (s : ByteArray) : (wR s).1.length ≤ 70000 := by
  unfold wR
  split
  · exact Nat.zero_le _
  · have h1 := run_len (strN s) rs0
    rw [strN_len] at h1
    have h2 : rs0.words.length = 0 := rfl
    cases h : finR (runR (strN s) rs0) with
    | none => exact Nat.zero_le _
    | some ws =>
      show ws.length ≤ 70000
      unfold finR at h
      split at h
      · split at h
        · cases h
        · have := Option.some.inj h
          rw [← this, List.length_append]
          simp
          omega
      · split at h
        · cases h
        · have := Option.some.inj h
          rw [← this]
          omega
theorem wsC_len (l : List (List Nat)) : (wsC l).length = l.length := by simp [wsC]
theorem rs_of {B : Nat} {w : World} {v : Value} {l : List (List Nat)} (h : w.ownsRow B 9 1 v l.length (wsC l)) : Rs B w v (wsC l) := by
  unfold Rs
  rw [wsC_len]
  exact h
/-- A list that is newer than all of them. -/
theorem Al.fresh {B C : Nat} {w w' : World} {v v5 : Value} {zs : List (Value × List Value)} {ks : List Value} (h : Al B w v5 zs) (hv : Rs C w' v ks) (hC : w.heap.size ≤ C) : ∀ z ∈ zs, ∀ b, z.1.ownBlock = some b → v.ownBlock ≠ some b := fun z hz b e q => by
  have h1 := (h.lt hz e).2
  have h2 := (World.ownsRow.lt hv b q).1
  omega
set_option maxRecDepth 100000 in
set_option maxHeartbeats 4000000 in
theorem inA_any {W : World} {B i c0 : Nat} {a0 : Option Addr} {v5 : Value} {l : List ByteArray} {zs : List (Value × List Value)} (hE : HasE W) (hS : HasS W (.slice a0 l.length c0) l) (hil : i < l.length) (hA : Al B W v5 zs) (hz : zs.length ≤ 10000) (hBW : B ≤ W.heap.size)
    {tm : Array Value} (hsz : tm.size = 233) (hchk : chk tm [(0, .slice a0 l.length c0), (5, v5), (6, .slice none 0 0), (7, .int .i64 (i : Int))]) {Q : Exit → Act → World → Prop}
    (hQ : ∀ W' v5' zs', Al B W' v5' zs' → zs'.length = zs.length + 2 → Below B W W' → ∀ tm : Array Value, tm.size = 233 → chk tm [(0, .slice a0 l.length c0), (5, v5'), (6, .slice none 0 0), (7, .int .i64 (i : Int))] → Q .normal { tmps := tm, defers := [] } W') :
    (ckOne kA).wp Tryd.prog Q { tmps := tm, defers := [] } W := by
  obtain ⟨i1, qi, qz0, qz1, qz2⟩ := info_parts infoStrs
  obtain ⟨s, hx⟩ : ∃ s, l[i]? = some s := ⟨_, List.getElem?_eq_getElem hil⟩
  obtain ⟨R, hR⟩ : ∃ R, wR s = R := ⟨_, rfl⟩
  have hRl : R.1.length ≤ 70000 := by rw [← hR]; exact wR_len s
  have H1 : Hid (∀ w, Below W.heap.size W w → Calls Tryd.prog 7 #[.string s] w (WdQ w R)) := fun w hb => by
    rw [← hR]
    exact hWords_any (hE.up hb) s
  have H2 : Hid (∀ w, Calls Tryd.prog 8 #[.string s] w (WdQ w R)) := fun w => by
    rw [← hR]
    exact xWords_any w s
  have HA := hide hA
  have HQ := hide hQ
  have HRl := hide hRl
  obtain ⟨a', c', e, -, h3⟩ := hS
  cases e
  obtain ⟨g0, o0, rfl, hg0, hc0⟩ := h3 (by omega)
  have c0a := hc0 i s hx
  have k0 : (0 : Int) ≤ (i : Int) := Int.natCast_nonneg _
  have k1 : (i : Int) < (l.length : Int) := by omega
  have k2 : ((R.2 : Int) != (R.2 : Int)) = false := by simp
  obtain ⟨a5, c5, rfl⟩ := hA.form
  obtain ⟨u, rfl⟩ := frame233 hsz
  obtain ⟨e0, e5, e6, e7, _⟩ := hchk
  replace e0 : u 0 = .slice (some ⟨g0, o0, none⟩) l.length c0 := Option.some.inj e0
  replace e5 : u 5 = .slice a5 zs.length c5 := Option.some.inj e5
  replace e6 : u 6 = .slice none 0 0 := Option.some.inj e6
  replace e7 : u 7 = .int .i64 (i : Int) := Option.some.inj e7
  rw [e0, e5, e6, e7]
  clear e0 e5 e6 e7
  clear hA hQ hR hE hx hRl h3 hc0
  unfold ckOne kA kBody
  dsimp only [Tryd.f6]
  go_wp2_with fail
  refine (unhide H1 W (Below.refl _ _)).mono ?_
  rintro e w1 ⟨v1, rfl, ho1, hb1⟩
  have c0b := (hb1.cell (p := ⟨g0, o0 + i, none⟩) hg0).trans c0a
  have HB1 := hide hb1
  have HO1 := hide ho1
  obtain ⟨a1, q1, rfl⟩ := own_form ho1
  clear hb1 ho1 c0a
  go_wp2_with fail
  refine (unhide H1 w1 (unhide HB1)).mono ?_
  rintro e w2 ⟨v2, rfl, ho2, hb2⟩
  have HB2 := hide ((unhide HB1).trans (hb2.mono (unhide HB1).size))
  have HO12 := hide (own_up (unhide HO1) hb2)
  have c0c := ((unhide HB2).cell (p := ⟨g0, o0 + i, none⟩) hg0).trans (((unhide HB1).cell (p := ⟨g0, o0 + i, none⟩) hg0).symm.trans c0b)
  have HO2 := hide ho2
  obtain ⟨a2, q2, rfl⟩ := own_form ho2
  clear hb2 ho2 c0b H1
  go_wp2_with fail
  refine (unhide H2 w2).mono ?_
  rintro e w3 ⟨v3, rfl, ho3, hb3⟩
  have HB3 := hide ((unhide HB2).trans (hb3.mono (unhide HB2).size))
  have HO13 := hide (own_up (unhide HO12) hb3)
  have HO23 := hide (own_up (unhide HO2) hb3)
  have HS1 := hide (lsame_any (unhide HO13) ho3)
  have HO3 := hide ho3
  obtain ⟨a3, q3, rfl⟩ := own_form ho3
  clear hb3 ho3 c0c H2 HO12 HO2
  go_wp2_with fail
  refine (unhide HS1).mono ?_
  rintro e w4 ⟨rfl, m4, rfl⟩
  have hdr : Below w3.heap.size w3 (w3.drewN m4) := below_drewN (Below.refl _ _) m4
  have HB4 := hide ((unhide HB3).trans (hdr.mono (unhide HB3).size))
  have HO14 := hide (own_up (unhide HO13) hdr)
  have HO24 := hide (own_up (unhide HO23) hdr)
  have HS2 := hide (lsame_any (unhide HO24) (own_up (unhide HO3) hdr))
  obtain ⟨w4, hw4⟩ : ∃ x, w3.drewN m4 = x := ⟨_, rfl⟩
  rw [hw4] at HB4 HO14 HO24 HS2 ⊢
  clear hdr hw4 HS1 HO13 HO23 HO3
  go_wp2_with fail
  refine (unhide HS2).mono ?_
  rintro e w5 ⟨rfl, m5, rfl⟩
  have hdr : Below w4.heap.size w4 (w4.drewN m5) := below_drewN (Below.refl _ _) m5
  have HB5 := hide ((unhide HB4).trans (hdr.mono (unhide HB4).size))
  have HO15 := hide (own_up (unhide HO14) hdr)
  have HO25 := hide (own_up (unhide HO24) hdr)
  obtain ⟨w5, hw5⟩ : ∃ x, w4.drewN m5 = x := ⟨_, rfl⟩
  rw [hw5] at HB5 HO15 HO25 ⊢
  clear hdr hw5 HS2 HO14 HO24
  have hs1 := (unhide HB1).size
  have hs5 := (unhide HB5).size
  have HA5 := hide ((unhide HA).up (unhide HB5))
  have HN1 := hide ((unhide HA).fresh (rs_of (unhide HO1)) (Nat.le_refl _))
  have HN2 := hide ((unhide HA).fresh (rs_of (unhide HO25)) hs1)
  have HN12 : Hid (∀ b, Value.ownBlock (.slice a1 R.1.length q1) = some b → Value.ownBlock (.slice a2 R.1.length q2) ≠ some b) := fun b e q => by
    have h1 := (World.ownsRow.lt (unhide HO1) b e).2
    have h2 := (World.ownsRow.lt (unhide HO25) b q).1
    omega
  have HV1 := hide ((rs_of (unhide HO15)).low hBW)
  have HV2 := hide ((rs_of (unhide HO25)).low (Nat.le_trans hBW hs1))
  clear HO1 HO15 HO25 HB1 HB2 HB3 HB4 HA
  have HP : Hid (∀ w6 v6 ob, (w5.alloc ob).grownBy w6 (Value.ownBlock (.slice a5 zs.length c5)) → w6.ownsRow B 22 1 v6 (zs.length + 1) (zs.map (·.1) ++ [.slice a1 R.1.length q1]) → Al B w6 v6 (zs ++ [(.slice a1 R.1.length q1, wsC R.1)]) ∧ Rs B w6 (.slice a2 R.1.length q2) (wsC R.1) ∧ Below B W w6) := fun w6 v6 ob hg ho => by
    have hgg : w5.grownBy w6 (Value.ownBlock (.slice a5 zs.length c5)) := (World.grownBy_alloc w5 ob _).trans hg
    exact ⟨(unhide HA5).push (unhide HV1) (by rw [wsC_len]; exact unhide HRl) (unhide HN1) hg ho, (unhide HV2).kept hgg (row_ne (unhide HA5).row (unhide HV2)).1, (Below.mono (unhide HB5) hBW).trans ((Below.refl _ _).grown hgg (by omega) (fun b e => (World.ownsRow.lt (unhide HA5).row b e).1))⟩
  have HP2 : Hid (∀ (w6 w7 : World) (v6 v7 : Value) ob, Al B w6 v6 (zs ++ [(.slice a1 R.1.length q1, wsC R.1)]) → Rs B w6 (.slice a2 R.1.length q2) (wsC R.1) → Below B W w6 → (w6.alloc ob).grownBy w7 v6.ownBlock → w7.ownsRow B 22 1 v7 (zs.length + 1 + 1) (zs.map (·.1) ++ [.slice a1 R.1.length q1] ++ [.slice a2 R.1.length q2]) → Al B w7 v7 (zs ++ [(.slice a1 R.1.length q1, wsC R.1)] ++ [(.slice a2 R.1.length q2, wsC R.1)]) ∧ Below B W w7) := fun w6 w7 v6 v7 ob hA hV hb hg ho => by
    have hgg : w6.grownBy w7 v6.ownBlock := (World.grownBy_alloc w6 ob _).trans hg
    refine ⟨hA.push hV (by rw [wsC_len]; exact unhide HRl) (fun z hz b e => ?_) hg (by simpa using ho), hb.trans ((Below.refl _ _).grown hgg (Nat.le_trans hBW hb.size) (fun b e => (World.ownsRow.lt hA.row b e).1))⟩
    rcases List.mem_append.1 hz with hz | hz
    · exact unhide HN2 z hz b e
    · obtain rfl := List.mem_singleton.1 hz
      exact unhide HN12 b e
  have O1 : Hid (zs.length + 1 ≤ maxLen) := by show _ ≤ _; unfold maxLen; omega
  have O2 : Hid ((zs.length + 1) * 24 ≤ 140737488355328) := by show _ ≤ _; omega
  have O3 : Hid (zs.length + 1 + 1 ≤ maxLen) := by show _ ≤ _; unfold maxLen; omega
  have O4 : Hid ((zs.length + 1 + 1) * 24 ≤ 140737488355328) := by show _ ≤ _; omega
  have HBW := hide hBW
  clear HN1 HN2 HN12 HV1 HV2 hz hs1 hs5 hBW
  go_wp2_with (first
    | (at_builtin; clear O1; refine wpList_append_own_at _ rfl _ _ 35 rfl B 22 i1 (.slice none 0 0) 1 24 Tryd.underlying35 qi qz0 qz1 qz2 rfl (by decide) _ _ _ rfl ((unhide HA5).row.alloc _) ⟨w5.heap.size, 0, none⟩ 1 1 [.slice a1 R.1.length q1] rfl rfl (cells_new _ _ _) (by simp [Value.oneCell']) (by have := unhide O3; omega) (unhide O2) (by have := unhide HBW; have := (unhide HB5).size; rw [World.size_alloc]; omega) ?_; intro v6 w6 hown6 hgrow6 _ _; obtain ⟨hA6, hV6, hB6⟩ := unhide HP w6 v6 _ hgrow6 hown6; have HR6 := hide hown6; obtain ⟨a6, c6, rfl⟩ := own_form hown6; have HA6 := hide hA6; have HV6 := hide hV6; have HB6 := hide hB6; clear hA6 hV6 hB6 hown6 hgrow6)
    | (at_builtin; clear O3; refine wpList_append_own_at _ rfl _ _ 35 rfl B 22 i1 (.slice none 0 0) 1 24 Tryd.underlying35 qi qz0 qz1 qz2 rfl (by decide) _ _ _ rfl ((unhide HR6).alloc _) ⟨w6.heap.size, 0, none⟩ 1 1 [.slice a2 R.1.length q2] rfl rfl (cells_new _ _ _) (by simp [Value.oneCell']) (by unfold maxLen; have := unhide O4; omega) (unhide O4) (by have := unhide HBW; have := (unhide HB6).size; rw [World.size_alloc]; omega) ?_; intro v7 w7 hown7 hgrow7 _ _; obtain ⟨hA7, hB7⟩ := unhide HP2 w6 w7 _ v7 _ (unhide HA6) (unhide HV6) (unhide HB6) hgrow7 hown7; have HA7 := hide hA7; have HB7 := hide hB7; clear hA7 hB7 hown7 hgrow7))
  exact unhide HQ _ _ _ (unhide HA7) (by rw [List.length_append, List.length_append]; rfl) (unhide HB7) _ rfl ⟨rfl, rfl, rfl, rfl, trivial⟩
end Go.Proofs.YtadmamfekodkaaaDoor
