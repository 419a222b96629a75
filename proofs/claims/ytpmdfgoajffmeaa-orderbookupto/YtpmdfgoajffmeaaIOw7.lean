import Derived.Test.YtpmdfgoajffmeaaIOw6
import Derived.Deep.RegionHeld3

namespace Go.Proofs.Ytpmdfgoajffmeaa
open Go.RowKit Go.Shelf
attribute [local go_sem ↓] Go.wp_at_zero Go.wp_at_succ

theorem ow1_tm {W : World} {bm b3 kc : Nat} {ka : Option Addr} {T : BT} (hM : IsM W (some ⟨bm, 0, none⟩) T) (h3 : W.cell? ⟨b3, 1, none⟩ = some (.slice ka T.io.length kc)) (hK3 : IsKs W (.slice ka T.io.length kc) (T.io.map (·.1))) (hL : T.io.length ≤ 17592186044320) {tm : Array Value} (hsz : tm.size = 159) (hc : chk tm [(0, .pointer (some ⟨bm, 0, none⟩)), (3, .pointer (some ⟨b3, 0, none⟩)), (5, .slice none 0 0)]) {Q : Exit → Act → World → Prop}
    (hQ : ∀ W' v5 gs, Ow W.heap.size W' v5 T.io.length gs (fun _ => T.io.map (·.1)) → gs.length = 5 → Below W.heap.size W W' → ∀ tm : Array Value, tm.size = 159 → chk tm [(0, .pointer (some ⟨bm, 0, none⟩)), (3, .pointer (some ⟨b3, 0, none⟩)), (5, v5)] → Q .normal { tmps := tm, defers := [] } W') : ow1.wp Try.prog Q { tmps := tm, defers := [] } W := by
  obtain ⟨u, rfl⟩ := frame159 hsz
  obtain ⟨e0, e3, e5, _⟩ := hc
  rw [show u 0 = _ from Option.some.inj e0, show u 3 = _ from Option.some.inj e3, show u 5 = _ from Option.some.inj e5]
  exact ow1_any hM h3 hK3 hL u hQ
theorem ow2_tm {W : World} {bm b3 B g5 c5 L : Nat} {v8 : Value} {ks : List Int} {gs : List Nat} (hO : Ow B W (.slice (some ⟨g5, 0, none⟩) 5 c5) L gs (fun _ => ks)) (h5 : gs.length = 5) (hL : L ≤ 17592186044320) {tm : Array Value} (hsz : tm.size = 159) (hc : chk tm [(0, .pointer (some ⟨bm, 0, none⟩)), (3, .pointer (some ⟨b3, 0, none⟩)), (5, .slice (some ⟨g5, 0, none⟩) 5 c5), (8, v8)]) {Q : Exit → Act → World → Prop}
    (hQ : ∀ W', Ow B W' (.slice (some ⟨g5, 0, none⟩) 5 c5) L gs (mkA L) → Far gs W W' → ∀ tm : Array Value, tm.size = 159 → chk tm [(0, .pointer (some ⟨bm, 0, none⟩)), (3, .pointer (some ⟨b3, 0, none⟩)), (5, .slice (some ⟨g5, 0, none⟩) 5 c5), (8, v8)] → Q .normal { tmps := tm, defers := [] } W') : ow2.wp Try.prog Q { tmps := tm, defers := [] } W := by
  obtain ⟨u, rfl⟩ := frame159 hsz
  obtain ⟨e0, e3, e5, e8, _⟩ := hc
  rw [show u 0 = _ from Option.some.inj e0, show u 3 = _ from Option.some.inj e3, show u 5 = _ from Option.some.inj e5, show u 8 = _ from Option.some.inj e8]
  exact ow2_any hO h5 hL u hQ
theorem ow4_tm {W : World} {bm b3 B g5 c5 L : Nat} {v8 : Value} {gs : List Nat} (hO : Ow B W (.slice (some ⟨g5, 0, none⟩) 5 c5) L gs (mkA L)) (h5 : gs.length = 5) (hL : L ≤ 17592186044320) {tm : Array Value} (hsz : tm.size = 159) (hc : chk tm [(0, .pointer (some ⟨bm, 0, none⟩)), (3, .pointer (some ⟨b3, 0, none⟩)), (5, .slice (some ⟨g5, 0, none⟩) 5 c5), (8, v8), (11, .slice none 0 0)]) {Q : Exit → Act → World → Prop}
    (hQ : ∀ W' v11 zs, Mo W.heap.size W' v11 L zs → zs.length = 5 → Below W.heap.size W W' → ∀ tm : Array Value, tm.size = 159 → chk tm [(0, .pointer (some ⟨bm, 0, none⟩)), (3, .pointer (some ⟨b3, 0, none⟩)), (5, .slice (some ⟨g5, 0, none⟩) 5 c5), (8, v8), (11, v11)] → Q .normal { tmps := tm, defers := [] } W') : ow4.wp Try.prog Q { tmps := tm, defers := [] } W := by
  obtain ⟨u, rfl⟩ := frame159 hsz
  obtain ⟨e0, e3, e5, e8, e11, _⟩ := hc
  rw [show u 0 = _ from Option.some.inj e0, show u 3 = _ from Option.some.inj e3, show u 5 = _ from Option.some.inj e5, show u 8 = _ from Option.some.inj e8, show u 11 = _ from Option.some.inj e11]
  exact ow4_any hO h5 hL u hQ
theorem ow6_tm {W : World} {bm b3 B B' g5 c5 g11 c11 L : Nat} {v8 : Value} {gs : List Nat} {zs : List (Nat × Nat)} (hO : Ow B W (.slice (some ⟨g5, 0, none⟩) 5 c5) L gs (mkA L)) (h5 : gs.length = 5) (hMo : Mo B' W (.slice (some ⟨g11, 0, none⟩) 5 c11) L zs) (hz5 : zs.length = 5) (hL : L ≤ 17592186044320) {tm : Array Value} (hsz : tm.size = 159) (hc : chk tm [(0, .pointer (some ⟨bm, 0, none⟩)), (3, .pointer (some ⟨b3, 0, none⟩)), (5, .slice (some ⟨g5, 0, none⟩) 5 c5), (8, v8), (11, .slice (some ⟨g11, 0, none⟩) 5 c11)]) {Q : Exit → Act → World → Prop}
    (hQ : ∀ tm : Array Value, tm.size = 159 → chk tm [(0, .pointer (some ⟨bm, 0, none⟩)), (3, .pointer (some ⟨b3, 0, none⟩)), (5, .slice (some ⟨g5, 0, none⟩) 5 c5), (8, v8), (11, .slice (some ⟨g11, 0, none⟩) 5 c11)] → Q .normal { tmps := tm, defers := [] } W) : ow6.wp Try.prog Q { tmps := tm, defers := [] } W := by
  obtain ⟨u, rfl⟩ := frame159 hsz
  obtain ⟨e0, e3, e5, e8, e11, _⟩ := hc
  rw [show u 0 = _ from Option.some.inj e0, show u 3 = _ from Option.some.inj e3, show u 5 = _ from Option.some.inj e5, show u 8 = _ from Option.some.inj e8, show u 11 = _ from Option.some.inj e11]
  exact ow6_any hO h5 hMo hz5 hL u hQ

set_option maxRecDepth 100000 in
set_option maxHeartbeats 8000000 in
theorem owned_any {W : World} {bm kc vn vc : Nat} {ka va : Option Addr} {p : Value} {T : BT} (hp : ∃ q, p = .pointer q) (hM : IsM W (some ⟨bm, 0, none⟩) T) (hK : IsKs W (.slice ka T.io.length kc) (T.io.map (·.1))) (hL : T.io.length ≤ 17592186044320) :
    Calls Try.prog 13 #[.pointer (some ⟨bm, 0, none⟩), .agg #[p, .slice ka T.io.length kc, .slice va vn vc]] W fun e W' => e = .returned (.bool true) ∧ Below W.heap.size W W' := by
  obtain ⟨q, rfl⟩ := hp
  have hB1 : Below W.heap.size W (W.alloc (.cells #[.pointer q, .slice ka T.io.length kc, .slice va vn vc] 29)) := (Below.refl _ _).alloc (Nat.le_refl _) _
  have bS := World.alloc_heap_new W (.cells #[.pointer q, .slice ka T.io.length kc, .slice va vn vc] 29)
  have z1 : (W.alloc (.cells #[.pointer q, .slice ka T.io.length kc, .slice va vn vc] 29)).heap.size = W.heap.size + 1 := World.size_alloc _ _
  have HM1 := hide (hM.up hB1)
  have HK1 := hide (hK.up hB1)
  obtain ⟨_, hs1, _⟩ := cells3_of bS
  have Hs1 := hide hs1
  have HB1 := hide hB1
  have Z1 := hide z1
  clear hM hK hs1 hB1 bS z1
  refine calls_of_wp Try.func13 ow_split ?_
  obtain ⟨t1, h1⟩ : ∃ t, ow1 = t := ⟨_, rfl⟩
  obtain ⟨t2, h2⟩ : ∃ t, ow2 = t := ⟨_, rfl⟩
  obtain ⟨t4, h4⟩ : ∃ t, ow4 = t := ⟨_, rfl⟩
  obtain ⟨t6, h6⟩ : ∃ t, ow6 = t := ⟨_, rfl⟩
  rw [h1, h2, h4, h6]
  unfold owWith owBody
  dsimp only [Try.f13]
  simp only [List.size_toArray, List.length_cons, List.length_nil, Nat.reduceAdd, Nat.reduceSub, Array.replicate_succ, Array.replicate_zero, List.push_toArray, List.append_toArray, List.nil_append, List.cons_append]
  go_wp2
  rw [← h1]
  generalize W.alloc (.cells #[.pointer q, .slice ka T.io.length kc, .slice va vn vc] 29) = V at *
  refine ow1_tm (unhide HM1) (unhide Hs1) (unhide HK1) hL rfl ⟨rfl, rfl, rfl, trivial⟩ ?_
  intro V2 v5 gs hO h5 hb2 tm hsz hc
  have HO := hide hO
  have H5 := hide h5
  have Hb2 := hide hb2
  obtain ⟨g5, c5, e5'⟩ : ∃ g c, v5 = .slice (some ⟨g, 0, none⟩) 5 c := by
    have := hO.row
    rw [h5] at this
    exact ownsRow_succ (k := 4) this
  subst e5'
  clear hO h5 hb2
  obtain ⟨u, rfl⟩ := frame159 hsz
  obtain ⟨e0, e3, e5, _⟩ := hc
  rw [show u 0 = _ from Option.some.inj e0, show u 3 = _ from Option.some.inj e3, show u 5 = _ from Option.some.inj e5]
  clear e0 e3 e5 hsz
  go_wp2_with fail
  refine (keys_full ((unhide HM1).up (unhide Hb2)) (by omega)).mono ?_
  rintro o V3 ⟨g8, rfl, hg8, hrow, hb3⟩
  have Hrow : Hid (RowI V2.heap.size V3 g8 T.io.length T.io.length (T.io.map (·.1))) := by
    have := hrow
    show World.ownsRow _ _ _ _ _ _ _
    simpa [Function.comp_def] using this
  have Hb3 := hide hb3
  have Hg8 := hide hg8
  clear hrow hb3 hg8
  go_wp2
  rw [← h2]
  refine ow2_tm ((unhide HO).up (unhide Hb3)) (unhide H5) hL rfl ⟨rfl, rfl, rfl, rfl, trivial⟩ ?_
  intro V4 hO4 hF4 tm hsz hc
  have HO4 := hide hO4
  have HF4 := hide hF4
  clear hO4 hF4
  obtain ⟨u, rfl⟩ := frame159 hsz
  obtain ⟨e0, e3, e5, e8, _⟩ := hc
  rw [show u 0 = _ from Option.some.inj e0, show u 3 = _ from Option.some.inj e3, show u 5 = _ from Option.some.inj e5, show u 8 = _ from Option.some.inj e8]
  clear e0 e3 e5 e8 hsz
  go_wp2
  rw [← h4]
  refine ow4_tm (unhide HO4) (unhide H5) hL rfl ⟨rfl, rfl, rfl, rfl, rfl, trivial⟩ ?_
  intro V5 v11 zs hMo hz5 hb5 tm hsz hc
  have HMo := hide hMo
  have Hz5 := hide hz5
  have Hb5 := hide hb5
  obtain ⟨g11, c11, e11'⟩ : ∃ g c, v11 = .slice (some ⟨g, 0, none⟩) 5 c := by
    have := hMo.row
    rw [hz5] at this
    exact ownsRow_succ (k := 4) this
  subst e11'
  clear hMo hz5 hb5
  obtain ⟨u, rfl⟩ := frame159 hsz
  obtain ⟨e0, e3, e5, e8, e11, _⟩ := hc
  rw [show u 0 = _ from Option.some.inj e0, show u 3 = _ from Option.some.inj e3, show u 5 = _ from Option.some.inj e5, show u 8 = _ from Option.some.inj e8, show u 11 = _ from Option.some.inj e11]
  clear e0 e3 e5 e8 e11 hsz
  go_wp2
  rw [← h6]
  refine ow6_tm ((unhide HO4).up (unhide Hb5)) (unhide H5) (unhide HMo) (unhide Hz5) hL rfl ⟨rfl, rfl, rfl, rfl, rfl, trivial⟩ ?_
  intro tm hsz hc
  obtain ⟨u, rfl⟩ := frame159 hsz
  obtain ⟨e0, e3, e5, e8, e11, _⟩ := hc
  rw [show u 0 = _ from Option.some.inj e0, show u 3 = _ from Option.some.inj e3, show u 5 = _ from Option.some.inj e5, show u 8 = _ from Option.some.inj e8, show u 11 = _ from Option.some.inj e11]
  clear e0 e3 e5 e8 e11 hsz
  have hgn : g8 ∉ gs := fun hm => by have h1 := ((unhide HO).mem_lt hm).2; have h2 := unhide Hg8; omega
  have Hr5 : Hid (RowI V2.heap.size V5 g8 T.io.length T.io.length (T.io.map (·.1))) := ((unhide HF4).row (unhide Hrow) hgn).up' (unhide Hb5)
  have s2 := (unhide Hb2).size
  have s3 := (unhide Hb3).size
  have s4 := (unhide HF4).size
  have s5 := (unhide Hb5).size
  have hBV : Below V.heap.size V V5 := ((unhide Hb2).trans ((unhide Hb3).mono s2)).trans (((unhide HF4).below (lo := V.heap.size) (by omega) (fun g hg => ((unhide HO).mem_lt hg).1)).trans ((unhide Hb5).mono (by omega)))
  have HBV := hide hBV
  have hlt := lt_of_cell (unhide Hs1)
  have hs5 := (hBV.cell (p := ⟨W.heap.size, 1, none⟩) hlt).trans (unhide Hs1)
  have HM5 := hide ((unhide HM1).up hBV)
  have HK5 := hide ((unhide HK1).up hBV)
  have HBW : Hid (Below W.heap.size W V5) := (unhide HB1).trans (hBV.mono (unhide HB1).size)
  have HSB : ∀ w', Below V5.heap.size V5 w' → w'.cell? ⟨W.heap.size, 1, none⟩ = some (.slice ka T.io.length kc) := fun w' hb => (hb.cell (p := ⟨W.heap.size, 1, none⟩) (lt_of_cell hs5)).trans hs5
  have GO1 : True := trivial
  clear hBV hgn
  go_wp2
  go_region_held3 (fun w' => w'.cell? ⟨W.heap.size, 1, none⟩ = some (.slice ka T.io.length kc)) ((refine HSB _ ?_; first | exact (Below.refl _ _).drew | exact hB9 | exact hB8 | exact hB7 | exact Below.refl _ _))
    (first
      | (go_at_call 11; clear GO1; refine (same_any (l := T.io.map (·.1)) (isKs_own (base := V2.heap.size) (by have := (unhide Hr5); unfold RowI at this; simpa using (ownsRow_up this ((Below.refl _ V5).drew)))) ((unhide HK5).up ((Below.refl _ V5).drew))).mono ?_; rintro e w7 ⟨rfl, hb7⟩; have hB7 : Below V5.heap.size V5 w7 := ((Below.refl _ V5).drew).trans hb7)
      | (go_at_call 10; refine (keys_full ((unhide HM5).up hB7) (by omega)).mono ?_; rintro o w8 ⟨g9, rfl, hg9, hrow9, hb8⟩; have hB8 : Below V5.heap.size V5 w8 := hB7.trans (hb8.mono hB7.size); have HR9 := hide hrow9; clear hrow9 hb8)
      | (go_at_call 11; refine (same_any (l := T.io.map (·.1)) (isKs_own (base := w7.heap.size) (by simpa [Function.comp_def] using unhide HR9)) ((unhide HK5).up hB8)).mono ?_; rintro e w9 ⟨rfl, hb9⟩; have hB9 : Below V5.heap.size V5 w9 := hB8.trans (hb9.mono hB8.size)))
  go_wp2
  go_ret
  exact ⟨rfl, (unhide HBW).trans (hB9.mono (unhide HBW).size)⟩
end Go.Proofs.Ytpmdfgoajffmeaa
