import Derived.Test.YthodjkeppobcmaaDoorLT
import Derived.Test.YthodjkeppobcmaaDoorLO
import Derived.Test.YthodjkeppobcmaaDoorJ07
import Derived.Outline

namespace Go.Proofs.YthodjkeppobcmaaDoor
open Go.RowKit Go.Lib
attribute [local go_sem ↓] Go.wp_at_zero Go.wp_at_succ

def RdA (W : World) (s : ByteArray) (r : RR) (e : Ending) (w : World) : Prop := Below W.heap.size W w ∧ match r with
  | .error (c, p) => ∃ d : NdV, (isSl d.vn ∧ isSl d.vi) ∧ e = .returned (.tuple #[d.val, .int .i64 (c : Int), .int .i64 (p : Int)])
  | .ok (l, _) => ∃ d : NdV, e = .returned (.tuple #[d.val, .int .i64 0, .int .i64 0]) ∧ HasNd (strN s) (fun g => W.heap.size ≤ g) w d l
theorem below_drew3 {B : Nat} {W w : World} (h : Below B W w) : Below B W w.drew := ⟨h.os, h.tape, h.output, h.size, h.block⟩
theorem results_nii {P : Program} {fn : Func} {q1 q2 p : Tmp} {ty : TypeId} (h : fn.results = #[.cell p ty, .tmp q1, .tmp q2]) (tmps : Array Value) (w : World) (g : Nat) (t : TypeId) (v1 v2 : Value) (cs : Array Value) (fr : Nat × Nat) (d : TypeDesc) (hv1 : tmps.getD q1 undef = v1) (hv2 : tmps.getD q2 undef = v2)
    (hp : tmps.getD p undef = .pointer (some ⟨g, 0, none⟩)) (hg : w.heap[g]? = some (.cells cs t fr)) (hu : P.underlying ty = some d) (hd : (match d with | .struct _ | .array _ _ => true | _ => false) = true) (hi : (P.info? ty).map (·.size) = some cs.size) : (results fn tmps).run P w = .ok (.tuple #[.agg cs, v1, v2]) w := by
  have hp' : tmps[p]?.getD undef = .pointer (some ⟨g, 0, none⟩) := by simpa using hp
  have hv1' : tmps[q1]?.getD undef = v1 := by simpa using hv1
  have hv2' : tmps[q2]?.getD undef = v2 := by simpa using hv2
  simp [results, h, hp', hv1', hv2', asAddr, run_loadVar_row w g t ty cs fr d hg hu hd hi]
set_option maxRecDepth 100000 in
set_option maxHeartbeats 2000000 in
theorem read_far {W : World} (s : ByteArray) (hs : s.size ≤ 140737488351232) (hx : 67108864 < s.size ∨ 0 ≤ utfAt s 0) : Calls Tryd.prog 10 #[.string s] W (RdA W s (ckR s)) := by
  have hbA : Below W.heap.size W (W.alloc (.cells #[.int .i64 0, .int .i64 0, .int .i64 0, .string ⟨#[]⟩, .slice none 0 0, .slice none 0 0] 43)) := (Below.refl _ _).alloc (Nat.le_refl _) _
  by_cases h1 : 67108864 < s.size
  · have HF : Hid (RdA W s (ckR s) (.returned (.tuple #[.agg #[.int .i64 0, .int .i64 0, .int .i64 0, .string ⟨#[]⟩, .slice none 0 0, .slice none 0 0], .int .i64 2, .int .i64 0])) (W.alloc (.cells #[.int .i64 0, .int .i64 0, .int .i64 0, .string ⟨#[]⟩, .slice none 0 0, .slice none 0 0] 43))) := by
      show RdA _ _ _ _ _
      unfold ckR
      rw [if_pos h1]
      exact ⟨hbA, ⟨0, 0, 0, ⟨#[]⟩, .slice none 0 0, .slice none 0 0⟩, ⟨⟨_, _, _, rfl⟩, ⟨_, _, _, rfl⟩⟩, rfl⟩
    have d1 : decide (67108864 < (s.size : Int)) = true := by simp; omega
    clear hx hbA
    go_enter Tryd.func10, Tryd.ntmps10
    go_wp2_with fail
    all_goals first | (exfalso; omega) | skip
    refine bodyPost_ret (results_nii rfl _ _ W.heap.size 43 (.int .i64 2) (.int .i64 0) #[.int .i64 0, .int .i64 0, .int .i64 0, .string ⟨#[]⟩, .slice none 0 0, .slice none 0 0] (0, 0) _ rfl rfl rfl (heap_new _ _) Tryd.underlying43 rfl sizeNode) rfl ?_
    exact unhide HF
  · have hu : 0 ≤ utfAt s 0 := hx.resolve_left h1
    have HF : Hid (RdA W s (ckR s) (.returned (.tuple #[.agg #[.int .i64 0, .int .i64 0, .int .i64 0, .string ⟨#[]⟩, .slice none 0 0, .slice none 0 0], .int .i64 125, .int .i64 (utfAt s 0)])) (W.alloc (.cells #[.int .i64 0, .int .i64 0, .int .i64 0, .string ⟨#[]⟩, .slice none 0 0, .slice none 0 0] 43))) := by
      show RdA _ _ _ _ _
      unfold ckR
      rw [if_neg h1, if_pos hu]
      exact ⟨hbA, ⟨0, 0, 0, ⟨#[]⟩, .slice none 0 0, .slice none 0 0⟩, ⟨⟨_, _, _, rfl⟩, ⟨_, _, _, rfl⟩⟩, by rw [Int.toNat_of_nonneg hu]; rfl⟩
    have HU := hide (fun W => xutf8_any W s hs)
    have d1 : decide (67108864 < (s.size : Int)) = false := by simp; omega
    obtain ⟨u, hu2⟩ : ∃ u, utfAt s 0 = u := ⟨_, rfl⟩
    rw [hu2] at HU HF hu
    clear hx hbA hu2
    go_enter Tryd.func10, Tryd.ntmps10
    go_wp2_with fail
    all_goals first | (exfalso; omega) | skip
    refine (unhide HU _).mono ?_
    rintro e w ⟨rfl, rfl⟩
    go_wp2_with fail
    all_goals first | (exfalso; omega) | skip
    refine bodyPost_ret (results_nii rfl _ _ W.heap.size 43 (.int .i64 125) (.int .i64 u) #[.int .i64 0, .int .i64 0, .int .i64 0, .string ⟨#[]⟩, .slice none 0 0, .slice none 0 0] (0, 0) _ rfl rfl rfl (heap_new _ _) Tryd.underlying43 rfl sizeNode) rfl ?_
    exact unhide HF
theorem topR_err {L : List Nat} {c p : Nat} (h : valR L 200 0 = .error (c, p)) : topR L = .error (c, p) := by unfold topR; rw [h]; rfl
theorem topR_more {L l : List Nat} {p : Nat} (h : valR L 200 0 = .ok (l, p)) (hlt : skB L p < L.length) : topR L = .error (120, skB L p) := by
  unfold topR
  rw [h]
  show RR.pre l (if skB L p < L.length then .error (120, skB L p) else .ok ([], p)) = _
  rw [if_pos hlt]
  rfl
theorem topR_ok {L l : List Nat} {p : Nat} (h : valR L 200 0 = .ok (l, p)) (hlt : ¬ skB L p < L.length) : topR L = .ok (l, p) := by
  unfold topR
  rw [h]
  show RR.pre l (if skB L p < L.length then .error (120, skB L p) else .ok ([], p)) = _
  rw [if_neg hlt]
  show RR.pre l (.ok ([], p)) = _
  unfold RR.pre
  simp
set_option maxRecDepth 100000 in
set_option maxHeartbeats 4000000 in
theorem read_near {W : World} (s : ByteArray) (hs : s.size ≤ 67108864) (hu : ¬ 0 ≤ utfAt s 0) : Calls Tryd.prog 10 #[.string s] W (RdA W s (topR (strN s))) := by
  have HU := hide (fun W => xutf8_any W s (by omega))
  obtain ⟨u, hu2⟩ : ∃ u, utfAt s 0 = u := ⟨_, rfl⟩
  rw [hu2] at HU hu
  clear hu2
  have d1 : decide (67108864 < (s.size : Int)) = false := by simp; omega
  have hr := heap_new W (.cells #[.int .i64 0, .int .i64 0, .int .i64 0, .string ⟨#[]⟩, .slice none 0 0, .slice none 0 0] 43)
  have hVr := heap_new (W.alloc (.cells #[.int .i64 0, .int .i64 0, .int .i64 0, .string ⟨#[]⟩, .slice none 0 0, .slice none 0 0] 43)) (.cells #[.string s, .int .i64 0, .int .i64 0, .int .i64 0] 55)
  have hVo : ((W.alloc (.cells #[.int .i64 0, .int .i64 0, .int .i64 0, .string ⟨#[]⟩, .slice none 0 0, .slice none 0 0] 43)).alloc (.cells #[.string s, .int .i64 0, .int .i64 0, .int .i64 0] 55)).heap[W.heap.size]? = some (.cells #[.int .i64 0, .int .i64 0, .int .i64 0, .string ⟨#[]⟩, .slice none 0 0, .slice none 0 0] 43 (0, 0)) := (((Below.refl _ _).alloc (Nat.le_refl _) _).block W.heap.size (by rw [World.size_alloc]; omega)).trans hr
  have hbV : Below W.heap.size W ((W.alloc (.cells #[.int .i64 0, .int .i64 0, .int .i64 0, .string ⟨#[]⟩, .slice none 0 0, .slice none 0 0] 43)).alloc (.cells #[.string s, .int .i64 0, .int .i64 0, .int .i64 0] 55)) := ((Below.refl _ _).alloc (Nat.le_refl _) _).alloc (by rw [World.size_alloc]; omega) _
  have hts : (W.alloc (.cells #[.int .i64 0, .int .i64 0, .int .i64 0, .string ⟨#[]⟩, .slice none 0 0, .slice none 0 0] 43)).heap.size = W.heap.size + 1 := World.size_alloc _ _
  have hVs : ((W.alloc (.cells #[.int .i64 0, .int .i64 0, .int .i64 0, .string ⟨#[]⟩, .slice none 0 0, .slice none 0 0] 43)).alloc (.cells #[.string s, .int .i64 0, .int .i64 0, .int .i64 0] 55)).heap.size = W.heap.size + 2 := by rw [World.size_alloc, hts]
  obtain ⟨V, hV⟩ : ∃ V, (W.alloc (.cells #[.int .i64 0, .int .i64 0, .int .i64 0, .string ⟨#[]⟩, .slice none 0 0, .slice none 0 0] 43)).alloc (.cells #[.string s, .int .i64 0, .int .i64 0, .int .i64 0] 55) = V := ⟨_, rfl⟩
  rw [hV] at hVr hVo hbV hVs
  rw [hts] at hVr
  obtain ⟨r, hrE⟩ : ∃ r, W.heap.size = r := ⟨_, rfl⟩
  rw [hrE] at hVr hVo hVs hbV hts
  obtain ⟨t, htE⟩ : ∃ t, r + 1 = t := ⟨_, rfl⟩
  rw [htE] at hVr hts
  have hTx : Tx V t s 0 0 0 V := ⟨hVr, World.grownBy.refl _ _, Nat.zero_le _⟩
  have HV : Hid (Calls Tryd.prog 19 #[.pointer (some ⟨t, 0, none⟩), .int .i64 0] V (VR V V t s 0 (valR (strN s) 200 0))) := tvalue_any hs 200 0 rfl V 0 V hTx
  have Hgd := hide (val_gd (s := s) 200 0 (Nat.zero_le _))
  have HVo := hide hVo
  have HbV := hide hbV
  have Hrt : Hid (r + 1 = t ∧ V.heap.size = r + 2 ∧ W.heap.size = r) := ⟨htE, hVs, hrE⟩
  have HVE := hide hV
  have HrE := hide hrE
  have Hts := hide hts
  clear hr hVr hVo hbV hts hVs hV hrE htE hTx
  go_enter Tryd.func10, Tryd.ntmps10
  go_wp2_with fail
  all_goals first | (exfalso; omega) | skip
  refine (unhide HU _).mono ?_
  rintro e w ⟨rfl, rfl⟩
  clear HU
  go_upto_region 7 with fail
  rw [unhide HVE, unhide HrE, (unhide Hrt).1]
  clear HVE HrE Hts
  go_wp2_with fail
  refine (unhide HV).mono ?_
  rintro e w1 ⟨⟨dk, da, de, dx, dn, di⟩, rfl, ⟨⟨an, nn, cn, hvn⟩, ai, ni, ci, hvi⟩, hv⟩
  simp only at hvn hvi
  subst hvn hvi
  have Hv := hide hv
  clear hv HV
  unfold NdV.val
  simp only
  go_upto_region 8 with fail
  have hnb := heap_new w1 (.cells #[.int .i64 dk, .int .i64 da, .int .i64 de, .string dx, .slice an nn cn, .slice ai ni ci] 43)
  have hb2 : Below w1.heap.size w1 (w1.alloc (.cells #[.int .i64 dk, .int .i64 da, .int .i64 de, .string dx, .slice an nn cn, .slice ai ni ci] 43)) := (Below.refl _ _).alloc (Nat.le_refl _) _
  have h2s : (w1.alloc (.cells #[.int .i64 dk, .int .i64 da, .int .i64 de, .string dx, .slice an nn cn, .slice ai ni ci] 43)).heap.size = w1.heap.size + 1 := World.size_alloc _ _
  have hv2 : ∀ a c p, Tx V t s a c p w1 → Tx V t s a c p (w1.alloc (.cells #[.int .i64 dk, .int .i64 da, .int .i64 de, .string dx, .slice an nn cn, .slice ai ni ci] 43)) := fun a c p h => h.grow _
  obtain ⟨W2, hW2⟩ : ∃ W2, w1.alloc (.cells #[.int .i64 dk, .int .i64 da, .int .i64 de, .string dx, .slice an nn cn, .slice ai ni ci] 43) = W2 := ⟨_, rfl⟩
  rw [hW2] at hnb hb2 hv2 h2s ⊢
  obtain ⟨n, hn⟩ : ∃ n, w1.heap.size = n := ⟨_, rfl⟩
  rw [hn] at hnb hb2 h2s ⊢
  have Hnb := hide hnb
  have Hb2 := hide hb2
  have Hv2 := hide hv2
  have Hns : Hid (w1.heap.size = n ∧ W2.heap.size = n + 1) := ⟨hn, h2s⟩
  obtain ⟨R, hR⟩ : ∃ R, valR (strN s) 200 0 = R := ⟨_, rfl⟩
  rw [hR] at Hv Hgd
  have HR := hide hR
  have HL := hide (strN_len s)
  have Hsz : Hid (V.heap.size ≤ n) := by
    show _ ≤ _
    rw [← hn]
    match R, unhide Hv with
    | .error _, ⟨_, hx⟩ => exact hx.gr.size
    | .ok _, ⟨hx, _⟩ => exact hx.gr.size
  clear hnb hb2 hv2 h2s hW2 hn hR
  go_cut [41] (fun v41 wx => ∃ (b : Bool) (a c q : Nat), v41 = .bool b ∧ Hid (Tx V t s a c q wx) ∧ Hid (W2.grownBy wx (some t)) ∧ Hid ((b = false ∧ c ≠ 0 ∧ topR (strN s) = .error (c, q)) ∨ (b = true ∧ c = 0 ∧ topR (strN s) = .error (120, a)) ∨ (b = false ∧ c = 0 ∧ ∃ l p', topR (strN s) = .ok (l, p') ∧ HasNd (strN s) (fun g => V.heap.size ≤ g) w1 ⟨dk, da, de, dx, .slice an nn cn, .slice ai ni ci⟩ l)))
  case first =>
    rcases R with ⟨c, q⟩ | ⟨l, q⟩
    · obtain ⟨a, hx⟩ := unhide Hv
      have hc := (unhide Hgd).2 c q rfl
      have HX := hide (unhide Hv2 _ _ _ hx)
      have HC := hide hc
      obtain ⟨-, c1, c2, c3, -⟩ := (unhide HX).cells
      have e1 : ((c : Int) == 0) = false := by simp; omega
      clear hx hc
      go_wp2
      go_meet
      exact ⟨false, a, c, q, rfl, HX, World.grownBy.refl _ _, .inl ⟨rfl, unhide HC, topR_err (unhide HR)⟩⟩
    · obtain ⟨hx, hnd⟩ := unhide Hv
      have HX := hide (unhide Hv2 _ _ _ hx)
      have HNd := hide hnd
      have HNx := hide (next_any (unhide HX).self hs)
      obtain ⟨-, c1, c2, c3, -⟩ := (unhide HX).cells
      have hq := hx.le
      have hki := skB_in hq
      obtain ⟨k, hk⟩ : ∃ k, skB (strN s) q = k := ⟨_, rfl⟩
      obtain ⟨x, hxx⟩ : ∃ x, bt (strN s) k = x := ⟨_, rfl⟩
      rw [hk, hxx] at HNx
      rw [hk] at hki
      have Hk := hide hk
      have hx1 : x ≠ 0 → k < s.size := fun h => bt_in hxx h
      have Hx1 := hide hx1
      clear hx hnd hxx hk hq hx1
      go_wp2_with fail
      refine (unhide HNx).mono ?_
      rintro e w3 ⟨rfl, h3⟩
      have H3 := hide h3
      have H4 := hide (h3.from (unhide HX).gr)
      obtain ⟨-, d1, d2, d3, -⟩ := h3.cells
      clear h3 c1 c2 c3
      by_cases hx0 : x = 0
      · subst hx0
        by_cases hks : k < s.size
        · have e2 : (k : Int) < (s.size : Int) := by omega
          go_wp2
          go_meet
          exact ⟨true, k, 0, 0, rfl, H4, (unhide H3).gr, .inr (.inl ⟨rfl, rfl, by rw [← unhide Hk]; exact topR_more (unhide HR) (by rw [unhide HL, unhide Hk]; exact hks)⟩)⟩
        · have e2 : decide ((k : Int) < (s.size : Int)) = false := by simp; omega
          have e3 : decide (k < s.size) = false := by simp; omega
          go_wp2
          go_meet
          exact ⟨false, k, 0, 0, rfl, H4, (unhide H3).gr, .inr (.inr ⟨rfl, rfl, l, q, topR_ok (unhide HR) (by rw [unhide HL, unhide Hk]; exact hks), unhide HNd⟩)⟩
      · have e2 : ((x : Int) != 0) = true := by simp; omega
        have e3 : ((x : Int) == 0) = false := by simp; omega
        have hks := unhide Hx1 hx0
        go_wp2
        go_meet
        exact ⟨true, k, 0, 0, rfl, H4, (unhide H3).gr, .inr (.inl ⟨rfl, rfl, by rw [← unhide Hk]; exact topR_more (unhide HR) (by rw [unhide HL, unhide Hk]; exact hks)⟩)⟩
  case rest =>
  obtain ⟨b, a, c, q, rfl, HT, HG, HO⟩ := hcut
  clear Hv Hv2 HR Hgd
  go_upto_if 41 with fail
  go_cut [] (fun wx => ∃ (a c q : Nat), Hid (Tx V t s a c q wx) ∧ Hid (W2.grownBy wx (some t)) ∧ Hid ((c ≠ 0 ∧ topR (strN s) = .error (c, q)) ∨ (c = 0 ∧ ∃ l p', topR (strN s) = .ok (l, p') ∧ HasNd (strN s) (fun g => V.heap.size ≤ g) w1 ⟨dk, da, de, dx, .slice an nn cn, .slice ai ni ci⟩ l)))
  case first =>
    cases b with
    | false =>
      go_wp2
      go_meet
      refine ⟨a, c, q, HT, HG, ?_⟩
      rcases unhide HO with ⟨-, h⟩ | ⟨h, -⟩ | ⟨-, h⟩
      · exact .inl h
      · cases h
      · exact .inr h
    | true =>
      have hO : c = 0 ∧ topR (strN s) = .error (120, a) := by
        rcases unhide HO with ⟨h, -⟩ | ⟨-, h⟩ | ⟨h, -⟩
        · cases h
        · exact h
        · cases h
      obtain ⟨rfl, hO2⟩ := hO
      have HO2 := hide hO2
      have HFl := hide (fail_any (unhide HT).self 120 a)
      obtain ⟨-, c1, c2, c3, -⟩ := (unhide HT).cells
      clear hO2 HO
      go_wp2_with fail
      refine (unhide HFl).mono ?_
      rintro e w4 ⟨rfl, h4⟩
      simp only [if_true] at h4
      have H4 := hide (h4.from (unhide HT).gr)
      have H5 := hide (World.grownBy.trans (unhide HG) h4.gr)
      clear h4 HFl
      go_wp2
      go_meet
      exact ⟨a, 120, a, H4, H5, .inl ⟨by decide, unhide HO2⟩⟩
  case rest =>
  clear HT HG HO
  obtain ⟨a', c, q, HT, HG, HO⟩ := hcut
  obtain ⟨-, c1, c2, c3, -⟩ := (unhide HT).cells
  have rb := ((unhide HT).gr.block r (by have := unhide Hrt; omega) (by have := unhide Hrt; simp; omega)).trans (unhide HVo)
  have nb := ((unhide HG).block n (by have := unhide Hns; omega) (by have := unhide Hrt; have := unhide Hsz; simp; omega)).trans (unhide Hnb)
  have hbx : Below r V wc := ⟨(unhide HT).gr.os, (unhide HT).gr.tape, (unhide HT).gr.output, (unhide HT).gr.size, fun k hk => (unhide HT).gr.block k (by have := unhide Hrt; omega) (by have := unhide Hrt; simp; omega)⟩
  obtain ⟨⟨r0, r1, r2, r3, r4, r5⟩, rf⟩ := cells6 rb
  have g0 := rf 0
  have g1 := rf 1
  have g2 := rf 2
  have g3 := rf 3
  have g4 := rf 4
  have g5 := rf 5
  obtain ⟨⟨n0, n1, n2, n3, n4, n5⟩, -⟩ := cells6 nb
  by_cases hc : c = 0
  · subst hc
    obtain ⟨l, p', hO1, hO2⟩ := (unhide HO).resolve_left (fun h => h.1 rfl) |>.2
    obtain ⟨k1, k2⟩ := set6_block rb (.int .i64 dk) (.int .i64 da) (.int .i64 de) (.string dx) (.slice an nn cn) (.slice ai ni ci)
    have HF : Hid (RdA W s (topR (strN s)) (.returned (.tuple #[.agg #[.int .i64 dk, .int .i64 da, .int .i64 de, .string dx, .slice an nn cn, .slice ai ni ci], .int .i64 0, .int .i64 0])) (set6 wc r (.int .i64 dk) (.int .i64 da) (.int .i64 de) (.string dx) (.slice an nn cn) (.slice ai ni ci))) := by
      have hbs : Below r wc (set6 wc r (.int .i64 dk) (.int .i64 da) (.int .i64 de) (.string dx) (.slice an nn cn) (.slice ai ni ci)) := ⟨k2.os, k2.tape, k2.output, k2.size, fun k hk => k2.block k (by have := unhide Hrt; have := hbx.size; omega) (by simp; omega)⟩
      show RdA _ _ _ _ _
      unfold RdA
      rw [hO1, (unhide Hrt).2.2]
      refine ⟨((unhide HbV).trans hbx).trans hbs, ⟨dk, da, de, dx, .slice an nn cn, .slice ai ni ci⟩, rfl, hO2.to (Nat.le_trans (Nat.le_trans (unhide Hb2).size (unhide HG).size) hbs.size) (fun g hg hg2 => ⟨by have := unhide Hrt; omega, ?_⟩)⟩
      have q1 := unhide Hrt
      have q2 := unhide Hns
      have q3 := (unhide HG).size
      exact ((k2.block g (by omega) (by simp; omega)).trans ((unhide HG).block g (by omega) (by simp; omega))).trans ((unhide Hb2).block g (by omega))
    have K1 := hide k1
    unfold set6 at K1 HF
    clear hO1 hO2 k1 k2 rb nb hbx rf HO
    go_wp2
    refine bodyPost_ret (results_nii rfl _ _ r 43 (.int .i64 0) (.int .i64 0) #[.int .i64 dk, .int .i64 da, .int .i64 de, .string dx, .slice an nn cn, .slice ai ni ci] (0, 0) _ rfl rfl rfl (unhide K1) Tryd.underlying43 rfl sizeNode) rfl ?_
    exact unhide HF
  · have hO := ((unhide HO).resolve_right (fun h => hc h.1)).2
    obtain ⟨k1, k2⟩ := set6_block rb (.int .i64 0) (.int .i64 0) (.int .i64 0) (.string ⟨#[]⟩) (.slice none 0 0) (.slice none 0 0)
    have HF : Hid (RdA W s (topR (strN s)) (.returned (.tuple #[.agg #[.int .i64 0, .int .i64 0, .int .i64 0, .string ⟨#[]⟩, .slice none 0 0, .slice none 0 0], .int .i64 (c : Int), .int .i64 (q : Int)])) ((set6 wc r (.int .i64 0) (.int .i64 0) (.int .i64 0) (.string ⟨#[]⟩) (.slice none 0 0) (.slice none 0 0)).drew)) := by
      have hbs0 : Below r wc (set6 wc r (.int .i64 0) (.int .i64 0) (.int .i64 0) (.string ⟨#[]⟩) (.slice none 0 0) (.slice none 0 0)) := ⟨k2.os, k2.tape, k2.output, k2.size, fun k hk => k2.block k (by have := unhide Hrt; have := hbx.size; omega) (by simp; omega)⟩
      have hbs := below_drew3 hbs0
      show RdA _ _ _ _ _
      unfold RdA
      rw [hO, (unhide Hrt).2.2]
      exact ⟨((unhide HbV).trans hbx).trans hbs, ⟨0, 0, 0, ⟨#[]⟩, .slice none 0 0, .slice none 0 0⟩, ⟨⟨_, _, _, rfl⟩, ⟨_, _, _, rfl⟩⟩, rfl⟩
    have K1 : Hid (((set6 wc r (.int .i64 0) (.int .i64 0) (.int .i64 0) (.string ⟨#[]⟩) (.slice none 0 0) (.slice none 0 0)).drew).heap[r]? = some (.cells #[.int .i64 0, .int .i64 0, .int .i64 0, .string ⟨#[]⟩, .slice none 0 0, .slice none 0 0] 43 (0, 0))) := by show _ = _; rw [heap_drew]; exact k1
    have hT : (fun w => w.cell? ⟨t, 2, none⟩ = some (.int .i64 (c : Int)) ∧ w.cell? ⟨t, 3, none⟩ = some (.int .i64 (q : Int))) wc.drew := ⟨c2, c3⟩
    have hTs : (fun w => w.cell? ⟨t, 2, none⟩ = some (.int .i64 (c : Int)) ∧ w.cell? ⟨t, 3, none⟩ = some (.int .i64 (q : Int))) ((set6 wc r (.int .i64 0) (.int .i64 0) (.int .i64 0) (.string ⟨#[]⟩) (.slice none 0 0) (.slice none 0 0)).drew) := by
      have hk : ((set6 wc r (.int .i64 0) (.int .i64 0) (.int .i64 0) (.string ⟨#[]⟩) (.slice none 0 0) (.slice none 0 0)).drew).heap[t]? = wc.heap[t]? := by rw [heap_drew]; exact k2.block t (Array.getElem?_eq_some_iff.1 (unhide HT).blk).1 (by have := unhide Hrt; simp; omega)
      exact ⟨(World.cell?_of_block (a := ⟨t, 2, none⟩) hk).trans c2, (World.cell?_of_block (a := ⟨t, 3, none⟩) hk).trans c3⟩
    unfold set6 at K1 HF hTs
    have e1 : ((c : Int) != 0) = true := by simp; omega
    have e2 : ((c : Int) == 0) = false := by simp; omega
    clear hO k1 k2 rb nb hbx rf HO
    go_upto_region 11 with fail
    refine wp_region_any (by kernel_rfl) (wpAny_of_Z (z := 12) (T := fun w => w.cell? ⟨t, 2, none⟩ = some (.int .i64 (c : Int)) ∧ w.cell? ⟨t, 3, none⟩ = some (.int .i64 (q : Int))) _ _ _ _ ?_)
    try (change wpAnyZ _ _ _ _ _ _ _ _ _ (World.drew _))
    refine wpAnyZ_tk 0 (.agg #[.int .i64 0, .int .i64 0, .int .i64 0, .string ⟨#[]⟩, .slice none 0 0, .slice none 0 0]) 53 rfl rfl (Or.inl ⟨by rfl, fun w hw => by obtain ⟨hw1, hw2⟩ := hw; go_simp⟩) hT ?_
    simp only [Act.put, List.setIfInBounds_toArray, List.set_cons_zero, List.set_cons_succ]
    refine wpAnyZ_tk 1 (.pointer (some ⟨t, 0, none⟩)) 54 rfl rfl (Or.inl ⟨by rfl, fun w hw => by obtain ⟨hw1, hw2⟩ := hw; go_simp⟩) hT ?_
    simp only [Act.put, List.setIfInBounds_toArray, List.set_cons_zero, List.set_cons_succ]
    refine wpAnyZ_tk 2 (.pointer (some ⟨t, 0, none⟩)) 55 rfl rfl (Or.inl ⟨by rfl, fun w hw => by obtain ⟨hw1, hw2⟩ := hw; go_simp⟩) hT ?_
    simp only [Act.put, List.setIfInBounds_toArray, List.set_cons_zero, List.set_cons_succ]
    refine wpAnyZ_tk 3 (.pointer (some ⟨t, 2, none⟩)) 56 rfl rfl (Or.inl ⟨by rfl, fun w hw => by obtain ⟨hw1, hw2⟩ := hw; go_simp⟩) hT ?_
    simp only [Act.put, List.setIfInBounds_toArray, List.set_cons_zero, List.set_cons_succ]
    refine wpAnyZ_tk 4 (.int .i64 (c : Int)) 57 rfl rfl (Or.inl ⟨by rfl, fun w hw => by obtain ⟨hw1, hw2⟩ := hw; go_simp⟩) hT ?_
    simp only [Act.put, List.setIfInBounds_toArray, List.set_cons_zero, List.set_cons_succ]
    refine wpAnyZ_tk 5 (.pointer (some ⟨t, 0, none⟩)) 58 rfl rfl (Or.inl ⟨by rfl, fun w hw => by obtain ⟨hw1, hw2⟩ := hw; go_simp⟩) hT ?_
    simp only [Act.put, List.setIfInBounds_toArray, List.set_cons_zero, List.set_cons_succ]
    refine wpAnyZ_tk 6 (.pointer (some ⟨t, 0, none⟩)) 59 rfl rfl (Or.inl ⟨by rfl, fun w hw => by obtain ⟨hw1, hw2⟩ := hw; go_simp⟩) hT ?_
    simp only [Act.put, List.setIfInBounds_toArray, List.set_cons_zero, List.set_cons_succ]
    refine wpAnyZ_tk 7 (.pointer (some ⟨t, 3, none⟩)) 60 rfl rfl (Or.inl ⟨by rfl, fun w hw => by obtain ⟨hw1, hw2⟩ := hw; go_simp⟩) hT ?_
    simp only [Act.put, List.setIfInBounds_toArray, List.set_cons_zero, List.set_cons_succ]
    refine wpAnyZ_tk 8 (.int .i64 (q : Int)) 61 rfl rfl (Or.inl ⟨by rfl, fun w hw => by obtain ⟨hw1, hw2⟩ := hw; go_simp⟩) hT ?_
    simp only [Act.put, List.setIfInBounds_toArray, List.set_cons_zero, List.set_cons_succ]
    refine wpAnyZ_one 9 (by kernel_rfl) rfl (fun K hK => ?_)
    go_simp
    refine hK _ _ ⟨fun _ => hTs, ?_⟩
    clear hK K hT
    refine wpAnyZ_one 10 (by kernel_rfl) rfl (fun K hK => ?_)
    go_simp
    refine hK _ _ ⟨fun _ => hTs, ?_⟩
    clear hK K
    refine wpAnyZ_one 11 (by kernel_rfl) rfl (fun K hK => ?_)
    go_simp
    refine hK _ _ ⟨fun _ => hTs, ?_⟩
    clear hK K
    refine wpAnyZ_done (by kernel_rfl) ?_
    go_wp2
    refine bodyPost_ret (results_nii rfl _ _ r 43 (.int .i64 (c : Int)) (.int .i64 (q : Int)) #[.int .i64 0, .int .i64 0, .int .i64 0, .string ⟨#[]⟩, .slice none 0 0, .slice none 0 0] (0, 0) _ rfl rfl rfl (unhide K1) Tryd.underlying43 rfl sizeNode) rfl ?_
    exact unhide HF
theorem read_any {W : World} (s : ByteArray) (hs : s.size ≤ 140737488351232) : Calls Tryd.prog 10 #[.string s] W (RdA W s (ckR s)) := by
  by_cases h1 : 67108864 < s.size
  · exact read_far s hs (.inl h1)
  by_cases h2 : 0 ≤ utfAt s 0
  · exact read_far s hs (.inr h2)
  have h := read_near (W := W) s (by omega) h2
  unfold ckR
  rw [if_neg h1, if_neg h2]
  exact h
end Go.Proofs.YthodjkeppobcmaaDoor
