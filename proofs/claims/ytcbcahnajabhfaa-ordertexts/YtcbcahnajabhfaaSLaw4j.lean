import Derived.Test.YtcbcahnajabhfaaSLaw4a
namespace Go.Proofs.Ytcbcahnajabhfaa
open Go.RowKit Go.Shelf
attribute [local go_sem] kless_eq keq_eq kne_eq kgeq_eq
attribute [local go_sem ↓] Go.wp_at_zero Go.wp_at_succ
set_option maxRecDepth 100000 in
set_option maxHeartbeats 16000000 in
theorem makes_join {base bw N : Nat} {W : World} {vs : List Ver} (o : Step) (hwf : o.wf) (h : St base W bw vs) (hN : ∀ v ∈ vs, v.T.io.length ≤ N) (hbig : (2 * N + 2) ≤ 5864062014805) (hvs : vs.length < 4096) (hk : o.kind = 3) :
    Calls Try.prog 13 #[.pointer (some ⟨bw, 0, none⟩), o.val] W (Makes base bw W vs o) := by
  obtain ⟨kd, on, other, a, b, st⟩ := o
  obtain ⟨_, ⟨w3, w4⟩, ⟨w5, w6⟩, ⟨w7, w8⟩, w9, w10⟩ := hwf
  simp only at hk w3 w4 w5 w6 w7 w8 w9 w10
  subst hk
  have hB0 : Below W.heap.size W (W.alloc (.cells #[.int .i64 3, .int .i64 on, .int .i64 other, .int .i64 a, .int .i64 b, .string st] 32)) := (Below.refl _ W).alloc (Nat.le_refl _) _
  have hbox := World.alloc_heap_new W (.cells #[.int .i64 3, .int .i64 on, .int .i64 other, .int .i64 a, .int .i64 b, .string st] 32)
  have hs0 : (W.alloc (.cells #[.int .i64 3, .int .i64 on, .int .i64 other, .int .i64 a, .int .i64 b, .string st] 32)).heap.size = W.heap.size + 1 := World.size_alloc _ _
  unfold Step.val
  simp only
  go_enter Try.func13, Try.ntmps13
  go_wp2
  generalize W.alloc (.cells #[.int .i64 3, .int .i64 on, .int .i64 other, .int .i64 a, .int .i64 b, .string st] 32) = V at *
  obtain ⟨o0, o1, o2, o3, o4, o5⟩ := cells6_of hbox
  have hV := h.up hB0
  obtain ⟨gM, cM, gR, cR, m0, m1, mb, mg, rg, hn, hbb, hcells, hver⟩ := hV.reads
  have hHB : W.heap.size < V.heap.size := by omega
  have hbaseW : base ≤ W.heap.size := by obtain ⟨_, _, _, _, _, _, q, _, _, _, q', _⟩ := h.reads; omega
  have Hcells := hide hcells
  have Hver := hide hver
  have HV := hide hV
  have HN := hide hN
  have Hbox := hide hbox
  clear hcells hver hV hN hbox h
  go_region_held3 (fun w' => w'.cell? ⟨W.heap.size, 1, none⟩ = some (.int .i64 on) ∧ w'.cell? ⟨bw, 0, none⟩ = some (.slice (some ⟨gM, 0, none⟩) vs.length cM)) (go_keep)
    (first
      | (go_at_call 12; refine (within_any _ on vs.length hn (by omega)).mono ?_; rintro e w' ⟨i, hi, rfl, rfl⟩))
  go_wp2
  go_region_held3 (fun w' => w'.cell? ⟨W.heap.size, 2, none⟩ = some (.int .i64 other) ∧ w'.cell? ⟨bw, 0, none⟩ = some (.slice (some ⟨gM, 0, none⟩) vs.length cM)) (go_keep)
    (first
      | (go_at_call 12; refine (within_any _ other vs.length hn (by omega)).mono ?_; rintro e w' ⟨j, hj, rfl, rfl⟩))
  obtain ⟨x, hx⟩ : ∃ x, vs[i]? = some x := ⟨_, List.getElem?_eq_getElem hi⟩
  obtain ⟨y, hy⟩ : ∃ y, vs[j]? = some y := ⟨_, List.getElem?_eq_getElem hj⟩
  obtain ⟨hxm, hxr⟩ := unhide Hcells i x hx
  obtain ⟨hym, hyr⟩ := unhide Hcells j y hy
  obtain ⟨mx, rx⟩ := unhide Hver x (List.mem_of_getElem? hx)
  obtain ⟨my, ry⟩ := unhide Hver y (List.mem_of_getElem? hy)
  have nx := unhide HN x (List.mem_of_getElem? hx)
  have ny := unhide HN y (List.mem_of_getElem? hy)
  have Hmemx := hide (List.mem_of_getElem? hx)
  have Hmemy := hide (List.mem_of_getElem? hy)
  have Sx : Hid (Srt x.T.io) := by obtain ⟨_, _, _, _, _, _, h⟩ := mx; exact h
  have Sy : Hid (Srt y.T.io) := by obtain ⟨_, _, _, _, _, _, h⟩ := my; exact h
  have hi0 : (0 : Int) ≤ (i : Int) := Int.natCast_nonneg _
  have hi1 : (i : Int) < (vs.length : Int) := by omega
  have hj0 : (0 : Int) ≤ (j : Int) := Int.natCast_nonneg _
  have hj1 : (j : Int) < (vs.length : Int) := by omega
  have hrf : ∃ a0 n0 c0, x.rv = .slice a0 n0 c0 := by obtain ⟨a0, c0, e, _⟩ := rx; exact ⟨_, _, _, e⟩
  obtain ⟨ra, rn, rc, hrf⟩ := hrf
  have hrg : ∃ a0 n0 c0, y.rv = .slice a0 n0 c0 := by obtain ⟨a0, c0, e, _⟩ := ry; exact ⟨_, _, _, e⟩
  obtain ⟨ya, yn, yc, hrg⟩ := hrg
  rw [hrf] at hxr rx
  rw [hrg] at hyr ry
  clear hx hy hrf hrg
  have ok := o5
  have mgW : gM < V.heap.size := mg
  have D2 : Hid (∀ w', Below V.heap.size V w' → w'.cell? ⟨bw, 0, none⟩ = some (.slice (some ⟨gM, 0, none⟩) vs.length cM) ∧ w'.cell? ⟨bw, 1, none⟩ = some (.slice (some ⟨gR, 0, none⟩) vs.length cR) ∧ w'.cell? ⟨gM, j, none⟩ = some (.pointer (some ⟨y.bm, 0, none⟩)) ∧ w'.cell? ⟨gR, j, none⟩ = some (.slice ya yn yc)) := fun w' h => ⟨(h.cell (p := ⟨bw, 0, none⟩) mb).trans m0, (h.cell (p := ⟨bw, 1, none⟩) mb).trans m1, (h.cell (p := ⟨gM, j, none⟩) mg).trans hym, (h.cell (p := ⟨gR, j, none⟩) rg).trans hyr⟩
  go_wp2
  go_region_with (first
      | (go_at_call 34; refine (join_any (T := x.T) (U := y.T) (mx.up (by first | exact (Below.refl _ _).drew | exact (Below.refl _ _).drew.drew | exact (Below.refl _ _).drew.drew.drew)) (my.up (by first | exact (Below.refl _ _).drew | exact (Below.refl _ _).drew.drew | exact (Below.refl _ _).drew.drew.drew)) (by omega)).mono ?_; rintro e W2 ⟨m2, T2, rfl, hM2, hin2, hb2, bm2, rfl, hfr⟩; have hc1 : Below V.heap.size V W2 := ((Below.refl _ V).drew.drew.drew).trans hb2; have hfr1 : V.heap.size ≤ bm2 := hfr; have s2 : Srt T2.io := (by obtain ⟨_, _, _, _, _, _, h⟩ := hM2; exact h); obtain ⟨j0, j1, j2, j3⟩ := unhide D2 W2 hc1; have hl2 := union_len s2 hin2; have Hs2 := hide s2; have Hin2 := hide hin2; clear s2 hin2 hfr)
      | (go_at_call 35; refine (rjoin_any (rx.up hc1) (ry.up hc1) (unhide Sx) (unhide Sy) (by omega)).mono ?_; rintro e W3 ⟨u3, out3, rfl, hR3, hso3, hmo3, hb3⟩; have hc2 : Below V.heap.size V W3 := hc1.trans (hb3.mono hc1.size); have hM2' := hM2.up hb3; have hfr2 := hfr1; have hR2 : IsR0 W3 u3 T2.io := (by rw [(unhide Hs2).ext hso3 (fun z => (unhide Hin2 z).trans (hmo3 z).symm)]; exact hR3); clear hR3 hso3 hmo3)
      | (go_at_call 30; refine (add_any (unhide HV) hc2 hfr2 hM2' hR2 (by omega) (by omega)).mono ?_; rintro e W4 ⟨rfl, hst4, hbe4, hkt4⟩; have HSt4 := hide hst4; clear hst4))
  all_goals (go_wp2; go_ret)
  all_goals exact ⟨rfl, ⟨_, unhide HSt4, fun z hz => (Or.elim ((unhide Hin2 z).1 hz) (fun h => .inr ⟨y, unhide Hmemy, h⟩) (fun h => .inr ⟨x, unhide Hmemx, h.1⟩))⟩, ((hB0.trans (hc2.mono hB0.size)).mono hbaseW).trans hbe4, (KeepsT.of_below (hB0.trans (hc2.mono hB0.size))).trans hkt4⟩

end Go.Proofs.Ytcbcahnajabhfaa
