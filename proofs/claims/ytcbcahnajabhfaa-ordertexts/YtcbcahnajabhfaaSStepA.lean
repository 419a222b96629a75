import Derived.Test.YtcbcahnajabhfaaSRuns3
import Derived.Test.YtcbcahnajabhfaaSLaw4
import Derived.Test.YtcbcahnajabhfaaSLaw4s
import Derived.Test.YtcbcahnajabhfaaSLaw4j
namespace Go.Proofs.Ytcbcahnajabhfaa
open Go.RowKit Go.Shelf
attribute [local go_sem] kless_eq keq_eq kne_eq kgeq_eq
attribute [local go_sem ↓] Go.wp_at_zero Go.wp_at_succ

theorem getSays_det {l : List Ent} (hs : Srt l) {k : KT} {v u : Int} {f g : Bool} (h : GetSays l k v f) (h' : GetSays l k u g) : v = u ∧ f = g := by
  rcases h with ⟨rfl, h⟩ | ⟨rfl, rfl, h⟩ <;> rcases h' with ⟨rfl, h'⟩ | ⟨rfl, rfl, h'⟩
  · have := hs.inj h h' rfl
    exact ⟨by simpa using this, rfl⟩
  · exact (h' ⟨_, h, rfl⟩).elim
  · exact (h ⟨_, h', rfl⟩).elim
  · exact ⟨rfl, rfl⟩
theorem atSays_det {l : List Ent} {i : Int} {x y : Ent} {f g : Bool} (h : AtSays l i x f) (h' : AtSays l i y g) : x = y ∧ f = g := by
  rcases h with ⟨rfl, h0, h⟩ | ⟨rfl, rfl, h⟩ <;> rcases h' with ⟨rfl, h0', h'⟩ | ⟨rfl, rfl, h'⟩
  · rw [h] at h'
    exact ⟨by simpa using h', rfl⟩
  · have := (List.getElem?_eq_some_iff.1 h).1
    exact (h' ⟨h0, by omega⟩).elim
  · have := (List.getElem?_eq_some_iff.1 h').1
    exact (h ⟨h0', by omega⟩).elim
  · exact ⟨rfl, rfl⟩
theorem bool_det {p : Prop} {f g : Bool} (h : f = true ↔ p) (h' : g = true ↔ p) : f = g := by
  cases f <;> cases g <;> simp_all

set_option maxRecDepth 100000 in
set_option maxHeartbeats 4000000 in
theorem step_get {base bw N : Nat} {W : World} {vs : List Ver} (o : Step) (hwf : o.wf) (h : St base W bw vs) (hN : ∀ v ∈ vs, v.T.io.length ≤ N) (_hbig : (2 * N + 2) ≤ 5864062014805) (hvs : vs.length < 4096) (hk : o.kind = 6) :
    Calls Try.prog 6 #[.pointer (some ⟨bw, 0, none⟩), o.val] W (fun e W' => e = .returned (.bool true) ∧ Below W.heap.size W W') := by
  obtain ⟨kd, on, other, a, b, st⟩ := o
  obtain ⟨⟨w1, w2⟩, ⟨w3, w4⟩, ⟨w5, w6⟩, ⟨w7, w8⟩, w9, w10⟩ := hwf
  simp only at hk w1 w2 w3 w4 w5 w6 w7 w8 w9 w10
  subst hk
  have hB0 : Below W.heap.size W (W.alloc (.cells #[.int .i64 6, .int .i64 on, .int .i64 other, .int .i64 a, .int .i64 b, .string st] 32)) := (Below.refl _ W).alloc (Nat.le_refl _) _
  have hbox := World.alloc_heap_new W (.cells #[.int .i64 6, .int .i64 on, .int .i64 other, .int .i64 a, .int .i64 b, .string st] 32)
  have hs0 : (W.alloc (.cells #[.int .i64 6, .int .i64 on, .int .i64 other, .int .i64 a, .int .i64 b, .string st] 32)).heap.size = W.heap.size + 1 := World.size_alloc _ _
  unfold Step.val
  simp only
  go_enter Try.func6, Try.ntmps6
  go_wp2
  generalize W.alloc (.cells #[.int .i64 6, .int .i64 on, .int .i64 other, .int .i64 a, .int .i64 b, .string st] 32) = V at *
  obtain ⟨o0, o1, o2, o3, o4, o5⟩ := cells6_of hbox
  have hV := h.up hB0
  obtain ⟨gM, cM, gR, cR, m0, m1, mb, mg, rg, hn, hbb, hcells, hver⟩ := hV.reads
  have hHB : W.heap.size < V.heap.size := by omega
  have hbaseW : base ≤ W.heap.size := by obtain ⟨_, _, _, _, _, _, q, _, _, _, q', _⟩ := h.reads; omega
  have Hcells := hide hcells
  have Hver := hide hver
  have HV := hide hV
  have HN := hide hN
  have Hbox := hide hbox
  clear hcells hver hV hN hbox h
  go_region_held3 (fun w' => w'.cell? ⟨W.heap.size, 1, none⟩ = some (.int .i64 on) ∧ w'.cell? ⟨bw, 0, none⟩ = some (.slice (some ⟨gM, 0, none⟩) vs.length cM)) (go_keep)
    (first
      | (go_at_call 12; refine (within_any _ on vs.length hn (by omega)).mono ?_; rintro e w' ⟨i, hi, rfl, rfl⟩))
  obtain ⟨x, hx⟩ : ∃ x, vs[i]? = some x := ⟨_, List.getElem?_eq_getElem hi⟩
  obtain ⟨hxm, hxr⟩ := unhide Hcells i x hx
  obtain ⟨mx, rx⟩ := unhide Hver x (List.mem_of_getElem? hx)
  have nx := unhide HN x (List.mem_of_getElem? hx)
  have Sx : Hid (Srt x.T.io) := by obtain ⟨_, _, _, _, _, _, h⟩ := mx; exact h
  have hi0 : (0 : Int) ≤ (i : Int) := Int.natCast_nonneg _
  have hi1 : (i : Int) < (vs.length : Int) := by omega
  have hrf : ∃ a0 c0, x.rv = .slice a0 x.T.io.length c0 := by obtain ⟨a0, c0, e, _⟩ := rx; exact ⟨_, _, e⟩
  obtain ⟨ra, rc, hrf⟩ := hrf
  rw [hrf] at hxr rx
  clear hx hrf
  have HX := hide (And.intro mx rx)
  have Ho := hide o5
  go_wp2_with fail
  refine (get_any st (mx.up (by first | exact (Below.refl _ _).drew | exact (Below.refl _ _).drew.drew | exact (Below.refl _ _).drew.drew.drew))).mono ?_
  rintro e w1 ⟨v, f, rfl, hg, rfl⟩
  have Hg := hide hg
  clear hg
  go_wp2_with fail
  refine (rget_any st (rx.up (by first | exact (Below.refl _ _).drew | exact (Below.refl _ _).drew.drew | exact (Below.refl _ _).drew.drew.drew)).r (unhide Sx)).mono ?_
  rintro e w2 ⟨u, g, rfl, hg', hb1⟩
  obtain ⟨rfl, rfl⟩ := getSays_det (unhide Sx) (unhide Hg) hg'
  have HB1 : Hid (Below V.heap.size V w2) := ((Below.refl _ V).drew).trans hb1
  clear hg' hb1
  go_wp2
  go_ret
  exact ⟨rfl, hB0.trans ((unhide HB1).mono hB0.size)⟩

set_option maxRecDepth 100000 in
set_option maxHeartbeats 4000000 in
theorem step_len {base bw N : Nat} {W : World} {vs : List Ver} (o : Step) (hwf : o.wf) (h : St base W bw vs) (hN : ∀ v ∈ vs, v.T.io.length ≤ N) (_hbig : (2 * N + 2) ≤ 5864062014805) (hvs : vs.length < 4096) (hk : o.kind = 7) :
    Calls Try.prog 6 #[.pointer (some ⟨bw, 0, none⟩), o.val] W (fun e W' => e = .returned (.bool true) ∧ Below W.heap.size W W') := by
  obtain ⟨kd, on, other, a, b, st⟩ := o
  obtain ⟨⟨w1, w2⟩, ⟨w3, w4⟩, ⟨w5, w6⟩, ⟨w7, w8⟩, w9, w10⟩ := hwf
  simp only at hk w1 w2 w3 w4 w5 w6 w7 w8 w9 w10
  subst hk
  have hB0 : Below W.heap.size W (W.alloc (.cells #[.int .i64 7, .int .i64 on, .int .i64 other, .int .i64 a, .int .i64 b, .string st] 32)) := (Below.refl _ W).alloc (Nat.le_refl _) _
  have hbox := World.alloc_heap_new W (.cells #[.int .i64 7, .int .i64 on, .int .i64 other, .int .i64 a, .int .i64 b, .string st] 32)
  have hs0 : (W.alloc (.cells #[.int .i64 7, .int .i64 on, .int .i64 other, .int .i64 a, .int .i64 b, .string st] 32)).heap.size = W.heap.size + 1 := World.size_alloc _ _
  unfold Step.val
  simp only
  go_enter Try.func6, Try.ntmps6
  go_wp2
  generalize W.alloc (.cells #[.int .i64 7, .int .i64 on, .int .i64 other, .int .i64 a, .int .i64 b, .string st] 32) = V at *
  obtain ⟨o0, o1, o2, o3, o4, o5⟩ := cells6_of hbox
  have hV := h.up hB0
  obtain ⟨gM, cM, gR, cR, m0, m1, mb, mg, rg, hn, hbb, hcells, hver⟩ := hV.reads
  have hHB : W.heap.size < V.heap.size := by omega
  have hbaseW : base ≤ W.heap.size := by obtain ⟨_, _, _, _, _, _, q, _, _, _, q', _⟩ := h.reads; omega
  have Hcells := hide hcells
  have Hver := hide hver
  have HV := hide hV
  have HN := hide hN
  have Hbox := hide hbox
  clear hcells hver hV hN hbox h
  go_region_held3 (fun w' => w'.cell? ⟨W.heap.size, 1, none⟩ = some (.int .i64 on) ∧ w'.cell? ⟨bw, 0, none⟩ = some (.slice (some ⟨gM, 0, none⟩) vs.length cM)) (go_keep)
    (first
      | (go_at_call 12; refine (within_any _ on vs.length hn (by omega)).mono ?_; rintro e w' ⟨i, hi, rfl, rfl⟩))
  obtain ⟨x, hx⟩ : ∃ x, vs[i]? = some x := ⟨_, List.getElem?_eq_getElem hi⟩
  obtain ⟨hxm, hxr⟩ := unhide Hcells i x hx
  obtain ⟨mx, rx⟩ := unhide Hver x (List.mem_of_getElem? hx)
  have nx := unhide HN x (List.mem_of_getElem? hx)
  have Sx : Hid (Srt x.T.io) := by obtain ⟨_, _, _, _, _, _, h⟩ := mx; exact h
  have hi0 : (0 : Int) ≤ (i : Int) := Int.natCast_nonneg _
  have hi1 : (i : Int) < (vs.length : Int) := by omega
  have hrf : ∃ a0 c0, x.rv = .slice a0 x.T.io.length c0 := by obtain ⟨a0, c0, e, _⟩ := rx; exact ⟨_, _, e⟩
  obtain ⟨ra, rc, hrf⟩ := hrf
  rw [hrf] at hxr rx
  clear hx hrf
  have HX := hide (And.intro mx rx)
  have Ho := hide o5
  go_wp2_with fail
  refine (len_any (mx.up (by first | exact (Below.refl _ _).drew | exact (Below.refl _ _).drew.drew | exact (Below.refl _ _).drew.drew.drew))).mono ?_
  rintro e w1 ⟨rfl, rfl⟩
  have HB1 : Hid (Below V.heap.size V V.drew) := (Below.refl _ V).drew
  go_wp2
  go_ret
  exact ⟨rfl, hB0.trans ((unhide HB1).mono hB0.size)⟩

set_option maxRecDepth 100000 in
set_option maxHeartbeats 4000000 in
theorem step_at {base bw N : Nat} {W : World} {vs : List Ver} (o : Step) (hwf : o.wf) (h : St base W bw vs) (hN : ∀ v ∈ vs, v.T.io.length ≤ N) (hbig : (2 * N + 2) ≤ 5864062014805) (hvs : vs.length < 4096) (hk : o.kind = 8) :
    Calls Try.prog 6 #[.pointer (some ⟨bw, 0, none⟩), o.val] W (fun e W' => e = .returned (.bool true) ∧ Below W.heap.size W W') := by
  obtain ⟨kd, on, other, a, b, st⟩ := o
  obtain ⟨⟨w1, w2⟩, ⟨w3, w4⟩, ⟨w5, w6⟩, ⟨w7, w8⟩, w9, w10⟩ := hwf
  simp only at hk w1 w2 w3 w4 w5 w6 w7 w8 w9 w10
  subst hk
  have hB0 : Below W.heap.size W (W.alloc (.cells #[.int .i64 8, .int .i64 on, .int .i64 other, .int .i64 a, .int .i64 b, .string st] 32)) := (Below.refl _ W).alloc (Nat.le_refl _) _
  have hbox := World.alloc_heap_new W (.cells #[.int .i64 8, .int .i64 on, .int .i64 other, .int .i64 a, .int .i64 b, .string st] 32)
  have hs0 : (W.alloc (.cells #[.int .i64 8, .int .i64 on, .int .i64 other, .int .i64 a, .int .i64 b, .string st] 32)).heap.size = W.heap.size + 1 := World.size_alloc _ _
  unfold Step.val
  simp only
  go_enter Try.func6, Try.ntmps6
  go_wp2
  generalize W.alloc (.cells #[.int .i64 8, .int .i64 on, .int .i64 other, .int .i64 a, .int .i64 b, .string st] 32) = V at *
  obtain ⟨o0, o1, o2, o3, o4, o5⟩ := cells6_of hbox
  have hV := h.up hB0
  obtain ⟨gM, cM, gR, cR, m0, m1, mb, mg, rg, hn, hbb, hcells, hver⟩ := hV.reads
  have hHB : W.heap.size < V.heap.size := by omega
  have hbaseW : base ≤ W.heap.size := by obtain ⟨_, _, _, _, _, _, q, _, _, _, q', _⟩ := h.reads; omega
  have Hcells := hide hcells
  have Hver := hide hver
  have HV := hide hV
  have HN := hide hN
  have Hbox := hide hbox
  clear hcells hver hV hN hbox h
  go_region_held3 (fun w' => w'.cell? ⟨W.heap.size, 1, none⟩ = some (.int .i64 on) ∧ w'.cell? ⟨bw, 0, none⟩ = some (.slice (some ⟨gM, 0, none⟩) vs.length cM)) (go_keep)
    (first
      | (go_at_call 12; refine (within_any _ on vs.length hn (by omega)).mono ?_; rintro e w' ⟨i, hi, rfl, rfl⟩))
  obtain ⟨x, hx⟩ : ∃ x, vs[i]? = some x := ⟨_, List.getElem?_eq_getElem hi⟩
  obtain ⟨hxm, hxr⟩ := unhide Hcells i x hx
  obtain ⟨mx, rx⟩ := unhide Hver x (List.mem_of_getElem? hx)
  have nx := unhide HN x (List.mem_of_getElem? hx)
  have Sx : Hid (Srt x.T.io) := by obtain ⟨_, _, _, _, _, _, h⟩ := mx; exact h
  have hi0 : (0 : Int) ≤ (i : Int) := Int.natCast_nonneg _
  have hi1 : (i : Int) < (vs.length : Int) := by omega
  have hrf : ∃ a0 c0, x.rv = .slice a0 x.T.io.length c0 := by obtain ⟨a0, c0, e, _⟩ := rx; exact ⟨_, _, e⟩
  obtain ⟨ra, rc, hrf⟩ := hrf
  rw [hrf] at hxr rx
  clear hx hrf
  have HX := hide (And.intro mx rx)
  have Ho := hide o5
  go_wp2_with fail
  refine (mat_any a (mx.up (by first | exact (Below.refl _ _).drew | exact (Below.refl _ _).drew.drew | exact (Below.refl _ _).drew.drew.drew)) (by omega) w7 w8).mono ?_
  rintro e w1 ⟨y, f, rfl, hg, hb1⟩
  have hc1 : Below V.heap.size V w1 := ((Below.refl _ V).drew).trans hb1
  have q3 := (hc1.cell (p := ⟨W.heap.size, 3, none⟩) hHB).trans o3
  have Hg := hide hg
  clear hg hb1
  go_wp2_with fail
  refine (rat_any a (rx.up hc1).r).mono ?_
  rintro e w2 ⟨z, g, rfl, hg', hb2⟩
  obtain ⟨rfl, rfl⟩ := atSays_det (unhide Hg) hg'
  have HB1 : Hid (Below V.heap.size V w2) := hc1.trans (hb2.mono hc1.size)
  clear hg' hb2
  go_wp2
  go_ret
  exact ⟨rfl, hB0.trans ((unhide HB1).mono hB0.size)⟩

set_option maxRecDepth 100000 in
set_option maxHeartbeats 4000000 in
theorem step_rank {base bw N : Nat} {W : World} {vs : List Ver} (o : Step) (hwf : o.wf) (h : St base W bw vs) (hN : ∀ v ∈ vs, v.T.io.length ≤ N) (hbig : (2 * N + 2) ≤ 5864062014805) (hvs : vs.length < 4096) (hk : o.kind = 9) :
    Calls Try.prog 6 #[.pointer (some ⟨bw, 0, none⟩), o.val] W (fun e W' => e = .returned (.bool true) ∧ Below W.heap.size W W') := by
  obtain ⟨kd, on, other, a, b, st⟩ := o
  obtain ⟨⟨w1, w2⟩, ⟨w3, w4⟩, ⟨w5, w6⟩, ⟨w7, w8⟩, w9, w10⟩ := hwf
  simp only at hk w1 w2 w3 w4 w5 w6 w7 w8 w9 w10
  subst hk
  have hB0 : Below W.heap.size W (W.alloc (.cells #[.int .i64 9, .int .i64 on, .int .i64 other, .int .i64 a, .int .i64 b, .string st] 32)) := (Below.refl _ W).alloc (Nat.le_refl _) _
  have hbox := World.alloc_heap_new W (.cells #[.int .i64 9, .int .i64 on, .int .i64 other, .int .i64 a, .int .i64 b, .string st] 32)
  have hs0 : (W.alloc (.cells #[.int .i64 9, .int .i64 on, .int .i64 other, .int .i64 a, .int .i64 b, .string st] 32)).heap.size = W.heap.size + 1 := World.size_alloc _ _
  unfold Step.val
  simp only
  go_enter Try.func6, Try.ntmps6
  go_wp2
  generalize W.alloc (.cells #[.int .i64 9, .int .i64 on, .int .i64 other, .int .i64 a, .int .i64 b, .string st] 32) = V at *
  obtain ⟨o0, o1, o2, o3, o4, o5⟩ := cells6_of hbox
  have hV := h.up hB0
  obtain ⟨gM, cM, gR, cR, m0, m1, mb, mg, rg, hn, hbb, hcells, hver⟩ := hV.reads
  have hHB : W.heap.size < V.heap.size := by omega
  have hbaseW : base ≤ W.heap.size := by obtain ⟨_, _, _, _, _, _, q, _, _, _, q', _⟩ := h.reads; omega
  have Hcells := hide hcells
  have Hver := hide hver
  have HV := hide hV
  have HN := hide hN
  have Hbox := hide hbox
  clear hcells hver hV hN hbox h
  go_region_held3 (fun w' => w'.cell? ⟨W.heap.size, 1, none⟩ = some (.int .i64 on) ∧ w'.cell? ⟨bw, 0, none⟩ = some (.slice (some ⟨gM, 0, none⟩) vs.length cM)) (go_keep)
    (first
      | (go_at_call 12; refine (within_any _ on vs.length hn (by omega)).mono ?_; rintro e w' ⟨i, hi, rfl, rfl⟩))
  obtain ⟨x, hx⟩ : ∃ x, vs[i]? = some x := ⟨_, List.getElem?_eq_getElem hi⟩
  obtain ⟨hxm, hxr⟩ := unhide Hcells i x hx
  obtain ⟨mx, rx⟩ := unhide Hver x (List.mem_of_getElem? hx)
  have nx := unhide HN x (List.mem_of_getElem? hx)
  have Sx : Hid (Srt x.T.io) := by obtain ⟨_, _, _, _, _, _, h⟩ := mx; exact h
  have hi0 : (0 : Int) ≤ (i : Int) := Int.natCast_nonneg _
  have hi1 : (i : Int) < (vs.length : Int) := by omega
  have hrf : ∃ a0 c0, x.rv = .slice a0 x.T.io.length c0 := by obtain ⟨a0, c0, e, _⟩ := rx; exact ⟨_, _, e⟩
  obtain ⟨ra, rc, hrf⟩ := hrf
  rw [hrf] at hxr rx
  clear hx hrf
  have HX := hide (And.intro mx rx)
  have Ho := hide o5
  go_wp2_with fail
  refine (mrank_any st (mx.up (by first | exact (Below.refl _ _).drew | exact (Below.refl _ _).drew.drew | exact (Below.refl _ _).drew.drew.drew)) (by omega)).mono ?_
  rintro e w1 ⟨f, rfl, hg, rfl⟩
  have Hg := hide hg
  clear hg
  go_wp2_with fail
  refine (rfind_any st (rx.up (by first | exact (Below.refl _ _).drew | exact (Below.refl _ _).drew.drew | exact (Below.refl _ _).drew.drew.drew)).r (unhide Sx)).mono ?_
  rintro e w2 ⟨g, rfl, hg', hb1⟩
  obtain rfl := bool_det (unhide Hg) hg'
  have HB1 : Hid (Below V.heap.size V w2) := ((Below.refl _ V).drew).trans hb1
  clear hg' hb1
  go_wp2
  go_ret
  exact ⟨rfl, hB0.trans ((unhide HB1).mono hB0.size)⟩

set_option maxRecDepth 100000 in
set_option maxHeartbeats 4000000 in
theorem step_keys {base bw N : Nat} {W : World} {vs : List Ver} (o : Step) (hwf : o.wf) (h : St base W bw vs) (hN : ∀ v ∈ vs, v.T.io.length ≤ N) (hbig : (2 * N + 2) ≤ 5864062014805) (hvs : vs.length < 4096) (hk : o.kind = 10) :
    Calls Try.prog 6 #[.pointer (some ⟨bw, 0, none⟩), o.val] W (fun e W' => e = .returned (.bool true) ∧ Below W.heap.size W W') := by
  obtain ⟨kd, on, other, a, b, st⟩ := o
  obtain ⟨⟨w1, w2⟩, ⟨w3, w4⟩, ⟨w5, w6⟩, ⟨w7, w8⟩, w9, w10⟩ := hwf
  simp only at hk w1 w2 w3 w4 w5 w6 w7 w8 w9 w10
  subst hk
  have hB0 : Below W.heap.size W (W.alloc (.cells #[.int .i64 10, .int .i64 on, .int .i64 other, .int .i64 a, .int .i64 b, .string st] 32)) := (Below.refl _ W).alloc (Nat.le_refl _) _
  have hbox := World.alloc_heap_new W (.cells #[.int .i64 10, .int .i64 on, .int .i64 other, .int .i64 a, .int .i64 b, .string st] 32)
  have hs0 : (W.alloc (.cells #[.int .i64 10, .int .i64 on, .int .i64 other, .int .i64 a, .int .i64 b, .string st] 32)).heap.size = W.heap.size + 1 := World.size_alloc _ _
  unfold Step.val
  simp only
  go_enter Try.func6, Try.ntmps6
  go_wp2
  generalize W.alloc (.cells #[.int .i64 10, .int .i64 on, .int .i64 other, .int .i64 a, .int .i64 b, .string st] 32) = V at *
  obtain ⟨o0, o1, o2, o3, o4, o5⟩ := cells6_of hbox
  have hV := h.up hB0
  obtain ⟨gM, cM, gR, cR, m0, m1, mb, mg, rg, hn, hbb, hcells, hver⟩ := hV.reads
  have hHB : W.heap.size < V.heap.size := by omega
  have hbaseW : base ≤ W.heap.size := by obtain ⟨_, _, _, _, _, _, q, _, _, _, q', _⟩ := h.reads; omega
  have Hcells := hide hcells
  have Hver := hide hver
  have HV := hide hV
  have HN := hide hN
  have Hbox := hide hbox
  clear hcells hver hV hN hbox h
  go_region_held3 (fun w' => w'.cell? ⟨W.heap.size, 1, none⟩ = some (.int .i64 on) ∧ w'.cell? ⟨bw, 0, none⟩ = some (.slice (some ⟨gM, 0, none⟩) vs.length cM)) (go_keep)
    (first
      | (go_at_call 12; refine (within_any _ on vs.length hn (by omega)).mono ?_; rintro e w' ⟨i, hi, rfl, rfl⟩))
  obtain ⟨x, hx⟩ : ∃ x, vs[i]? = some x := ⟨_, List.getElem?_eq_getElem hi⟩
  obtain ⟨hxm, hxr⟩ := unhide Hcells i x hx
  obtain ⟨mx, rx⟩ := unhide Hver x (List.mem_of_getElem? hx)
  have nx := unhide HN x (List.mem_of_getElem? hx)
  have Sx : Hid (Srt x.T.io) := by obtain ⟨_, _, _, _, _, _, h⟩ := mx; exact h
  have hi0 : (0 : Int) ≤ (i : Int) := Int.natCast_nonneg _
  have hi1 : (i : Int) < (vs.length : Int) := by omega
  have hrf : ∃ a0 c0, x.rv = .slice a0 x.T.io.length c0 := by obtain ⟨a0, c0, e, _⟩ := rx; exact ⟨_, _, e⟩
  obtain ⟨ra, rc, hrf⟩ := hrf
  rw [hrf] at hxr rx
  clear hx hrf
  have HX := hide (And.intro mx rx)
  have Ho := hide o5
  go_wp2_with fail
  refine (keys_any (mx.up (by first | exact (Below.refl _ _).drew | exact (Below.refl _ _).drew.drew | exact (Below.refl _ _).drew.drew.drew)) (by omega)).mono ?_
  rintro e w1 ⟨v, rfl, hr1, hb1⟩
  have hc1 : Below V.heap.size V w1 := ((Below.refl _ V).drew).trans hb1
  have k1 : IsKs w1 v (x.T.io.map (·.1)) := isKs_own (base := V.drew.heap.size) (by rw [List.length_map, List.map_map]; exact hr1)
  clear hr1 hb1
  go_wp2_with fail
  refine (rkeys_any (rx.up hc1).r (by omega)).mono ?_
  rintro e w2 ⟨u, rfl, k2, hb2⟩
  have hc2 : Below V.heap.size V w2 := hc1.trans (hb2.mono hc1.size)
  have k1' := k1.up hb2
  go_wp2_with fail
  refine (same_any k1' k2).mono ?_
  rintro e w3 ⟨rfl, hb3⟩
  have HB1 : Hid (Below V.heap.size V w3) := hc2.trans (hb3.mono hc2.size)
  clear hb3 hb2
  go_wp2
  go_ret
  exact ⟨rfl, hB0.trans ((unhide HB1).mono hB0.size)⟩

set_option maxRecDepth 100000 in
set_option maxHeartbeats 4000000 in
theorem step_all {base bw N : Nat} {W : World} {vs : List Ver} (o : Step) (hwf : o.wf) (h : St base W bw vs) (hN : ∀ v ∈ vs, v.T.io.length ≤ N) (hbig : (2 * N + 2) ≤ 5864062014805) (hvs : vs.length < 4096) (hk : o.kind = 11) :
    Calls Try.prog 6 #[.pointer (some ⟨bw, 0, none⟩), o.val] W (fun e W' => e = .returned (.bool true) ∧ Below W.heap.size W W') := by
  obtain ⟨kd, on, other, a, b, st⟩ := o
  obtain ⟨⟨w1, w2⟩, ⟨w3, w4⟩, ⟨w5, w6⟩, ⟨w7, w8⟩, w9, w10⟩ := hwf
  simp only at hk w1 w2 w3 w4 w5 w6 w7 w8 w9 w10
  subst hk
  have hB0 : Below W.heap.size W (W.alloc (.cells #[.int .i64 11, .int .i64 on, .int .i64 other, .int .i64 a, .int .i64 b, .string st] 32)) := (Below.refl _ W).alloc (Nat.le_refl _) _
  have hbox := World.alloc_heap_new W (.cells #[.int .i64 11, .int .i64 on, .int .i64 other, .int .i64 a, .int .i64 b, .string st] 32)
  have hs0 : (W.alloc (.cells #[.int .i64 11, .int .i64 on, .int .i64 other, .int .i64 a, .int .i64 b, .string st] 32)).heap.size = W.heap.size + 1 := World.size_alloc _ _
  unfold Step.val
  simp only
  go_enter Try.func6, Try.ntmps6
  go_wp2
  generalize W.alloc (.cells #[.int .i64 11, .int .i64 on, .int .i64 other, .int .i64 a, .int .i64 b, .string st] 32) = V at *
  obtain ⟨o0, o1, o2, o3, o4, o5⟩ := cells6_of hbox
  have hV := h.up hB0
  obtain ⟨gM, cM, gR, cR, m0, m1, mb, mg, rg, hn, hbb, hcells, hver⟩ := hV.reads
  have hHB : W.heap.size < V.heap.size := by omega
  have hbaseW : base ≤ W.heap.size := by obtain ⟨_, _, _, _, _, _, q, _, _, _, q', _⟩ := h.reads; omega
  have Hcells := hide hcells
  have Hver := hide hver
  have HV := hide hV
  have HN := hide hN
  have Hbox := hide hbox
  clear hcells hver hV hN hbox h
  go_region_held3 (fun w' => w'.cell? ⟨W.heap.size, 1, none⟩ = some (.int .i64 on) ∧ w'.cell? ⟨bw, 0, none⟩ = some (.slice (some ⟨gM, 0, none⟩) vs.length cM)) (go_keep)
    (first
      | (go_at_call 12; refine (within_any _ on vs.length hn (by omega)).mono ?_; rintro e w' ⟨i, hi, rfl, rfl⟩))
  obtain ⟨x, hx⟩ : ∃ x, vs[i]? = some x := ⟨_, List.getElem?_eq_getElem hi⟩
  obtain ⟨hxm, hxr⟩ := unhide Hcells i x hx
  obtain ⟨mx, rx⟩ := unhide Hver x (List.mem_of_getElem? hx)
  have nx := unhide HN x (List.mem_of_getElem? hx)
  have Sx : Hid (Srt x.T.io) := by obtain ⟨_, _, _, _, _, _, h⟩ := mx; exact h
  have hi0 : (0 : Int) ≤ (i : Int) := Int.natCast_nonneg _
  have hi1 : (i : Int) < (vs.length : Int) := by omega
  have hrf : ∃ a0 c0, x.rv = .slice a0 x.T.io.length c0 := by obtain ⟨a0, c0, e, _⟩ := rx; exact ⟨_, _, e⟩
  obtain ⟨ra, rc, hrf⟩ := hrf
  rw [hrf] at hxr rx
  clear hx hrf
  have HX := hide (And.intro mx rx)
  have Ho := hide o5
  have HVd : Hid (St base V.drew bw vs) := (unhide HV).up (Below.refl _ V).drew
  go_wp2_with fail
  refine (runs_all ⟨11, on, other, a, b, st⟩ ⟨⟨by show (-9223372036854775808 : Int) ≤ 11; omega, by show (11 : Int) ≤ 9223372036854775807; omega⟩, ⟨w3, w4⟩, ⟨w5, w6⟩, ⟨w7, w8⟩, w9, w10⟩ (unhide HVd) (unhide HN) hbig (by omega) rfl).mono ?_
  rintro e w1 ⟨rfl, hb1⟩
  have HB1 : Hid (Below V.heap.size V w1) := ((Below.refl _ V).drew).trans hb1
  clear hb1
  go_wp2
  go_ret
  exact ⟨rfl, hB0.trans ((unhide HB1).mono hB0.size)⟩

set_option maxRecDepth 100000 in
set_option maxHeartbeats 4000000 in
theorem step_from {base bw N : Nat} {W : World} {vs : List Ver} (o : Step) (hwf : o.wf) (h : St base W bw vs) (hN : ∀ v ∈ vs, v.T.io.length ≤ N) (hbig : (2 * N + 2) ≤ 5864062014805) (hvs : vs.length < 4096) (hk : o.kind = 12) :
    Calls Try.prog 6 #[.pointer (some ⟨bw, 0, none⟩), o.val] W (fun e W' => e = .returned (.bool true) ∧ Below W.heap.size W W') := by
  obtain ⟨kd, on, other, a, b, st⟩ := o
  obtain ⟨⟨w1, w2⟩, ⟨w3, w4⟩, ⟨w5, w6⟩, ⟨w7, w8⟩, w9, w10⟩ := hwf
  simp only at hk w1 w2 w3 w4 w5 w6 w7 w8 w9 w10
  subst hk
  have hB0 : Below W.heap.size W (W.alloc (.cells #[.int .i64 12, .int .i64 on, .int .i64 other, .int .i64 a, .int .i64 b, .string st] 32)) := (Below.refl _ W).alloc (Nat.le_refl _) _
  have hbox := World.alloc_heap_new W (.cells #[.int .i64 12, .int .i64 on, .int .i64 other, .int .i64 a, .int .i64 b, .string st] 32)
  have hs0 : (W.alloc (.cells #[.int .i64 12, .int .i64 on, .int .i64 other, .int .i64 a, .int .i64 b, .string st] 32)).heap.size = W.heap.size + 1 := World.size_alloc _ _
  unfold Step.val
  simp only
  go_enter Try.func6, Try.ntmps6
  go_wp2
  generalize W.alloc (.cells #[.int .i64 12, .int .i64 on, .int .i64 other, .int .i64 a, .int .i64 b, .string st] 32) = V at *
  obtain ⟨o0, o1, o2, o3, o4, o5⟩ := cells6_of hbox
  have hV := h.up hB0
  obtain ⟨gM, cM, gR, cR, m0, m1, mb, mg, rg, hn, hbb, hcells, hver⟩ := hV.reads
  have hHB : W.heap.size < V.heap.size := by omega
  have hbaseW : base ≤ W.heap.size := by obtain ⟨_, _, _, _, _, _, q, _, _, _, q', _⟩ := h.reads; omega
  have Hcells := hide hcells
  have Hver := hide hver
  have HV := hide hV
  have HN := hide hN
  have Hbox := hide hbox
  clear hcells hver hV hN hbox h
  go_region_held3 (fun w' => w'.cell? ⟨W.heap.size, 1, none⟩ = some (.int .i64 on) ∧ w'.cell? ⟨bw, 0, none⟩ = some (.slice (some ⟨gM, 0, none⟩) vs.length cM)) (go_keep)
    (first
      | (go_at_call 12; refine (within_any _ on vs.length hn (by omega)).mono ?_; rintro e w' ⟨i, hi, rfl, rfl⟩))
  obtain ⟨x, hx⟩ : ∃ x, vs[i]? = some x := ⟨_, List.getElem?_eq_getElem hi⟩
  obtain ⟨hxm, hxr⟩ := unhide Hcells i x hx
  obtain ⟨mx, rx⟩ := unhide Hver x (List.mem_of_getElem? hx)
  have nx := unhide HN x (List.mem_of_getElem? hx)
  have Sx : Hid (Srt x.T.io) := by obtain ⟨_, _, _, _, _, _, h⟩ := mx; exact h
  have hi0 : (0 : Int) ≤ (i : Int) := Int.natCast_nonneg _
  have hi1 : (i : Int) < (vs.length : Int) := by omega
  have hrf : ∃ a0 c0, x.rv = .slice a0 x.T.io.length c0 := by obtain ⟨a0, c0, e, _⟩ := rx; exact ⟨_, _, e⟩
  obtain ⟨ra, rc, hrf⟩ := hrf
  rw [hrf] at hxr rx
  clear hx hrf
  have HX := hide (And.intro mx rx)
  have Ho := hide o5
  have HVd : Hid (St base V.drew bw vs) := (unhide HV).up (Below.refl _ V).drew
  go_wp2_with fail
  refine (runs_from ⟨12, on, other, a, b, st⟩ ⟨⟨by show (-9223372036854775808 : Int) ≤ 12; omega, by show (12 : Int) ≤ 9223372036854775807; omega⟩, ⟨w3, w4⟩, ⟨w5, w6⟩, ⟨w7, w8⟩, w9, w10⟩ (unhide HVd) (unhide HN) hbig (by omega) rfl).mono ?_
  rintro e w1 ⟨rfl, hb1⟩
  have HB1 : Hid (Below V.heap.size V w1) := ((Below.refl _ V).drew).trans hb1
  clear hb1
  go_wp2
  go_ret
  exact ⟨rfl, hB0.trans ((unhide HB1).mono hB0.size)⟩

set_option maxRecDepth 100000 in
set_option maxHeartbeats 4000000 in
theorem step_other {base bw N : Nat} {W : World} {vs : List Ver} (o : Step) (hwf : o.wf) (h : St base W bw vs) (hN : ∀ v ∈ vs, v.T.io.length ≤ N) (_hbig : (2 * N + 2) ≤ 5864062014805) (hvs : vs.length < 4096) (hk : o.kind < 1 ∨ 12 < o.kind) :
    Calls Try.prog 6 #[.pointer (some ⟨bw, 0, none⟩), o.val] W (fun e W' => e = .returned (.bool true) ∧ Below W.heap.size W W') := by
  obtain ⟨kd, on, other, a, b, st⟩ := o
  obtain ⟨⟨w1, w2⟩, ⟨w3, w4⟩, ⟨w5, w6⟩, ⟨w7, w8⟩, w9, w10⟩ := hwf
  simp only at hk w1 w2 w3 w4 w5 w6 w7 w8 w9 w10
  have hB0 : Below W.heap.size W (W.alloc (.cells #[.int .i64 kd, .int .i64 on, .int .i64 other, .int .i64 a, .int .i64 b, .string st] 32)) := (Below.refl _ W).alloc (Nat.le_refl _) _
  have hbox := World.alloc_heap_new W (.cells #[.int .i64 kd, .int .i64 on, .int .i64 other, .int .i64 a, .int .i64 b, .string st] 32)
  have hs0 : (W.alloc (.cells #[.int .i64 kd, .int .i64 on, .int .i64 other, .int .i64 a, .int .i64 b, .string st] 32)).heap.size = W.heap.size + 1 := World.size_alloc _ _
  unfold Step.val
  simp only
  go_enter Try.func6, Try.ntmps6
  go_wp2
  generalize W.alloc (.cells #[.int .i64 kd, .int .i64 on, .int .i64 other, .int .i64 a, .int .i64 b, .string st] 32) = V at *
  obtain ⟨o0, o1, o2, o3, o4, o5⟩ := cells6_of hbox
  have hV := h.up hB0
  obtain ⟨gM, cM, gR, cR, m0, m1, mb, mg, rg, hn, hbb, hcells, hver⟩ := hV.reads
  have hHB : W.heap.size < V.heap.size := by omega
  have hbaseW : base ≤ W.heap.size := by obtain ⟨_, _, _, _, _, _, q, _, _, _, q', _⟩ := h.reads; omega
  have Hcells := hide hcells
  have Hver := hide hver
  have HV := hide hV
  have HN := hide hN
  have Hbox := hide hbox
  clear hcells hver hV hN hbox h
  go_region_held3 (fun w' => w'.cell? ⟨W.heap.size, 1, none⟩ = some (.int .i64 on) ∧ w'.cell? ⟨bw, 0, none⟩ = some (.slice (some ⟨gM, 0, none⟩) vs.length cM)) (go_keep)
    (first
      | (go_at_call 12; refine (within_any _ on vs.length hn (by omega)).mono ?_; rintro e w' ⟨i, hi, rfl, rfl⟩))
  obtain ⟨x, hx⟩ : ∃ x, vs[i]? = some x := ⟨_, List.getElem?_eq_getElem hi⟩
  obtain ⟨hxm, hxr⟩ := unhide Hcells i x hx
  obtain ⟨mx, rx⟩ := unhide Hver x (List.mem_of_getElem? hx)
  have nx := unhide HN x (List.mem_of_getElem? hx)
  have Sx : Hid (Srt x.T.io) := by obtain ⟨_, _, _, _, _, _, h⟩ := mx; exact h
  have hi0 : (0 : Int) ≤ (i : Int) := Int.natCast_nonneg _
  have hi1 : (i : Int) < (vs.length : Int) := by omega
  have hrf : ∃ a0 c0, x.rv = .slice a0 x.T.io.length c0 := by obtain ⟨a0, c0, e, _⟩ := rx; exact ⟨_, _, e⟩
  obtain ⟨ra, rc, hrf⟩ := hrf
  rw [hrf] at hxr rx
  clear hx hrf
  have HX := hide (And.intro mx rx)
  have Ho := hide o5
  have hk' := hk
  have e1 : (kd == (1 : Int)) = false := by simp; omega
  have e2 : (kd == (2 : Int)) = false := by simp; omega
  have e3 : (kd == (3 : Int)) = false := by simp; omega
  have e4 : (kd == (4 : Int)) = false := by simp; omega
  have e5 : (kd == (5 : Int)) = false := by simp; omega
  have e6 : (kd == (6 : Int)) = false := by simp; omega
  have e7 : (kd == (7 : Int)) = false := by simp; omega
  have e8 : (kd == (8 : Int)) = false := by simp; omega
  have e9 : (kd == (9 : Int)) = false := by simp; omega
  have e10 : (kd == (10 : Int)) = false := by simp; omega
  have e11 : (kd == (11 : Int)) = false := by simp; omega
  have e12 : (kd == (12 : Int)) = false := by simp; omega
  clear hk hk'
  have HB1 : Hid (Below V.heap.size V V.drew) := (Below.refl _ V).drew
  go_wp2
  go_ret
  exact ⟨rfl, hB0.trans ((unhide HB1).mono hB0.size)⟩

set_option maxRecDepth 100000 in
set_option maxHeartbeats 4000000 in
theorem step_mput {base bw N : Nat} {W : World} {vs : List Ver} (o : Step) (hwf : o.wf) (h : St base W bw vs) (hN : ∀ v ∈ vs, v.T.io.length ≤ N) (hbig : (2 * N + 2) ≤ 5864062014805) (hvs : vs.length < 4096) (hk : o.kind = 1) :
    Calls Try.prog 6 #[.pointer (some ⟨bw, 0, none⟩), o.val] W (Makes base bw W vs o) := by
  obtain ⟨kd, on, other, a, b, st⟩ := o
  obtain ⟨⟨w1, w2⟩, ⟨w3, w4⟩, ⟨w5, w6⟩, ⟨w7, w8⟩, w9, w10⟩ := hwf
  simp only at hk w1 w2 w3 w4 w5 w6 w7 w8 w9 w10
  subst hk
  have hB0 : Below W.heap.size W (W.alloc (.cells #[.int .i64 1, .int .i64 on, .int .i64 other, .int .i64 a, .int .i64 b, .string st] 32)) := (Below.refl _ W).alloc (Nat.le_refl _) _
  have hbox := World.alloc_heap_new W (.cells #[.int .i64 1, .int .i64 on, .int .i64 other, .int .i64 a, .int .i64 b, .string st] 32)
  have hs0 : (W.alloc (.cells #[.int .i64 1, .int .i64 on, .int .i64 other, .int .i64 a, .int .i64 b, .string st] 32)).heap.size = W.heap.size + 1 := World.size_alloc _ _
  unfold Step.val
  simp only
  go_enter Try.func6, Try.ntmps6
  go_wp2
  generalize W.alloc (.cells #[.int .i64 1, .int .i64 on, .int .i64 other, .int .i64 a, .int .i64 b, .string st] 32) = V at *
  obtain ⟨o0, o1, o2, o3, o4, o5⟩ := cells6_of hbox
  have hV := h.up hB0
  obtain ⟨gM, cM, gR, cR, m0, m1, mb, mg, rg, hn, hbb, hcells, hver⟩ := hV.reads
  have hHB : W.heap.size < V.heap.size := by omega
  have hbaseW : base ≤ W.heap.size := by obtain ⟨_, _, _, _, _, _, q, _, _, _, q', _⟩ := h.reads; omega
  have Hcells := hide hcells
  have Hver := hide hver
  have HV := hide hV
  have HN := hide hN
  have Hbox := hide hbox
  clear hcells hver hV hN hbox h
  go_region_held3 (fun w' => w'.cell? ⟨W.heap.size, 1, none⟩ = some (.int .i64 on) ∧ w'.cell? ⟨bw, 0, none⟩ = some (.slice (some ⟨gM, 0, none⟩) vs.length cM)) (go_keep)
    (first
      | (go_at_call 12; refine (within_any _ on vs.length hn (by omega)).mono ?_; rintro e w' ⟨i, hi, rfl, rfl⟩))
  obtain ⟨x, hx⟩ : ∃ x, vs[i]? = some x := ⟨_, List.getElem?_eq_getElem hi⟩
  obtain ⟨hxm, hxr⟩ := unhide Hcells i x hx
  obtain ⟨mx, rx⟩ := unhide Hver x (List.mem_of_getElem? hx)
  have nx := unhide HN x (List.mem_of_getElem? hx)
  have Sx : Hid (Srt x.T.io) := by obtain ⟨_, _, _, _, _, _, h⟩ := mx; exact h
  have hi0 : (0 : Int) ≤ (i : Int) := Int.natCast_nonneg _
  have hi1 : (i : Int) < (vs.length : Int) := by omega
  have hrf : ∃ a0 c0, x.rv = .slice a0 x.T.io.length c0 := by obtain ⟨a0, c0, e, _⟩ := rx; exact ⟨_, _, e⟩
  obtain ⟨ra, rc, hrf⟩ := hrf
  rw [hrf] at hxr rx
  clear hx hrf
  have HX := hide (And.intro mx rx)
  have Ho := hide o5
  have HVd : Hid (St base V.drew bw vs) := (unhide HV).up (Below.refl _ V).drew
  go_wp2_with fail
  refine (makes_put ⟨1, on, other, a, b, st⟩ ⟨⟨by show (-9223372036854775808 : Int) ≤ 1; omega, by show (1 : Int) ≤ 9223372036854775807; omega⟩, ⟨w3, w4⟩, ⟨w5, w6⟩, ⟨w7, w8⟩, w9, w10⟩ (unhide HVd) (unhide HN) hbig hvs rfl).mono ?_
  rintro e w1 ⟨rfl, hm1, hb1, hk1⟩
  have HM1 := hide hm1
  have HB1 : Hid (Below base V w1) := (((Below.refl _ V).drew).mono (by omega)).trans hb1
  have HK1 : Hid (KeepsT V w1) := (KeepsT.of_below (Below.refl _ V).drew).trans hk1
  clear hm1 hb1 hk1
  go_wp2
  go_ret
  exact ⟨rfl, unhide HM1, (hB0.mono hbaseW).trans (unhide HB1), (KeepsT.of_below hB0).trans (unhide HK1)⟩

set_option maxRecDepth 100000 in
set_option maxHeartbeats 4000000 in
theorem step_mdrop {base bw N : Nat} {W : World} {vs : List Ver} (o : Step) (hwf : o.wf) (h : St base W bw vs) (hN : ∀ v ∈ vs, v.T.io.length ≤ N) (hbig : (2 * N + 2) ≤ 5864062014805) (hvs : vs.length < 4096) (hk : o.kind = 2) :
    Calls Try.prog 6 #[.pointer (some ⟨bw, 0, none⟩), o.val] W (Makes base bw W vs o) := by
  obtain ⟨kd, on, other, a, b, st⟩ := o
  obtain ⟨⟨w1, w2⟩, ⟨w3, w4⟩, ⟨w5, w6⟩, ⟨w7, w8⟩, w9, w10⟩ := hwf
  simp only at hk w1 w2 w3 w4 w5 w6 w7 w8 w9 w10
  subst hk
  have hB0 : Below W.heap.size W (W.alloc (.cells #[.int .i64 2, .int .i64 on, .int .i64 other, .int .i64 a, .int .i64 b, .string st] 32)) := (Below.refl _ W).alloc (Nat.le_refl _) _
  have hbox := World.alloc_heap_new W (.cells #[.int .i64 2, .int .i64 on, .int .i64 other, .int .i64 a, .int .i64 b, .string st] 32)
  have hs0 : (W.alloc (.cells #[.int .i64 2, .int .i64 on, .int .i64 other, .int .i64 a, .int .i64 b, .string st] 32)).heap.size = W.heap.size + 1 := World.size_alloc _ _
  unfold Step.val
  simp only
  go_enter Try.func6, Try.ntmps6
  go_wp2
  generalize W.alloc (.cells #[.int .i64 2, .int .i64 on, .int .i64 other, .int .i64 a, .int .i64 b, .string st] 32) = V at *
  obtain ⟨o0, o1, o2, o3, o4, o5⟩ := cells6_of hbox
  have hV := h.up hB0
  obtain ⟨gM, cM, gR, cR, m0, m1, mb, mg, rg, hn, hbb, hcells, hver⟩ := hV.reads
  have hHB : W.heap.size < V.heap.size := by omega
  have hbaseW : base ≤ W.heap.size := by obtain ⟨_, _, _, _, _, _, q, _, _, _, q', _⟩ := h.reads; omega
  have Hcells := hide hcells
  have Hver := hide hver
  have HV := hide hV
  have HN := hide hN
  have Hbox := hide hbox
  clear hcells hver hV hN hbox h
  go_region_held3 (fun w' => w'.cell? ⟨W.heap.size, 1, none⟩ = some (.int .i64 on) ∧ w'.cell? ⟨bw, 0, none⟩ = some (.slice (some ⟨gM, 0, none⟩) vs.length cM)) (go_keep)
    (first
      | (go_at_call 12; refine (within_any _ on vs.length hn (by omega)).mono ?_; rintro e w' ⟨i, hi, rfl, rfl⟩))
  obtain ⟨x, hx⟩ : ∃ x, vs[i]? = some x := ⟨_, List.getElem?_eq_getElem hi⟩
  obtain ⟨hxm, hxr⟩ := unhide Hcells i x hx
  obtain ⟨mx, rx⟩ := unhide Hver x (List.mem_of_getElem? hx)
  have nx := unhide HN x (List.mem_of_getElem? hx)
  have Sx : Hid (Srt x.T.io) := by obtain ⟨_, _, _, _, _, _, h⟩ := mx; exact h
  have hi0 : (0 : Int) ≤ (i : Int) := Int.natCast_nonneg _
  have hi1 : (i : Int) < (vs.length : Int) := by omega
  have hrf : ∃ a0 c0, x.rv = .slice a0 x.T.io.length c0 := by obtain ⟨a0, c0, e, _⟩ := rx; exact ⟨_, _, e⟩
  obtain ⟨ra, rc, hrf⟩ := hrf
  rw [hrf] at hxr rx
  clear hx hrf
  have HX := hide (And.intro mx rx)
  have Ho := hide o5
  have HVd : Hid (St base V.drew bw vs) := (unhide HV).up (Below.refl _ V).drew
  go_wp2_with fail
  refine (makes_drop ⟨2, on, other, a, b, st⟩ ⟨⟨by show (-9223372036854775808 : Int) ≤ 2; omega, by show (2 : Int) ≤ 9223372036854775807; omega⟩, ⟨w3, w4⟩, ⟨w5, w6⟩, ⟨w7, w8⟩, w9, w10⟩ (unhide HVd) (unhide HN) hbig hvs rfl).mono ?_
  rintro e w1 ⟨rfl, hm1, hb1, hk1⟩
  have HM1 := hide hm1
  have HB1 : Hid (Below base V w1) := (((Below.refl _ V).drew).mono (by omega)).trans hb1
  have HK1 : Hid (KeepsT V w1) := (KeepsT.of_below (Below.refl _ V).drew).trans hk1
  clear hm1 hb1 hk1
  go_wp2
  go_ret
  exact ⟨rfl, unhide HM1, (hB0.mono hbaseW).trans (unhide HB1), (KeepsT.of_below hB0).trans (unhide HK1)⟩

set_option maxRecDepth 100000 in
set_option maxHeartbeats 4000000 in
theorem step_mjoin {base bw N : Nat} {W : World} {vs : List Ver} (o : Step) (hwf : o.wf) (h : St base W bw vs) (hN : ∀ v ∈ vs, v.T.io.length ≤ N) (hbig : (2 * N + 2) ≤ 5864062014805) (hvs : vs.length < 4096) (hk : o.kind = 3) :
    Calls Try.prog 6 #[.pointer (some ⟨bw, 0, none⟩), o.val] W (Makes base bw W vs o) := by
  obtain ⟨kd, on, other, a, b, st⟩ := o
  obtain ⟨⟨w1, w2⟩, ⟨w3, w4⟩, ⟨w5, w6⟩, ⟨w7, w8⟩, w9, w10⟩ := hwf
  simp only at hk w1 w2 w3 w4 w5 w6 w7 w8 w9 w10
  subst hk
  have hB0 : Below W.heap.size W (W.alloc (.cells #[.int .i64 3, .int .i64 on, .int .i64 other, .int .i64 a, .int .i64 b, .string st] 32)) := (Below.refl _ W).alloc (Nat.le_refl _) _
  have hbox := World.alloc_heap_new W (.cells #[.int .i64 3, .int .i64 on, .int .i64 other, .int .i64 a, .int .i64 b, .string st] 32)
  have hs0 : (W.alloc (.cells #[.int .i64 3, .int .i64 on, .int .i64 other, .int .i64 a, .int .i64 b, .string st] 32)).heap.size = W.heap.size + 1 := World.size_alloc _ _
  unfold Step.val
  simp only
  go_enter Try.func6, Try.ntmps6
  go_wp2
  generalize W.alloc (.cells #[.int .i64 3, .int .i64 on, .int .i64 other, .int .i64 a, .int .i64 b, .string st] 32) = V at *
  obtain ⟨o0, o1, o2, o3, o4, o5⟩ := cells6_of hbox
  have hV := h.up hB0
  obtain ⟨gM, cM, gR, cR, m0, m1, mb, mg, rg, hn, hbb, hcells, hver⟩ := hV.reads
  have hHB : W.heap.size < V.heap.size := by omega
  have hbaseW : base ≤ W.heap.size := by obtain ⟨_, _, _, _, _, _, q, _, _, _, q', _⟩ := h.reads; omega
  have Hcells := hide hcells
  have Hver := hide hver
  have HV := hide hV
  have HN := hide hN
  have Hbox := hide hbox
  clear hcells hver hV hN hbox h
  go_region_held3 (fun w' => w'.cell? ⟨W.heap.size, 1, none⟩ = some (.int .i64 on) ∧ w'.cell? ⟨bw, 0, none⟩ = some (.slice (some ⟨gM, 0, none⟩) vs.length cM)) (go_keep)
    (first
      | (go_at_call 12; refine (within_any _ on vs.length hn (by omega)).mono ?_; rintro e w' ⟨i, hi, rfl, rfl⟩))
  obtain ⟨x, hx⟩ : ∃ x, vs[i]? = some x := ⟨_, List.getElem?_eq_getElem hi⟩
  obtain ⟨hxm, hxr⟩ := unhide Hcells i x hx
  obtain ⟨mx, rx⟩ := unhide Hver x (List.mem_of_getElem? hx)
  have nx := unhide HN x (List.mem_of_getElem? hx)
  have Sx : Hid (Srt x.T.io) := by obtain ⟨_, _, _, _, _, _, h⟩ := mx; exact h
  have hi0 : (0 : Int) ≤ (i : Int) := Int.natCast_nonneg _
  have hi1 : (i : Int) < (vs.length : Int) := by omega
  have hrf : ∃ a0 c0, x.rv = .slice a0 x.T.io.length c0 := by obtain ⟨a0, c0, e, _⟩ := rx; exact ⟨_, _, e⟩
  obtain ⟨ra, rc, hrf⟩ := hrf
  rw [hrf] at hxr rx
  clear hx hrf
  have HX := hide (And.intro mx rx)
  have Ho := hide o5
  have HVd : Hid (St base V.drew bw vs) := (unhide HV).up (Below.refl _ V).drew
  go_wp2_with fail
  refine (makes_join ⟨3, on, other, a, b, st⟩ ⟨⟨by show (-9223372036854775808 : Int) ≤ 3; omega, by show (3 : Int) ≤ 9223372036854775807; omega⟩, ⟨w3, w4⟩, ⟨w5, w6⟩, ⟨w7, w8⟩, w9, w10⟩ (unhide HVd) (unhide HN) hbig hvs rfl).mono ?_
  rintro e w1 ⟨rfl, hm1, hb1, hk1⟩
  have HM1 := hide hm1
  have HB1 : Hid (Below base V w1) := (((Below.refl _ V).drew).mono (by omega)).trans hb1
  have HK1 : Hid (KeepsT V w1) := (KeepsT.of_below (Below.refl _ V).drew).trans hk1
  clear hm1 hb1 hk1
  go_wp2
  go_ret
  exact ⟨rfl, unhide HM1, (hB0.mono hbaseW).trans (unhide HB1), (KeepsT.of_below hB0).trans (unhide HK1)⟩

set_option maxRecDepth 100000 in
set_option maxHeartbeats 4000000 in
theorem step_monly {base bw N : Nat} {W : World} {vs : List Ver} (o : Step) (hwf : o.wf) (h : St base W bw vs) (hN : ∀ v ∈ vs, v.T.io.length ≤ N) (hbig : (2 * N + 2) ≤ 5864062014805) (hvs : vs.length < 4096) (hk : o.kind = 4) :
    Calls Try.prog 6 #[.pointer (some ⟨bw, 0, none⟩), o.val] W (Makes base bw W vs o) := by
  obtain ⟨kd, on, other, a, b, st⟩ := o
  obtain ⟨⟨w1, w2⟩, ⟨w3, w4⟩, ⟨w5, w6⟩, ⟨w7, w8⟩, w9, w10⟩ := hwf
  simp only at hk w1 w2 w3 w4 w5 w6 w7 w8 w9 w10
  subst hk
  have hB0 : Below W.heap.size W (W.alloc (.cells #[.int .i64 4, .int .i64 on, .int .i64 other, .int .i64 a, .int .i64 b, .string st] 32)) := (Below.refl _ W).alloc (Nat.le_refl _) _
  have hbox := World.alloc_heap_new W (.cells #[.int .i64 4, .int .i64 on, .int .i64 other, .int .i64 a, .int .i64 b, .string st] 32)
  have hs0 : (W.alloc (.cells #[.int .i64 4, .int .i64 on, .int .i64 other, .int .i64 a, .int .i64 b, .string st] 32)).heap.size = W.heap.size + 1 := World.size_alloc _ _
  unfold Step.val
  simp only
  go_enter Try.func6, Try.ntmps6
  go_wp2
  generalize W.alloc (.cells #[.int .i64 4, .int .i64 on, .int .i64 other, .int .i64 a, .int .i64 b, .string st] 32) = V at *
  obtain ⟨o0, o1, o2, o3, o4, o5⟩ := cells6_of hbox
  have hV := h.up hB0
  obtain ⟨gM, cM, gR, cR, m0, m1, mb, mg, rg, hn, hbb, hcells, hver⟩ := hV.reads
  have hHB : W.heap.size < V.heap.size := by omega
  have hbaseW : base ≤ W.heap.size := by obtain ⟨_, _, _, _, _, _, q, _, _, _, q', _⟩ := h.reads; omega
  have Hcells := hide hcells
  have Hver := hide hver
  have HV := hide hV
  have HN := hide hN
  have Hbox := hide hbox
  clear hcells hver hV hN hbox h
  go_region_held3 (fun w' => w'.cell? ⟨W.heap.size, 1, none⟩ = some (.int .i64 on) ∧ w'.cell? ⟨bw, 0, none⟩ = some (.slice (some ⟨gM, 0, none⟩) vs.length cM)) (go_keep)
    (first
      | (go_at_call 12; refine (within_any _ on vs.length hn (by omega)).mono ?_; rintro e w' ⟨i, hi, rfl, rfl⟩))
  obtain ⟨x, hx⟩ : ∃ x, vs[i]? = some x := ⟨_, List.getElem?_eq_getElem hi⟩
  obtain ⟨hxm, hxr⟩ := unhide Hcells i x hx
  obtain ⟨mx, rx⟩ := unhide Hver x (List.mem_of_getElem? hx)
  have nx := unhide HN x (List.mem_of_getElem? hx)
  have Sx : Hid (Srt x.T.io) := by obtain ⟨_, _, _, _, _, _, h⟩ := mx; exact h
  have hi0 : (0 : Int) ≤ (i : Int) := Int.natCast_nonneg _
  have hi1 : (i : Int) < (vs.length : Int) := by omega
  have hrf : ∃ a0 c0, x.rv = .slice a0 x.T.io.length c0 := by obtain ⟨a0, c0, e, _⟩ := rx; exact ⟨_, _, e⟩
  obtain ⟨ra, rc, hrf⟩ := hrf
  rw [hrf] at hxr rx
  clear hx hrf
  have HX := hide (And.intro mx rx)
  have Ho := hide o5
  have HVd : Hid (St base V.drew bw vs) := (unhide HV).up (Below.refl _ V).drew
  go_wp2_with fail
  refine (makes_only ⟨4, on, other, a, b, st⟩ ⟨⟨by show (-9223372036854775808 : Int) ≤ 4; omega, by show (4 : Int) ≤ 9223372036854775807; omega⟩, ⟨w3, w4⟩, ⟨w5, w6⟩, ⟨w7, w8⟩, w9, w10⟩ (unhide HVd) (unhide HN) hbig hvs rfl).mono ?_
  rintro e w1 ⟨rfl, hm1, hb1, hk1⟩
  have HM1 := hide hm1
  have HB1 : Hid (Below base V w1) := (((Below.refl _ V).drew).mono (by omega)).trans hb1
  have HK1 : Hid (KeepsT V w1) := (KeepsT.of_below (Below.refl _ V).drew).trans hk1
  clear hm1 hb1 hk1
  go_wp2
  go_ret
  exact ⟨rfl, unhide HM1, (hB0.mono hbaseW).trans (unhide HB1), (KeepsT.of_below hB0).trans (unhide HK1)⟩

set_option maxRecDepth 100000 in
set_option maxHeartbeats 4000000 in
theorem step_mwithout {base bw N : Nat} {W : World} {vs : List Ver} (o : Step) (hwf : o.wf) (h : St base W bw vs) (hN : ∀ v ∈ vs, v.T.io.length ≤ N) (hbig : (2 * N + 2) ≤ 5864062014805) (hvs : vs.length < 4096) (hk : o.kind = 5) :
    Calls Try.prog 6 #[.pointer (some ⟨bw, 0, none⟩), o.val] W (Makes base bw W vs o) := by
  obtain ⟨kd, on, other, a, b, st⟩ := o
  obtain ⟨⟨w1, w2⟩, ⟨w3, w4⟩, ⟨w5, w6⟩, ⟨w7, w8⟩, w9, w10⟩ := hwf
  simp only at hk w1 w2 w3 w4 w5 w6 w7 w8 w9 w10
  subst hk
  have hB0 : Below W.heap.size W (W.alloc (.cells #[.int .i64 5, .int .i64 on, .int .i64 other, .int .i64 a, .int .i64 b, .string st] 32)) := (Below.refl _ W).alloc (Nat.le_refl _) _
  have hbox := World.alloc_heap_new W (.cells #[.int .i64 5, .int .i64 on, .int .i64 other, .int .i64 a, .int .i64 b, .string st] 32)
  have hs0 : (W.alloc (.cells #[.int .i64 5, .int .i64 on, .int .i64 other, .int .i64 a, .int .i64 b, .string st] 32)).heap.size = W.heap.size + 1 := World.size_alloc _ _
  unfold Step.val
  simp only
  go_enter Try.func6, Try.ntmps6
  go_wp2
  generalize W.alloc (.cells #[.int .i64 5, .int .i64 on, .int .i64 other, .int .i64 a, .int .i64 b, .string st] 32) = V at *
  obtain ⟨o0, o1, o2, o3, o4, o5⟩ := cells6_of hbox
  have hV := h.up hB0
  obtain ⟨gM, cM, gR, cR, m0, m1, mb, mg, rg, hn, hbb, hcells, hver⟩ := hV.reads
  have hHB : W.heap.size < V.heap.size := by omega
  have hbaseW : base ≤ W.heap.size := by obtain ⟨_, _, _, _, _, _, q, _, _, _, q', _⟩ := h.reads; omega
  have Hcells := hide hcells
  have Hver := hide hver
  have HV := hide hV
  have HN := hide hN
  have Hbox := hide hbox
  clear hcells hver hV hN hbox h
  go_region_held3 (fun w' => w'.cell? ⟨W.heap.size, 1, none⟩ = some (.int .i64 on) ∧ w'.cell? ⟨bw, 0, none⟩ = some (.slice (some ⟨gM, 0, none⟩) vs.length cM)) (go_keep)
    (first
      | (go_at_call 12; refine (within_any _ on vs.length hn (by omega)).mono ?_; rintro e w' ⟨i, hi, rfl, rfl⟩))
  obtain ⟨x, hx⟩ : ∃ x, vs[i]? = some x := ⟨_, List.getElem?_eq_getElem hi⟩
  obtain ⟨hxm, hxr⟩ := unhide Hcells i x hx
  obtain ⟨mx, rx⟩ := unhide Hver x (List.mem_of_getElem? hx)
  have nx := unhide HN x (List.mem_of_getElem? hx)
  have Sx : Hid (Srt x.T.io) := by obtain ⟨_, _, _, _, _, _, h⟩ := mx; exact h
  have hi0 : (0 : Int) ≤ (i : Int) := Int.natCast_nonneg _
  have hi1 : (i : Int) < (vs.length : Int) := by omega
  have hrf : ∃ a0 c0, x.rv = .slice a0 x.T.io.length c0 := by obtain ⟨a0, c0, e, _⟩ := rx; exact ⟨_, _, e⟩
  obtain ⟨ra, rc, hrf⟩ := hrf
  rw [hrf] at hxr rx
  clear hx hrf
  have HX := hide (And.intro mx rx)
  have Ho := hide o5
  have HVd : Hid (St base V.drew bw vs) := (unhide HV).up (Below.refl _ V).drew
  go_wp2_with fail
  refine (makes_without ⟨5, on, other, a, b, st⟩ ⟨⟨by show (-9223372036854775808 : Int) ≤ 5; omega, by show (5 : Int) ≤ 9223372036854775807; omega⟩, ⟨w3, w4⟩, ⟨w5, w6⟩, ⟨w7, w8⟩, w9, w10⟩ (unhide HVd) (unhide HN) hbig hvs rfl).mono ?_
  rintro e w1 ⟨rfl, hm1, hb1, hk1⟩
  have HM1 := hide hm1
  have HB1 : Hid (Below base V w1) := (((Below.refl _ V).drew).mono (by omega)).trans hb1
  have HK1 : Hid (KeepsT V w1) := (KeepsT.of_below (Below.refl _ V).drew).trans hk1
  clear hm1 hb1 hk1
  go_wp2
  go_ret
  exact ⟨rfl, unhide HM1, (hB0.mono hbaseW).trans (unhide HB1), (KeepsT.of_below hB0).trans (unhide HK1)⟩

def Stepped (base bw : Nat) (W : World) (vs : List Ver) (o : Step) (e : Ending) (W' : World) : Prop := e = .returned (.bool true) ∧
  (∃ vs', St base W' bw vs' ∧ (1 ≤ o.kind ∧ o.kind ≤ 5 → ∃ nv, vs' = vs ++ [nv] ∧ ∀ x ∈ nv.T.io, x.1 = o.key ∨ ∃ v ∈ vs, x ∈ v.T.io) ∧ (¬ (1 ≤ o.kind ∧ o.kind ≤ 5) → vs' = vs)) ∧ Below base W W' ∧ KeepsT W W'

theorem step_any {base bw N : Nat} {W : World} {vs : List Ver} (o : Step) (hwf : o.wf) (h : St base W bw vs) (hN : ∀ v ∈ vs, v.T.io.length ≤ N) (hbig : (2 * N + 2) ≤ 5864062014805) (hvs : vs.length < 4096) :
    Calls Try.prog 6 #[.pointer (some ⟨bw, 0, none⟩), o.val] W (Stepped base bw W vs o) := by
  have hbw : base ≤ W.heap.size := by obtain ⟨_, _, _, _, _, _, q, _, _, _, q', _⟩ := h.reads; omega
  have look : ¬ (1 ≤ o.kind ∧ o.kind ≤ 5) → Calls Try.prog 6 #[.pointer (some ⟨bw, 0, none⟩), o.val] W (fun e W' => e = .returned (.bool true) ∧ Below W.heap.size W W') → Calls Try.prog 6 #[.pointer (some ⟨bw, 0, none⟩), o.val] W (Stepped base bw W vs o) := fun hk hc =>
    hc.mono fun e W' ⟨h1, h2⟩ => ⟨h1, ⟨vs, h.up h2, fun hk' => (hk hk').elim, fun _ => rfl⟩, h2.mono hbw, KeepsT.of_below h2⟩
  have mk : (1 ≤ o.kind ∧ o.kind ≤ 5) → Calls Try.prog 6 #[.pointer (some ⟨bw, 0, none⟩), o.val] W (Makes base bw W vs o) → Calls Try.prog 6 #[.pointer (some ⟨bw, 0, none⟩), o.val] W (Stepped base bw W vs o) := fun hk hc =>
    hc.mono fun e W' ⟨h1, ⟨nv, h2, h3⟩, h4, h5⟩ => ⟨h1, ⟨vs ++ [nv], h2, fun _ => ⟨nv, rfl, h3⟩, fun hk' => (hk' hk).elim⟩, h4, h5⟩
  rcases (by omega : o.kind = 1 ∨ o.kind = 2 ∨ o.kind = 3 ∨ o.kind = 4 ∨ o.kind = 5 ∨ o.kind = 6 ∨ o.kind = 7 ∨ o.kind = 8 ∨ o.kind = 9 ∨ o.kind = 10 ∨ o.kind = 11 ∨ o.kind = 12 ∨ (o.kind < 1 ∨ 12 < o.kind)) with hk | hk | hk | hk | hk | hk | hk | hk | hk | hk | hk | hk | hk
  · exact mk (by omega) (step_mput o hwf h hN hbig hvs hk)
  · exact mk (by omega) (step_mdrop o hwf h hN hbig hvs hk)
  · exact mk (by omega) (step_mjoin o hwf h hN hbig hvs hk)
  · exact mk (by omega) (step_monly o hwf h hN hbig hvs hk)
  · exact mk (by omega) (step_mwithout o hwf h hN hbig hvs hk)
  · exact look (by omega) (step_get o hwf h hN hbig hvs hk)
  · exact look (by omega) (step_len o hwf h hN hbig hvs hk)
  · exact look (by omega) (step_at o hwf h hN hbig hvs hk)
  · exact look (by omega) (step_rank o hwf h hN hbig hvs hk)
  · exact look (by omega) (step_keys o hwf h hN hbig hvs hk)
  · exact look (by omega) (step_all o hwf h hN hbig hvs hk)
  · exact look (by omega) (step_from o hwf h hN hbig hvs hk)
  · exact look (by omega) (step_other o hwf h hN hbig hvs hk)
end Go.Proofs.Ytcbcahnajabhfaa
