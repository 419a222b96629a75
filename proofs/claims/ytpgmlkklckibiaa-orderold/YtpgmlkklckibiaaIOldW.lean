import Derived.Test.YtpgmlkklckibiaaIStill
import Derived.Test.YtpgmlkklckibiaaIAlg
import Derived.Test.YtpgmlkklckibiaaIOps
namespace Go.Proofs.Ytpgmlkklckibiaa
open Go.RowKit Go.Shelf
attribute [local go_sem ↓] Go.wp_at_zero Go.wp_at_succ

theorem Try.infoSnap : (Try.prog.info? 29).map (fun i => (i.zero, i.size, i.bytes)) = some (some (.agg #[.pointer none, .slice none 0 0, .slice none 0 0]), 3, 56) := by kernel_rfl
theorem olds_new {W w' : World} {n : Nat} {v : OV} (hs : w'.heap[n]? = some (.cells #[.pointer (some ⟨v.bm, 0, none⟩), v.vK, v.vV] 29 (0, 0))) (hn : W.heap.size ≤ n) (hne : v.bm ≠ n) (hv : v.ok w') : Olds W.heap.size w' (.slice (some ⟨n, 0, none⟩) 1 1) [v] :=
  ⟨⟨rfl, .inr ⟨n, 1, #[.pointer (some ⟨v.bm, 0, none⟩), v.vK, v.vV], rfl, hn, hs, Nat.le_refl _, by unfold maxLen; decide, rfl, rfl⟩⟩, by simp, fun x hx => by
    obtain rfl : x = v := by simpa using hx
    exact ⟨by simp [Value.ownBlock]; exact hne, hv⟩⟩

/-- Between two rounds. -/
def OldI (W : World) (wr : World) (v : Value) (vs : List OV) (Z : List Ent) : Prop := Olds W.heap.size wr v vs ∧ Z.length ≤ 200 ∧ Z.length ≤ vs.length ∧ vs.length ≤ 200 ∧ (∀ x ∈ vs, ∀ e ∈ x.T.io, e ∈ Z) ∧ Below W.heap.size W wr

set_option maxRecDepth 100000 in
set_option maxHeartbeats 8000000 in
theorem old_any {W : World} {a : Option Addr} {cap : Nat} (ss : List Step) (h : IsSteps W a ss) (hcap : ss.length ≤ cap) (hcap2 : cap * 56 ≤ 140737488351232) :
    Calls Try.prog 6 #[.slice a ss.length cap] W fun e W' => e = .returned (.bool true) ∧ Below W.heap.size W W' := by
  obtain ⟨i0, hi, hz0, hz1, hz2⟩ := info_parts Try.infoSnap
  obtain ⟨hwf, b, off, hab, hcell⟩ := h
  have Hwf := hide hwf
  have Hab := hide hab
  have Hcell := hide hcell
  clear hwf hab hcell
  go_enter Try.func6, Try.ntmps6
  go_wp2_with fail
  refine (new_any _).mono ?_
  rintro e w0 ⟨m, rfl, hm, hb0⟩
  have hm0 : ∃ bm, m = some ⟨bm, 0, none⟩ := by obtain ⟨bm, _, rfl, _⟩ := hm; exact ⟨bm, rfl⟩
  obtain ⟨bm0, rfl⟩ := hm0
  go_wp2_with fail
  refine (mput_any (1, 2) hm (by simp [BT.io])).mono ?_
  rintro e w1 ⟨_, T, rfl, hT, hio, hb1, bm, rfl, _⟩
  have hB1 : Below W.heap.size W w1 := hb0.trans (hb1.mono hb0.size)
  have hio1 : ∀ x ∈ T.io, x = ((1, 2) : Ent) := fun x hx => ((hio x).1 hx).elim id fun q => by simp [BT.io] at q
  have hlen : T.io.length = 1 := by
    have h1 := (show Srt T.io by obtain ⟨_, _, _, _, _, _, q⟩ := hT; exact q).len_le (z := [((1, 2) : Ent)]) (fun x hx => by simp [hio1 x hx])
    have h2 := List.length_pos_of_mem ((hio (1, 2)).2 (.inl rfl))
    simp at h1
    omega
  have Hio := hide hio1
  clear hm hio hio1 hb0 hb1
  go_wp2_with fail
  refine (len_any hT).mono ?_
  rintro e w' ⟨rfl, he⟩
  obtain rfl : w1 = w' := he.symm
  rw [hlen]
  go_wp2_with fail
  refine (goes_any hT).mono ?_
  rintro e w2 ⟨rfl, hb2⟩
  have hT2 := hT.up hb2
  have hB2 := hB1.trans (hb2.mono hB1.size)
  clear hT hb2 hB1
  go_wp2_with fail
  refine (snap_any hT2 (by omega)).mono ?_
  rintro e w3 ⟨vK, vV, rfl, hK, hV, hb3⟩
  have hv : (∃ a n c, vK = .slice a n c) ∧ (∃ a n c, vV = .slice a n c) := by
    obtain ⟨_, _, rfl, _⟩ := hK
    obtain ⟨_, _, rfl, _⟩ := hV
    exact ⟨⟨_, _, _, rfl⟩, ⟨_, _, _, rfl⟩⟩
  obtain ⟨⟨ka, kn, kc, rfl⟩, ⟨va, vn, vc, rfl⟩⟩ := hv
  have hT3 := hT2.up hb3
  have hB3 := hB2.trans (hb3.mono hB2.size)
  have HOV : Hid (OV.ok w3 ⟨bm, .slice ka kn kc, .slice va vn vc, T⟩) := ⟨hT3, hK, hV⟩
  have Hbm : Hid (bm < w3.heap.size) := by
    obtain ⟨b, _, e, hb, _⟩ := hT3
    obtain rfl : bm = b := by simpa using e
    exact hb
  clear hT2 hT3 hK hV hb3
  go_wp2
  have HI0 : Hid (OldI W ((w3.alloc (.cells #[.pointer (some ⟨bm, 0, none⟩), .slice ka kn kc, .slice va vn vc] 29)).alloc (.cells #[.pointer (some ⟨bm, 0, none⟩), .slice ka kn kc, .slice va vn vc] 29)) (.slice (some ⟨w3.heap.size + 1, 0, none⟩) 1 1) [⟨bm, .slice ka kn kc, .slice va vn vc, T⟩] [((1, 2) : Ent)]) := by
    have hx : Below w3.heap.size w3 ((w3.alloc (.cells #[.pointer (some ⟨bm, 0, none⟩), .slice ka kn kc, .slice va vn vc] 29)).alloc (.cells #[.pointer (some ⟨bm, 0, none⟩), .slice ka kn kc, .slice va vn vc] 29)) := ((Below.refl _ _).alloc (Nat.le_refl _) _).alloc (by rw [World.size_alloc]; omega) _
    have hn := World.alloc_heap_new (w3.alloc (.cells #[.pointer (some ⟨bm, 0, none⟩), .slice ka kn kc, .slice va vn vc] 29)) (.cells #[.pointer (some ⟨bm, 0, none⟩), .slice ka kn kc, .slice va vn vc] 29)
    rw [World.size_alloc] at hn
    have hsz := hB3.size
    exact ⟨olds_new hn (by omega) (by have := unhide Hbm; show bm ≠ _; omega) ((unhide HOV).up hx), by simp, by simp, by simp, fun x hx e he => by
      obtain rfl : x = _ := by simpa using hx
      simpa using unhide Hio e he, hB3.trans (hx.mono hsz)⟩
  clear HOV hlen
  go_loopg [6, 7] ss.length (fun gk v6 v7 wr => ∃ (i : Nat) (vs : List OV) (Z : List Ent), v7 = .int .i64 (i : Int) ∧ gk = ss.length - i ∧ i ≤ ss.length ∧ OldI W wr v6 vs Z)
  case atStart => exact ⟨0, _, _, rfl, rfl, Nat.zero_le _, unhide HI0⟩
  case round =>
    obtain ⟨i, vs, Z, rfl, hgk, hi', hI⟩ := hrel
    clear HI0
    have Hgk := hide hgk
    have HI := hide hI
    obtain ⟨g, c, rfl, hg, hrd⟩ := hI.1.reads
    obtain ⟨_, z1, z2, z3, z4, hB⟩ := hI
    have Hrd := hide hrd
    have Hz4 := hide z4
    clear hgk hrd z4
    have hvs := (unhide HI).1.2.1
    by_cases hlt : i < ss.length ∧ vs.length < 200
    · obtain ⟨hlt, hv200⟩ := hlt
      obtain ⟨o, ho⟩ : ∃ o, ss[i]? = some o := ⟨_, List.getElem?_eq_getElem hlt⟩
      obtain ⟨rfl, hbl⟩ := unhide Hab (by omega)
      obtain ⟨c0, c1, c2, c3, c4, c5⟩ := unhide Hcell i o ho
      have d0 := (hB.cell (p := ⟨b, off + i * 6, none⟩) hbl).trans c0
      have d1 := (hB.cell (p := ⟨b, off + i * 6 + 1, none⟩) hbl).trans c1
      have d2 := (hB.cell (p := ⟨b, off + i * 6 + 2, none⟩) hbl).trans c2
      have d3 := (hB.cell (p := ⟨b, off + i * 6 + 3, none⟩) hbl).trans c3
      have d4 := (hB.cell (p := ⟨b, off + i * 6 + 4, none⟩) hbl).trans c4
      have d5 := (hB.cell (p := ⟨b, off + i * 6 + 5, none⟩) hbl).trans c5
      have hi0 : (0 : Int) ≤ (i : Int) := Int.natCast_nonneg _
      have hi1 : (i : Int) < (ss.length : Int) := by omega
      have hv1 : (vs.length : Int) < 200 := by omega
      clear c0 c1 c2 c3 c4 c5
      go_wp2_with fail
      have hV : Below wr.heap.size wr (wr.alloc (.cells #[.int .i64 o.kind, .int .i64 o.on, .int .i64 o.other, .int .i64 o.a, .int .i64 o.b, .string o.s] 42)) := (Below.refl _ _).alloc (Nat.le_refl _) _
      have hbx := World.alloc_heap_new wr (.cells #[.int .i64 o.kind, .int .i64 o.on, .int .i64 o.other, .int .i64 o.a, .int .i64 o.b, .string o.s] 42)
      have hVs : (wr.alloc (.cells #[.int .i64 o.kind, .int .i64 o.on, .int .i64 o.other, .int .i64 o.a, .int .i64 o.b, .string o.s] 42)).heap.size = wr.heap.size + 1 := World.size_alloc _ _
      generalize wr.alloc (.cells #[.int .i64 o.kind, .int .i64 o.on, .int .i64 o.other, .int .i64 o.a, .int .i64 o.b, .string o.s] 42) = V at *
      have hO := (unhide HI).1.up hV
      have hBV := hB.trans (hV.mono hB.size)
      obtain ⟨x0, x1, x2, x3, x4, x5⟩ := cells6_of hbx
      have Hbx := hide hbx
      have HO := hide hO
      clear d0 d1 d2 d3 d4 d5 hbx hO
      refine (within_any V o.on vs.length hvs (by omega)).mono ?_
      rintro e w' ⟨j1, hj1, rfl, he⟩
      obtain rfl : V = w' := he.symm
      obtain ⟨y1, hy1⟩ : ∃ y, vs[j1]? = some y := ⟨_, List.getElem?_eq_getElem hj1⟩
      have r1 := (hV.cell (p := ⟨g, j1 * 3, none⟩) hg).trans (unhide Hrd j1 y1 hy1).1
      have q0 : (0 : Int) ≤ (j1 : Int) := Int.natCast_nonneg _
      have q1 : (j1 : Int) < (vs.length : Int) := by omega
      have Hy1 := hide hy1
      clear hy1
      go_wp2_with fail
      refine (within_any V o.other vs.length hvs (by omega)).mono ?_
      rintro e w' ⟨j2, hj2, rfl, he⟩
      obtain rfl : V = w' := he.symm
      obtain ⟨y2, hy2⟩ : ∃ y, vs[j2]? = some y := ⟨_, List.getElem?_eq_getElem hj2⟩
      have r2 := (hV.cell (p := ⟨g, j2 * 3, none⟩) hg).trans (unhide Hrd j2 y2 hy2).1
      have q2 : (0 : Int) ≤ (j2 : Int) := Int.natCast_nonneg _
      have q3 : (j2 : Int) < (vs.length : Int) := by omega
      have Hy2 := hide hy2
      have hm1 := ((unhide HO).2.2 y1 (List.mem_of_getElem? (unhide Hy1))).2.1
      have hm2 := ((unhide HO).2.2 y2 (List.mem_of_getElem? hy2)).2.1
      have hn1 : y1.T.io.length ≤ 200 := by
        have := hm1.srt.len_le (z := Z) (fun e he => unhide Hz4 y1 (List.mem_of_getElem? (unhide Hy1)) e he); omega
      have hn2 : y2.T.io.length ≤ 200 := by
        have := hm2.srt.len_le (z := Z) (fun e he => unhide Hz4 y2 (List.mem_of_getElem? hy2) e he); omega
      clear hy2 hV
      have hz1' : ∀ e ∈ y1.T.io, e ∈ Z := fun e he => unhide Hz4 y1 (List.mem_of_getElem? (unhide Hy1)) e he
      have hz2' : ∀ e ∈ y2.T.io, e ∈ Z := fun e he => unhide Hz4 y2 (List.mem_of_getElem? (unhide Hy2)) e he
      have Hz1 := hide hz1'
      have Hz2 := hide hz2'
      clear hz1' hz2'
      by_cases k1 : o.kind = 1
      · have e1 : (o.kind == 1) = true := by simp [k1]
        clear k1
        go_wp2_with fail
        refine (mput_any (o.a, o.b) hm1 (by omega)).mono ?_
        rintro e w4 ⟨_, U, rfl, hU, mU, hb4, bm', rfl, hnew⟩
        have hZU : ∀ e ∈ U.io, e ∈ (o.a, o.b) :: Z := fun e he => ((mU e).1 he).elim (fun q => by simp [q]) (fun q => List.mem_cons_of_mem _ (unhide Hz1 e q.1))
        have hlU : U.io.length ≤ 200 := by
          have := hU.srt.len_le (z := (o.a, o.b) :: Z) hZU
          simp at this
          omega
        have hO4 := (unhide HO).up hb4
        have hB4 := hBV.trans (hb4.mono hBV.size)
        have HZU := hide hZU
        have hne : bm' ≠ g := by omega
        clear mU hb4 hZU x0 x1 x2 x3 x4 x5 r1 r2 hm1 hm2
        go_wp2_with fail
        refine (snap_any hU (by omega)).mono ?_
        rintro e w5 ⟨vK', vV', rfl, hK', hV', hb5⟩
        have hv : (∃ a n c, vK' = .slice a n c) ∧ (∃ a n c, vV' = .slice a n c) := by
          obtain ⟨_, _, rfl, _⟩ := hK'
          obtain ⟨_, _, rfl, _⟩ := hV'
          exact ⟨⟨_, _, _, rfl⟩, ⟨_, _, _, rfl⟩⟩
        obtain ⟨⟨ka', kn', kc', rfl⟩, ⟨va', vn', vc', rfl⟩⟩ := hv
        have hO5 := hO4.up hb5
        have hB5 := hB4.trans (hb5.mono hB4.size)
        have HOV : Hid (OV.ok w5 ⟨bm', .slice ka' kn' kc', .slice va' vn' vc', U⟩) := ⟨hU.up hb5, hK', hV'⟩
        have hrow := hO5.1
        have hx : Below w5.heap.size w5 ((w5.alloc (.cells #[.pointer (some ⟨bm', 0, none⟩), .slice ka' kn' kc', .slice va' vn' vc'] 29)).alloc (.cells #[.pointer (some ⟨bm', 0, none⟩), .slice ka' kn' kc', .slice va' vn' vc'] 29)) := ((Below.refl _ _).alloc (Nat.le_refl _) _).alloc (by rw [World.size_alloc]; omega) _
        have hnw := World.alloc_heap_new (w5.alloc (.cells #[.pointer (some ⟨bm', 0, none⟩), .slice ka' kn' kc', .slice va' vn' vc'] 29)) (.cells #[.pointer (some ⟨bm', 0, none⟩), .slice ka' kn' kc', .slice va' vn' vc'] 29)
        rw [World.size_alloc] at hnw
        have hX : ((w5.alloc (.cells #[.pointer (some ⟨bm', 0, none⟩), .slice ka' kn' kc', .slice va' vn' vc'] 29)).alloc (.cells #[.pointer (some ⟨bm', 0, none⟩), .slice ka' kn' kc', .slice va' vn' vc'] 29)).heap.size = w5.heap.size + 1 + 1 := by rw [World.size_alloc, World.size_alloc]
        have HO5 := hide hO5
        have hb5s := hB5.size
        clear hO4 hO5 hU hK' hV' hb5
        go_wp2_with (at_builtin; refine wpList_append_own_at _ rfl _ _ 51 rfl W.heap.size 29 i0 (.agg #[.pointer none, .slice none 0 0, .slice none 0 0]) 3 56 Try.underlying51 hi hz0 hz1 hz2 rfl (by decide) _ _ _ rfl ((hrow.alloc _).alloc _) ⟨w5.heap.size + 1, 0, none⟩ 1 1 [.pointer (some ⟨bm', 0, none⟩), .slice ka' kn' kc', .slice va' vn' vc'] rfl rfl (World.news_of_block (cs := #[.pointer (some ⟨bm', 0, none⟩), .slice ka' kn' kc', .slice va' vn' vc']) (t := 29) (fr := (0, 0)) hnw) (by simp [Value.oneCell']) (by unfold maxLen; omega) (by omega) (by rw [hX]; omega) ?_; intro v6 w6 hown6 hgrow6 _ hat6; have Hown := hide hown6; have Hgrow := hide hgrow6; have Hat := hide hat6; clear hown6 hgrow6 hat6)
        go_roundg (ss.length - (i + 1))
        case measure => have := unhide Hgk; omega
        case rel =>
          refine ⟨i + 1, vs ++ [⟨bm', .slice ka' kn' kc', .slice va' vn' vc', U⟩], (o.a, o.b) :: Z, by go_num, rfl, by omega, ?_, by simp; omega, by simp; omega, by simp; omega, ?_, ?_⟩
          · exact (unhide HO5).add hx ((unhide HOV).up hx) (by simp [Value.ownBlock]; exact hne) (unhide Hgrow) (unhide Hown) (unhide Hat) (Nat.le_refl _)
          · intro x hx e he
            rcases List.mem_append.1 hx with hx | hx
            · exact List.mem_cons_of_mem _ (unhide Hz4 x hx e he)
            · obtain rfl : x = _ := by simpa using hx
              exact unhide HZU e he
          · exact (hB5.trans (hx.mono hb5s)).grown (unhide Hgrow) (by rw [hX]; omega) (fun k e' => (hrow.lt k e').1)
      have e1 : (o.kind == 1) = false := by simp [k1]
      clear k1
      by_cases k2 : o.kind = 2
      · have e2 : (o.kind == 2) = true := by simp [k2]
        clear k2
        go_wp2_with fail
        refine (mdrop_any o.a hm1 (by omega)).mono ?_
        rintro e w4 ⟨_, U, rfl, hU, mU, hb4, bm', rfl, hnew⟩
        have hZU : ∀ e ∈ U.io, e ∈ (o.a, o.b) :: Z := fun e he => List.mem_cons_of_mem _ (unhide Hz1 e ((mU e).1 he).1)
        have hlU : U.io.length ≤ 200 := by
          have := hU.srt.len_le (z := (o.a, o.b) :: Z) hZU
          simp at this
          omega
        have hO4 := (unhide HO).up hb4
        have hB4 := hBV.trans (hb4.mono hBV.size)
        have HZU := hide hZU
        have hne : bm' ≠ g := by omega
        clear mU hb4 hZU x0 x1 x2 x3 x4 x5 r1 r2 hm1 hm2
        go_wp2_with fail
        refine (snap_any hU (by omega)).mono ?_
        rintro e w5 ⟨vK', vV', rfl, hK', hV', hb5⟩
        have hv : (∃ a n c, vK' = .slice a n c) ∧ (∃ a n c, vV' = .slice a n c) := by
          obtain ⟨_, _, rfl, _⟩ := hK'
          obtain ⟨_, _, rfl, _⟩ := hV'
          exact ⟨⟨_, _, _, rfl⟩, ⟨_, _, _, rfl⟩⟩
        obtain ⟨⟨ka', kn', kc', rfl⟩, ⟨va', vn', vc', rfl⟩⟩ := hv
        have hO5 := hO4.up hb5
        have hB5 := hB4.trans (hb5.mono hB4.size)
        have HOV : Hid (OV.ok w5 ⟨bm', .slice ka' kn' kc', .slice va' vn' vc', U⟩) := ⟨hU.up hb5, hK', hV'⟩
        have hrow := hO5.1
        have hx : Below w5.heap.size w5 ((w5.alloc (.cells #[.pointer (some ⟨bm', 0, none⟩), .slice ka' kn' kc', .slice va' vn' vc'] 29)).alloc (.cells #[.pointer (some ⟨bm', 0, none⟩), .slice ka' kn' kc', .slice va' vn' vc'] 29)) := ((Below.refl _ _).alloc (Nat.le_refl _) _).alloc (by rw [World.size_alloc]; omega) _
        have hnw := World.alloc_heap_new (w5.alloc (.cells #[.pointer (some ⟨bm', 0, none⟩), .slice ka' kn' kc', .slice va' vn' vc'] 29)) (.cells #[.pointer (some ⟨bm', 0, none⟩), .slice ka' kn' kc', .slice va' vn' vc'] 29)
        rw [World.size_alloc] at hnw
        have hX : ((w5.alloc (.cells #[.pointer (some ⟨bm', 0, none⟩), .slice ka' kn' kc', .slice va' vn' vc'] 29)).alloc (.cells #[.pointer (some ⟨bm', 0, none⟩), .slice ka' kn' kc', .slice va' vn' vc'] 29)).heap.size = w5.heap.size + 1 + 1 := by rw [World.size_alloc, World.size_alloc]
        have HO5 := hide hO5
        have hb5s := hB5.size
        clear hO4 hO5 hU hK' hV' hb5
        go_wp2_with (at_builtin; refine wpList_append_own_at _ rfl _ _ 51 rfl W.heap.size 29 i0 (.agg #[.pointer none, .slice none 0 0, .slice none 0 0]) 3 56 Try.underlying51 hi hz0 hz1 hz2 rfl (by decide) _ _ _ rfl ((hrow.alloc _).alloc _) ⟨w5.heap.size + 1, 0, none⟩ 1 1 [.pointer (some ⟨bm', 0, none⟩), .slice ka' kn' kc', .slice va' vn' vc'] rfl rfl (World.news_of_block (cs := #[.pointer (some ⟨bm', 0, none⟩), .slice ka' kn' kc', .slice va' vn' vc']) (t := 29) (fr := (0, 0)) hnw) (by simp [Value.oneCell']) (by unfold maxLen; omega) (by omega) (by rw [hX]; omega) ?_; intro v6 w6 hown6 hgrow6 _ hat6; have Hown := hide hown6; have Hgrow := hide hgrow6; have Hat := hide hat6; clear hown6 hgrow6 hat6)
        go_roundg (ss.length - (i + 1))
        case measure => have := unhide Hgk; omega
        case rel =>
          refine ⟨i + 1, vs ++ [⟨bm', .slice ka' kn' kc', .slice va' vn' vc', U⟩], (o.a, o.b) :: Z, by go_num, rfl, by omega, ?_, by simp; omega, by simp; omega, by simp; omega, ?_, ?_⟩
          · exact (unhide HO5).add hx ((unhide HOV).up hx) (by simp [Value.ownBlock]; exact hne) (unhide Hgrow) (unhide Hown) (unhide Hat) (Nat.le_refl _)
          · intro x hx e he
            rcases List.mem_append.1 hx with hx | hx
            · exact List.mem_cons_of_mem _ (unhide Hz4 x hx e he)
            · obtain rfl : x = _ := by simpa using hx
              exact unhide HZU e he
          · exact (hB5.trans (hx.mono hb5s)).grown (unhide Hgrow) (by rw [hX]; omega) (fun k e' => (hrow.lt k e').1)
      have e2 : (o.kind == 2) = false := by simp [k2]
      clear k2
      by_cases k3 : o.kind = 3
      · have e3 : (o.kind == 3) = true := by simp [k3]
        clear k3
        go_wp2_with fail
        refine (join_any hm1 hm2 (by omega)).mono ?_
        rintro e w4 ⟨_, U, rfl, hU, mU, hb4, bm', rfl, hnew⟩
        have hZU : ∀ e ∈ U.io, e ∈ (o.a, o.b) :: Z := fun e he => ((mU e).1 he).elim (fun q => List.mem_cons_of_mem _ (unhide Hz2 e q)) (fun q => List.mem_cons_of_mem _ (unhide Hz1 e q.1))
        have hlU : U.io.length ≤ 200 := by
          have := hU.srt.len_le (z := (o.a, o.b) :: Z) hZU
          simp at this
          omega
        have hO4 := (unhide HO).up hb4
        have hB4 := hBV.trans (hb4.mono hBV.size)
        have HZU := hide hZU
        have hne : bm' ≠ g := by omega
        clear mU hb4 hZU x0 x1 x2 x3 x4 x5 r1 r2 hm1 hm2
        go_wp2_with fail
        refine (snap_any hU (by omega)).mono ?_
        rintro e w5 ⟨vK', vV', rfl, hK', hV', hb5⟩
        have hv : (∃ a n c, vK' = .slice a n c) ∧ (∃ a n c, vV' = .slice a n c) := by
          obtain ⟨_, _, rfl, _⟩ := hK'
          obtain ⟨_, _, rfl, _⟩ := hV'
          exact ⟨⟨_, _, _, rfl⟩, ⟨_, _, _, rfl⟩⟩
        obtain ⟨⟨ka', kn', kc', rfl⟩, ⟨va', vn', vc', rfl⟩⟩ := hv
        have hO5 := hO4.up hb5
        have hB5 := hB4.trans (hb5.mono hB4.size)
        have HOV : Hid (OV.ok w5 ⟨bm', .slice ka' kn' kc', .slice va' vn' vc', U⟩) := ⟨hU.up hb5, hK', hV'⟩
        have hrow := hO5.1
        have hx : Below w5.heap.size w5 ((w5.alloc (.cells #[.pointer (some ⟨bm', 0, none⟩), .slice ka' kn' kc', .slice va' vn' vc'] 29)).alloc (.cells #[.pointer (some ⟨bm', 0, none⟩), .slice ka' kn' kc', .slice va' vn' vc'] 29)) := ((Below.refl _ _).alloc (Nat.le_refl _) _).alloc (by rw [World.size_alloc]; omega) _
        have hnw := World.alloc_heap_new (w5.alloc (.cells #[.pointer (some ⟨bm', 0, none⟩), .slice ka' kn' kc', .slice va' vn' vc'] 29)) (.cells #[.pointer (some ⟨bm', 0, none⟩), .slice ka' kn' kc', .slice va' vn' vc'] 29)
        rw [World.size_alloc] at hnw
        have hX : ((w5.alloc (.cells #[.pointer (some ⟨bm', 0, none⟩), .slice ka' kn' kc', .slice va' vn' vc'] 29)).alloc (.cells #[.pointer (some ⟨bm', 0, none⟩), .slice ka' kn' kc', .slice va' vn' vc'] 29)).heap.size = w5.heap.size + 1 + 1 := by rw [World.size_alloc, World.size_alloc]
        have HO5 := hide hO5
        have hb5s := hB5.size
        clear hO4 hO5 hU hK' hV' hb5
        go_wp2_with (at_builtin; refine wpList_append_own_at _ rfl _ _ 51 rfl W.heap.size 29 i0 (.agg #[.pointer none, .slice none 0 0, .slice none 0 0]) 3 56 Try.underlying51 hi hz0 hz1 hz2 rfl (by decide) _ _ _ rfl ((hrow.alloc _).alloc _) ⟨w5.heap.size + 1, 0, none⟩ 1 1 [.pointer (some ⟨bm', 0, none⟩), .slice ka' kn' kc', .slice va' vn' vc'] rfl rfl (World.news_of_block (cs := #[.pointer (some ⟨bm', 0, none⟩), .slice ka' kn' kc', .slice va' vn' vc']) (t := 29) (fr := (0, 0)) hnw) (by simp [Value.oneCell']) (by unfold maxLen; omega) (by omega) (by rw [hX]; omega) ?_; intro v6 w6 hown6 hgrow6 _ hat6; have Hown := hide hown6; have Hgrow := hide hgrow6; have Hat := hide hat6; clear hown6 hgrow6 hat6)
        go_roundg (ss.length - (i + 1))
        case measure => have := unhide Hgk; omega
        case rel =>
          refine ⟨i + 1, vs ++ [⟨bm', .slice ka' kn' kc', .slice va' vn' vc', U⟩], (o.a, o.b) :: Z, by go_num, rfl, by omega, ?_, by simp; omega, by simp; omega, by simp; omega, ?_, ?_⟩
          · exact (unhide HO5).add hx ((unhide HOV).up hx) (by simp [Value.ownBlock]; exact hne) (unhide Hgrow) (unhide Hown) (unhide Hat) (Nat.le_refl _)
          · intro x hx e he
            rcases List.mem_append.1 hx with hx | hx
            · exact List.mem_cons_of_mem _ (unhide Hz4 x hx e he)
            · obtain rfl : x = _ := by simpa using hx
              exact unhide HZU e he
          · exact (hB5.trans (hx.mono hb5s)).grown (unhide Hgrow) (by rw [hX]; omega) (fun k e' => (hrow.lt k e').1)
      have e3 : (o.kind == 3) = false := by simp [k3]
      clear k3
      by_cases k4 : o.kind = 4
      · have e4 : (o.kind == 4) = true := by simp [k4]
        clear k4
        go_wp2_with fail
        refine (only_any hm1 hm2 (by omega) (by omega)).mono ?_
        rintro e w4 ⟨_, U, rfl, hU, mU, hb4, bm', rfl, hnew⟩
        have hZU : ∀ e ∈ U.io, e ∈ (o.a, o.b) :: Z := fun e he => List.mem_cons_of_mem _ (unhide Hz1 e ((mU e).1 he).1)
        have hlU : U.io.length ≤ 200 := by
          have := hU.srt.len_le (z := (o.a, o.b) :: Z) hZU
          simp at this
          omega
        have hO4 := (unhide HO).up hb4
        have hB4 := hBV.trans (hb4.mono hBV.size)
        have HZU := hide hZU
        have hne : bm' ≠ g := by omega
        clear mU hb4 hZU x0 x1 x2 x3 x4 x5 r1 r2 hm1 hm2
        go_wp2_with fail
        refine (snap_any hU (by omega)).mono ?_
        rintro e w5 ⟨vK', vV', rfl, hK', hV', hb5⟩
        have hv : (∃ a n c, vK' = .slice a n c) ∧ (∃ a n c, vV' = .slice a n c) := by
          obtain ⟨_, _, rfl, _⟩ := hK'
          obtain ⟨_, _, rfl, _⟩ := hV'
          exact ⟨⟨_, _, _, rfl⟩, ⟨_, _, _, rfl⟩⟩
        obtain ⟨⟨ka', kn', kc', rfl⟩, ⟨va', vn', vc', rfl⟩⟩ := hv
        have hO5 := hO4.up hb5
        have hB5 := hB4.trans (hb5.mono hB4.size)
        have HOV : Hid (OV.ok w5 ⟨bm', .slice ka' kn' kc', .slice va' vn' vc', U⟩) := ⟨hU.up hb5, hK', hV'⟩
        have hrow := hO5.1
        have hx : Below w5.heap.size w5 ((w5.alloc (.cells #[.pointer (some ⟨bm', 0, none⟩), .slice ka' kn' kc', .slice va' vn' vc'] 29)).alloc (.cells #[.pointer (some ⟨bm', 0, none⟩), .slice ka' kn' kc', .slice va' vn' vc'] 29)) := ((Below.refl _ _).alloc (Nat.le_refl _) _).alloc (by rw [World.size_alloc]; omega) _
        have hnw := World.alloc_heap_new (w5.alloc (.cells #[.pointer (some ⟨bm', 0, none⟩), .slice ka' kn' kc', .slice va' vn' vc'] 29)) (.cells #[.pointer (some ⟨bm', 0, none⟩), .slice ka' kn' kc', .slice va' vn' vc'] 29)
        rw [World.size_alloc] at hnw
        have hX : ((w5.alloc (.cells #[.pointer (some ⟨bm', 0, none⟩), .slice ka' kn' kc', .slice va' vn' vc'] 29)).alloc (.cells #[.pointer (some ⟨bm', 0, none⟩), .slice ka' kn' kc', .slice va' vn' vc'] 29)).heap.size = w5.heap.size + 1 + 1 := by rw [World.size_alloc, World.size_alloc]
        have HO5 := hide hO5
        have hb5s := hB5.size
        clear hO4 hO5 hU hK' hV' hb5
        go_wp2_with (at_builtin; refine wpList_append_own_at _ rfl _ _ 51 rfl W.heap.size 29 i0 (.agg #[.pointer none, .slice none 0 0, .slice none 0 0]) 3 56 Try.underlying51 hi hz0 hz1 hz2 rfl (by decide) _ _ _ rfl ((hrow.alloc _).alloc _) ⟨w5.heap.size + 1, 0, none⟩ 1 1 [.pointer (some ⟨bm', 0, none⟩), .slice ka' kn' kc', .slice va' vn' vc'] rfl rfl (World.news_of_block (cs := #[.pointer (some ⟨bm', 0, none⟩), .slice ka' kn' kc', .slice va' vn' vc']) (t := 29) (fr := (0, 0)) hnw) (by simp [Value.oneCell']) (by unfold maxLen; omega) (by omega) (by rw [hX]; omega) ?_; intro v6 w6 hown6 hgrow6 _ hat6; have Hown := hide hown6; have Hgrow := hide hgrow6; have Hat := hide hat6; clear hown6 hgrow6 hat6)
        go_roundg (ss.length - (i + 1))
        case measure => have := unhide Hgk; omega
        case rel =>
          refine ⟨i + 1, vs ++ [⟨bm', .slice ka' kn' kc', .slice va' vn' vc', U⟩], (o.a, o.b) :: Z, by go_num, rfl, by omega, ?_, by simp; omega, by simp; omega, by simp; omega, ?_, ?_⟩
          · exact (unhide HO5).add hx ((unhide HOV).up hx) (by simp [Value.ownBlock]; exact hne) (unhide Hgrow) (unhide Hown) (unhide Hat) (Nat.le_refl _)
          · intro x hx e he
            rcases List.mem_append.1 hx with hx | hx
            · exact List.mem_cons_of_mem _ (unhide Hz4 x hx e he)
            · obtain rfl : x = _ := by simpa using hx
              exact unhide HZU e he
          · exact (hB5.trans (hx.mono hb5s)).grown (unhide Hgrow) (by rw [hX]; omega) (fun k e' => (hrow.lt k e').1)
      have e4 : (o.kind == 4) = false := by simp [k4]
      clear k4
      by_cases k5 : o.kind = 5
      · have e5 : (o.kind == 5) = true := by simp [k5]
        clear k5
        go_wp2_with fail
        refine (without_any hm1 hm2 (by omega) (by omega)).mono ?_
        rintro e w4 ⟨_, U, rfl, hU, mU, hb4, bm', rfl, hnew⟩
        have hZU : ∀ e ∈ U.io, e ∈ (o.a, o.b) :: Z := fun e he => List.mem_cons_of_mem _ (unhide Hz1 e ((mU e).1 he).1)
        have hlU : U.io.length ≤ 200 := by
          have := hU.srt.len_le (z := (o.a, o.b) :: Z) hZU
          simp at this
          omega
        have hO4 := (unhide HO).up hb4
        have hB4 := hBV.trans (hb4.mono hBV.size)
        have HZU := hide hZU
        have hne : bm' ≠ g := by omega
        clear mU hb4 hZU x0 x1 x2 x3 x4 x5 r1 r2 hm1 hm2
        go_wp2_with fail
        refine (snap_any hU (by omega)).mono ?_
        rintro e w5 ⟨vK', vV', rfl, hK', hV', hb5⟩
        have hv : (∃ a n c, vK' = .slice a n c) ∧ (∃ a n c, vV' = .slice a n c) := by
          obtain ⟨_, _, rfl, _⟩ := hK'
          obtain ⟨_, _, rfl, _⟩ := hV'
          exact ⟨⟨_, _, _, rfl⟩, ⟨_, _, _, rfl⟩⟩
        obtain ⟨⟨ka', kn', kc', rfl⟩, ⟨va', vn', vc', rfl⟩⟩ := hv
        have hO5 := hO4.up hb5
        have hB5 := hB4.trans (hb5.mono hB4.size)
        have HOV : Hid (OV.ok w5 ⟨bm', .slice ka' kn' kc', .slice va' vn' vc', U⟩) := ⟨hU.up hb5, hK', hV'⟩
        have hrow := hO5.1
        have hx : Below w5.heap.size w5 ((w5.alloc (.cells #[.pointer (some ⟨bm', 0, none⟩), .slice ka' kn' kc', .slice va' vn' vc'] 29)).alloc (.cells #[.pointer (some ⟨bm', 0, none⟩), .slice ka' kn' kc', .slice va' vn' vc'] 29)) := ((Below.refl _ _).alloc (Nat.le_refl _) _).alloc (by rw [World.size_alloc]; omega) _
        have hnw := World.alloc_heap_new (w5.alloc (.cells #[.pointer (some ⟨bm', 0, none⟩), .slice ka' kn' kc', .slice va' vn' vc'] 29)) (.cells #[.pointer (some ⟨bm', 0, none⟩), .slice ka' kn' kc', .slice va' vn' vc'] 29)
        rw [World.size_alloc] at hnw
        have hX : ((w5.alloc (.cells #[.pointer (some ⟨bm', 0, none⟩), .slice ka' kn' kc', .slice va' vn' vc'] 29)).alloc (.cells #[.pointer (some ⟨bm', 0, none⟩), .slice ka' kn' kc', .slice va' vn' vc'] 29)).heap.size = w5.heap.size + 1 + 1 := by rw [World.size_alloc, World.size_alloc]
        have HO5 := hide hO5
        have hb5s := hB5.size
        clear hO4 hO5 hU hK' hV' hb5
        go_wp2_with (at_builtin; refine wpList_append_own_at _ rfl _ _ 51 rfl W.heap.size 29 i0 (.agg #[.pointer none, .slice none 0 0, .slice none 0 0]) 3 56 Try.underlying51 hi hz0 hz1 hz2 rfl (by decide) _ _ _ rfl ((hrow.alloc _).alloc _) ⟨w5.heap.size + 1, 0, none⟩ 1 1 [.pointer (some ⟨bm', 0, none⟩), .slice ka' kn' kc', .slice va' vn' vc'] rfl rfl (World.news_of_block (cs := #[.pointer (some ⟨bm', 0, none⟩), .slice ka' kn' kc', .slice va' vn' vc']) (t := 29) (fr := (0, 0)) hnw) (by simp [Value.oneCell']) (by unfold maxLen; omega) (by omega) (by rw [hX]; omega) ?_; intro v6 w6 hown6 hgrow6 _ hat6; have Hown := hide hown6; have Hgrow := hide hgrow6; have Hat := hide hat6; clear hown6 hgrow6 hat6)
        go_roundg (ss.length - (i + 1))
        case measure => have := unhide Hgk; omega
        case rel =>
          refine ⟨i + 1, vs ++ [⟨bm', .slice ka' kn' kc', .slice va' vn' vc', U⟩], (o.a, o.b) :: Z, by go_num, rfl, by omega, ?_, by simp; omega, by simp; omega, by simp; omega, ?_, ?_⟩
          · exact (unhide HO5).add hx ((unhide HOV).up hx) (by simp [Value.ownBlock]; exact hne) (unhide Hgrow) (unhide Hown) (unhide Hat) (Nat.le_refl _)
          · intro x hx e he
            rcases List.mem_append.1 hx with hx | hx
            · exact List.mem_cons_of_mem _ (unhide Hz4 x hx e he)
            · obtain rfl : x = _ := by simpa using hx
              exact unhide HZU e he
          · exact (hB5.trans (hx.mono hb5s)).grown (unhide Hgrow) (by rw [hX]; omega) (fun k e' => (hrow.lt k e').1)
      have e5 : (o.kind == 5) = false := by simp [k5]
      clear k5
      go_wp2_with fail
      go_roundg (ss.length - (i + 1))
      case measure => have := unhide Hgk; omega
      case rel => exact ⟨i + 1, vs, Z, by go_num, rfl, by omega, unhide HO, z1, z2, z3, unhide Hz4, hBV⟩
    · have HO := hide (unhide HI).1
      clear HI Hrd
      have hend : i = ss.length ∨ ((i : Int) < (ss.length : Int) ∧ decide (vs.length < 200) = false) := by
        by_cases q : i < ss.length
        · exact .inr ⟨by omega, by simp; omega⟩
        · exact .inl (by omega)
      clear hlt
      rcases hend with rfl | ⟨he1, he2⟩
      case' inl => go_wp2
      case' inr => (go_wp2; (exfalso; have := of_decide_eq_false he2; omega))
      all_goals
        go_loopg [13] vs.length (fun gk v13 wx => ∃ (j : Nat), v13 = .int .i64 (j : Int) ∧ gk = vs.length - j ∧ j ≤ vs.length ∧ Olds W.heap.size wx (.slice (some ⟨g, 0, none⟩) vs.length c) vs ∧ Below W.heap.size W wx)
        case atStart => exact ⟨0, rfl, rfl, Nat.zero_le _, unhide HO, hB⟩
        case round =>
          obtain ⟨j, rfl, hgk, hj, hO, hBx⟩ := hrel
          have Hgk2 := hide hgk
          clear hgk
          by_cases hlt : j < vs.length
          · obtain ⟨x, hx⟩ : ∃ x, vs[j]? = some x := ⟨_, List.getElem?_eq_getElem hlt⟩
            obtain ⟨g', c', e', hg', hrd'⟩ := hO.reads
            obtain ⟨rfl, rfl⟩ : g = g' ∧ c = c' := by simpa using e'
            obtain ⟨t0, t1, t2⟩ := hrd' j x hx
            obtain ⟨_, s1, s2, s3⟩ := hO.2.2 x (List.mem_of_getElem? hx)
            have hs : x.T.io.length ≤ 200 := by
              have := s1.srt.len_le (z := Z) (fun e he => unhide Hz4 x (List.mem_of_getElem? hx) e he); omega
            obtain ⟨bmx, vKx, vVx, Tx⟩ := x
            have hv : (∃ a n c, vKx = .slice a n c) ∧ (∃ a n c, vVx = .slice a n c) := by
              obtain ⟨_, _, e1, _⟩ := s2
              obtain ⟨_, _, e2, _⟩ := s3
              exact ⟨⟨_, _, _, e1⟩, ⟨_, _, _, e2⟩⟩
            obtain ⟨⟨ka', kn', kc', rfl⟩, ⟨va', vn', vc', rfl⟩⟩ := hv
            have j0 : (0 : Int) ≤ (j : Int) := Int.natCast_nonneg _
            have j1 : (j : Int) < (vs.length : Int) := by omega
            have HO' := hide hO
            have S1 := hide s1
            have S2 := hide s2
            have S3 := hide s3
            clear hO hrd' e' hx s1 s2 s3 HO
            simp only at t0 t1 t2 hs
            go_wp2_with fail
            refine (still_any (unhide S1) (unhide S2) (unhide S3) (by show Tx.io.length * 16 ≤ _; omega)).mono ?_
            rintro e w9 ⟨rfl, hb9⟩
            have hO9 := (unhide HO').up hb9
            have hB9 := hBx.trans (hb9.mono hBx.size)
            have HO9 := hide hO9
            clear t0 t1 t2 hO9 hb9
            go_wp2
            go_roundg (vs.length - (j + 1))
            case measure => have := unhide Hgk2; omega
            case rel => exact ⟨j + 1, by go_num, rfl, by omega, unhide HO9, hB9⟩
          · obtain rfl : j = vs.length := by omega
            clear HO hO
            go_wp2
            go_ret
            exact ⟨rfl, hBx⟩
end Go.Proofs.Ytpgmlkklckibiaa
