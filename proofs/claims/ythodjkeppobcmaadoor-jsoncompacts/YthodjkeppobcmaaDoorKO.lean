import Derived.Test.YthodjkeppobcmaaDoorKN
import Derived.Outline

namespace Go.Proofs.YthodjkeppobcmaaDoor
open Go.RowKit Go.Lib
attribute [local go_sem ↓] Go.wp_at_zero Go.wp_at_succ

noncomputable def ckR (s : ByteArray) : RR := if 67108864 < s.size then .error (2, 0) else if 0 ≤ utfAt s 0 then .error (125, (utfAt s 0).toNat) else topR (strN s)
def CK (V1 W : World) (bb : Nat) (r : RR) (e : Ending) (w : World) : Prop := match r with
  | .error (c, p) => e = .returned (.agg (fltA (c : Int) (p : Int))) ∧ Below V1.heap.size V1 w ∧ Kp bb W w
  | .ok (l, _) => e = .returned (.agg (fltA 0 0)) ∧ BI V1.heap.size bb l w ∧ Below V1.heap.size V1 w ∧ Kp bb W w
theorem Kp.up {bb : Nat} {W w : World} (hb : Below W.heap.size W w) : Kp bb W w := fun d _ _ _ _ h _ => (hb.block d (Array.getElem?_eq_some_iff.1 h).1).trans h
theorem BI.lt {B bb : Nat} {L : List Nat} {W : World} (h : BI B bb L W) : B ≤ bb ∧ bb < W.heap.size := by
  rcases h with k | k
  · obtain ⟨k1, _, k2, _⟩ := k; exact ⟨k1, (Array.getElem?_eq_some_iff.1 k2).1⟩
  · obtain ⟨k1, _, k2, _⟩ := k; exact ⟨k1, (Array.getElem?_eq_some_iff.1 k2).1⟩
theorem BI.up {B bb : Nat} {L : List Nat} {W w : World} (h : BI B bb L W) (hb : Below W.heap.size W w) : BI B bb L w := by
  have key : ∀ {p : Value}, Lib.BuilderAt 33 5 B bb p (nb L) W → Lib.BuilderAt 33 5 B bb p (nb L) w := by
    rintro p ⟨h1, v, hbk, hown, hne⟩
    refine ⟨h1, v, (hb.block bb (Array.getElem?_eq_some_iff.1 hbk).1).trans hbk, hown.kept (show W.grownBy w none from ⟨hb.os, hb.tape, hb.output, hb.size, fun k hk _ => hb.block k hk⟩) ?_, hne⟩
    cases v.ownBlock with
    | none => exact .inl rfl
    | some k => exact .inr (by simp)
  rcases h with h | h
  · exact .inl (key h)
  · exact .inr (key h)
set_option maxRecDepth 100000 in
set_option maxHeartbeats 1000000 in
theorem checked_any {V1 : World} {s : ByteArray} {bb : Nat} {W : World} (hE : HasE V1) (hF : HasF V1) (hs : s.size ≤ 140737488351232) (hI : BI V1.heap.size bb [] W) (hB : Below V1.heap.size V1 W) : Calls Tryd.prog 6 #[.string s, .func (.func 7) #[] #[.pointer (some ⟨bb, 0, none⟩)]] W (CK V1 W bb (ckR s)) := by
  have hlt := hI.lt
  have HB := hide hB
  have hb1 : Below W.heap.size W (W.alloc (.cells #[.int .i64 0, .int .i64 0, .int .i64 0, .string ⟨#[]⟩] 24)) := (Below.refl _ _).alloc (Nat.le_refl _) _
  have HU := hide (utf8_any (W := W.alloc (.cells #[.int .i64 0, .int .i64 0, .int .i64 0, .string ⟨#[]⟩] 24)) ((hF.up hB).up hb1) s hs)
  by_cases h1 : 67108864 < s.size
  · have HR : Hid (ckR s = .error (2, 0)) := if_pos h1
    obtain ⟨R, hR⟩ : ∃ R, ckR s = R := ⟨_, rfl⟩
    rw [hR] at HR ⊢
    have i1 : (67108864 : Int) < (s.size : Int) := by omega
    clear hR hI hE hF HU hb1 hB hlt
    go_enter Tryd.func6, Tryd.ntmps6
    go_wp2
    refine bodyPost_ret (results_cell_row rfl _ _ W.heap.size 24 (fltA 2 0) (0, 0) _ rfl (heap_new _ _) Tryd.underlying24 rfl sizeFt) rfl ?_
    rw [unhide HR]
    have hb := (Below.refl W.heap.size W).alloc (Nat.le_refl _) (.cells (fltA 2 0) 24)
    exact ⟨rfl, (unhide HB).trans (hb.mono (unhide HB).size), Kp.up hb⟩
  · by_cases h2 : 0 ≤ utfAt s 0
    · have HR : Hid (ckR s = .error (125, (utfAt s 0).toNat)) := (if_neg h1).trans (if_pos h2)
      obtain ⟨R, hR⟩ : ∃ R, ckR s = R := ⟨_, rfl⟩
      rw [hR] at HR ⊢
      have i1 : (s.size : Int) ≤ 67108864 := by omega
      obtain ⟨u, hu⟩ : ∃ u, utfAt s 0 = u := ⟨_, rfl⟩
      rw [hu] at h2 HR HU
      have Hu : Hid (((u.toNat : Nat) : Int) = u) := by show _ = _; omega
      have HB1 := hide hb1
      clear hR hI hE hF hb1 hB hlt hu
      go_enter Tryd.func6, Tryd.ntmps6
      go_wp2_with fail
      refine (unhide HU).mono ?_
      rintro e w ⟨rfl, hbw⟩
      have hW : Below W.heap.size W w := (unhide HB1).trans (hbw.mono (unhide HB1).size)
      have k0 := (hbw.block W.heap.size (by rw [World.size_alloc]; omega)).trans (heap_new W (.cells #[.int .i64 0, .int .i64 0, .int .i64 0, .string ⟨#[]⟩] 24))
      obtain ⟨⟨z0, z1, z2, z3⟩, zf⟩ := cells4 k0
      have g0 := zf 0
      have g1 := zf 1
      have g2 := zf 2
      have g3 := zf 3
      obtain ⟨r1, r2⟩ := set4_block k0 (.int .i64 125) (.int .i64 0) (.int .i64 u) (.string ⟨#[]⟩)
      have R1 := hide r1
      have hfin : Below W.heap.size W (set4 w W.heap.size (.int .i64 125) (.int .i64 0) (.int .i64 u) (.string ⟨#[]⟩)) := hW.grown r2 hW.size (fun k e => by simp at e; omega)
      have HF := hide hfin
      unfold set4 at R1 HF
      clear hbw hW k0 zf r1 r2 hfin HU
      go_wp2
      refine bodyPost_ret (results_cell_row rfl _ _ W.heap.size 24 (fltA 125 u) (0, 0) _ rfl (unhide R1) Tryd.underlying24 rfl sizeFt) rfl ?_
      rw [unhide HR]
      have hb := unhide HF
      exact ⟨by rw [unhide Hu]; rfl, (unhide HB).trans (hb.mono (unhide HB).size), Kp.up hb⟩
    · have HR : Hid (ckR s = topR (strN s)) := (if_neg h1).trans (if_neg h2)
      rw [unhide HR]
      have i1 : (s.size : Int) ≤ 67108864 := by omega
      have i2 : utfAt s 0 < 0 := by omega
      obtain ⟨u, hu⟩ : ∃ u, utfAt s 0 = u := ⟨_, rfl⟩
      rw [hu] at i2 HU
      have hs2 : s.size ≤ 67108864 := by omega
      obtain ⟨R, hR⟩ : ∃ R, topR (strN s) = R := ⟨_, rfl⟩
      have HR2 := hide hR
      rw [hR]
      have HE := hide hE
      have HI := hide hI
      have HB1 := hide hb1
      have Hlt := hide hlt
      clear hR hI hE hF hb1 hB hlt hu HR h2 h1
      go_enter Tryd.func6, Tryd.ntmps6
      go_wp2_with fail
      refine (unhide HU).mono ?_
      rintro e w ⟨rfl, hbw⟩
      have hW : Below W.heap.size W w := (unhide HB1).trans (hbw.mono (unhide HB1).size)
      have k0 := (hbw.block W.heap.size (by rw [World.size_alloc]; omega)).trans (heap_new W (.cells #[.int .i64 0, .int .i64 0, .int .i64 0, .string ⟨#[]⟩] 24))
      have hwl : W.heap.size < w.heap.size := (Array.getElem?_eq_some_iff.1 k0).1
      have hb2 : Below w.heap.size w ((w.alloc (.cells (scC s 0 bb 0) 50)).alloc (.cells #[.pointer (some ⟨w.heap.size, 0, none⟩)] 48)) := ((Below.refl _ _).alloc (Nat.le_refl _) _).alloc (by rw [World.size_alloc]; omega) _
      obtain ⟨w3, hw3⟩ : ∃ w3, (w.alloc (.cells (scC s 0 bb 0) 50)).alloc (.cells #[.pointer (some ⟨w.heap.size, 0, none⟩)] 48) = w3 := ⟨_, rfl⟩
      have k1 : w3.heap[w.heap.size]? = some (.cells (scC s 0 bb 0) 50 (0, 0)) := by
        rw [← hw3, Below.heap_alloc _ _ _ (by rw [World.size_alloc]; omega)]
        exact heap_new _ _
      have k2 : w3.heap[w.heap.size + 1]? = some (.cells #[.pointer (some ⟨w.heap.size, 0, none⟩)] 48 (0, 0)) := by
        have := heap_new (w.alloc (.cells (scC s 0 bb 0) 50)) (.cells #[.pointer (some ⟨w.heap.size, 0, none⟩)] 48)
        rw [World.size_alloc, hw3] at this
        exact this
      rw [hw3] at hb2
      have hlt := unhide Hlt
      have hvs := (unhide HB).size
      have hW3 : Below W.heap.size W w3 := hW.trans (hb2.mono hW.size)
      have k3 := (hb2.block _ hwl).trans k0
      have hS : Sc (V1, w3) s bb w.heap.size 0 0 [] w3 := ⟨k1, (unhide HI).up hW3, by omega, ⟨by show V1.heap.size ≤ _; omega, hlt.1⟩, ⟨(unhide HB).trans (hW3.mono hvs), fun _ _ _ _ _ _ k _ => k⟩, Nat.zero_le _, Nat.zero_le _, Nat.zero_le _⟩
      have HC := hide (caught_any (unhide HE) hs2 hS k2 (by omega) (by omega))
      rw [unhide HR2] at HC
      have HW3 := hide hW3
      have K3 := hide k3
      have Hvs := hide hvs
      have Hwl := hide hwl
      rw [← hw3] at HC K3 HW3
      unfold scC at HC K3 HW3
      clear k0 k1 k2 k3 hS hb2 hvs hw3 hW hW3 hbw HU HI HB1 hlt hwl
      go_wp2_with fail
      refine (unhide HC).mono ?_
      intro e w4 h4
      have hlt := unhide Hlt
      have hvs := unhide Hvs
      have hwl := unhide Hwl
      match R, h4 with
      | .error (c, p), ⟨he, hf⟩ =>
        subst he
        have k4 := hf.2 W.heap.size _ _ _ (by omega) (by omega) (unhide K3) (by decide)
        obtain ⟨⟨z0, z1, z2, z3⟩, zf⟩ := cells4 k4
        have g0 := zf 0
        have g1 := zf 1
        have g2 := zf 2
        have g3 := zf 3
        obtain ⟨r1, r2⟩ := set4_block k4 (.int .i64 (c : Int)) (.int .i64 0) (.int .i64 (p : Int)) (.string ⟨#[]⟩)
        have hfin := (hf.back (unhide HW3)).put r2 (Nat.le_refl _) hvs
        have R1 := hide r1
        have HF := hide hfin
        unfold set4 at R1 HF
        unfold fltA
        clear k4 zf r1 r2 hfin hf h4 HC
        go_wp2
        refine bodyPost_ret (results_cell_row rfl _ _ W.heap.size 24 (fltA (c : Int) (p : Int)) (0, 0) _ rfl (unhide R1) Tryd.underlying24 rfl sizeFt) rfl ?_
        exact ⟨rfl, (unhide HF).1, fun d cs ty fr h1 h2 h3 => (unhide HF).2 d cs ty fr h1 (by have : d < W.heap.size := (Array.getElem?_eq_some_iff.1 h2).1; omega) h2 h3⟩
      | .ok (l, p), ⟨he, a, hS⟩ =>
        subst he
        have k4 := hS.bel.2 W.heap.size _ _ _ (by omega) (by omega) (unhide K3) (by decide)
        obtain ⟨⟨z0, z1, z2, z3⟩, zf⟩ := cells4 k4
        have g0 := zf 0
        have g1 := zf 1
        have g2 := zf 2
        have g3 := zf 3
        obtain ⟨r1, r2⟩ := set4_block k4 (.int .i64 0) (.int .i64 0) (.int .i64 0) (.string ⟨#[]⟩)
        have hfin := hS.put (unhide HW3) r2 (Nat.le_refl _) hvs (by omega) (by omega) k4 (by decide)
        have R1 := hide r1
        have HF := hide hfin
        unfold set4 at R1 HF
        unfold fltA
        clear k4 zf r1 r2 hfin hS h4 HC
        go_wp2
        refine bodyPost_ret (results_cell_row rfl _ _ W.heap.size 24 (fltA 0 0) (0, 0) _ rfl (unhide R1) Tryd.underlying24 rfl sizeFt) rfl ?_
        exact ⟨rfl, (unhide HF).bld, (unhide HF).bel.1, fun d cs ty fr h1 h2 h3 => (unhide HF).bel.2 d cs ty fr h1 (by have : d < W.heap.size := (Array.getElem?_eq_some_iff.1 h2).1; omega) h2 h3⟩
end Go.Proofs.YthodjkeppobcmaaDoor
