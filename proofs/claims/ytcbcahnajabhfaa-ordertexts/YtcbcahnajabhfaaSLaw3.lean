import Derived.Test.YtcbcahnajabhfaaSLaw2
namespace Go.Proofs.Ytcbcahnajabhfaa
open Go.RowKit Go.Shelf
attribute [local go_sem] kless_eq keq_eq kne_eq kgeq_eq
attribute [local go_sem ↓] Go.wp_at_zero Go.wp_at_succ

theorem st_add {base bw n1 n2 : Nat} {wr X Y : World} {vM vR v1 v2 : Value} {vs : List Ver} {nv : Ver}
    (s1 : wr.heap[bw]? = some (.cells #[vM, vR] 30 (0, 0))) (s2 : base ≤ bw) (s3 : wr.ownsRow base 34 1 vM vs.length (vs.map fun x => .pointer (some ⟨x.bm, 0, none⟩))) (s4 : wr.ownsRow base 44 1 vR vs.length (vs.map (·.rv))) (hn : 0 < vs.length)
    (s6 : ∀ x ∈ vs ++ [nv], x.bm ≠ bw ∧ some x.bm ≠ vM.ownBlock ∧ some x.bm ≠ vR.ownBlock ∧ IsM wr (some ⟨x.bm, 0, none⟩) x.T ∧ IsR0 wr x.rv x.T.io)
    (fM : ∃ a n c, vM = .slice a n c) (f1 : ∃ a n c, v1 = .slice a n c)
    (k1 : X.heap[bw]? = some (.cells #[v1, vR] 30 (0, 0))) (k2 : X.ownsRow base 34 1 v1 (vs.length + 1) ((vs.map fun x => .pointer (some ⟨x.bm, 0, none⟩)) ++ [.pointer (some ⟨nv.bm, 0, none⟩)])) (k3 : ∀ b, b < wr.heap.size → b ≠ bw → some b ≠ vM.ownBlock → X.heap[b]? = wr.heap[b]?) (k4 : wr.heap.size ≤ X.heap.size)
    (hat1 : v1.ownBlock = vM.ownBlock ∨ v1.ownBlock = some n1) (hn1 : wr.heap.size ≤ n1)
    (m1 : Y.heap[bw]? = some (.cells #[v1, v2] 30 (0, 0))) (m2 : Y.ownsRow base 44 1 v2 (vs.length + 1) ((vs.map (·.rv)) ++ [nv.rv])) (m3 : ∀ b, b < X.heap.size → b ≠ bw → some b ≠ vR.ownBlock → Y.heap[b]? = X.heap[b]?) (m4 : X.heap.size ≤ Y.heap.size)
    (hat2 : v2.ownBlock = vR.ownBlock ∨ v2.ownBlock = some n2) (hn2 : wr.heap.size ≤ n2) : St base Y bw (vs ++ [nv]) := by
  obtain ⟨x0, hx0⟩ : ∃ x, vs[0]? = some x := ⟨_, List.getElem?_eq_getElem hn⟩
  have hx0m : x0 ∈ vs ++ [nv] := List.mem_append_left _ (List.mem_of_getElem? hx0)
  have kp1 : Keeps wr X := keeps_add (cs := #[vM, vR]) (y0 := vM) (x0 := .pointer (some ⟨x0.bm, 0, none⟩)) s1 rfl (fun k e => by obtain ⟨a, n, c, rfl⟩ := fM; cases e) s3 (by simp [hx0]) (fun k e => by cases e) k4 k3
  have s4X : X.ownsRow base 44 1 vR vs.length (vs.map (·.rv)) := ownsRow_same s4 fun b hb => k3 b (s4.lt b hb).2 (fun e => by
      obtain ⟨cur, hcur⟩ := ownsRow_type s4 hb
      exact absurd (type_ne s1 (e ▸ hcur)) (by decide)) (fun e => by
      obtain ⟨cur, hcur⟩ := ownsRow_type s4 hb
      obtain ⟨cur', hcur'⟩ := ownsRow_type s3 e.symm
      exact absurd (type_ne hcur hcur') (by decide))
  have kp2 : Keeps X Y := keeps_add (cs := #[v1, vR]) (y0 := v1) (x0 := x0.rv) k1 rfl (fun k e => by obtain ⟨a, n, c, rfl⟩ := f1; cases e) s4X (by simp [hx0]) (fun k e => by
      obtain ⟨a, c, e', _⟩ := (s6 x0 hx0m).2.2.2.2
      rw [e'] at e
      cases e) m4 m3
  have k2Y : Y.ownsRow base 34 1 v1 (vs.length + 1) ((vs.map fun x => .pointer (some ⟨x.bm, 0, none⟩)) ++ [.pointer (some ⟨nv.bm, 0, none⟩)]) := ownsRow_same k2 fun b hb => m3 b (k2.lt b hb).2 (fun e => by
      obtain ⟨cur, hcur⟩ := ownsRow_type k2 hb
      exact absurd (type_ne k1 (e ▸ hcur)) (by decide)) (fun e => by
      obtain ⟨cur, hcur⟩ := ownsRow_type k2 hb
      obtain ⟨cur', hcur'⟩ := ownsRow_type s4X e.symm
      exact absurd (type_ne hcur hcur') (by decide))
  refine ⟨v1, v2, m1, s2, by rw [List.length_append, List.map_append]; exact k2Y, by rw [List.length_append, List.map_append]; exact m2, by simp, fun x hx => ?_⟩
  obtain ⟨g1, g2, g3, g4, g5⟩ := s6 x hx
  have hlt : x.bm < wr.heap.size := by
    obtain ⟨b, _, e, hb, _⟩ := g4
    obtain rfl : x.bm = b := by simpa using e
    exact hb
  have hbk : Y.heap[x.bm]? = wr.heap[x.bm]? := (m3 x.bm (by omega) g1 g3).trans (k3 x.bm hlt g1 g2)
  refine ⟨g1, ?_, ?_, (kp1.trans kp2).isM hbk g4, (kp1.trans kp2).isR0 g5⟩
  · rcases hat1 with h | h
    · rw [h]; exact g2
    · rw [h]; intro e; have : x.bm = n1 := by simpa using e
      omega
  · rcases hat2 with h | h
    · rw [h]; exact g3
    · rw [h]; intro e; have : x.bm = n2 := by simpa using e
      omega

/-- Blocks of other types than those of the versions' lists lie as they lay. -/
def KeepsT (W W' : World) : Prop := ∀ (b : Nat) (cur : Array Value) (t : TypeId), W.heap[b]? = some (Obj.cells cur t (0, 0)) → t ≠ 30 → t ≠ 34 → t ≠ 44 → W'.heap[b]? = W.heap[b]?
theorem KeepsT.of_below {W W' : World} (h : Below W.heap.size W W') : KeepsT W W' := fun b _ _ hb _ _ _ => h.block b (Array.getElem?_eq_some_iff.1 hb).1
theorem KeepsT.trans {A B C : World} (h : KeepsT A B) (k : KeepsT B C) : KeepsT A C := fun b cur t hb h1 h2 h3 => (k b cur t ((h b cur t hb h1 h2 h3).trans hb) h1 h2 h3).trans (h b cur t hb h1 h2 h3)
theorem keepsT_add {wr X : World} {base bw e n : Nat} {cs : Array Value} {v : Value} {xs : List Value} (s1 : wr.heap[bw]? = some (.cells cs 30 (0, 0))) (s3 : wr.ownsRow base e 1 v n xs) (he : e = 34 ∨ e = 44)
    (k3 : ∀ b, b < wr.heap.size → b ≠ bw → some b ≠ v.ownBlock → X.heap[b]? = wr.heap[b]?) : KeepsT wr X := fun b cur t hb h1 h2 h3 =>
  k3 b (Array.getElem?_eq_some_iff.1 hb).1 (fun e' => h1 (type_ne (e' ▸ hb) s1)) (fun e' => by
    obtain ⟨cur', hcur'⟩ := ownsRow_type s3 e'.symm
    have := type_ne hb hcur'
    rcases he with he | he
    · exact h2 (this.trans he)
    · exact h3 (this.trans he))

set_option maxRecDepth 100000 in
set_option maxHeartbeats 4000000 in
theorem add_any {base bw bm : Nat} {W0 W : World} {vs : List Ver} {rv : Value} {T : BT} (h0 : St base W0 bw vs) (hb : Below W0.heap.size W0 W) (hbm : W0.heap.size ≤ bm) (hm : IsM W (some ⟨bm, 0, none⟩) T) (hr : IsR0 W rv T.io) (hsz : (T.io.length : Int) ≤ 1152921504606846976) (hvs : vs.length ≤ 4096) :
    Calls Try.prog 30 #[.pointer (some ⟨bw, 0, none⟩), .pointer (some ⟨bm, 0, none⟩), rv] W fun o W' => o = .returned (.bool true) ∧ St base W' bw (vs ++ [⟨bm, rv, T⟩]) ∧ Below base W W' ∧ KeepsT W W' := by
  obtain ⟨i1, hi1, hz10, hz11, hz12⟩ := info_parts Try.infoMapP
  obtain ⟨i2, hi2, hz20, hz21, hz22⟩ := info_parts Try.infoRef
  have hr' := hr
  obtain ⟨a, c, rfl, r1, r2, r3⟩ := hr'
  unfold maxLen at r2
  have R3 := hide r3
  have Hr := hide hr
  obtain ⟨vM, vR, s1, s2, s3, s4, s5, s6⟩ := h0
  have S1 := hide s1
  have S3 := hide s3
  have S4 := hide s4
  have S6 := hide s6
  have hMf : ∃ gM cM, vM = .slice (some ⟨gM, 0, none⟩) vs.length cM := by
    obtain ⟨_, ⟨_, h⟩ | ⟨g, c, _, rfl, _⟩⟩ := s3
    · omega
    · exact ⟨g, c, rfl⟩
  have hRf : ∃ gR cR, vR = .slice (some ⟨gR, 0, none⟩) vs.length cR := by
    obtain ⟨_, ⟨_, h⟩ | ⟨g, c, _, rfl, _⟩⟩ := s4
    · omega
    · exact ⟨g, c, rfl⟩
  obtain ⟨gM, cM, rfl⟩ := hMf
  obtain ⟨gR, cR, rfl⟩ := hRf
  have hgM : gM < W0.heap.size := (s3.lt gM rfl).2
  have hgR : gR < W0.heap.size := (s4.lt gR rfl).2
  have hbw : bw < W0.heap.size := (Array.getElem?_eq_some_iff.1 s1).1
  clear r3 hr s1 s3 s4 s6
  go_enter Try.func30, Try.ntmps30
  go_wp2_with fail
  refine (len_any hm).mono ?_
  rintro o w' ⟨rfl, he⟩
  obtain rfl : W = w' := he.symm
  go_wp2
  go_loopg [7] T.io.length (fun gk v7 wr => ∃ (j : Nat), v7 = .int .i64 (j : Int) ∧ gk = T.io.length - j ∧ j ≤ T.io.length ∧ Below W.heap.size W wr)
  case atStart => exact ⟨0, rfl, rfl, Nat.zero_le _, Below.refl _ _⟩
  case round =>
    obtain ⟨j, rfl, hgk, hj, hB⟩ := hrel
    have Hgk := hide hgk
    clear hgk
    have hmr := hm.up hB
    by_cases hlt : j < T.io.length
    · obtain ⟨g, rfl, hg, hc⟩ := unhide R3 (by omega)
      obtain ⟨x, hx⟩ : ∃ x, T.io[j]? = some x := ⟨_, List.getElem?_eq_getElem hlt⟩
      have hj0 : (0 : Int) ≤ (j : Int) := Int.natCast_nonneg _
      have hj1 : (j : Int) < (T.io.length : Int) := by omega
      have hk0 : W.cell? ⟨g, j * 2, none⟩ = some (.string x.1) := by have := (hc j x hx).1; rwa [Nat.zero_add] at this
      have hk1 : W.cell? ⟨g, j * 2 + 1, none⟩ = some (.int .i64 x.2) := by have := (hc j x hx).2; rwa [Nat.zero_add] at this
      have Hx := hide hx
      clear hc hx
      go_wp2_with fail
      refine (mat_any (j : Int) hmr hsz (by omega) (by omega)).mono ?_
      rintro o w1 ⟨y, f, rfl, hat, hb1⟩
      have hB1 : Below W.heap.size W w1 := hB.trans (hb1.mono hB.size)
      obtain ⟨rfl, rfl⟩ : f = true ∧ y = x := by
        rcases hat with ⟨hf, _, hy⟩ | ⟨_, _, hno⟩
        · rw [Int.toNat_natCast, unhide Hx] at hy
          exact ⟨hf, (by simpa using hy : x = y).symm⟩
        · exact (hno ⟨hj0, hj1⟩).elim
      clear hat
      have d0 : w1.cell? ⟨g, j * 2, none⟩ = some (.string y.1) := (hB1.cell (p := ⟨g, j * 2, none⟩) hg).trans hk0
      have d1 : w1.cell? ⟨g, j * 2 + 1, none⟩ = some (.int .i64 y.2) := (hB1.cell (p := ⟨g, j * 2 + 1, none⟩) hg).trans hk1
      have e0 : (y.1 != y.1) = false := by simp
      have e1 : (y.2 != y.2) = false := by simp
      clear hk0 hk1
      go_wp2
      go_roundg (T.io.length - (j + 1))
      case measure => have := unhide Hgk; omega
      case rel => exact ⟨j + 1, by go_num, rfl, by omega, hB1⟩
    · obtain rfl : j = T.io.length := by omega
      have hB0 : Below W0.heap.size W0 wr := hb.trans (hB.mono hb.size)
      have s1 : wr.heap[bw]? = _ := (hB0.block bw hbw).trans (unhide S1)
      have s3 := ownsRow_below (unhide S3) hB0
      have s4 := ownsRow_below (unhide S4) hB0
      obtain ⟨c0, c1, f0, f1⟩ := cells2_of s1
      have hbs : base ≤ wr.heap.size := by have := (Array.getElem?_eq_some_iff.1 s1).1; omega
      have tok : True := trivial
      have hXR : ∀ (w1 : World) (v1 : Value), (∀ b, b < wr.heap.size → b ≠ bw → some b ≠ (Value.slice (some ⟨gM, 0, none⟩) vs.length cM).ownBlock → (w1.setCell ⟨bw, 0, none⟩ v1).heap[b]? = wr.heap[b]?) → (w1.setCell ⟨bw, 0, none⟩ v1).ownsRow base 44 1 (.slice (some ⟨gR, 0, none⟩) vs.length cR) vs.length (vs.map (·.rv)) := by
        intro w1 v1 hk
        refine ownsRow_same s4 fun b hb => hk b (s4.lt b hb).2 (fun e => ?_) (fun e => ?_)
        · obtain ⟨cur, hcur⟩ := ownsRow_type s4 hb
          exact absurd (type_ne s1 (e ▸ hcur)) (by decide)
        · obtain ⟨cur, hcur⟩ := ownsRow_type s4 hb
          obtain ⟨cur', hcur'⟩ := ownsRow_type s3 e.symm
          exact absurd (type_ne hcur hcur') (by decide)
      have HXR := hide hXR
      clear hXR
      go_wp2_with (first
        | (at_builtin; have _t := tok; refine wpList_append_own_at _ rfl _ _ 27 rfl base 34 i1 (.pointer none) 1 8 Try.underlying27 hi1 hz10 hz11 hz12 rfl (by decide) _ _ _ rfl (s3.alloc _) ⟨wr.heap.size, 0, none⟩ 1 1 [.pointer (some ⟨bm, 0, none⟩)] rfl rfl (cell_one_new _ _ _) (by simp [Value.oneCell']) (by unfold maxLen; omega) (by omega) (by simp; omega) ?_; intro v' w1 hown1 hgrow1 _ hat1; clear tok; obtain ⟨g1, q1, rfl⟩ := ownsRow_succ hown1; obtain ⟨k1, k2, k3, k4, k5, k6⟩ := addRow (o := 0) s1 s2 (by decide) s3 hgrow1 hown1; obtain ⟨c0', c1', f0', f1'⟩ := cells2_of (k5.trans s1); have r4 := unhide HXR w1 _ k3; have K1 := hide k1; have K2 := hide k2; have K3 := hide k3; have K4 := hide k4; have K6 := hide k6; have Hat1 := hide hat1; clear k1 k2 k3 k4 k5 k6 hat1)
        | (at_builtin; refine wpList_append_own_at _ rfl _ _ 28 rfl base 44 i2 (.slice none 0 0) 1 24 Try.underlying28 hi2 hz20 hz21 hz22 rfl (by decide) _ _ _ rfl (r4.alloc _) ⟨w1.heap.size, 0, none⟩ 1 1 [.slice a T.io.length c] rfl rfl (by have := cell_one_new (w1.setCell ⟨bw, 0, none⟩ (.slice (some ⟨g1, 0, none⟩) (vs.length + 1) q1)) (.slice a T.io.length c) 44; rw [World.size_setCell] at this; exact this) (by simp [Value.oneCell']) (by unfold maxLen; omega) (by omega) (by have := unhide K4; simp at this ⊢; omega) ?_; intro v'' w2 hown2 hgrow2 _ hat2; obtain ⟨g2, q2, rfl⟩ := ownsRow_succ hown2; obtain ⟨m1, m2, m3, m4, m5, m6⟩ := addRow (o := 1) (unhide K1) s2 (by decide) r4 hgrow2 hown2; obtain ⟨c0'', c1'', f0'', f1''⟩ := cells2_of (m5.trans (unhide K1)); have M1 := hide m1; have M2 := hide m2; have M3 := hide m3; have M4 := hide m4; have M6 := hide m6; have Hat2 := hide hat2; clear m1 m2 m3 m4 m5 m6 hat2))
      go_ret
      have hB6 : Below base W _ := ((hB.mono (by have := hb.size; omega)).trans (unhide K6)).trans (unhide M6)
      refine ⟨rfl, ?_, hB6, ((KeepsT.of_below hB).trans (keepsT_add s1 s3 (.inl rfl) (unhide K3))).trans (keepsT_add (unhide K1) r4 (.inr rfl) (unhide M3))⟩
      have hbmlt : bm < wr.heap.size := by
        obtain ⟨b, _, e, h1, _⟩ := hmr
        obtain rfl : bm = b := by simpa using e
        exact h1
      refine st_add s1 s2 s3 s4 s5 (nv := ⟨bm, .slice a T.io.length c, T⟩) (fun x hx => ?_) ⟨_, _, _, rfl⟩ ⟨_, _, _, rfl⟩ (unhide K1) (unhide K2) (unhide K3) (unhide K4) (unhide Hat1) (by rw [World.size_alloc]; omega) (unhide M1) (unhide M2) (unhide M3) (unhide M4) (unhide Hat2) (by have := unhide K4; rw [World.size_alloc]; omega)
      rcases List.mem_append.1 hx with h | h
      · obtain ⟨e1, e2, e3, e4, e5⟩ := unhide S6 x h
        exact ⟨e1, e2, e3, e4.up hB0, e5.up hB0⟩
      · obtain rfl : x = ⟨bm, .slice a T.io.length c, T⟩ := by simpa using h
        exact ⟨by show bm ≠ bw; omega, by simp [Value.ownBlock]; omega, by simp [Value.ownBlock]; omega, hmr, (unhide Hr).up hB⟩
end Go.Proofs.Ytcbcahnajabhfaa
