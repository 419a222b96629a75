import Derived.Test.YtadmamfekodkaaaDoorHsA

namespace Go.Proofs.YtadmamfekodkaaaDoor
open Go.RowKit
attribute [local go_sem ↓] Go.wp_at_zero Go.wp_at_succ

/-- Between two rounds of the first loop. -/
def AJ (V : World) (l : List ByteArray) (C : Value → Nat → List (Nat × Value)) (m : Nat) (a : Act) (w : World) : Prop := ∃ (tm : Array Value) (i : Nat) (v5 : Value) (zs : List (Value × List Value)), a = ⟨tm, []⟩ ∧ tm.size = 233 ∧ chk tm (C v5 i) ∧ m = 4096 - i ∧ i ≤ 4096 ∧ i ≤ l.length ∧ Al V.heap.size w v5 zs ∧ zs.length = 1 + 2 * i ∧ Below V.heap.size V w
set_option maxRecDepth 100000 in
set_option maxHeartbeats 4000000 in
theorem oA_any {V W : World} {c0 : Nat} {a0 : Option Addr} {v5 : Value} {l : List ByteArray} {zs : List (Value × List Value)} (hE : HasE V) (hS : HasS V (.slice a0 l.length c0) l) (hA : Al V.heap.size W v5 zs) (hz : zs.length = 1) (hb : Below V.heap.size V W)
    {tm : Array Value} (hsz : tm.size = 233) (hchk : chk tm [(0, .slice a0 l.length c0), (5, v5), (6, .slice none 0 0)]) {Q : Exit → Act → World → Prop}
    (hQ : ∀ W' v5' zs', Al V.heap.size W' v5' zs' → 1 ≤ zs'.length → zs'.length ≤ 9000 → Below V.heap.size V W' → ∀ tm : Array Value, tm.size = 233 → chk tm [(0, .slice a0 l.length c0), (5, v5'), (6, .slice none 0 0)] → Q .normal { tmps := tm, defers := [] } W') :
    kA.wp Tryd.prog Q { tmps := tm, defers := [] } W := by
  have hls : l.length ≤ 9223372036854775807 := by
    obtain ⟨a', c', e, hm, -⟩ := hS
    have := hm.1
    have := hm.2.1
    unfold maxLen at *
    omega
  have HIN : Hid (∀ (i : Nat) (w : World) (v : Value) (ys : List (Value × List Value)), i < l.length → Al V.heap.size w v ys → ys.length ≤ 10000 → Below V.heap.size V w → ∀ (tm : Array Value), tm.size = 233 → chk tm [(0, .slice a0 l.length c0), (5, v), (6, .slice none 0 0), (7, .int .i64 (i : Int))] → ∀ (Q : Exit → Act → World → Prop), (∀ W' v5' zs', Al V.heap.size W' v5' zs' → zs'.length = ys.length + 2 → Below V.heap.size w W' → ∀ tm : Array Value, tm.size = 233 → chk tm [(0, .slice a0 l.length c0), (5, v5'), (6, .slice none 0 0), (7, .int .i64 (i : Int))] → Q .normal { tmps := tm, defers := [] } W') → (ckOne kA).wp Tryd.prog Q { tmps := tm, defers := [] } w) := fun i w v ys hi h1 h2 h3 tm h4 h5 Q h6 => inA_any (hE.up h3) (hS.up h3) hi h1 h2 h3.size h4 h5 h6
  have HQ := hide hQ
  have HA := hide hA
  have HB := hide hb
  obtain ⟨u, rfl⟩ := frame233 hsz
  obtain ⟨e0, e5, e6, _⟩ := hchk
  replace e0 : u 0 = .slice a0 l.length c0 := Option.some.inj e0
  replace e5 : u 5 = v5 := Option.some.inj e5
  replace e6 : u 6 = .slice none 0 0 := Option.some.inj e6
  rw [e0, e5, e6]
  clear e0 e5 e6
  clear hQ hA hb hE hS
  rw [kA_split]
  obtain ⟨t, ht⟩ : ∃ t, ckOne kA = t := ⟨_, rfl⟩
  rw [ht]
  unfold ckWith kA kBody
  dsimp only [Tryd.f6]
  go_wp2
  refine wp_loop_count (AJ V l (fun v i => [(0, .slice a0 l.length c0), (5, v), (6, .slice none 0 0), (7, .int .i64 (i : Int))])) ?_ 4096 _ _ ⟨_, 0, _, zs, rfl, rfl, ⟨rfl, rfl, rfl, rfl, trivial⟩, rfl, Nat.zero_le _, Nat.zero_le _, unhide HA, by omega, unhide HB⟩
  clear HA HB hz
  rintro m _ wr ⟨tm, i, vk, ys, rfl, hsz, hchk, hm, hi4, hil, hA, hyl, hB⟩
  obtain ⟨x, rfl⟩ := frame233 hsz
  obtain ⟨e0, e5, e6, e7, _⟩ := hchk
  replace e0 : x 0 = .slice a0 l.length c0 := Option.some.inj e0
  replace e5 : x 5 = vk := Option.some.inj e5
  replace e6 : x 6 = .slice none 0 0 := Option.some.inj e6
  replace e7 : x 7 = .int .i64 (i : Int) := Option.some.inj e7
  rw [e0, e5, e6, e7]
  clear e0 e5 e6 e7
  have Hm := hide hm
  have HA := hide hA
  have HB := hide hB
  have Hyl := hide hyl
  clear hm hA hB hyl
  by_cases hgo : i < l.length ∧ i < 4096
  · obtain ⟨h1, h2⟩ := hgo
    have k1 : (i : Int) < (l.length : Int) := by omega
    have k2 : (i : Int) < 4096 := by omega
    go_wp2
    rw [← ht]
    refine unhide HIN i wr _ ys h1 (unhide HA) (by have := unhide Hyl; omega) (unhide HB) _ rfl ⟨rfl, rfl, rfl, rfl, trivial⟩ _ ?_
    intro W' v5' zs' r1 r2 r3 tm hsz hchk
    have R1 := hide r1
    have R2 := hide r2
    have HB' := hide ((unhide HB).trans r3)
    clear r1 r2 r3
    obtain ⟨z, rfl⟩ := frame233 hsz
    obtain ⟨e0, e5, e6, e7, _⟩ := hchk
    replace e0 : z 0 = .slice a0 l.length c0 := Option.some.inj e0
    replace e5 : z 5 = v5' := Option.some.inj e5
    replace e6 : z 6 = .slice none 0 0 := Option.some.inj e6
    replace e7 : z 7 = .int .i64 (i : Int) := Option.some.inj e7
    rw [e0, e5, e6, e7]
    clear e0 e5 e6 e7
    go_wp2
    exact ⟨4096 - (i + 1), by have := unhide Hm; omega, _, i + 1, _, zs', rfl, rfl, ⟨rfl, rfl, rfl, (by first | rfl | (congr 1; go_num) | (simp; go_num)), trivial⟩, rfl, by omega, by omega, unhide R1, by have := unhide R2; have := unhide Hyl; omega, unhide HB'⟩
  · rcases (by omega : ¬ (i : Int) < (l.length : Int) ∨ ((i : Int) < (l.length : Int) ∧ ¬ (i : Int) < 4096)) with k1 | ⟨k1, k2⟩
    all_goals clear hgo
    all_goals (
      go_wp2
      exact unhide HQ _ _ ys (unhide HA) (by have := unhide Hyl; omega) (by have := unhide Hyl; omega) (unhide HB) _ rfl ⟨rfl, rfl, rfl, trivial⟩)
theorem Al.cell' {B g n c i : Nat} {w : World} {zs : List (Value × List Value)} {z : Value × List Value} (h : Al B w (.slice (some ⟨g, 0, none⟩) n c) zs) (hi : zs[i]? = some z) : w.cell? ⟨g, i, none⟩ = some z.1 := by
  obtain ⟨g', c', e, hc⟩ := h.cell hi
  cases e
  exact hc
theorem set_at {i : Nat} {zs : List (Value × List Value)} {z : Value × List Value} (y : Value × List Value) (hi : zs[i]? = some z) : (zs.set i y)[i]? = some y := by
  rw [List.getElem?_set_self (List.getElem?_eq_some_iff.1 hi).1]
theorem mark_step {k : Nat} {m : Value} {ks : List Value} (h : k < ks.length) : (List.replicate k m ++ ks.drop k).set k m = List.replicate (k + 1) m ++ ks.drop (k + 1) := by
  rw [List.set_append_right _ _ (by simp), List.length_replicate, Nat.sub_self, List.drop_eq_getElem_cons h, List.set_cons_zero, List.replicate_succ']
  simp
/-- Between two marks. -/
def BJ (W : World) (B i : Nat) (v5 zv : Value) (zs : List (Value × List Value)) (ks : List Value) (mk : Value) (C : Nat → List (Nat × Value)) (m : Nat) (a : Act) (w : World) : Prop := ∃ (tm : Array Value) (k : Nat), a = ⟨tm, []⟩ ∧ tm.size = 233 ∧ chk tm (C k) ∧ m = ks.length - k ∧ k ≤ ks.length ∧ Al B w v5 (zs.set i (zv, List.replicate k mk ++ ks.drop k)) ∧ Below B W w
theorem BJ.step {W w : World} {B i k g c : Nat} {v5 mk : Value} {zs : List (Value × List Value)} {ks : List Value} {z : Value × List Value} (hz : zs[i]? = some z) (hk : k < ks.length) (hA : Al B w v5 (zs.set i (.slice (some ⟨g, 0, none⟩) ks.length c, List.replicate k mk ++ ks.drop k))) (hb : Below B W w) : Al B (w.setCell ⟨g, k, none⟩ mk) v5 (zs.set i (.slice (some ⟨g, 0, none⟩) ks.length c, List.replicate (k + 1) mk ++ ks.drop (k + 1))) ∧ Below B W (w.setCell ⟨g, k, none⟩ mk) := by
  have hi := set_at (.slice (some ⟨g, 0, none⟩) ks.length c, List.replicate k mk ++ ks.drop k) hz
  have hr := (hA.each _ (List.mem_of_getElem? hi)).1
  have hlen : (List.replicate k mk ++ ks.drop k).length = ks.length := by simp; omega
  have hr' : w.ownsRow B 9 1 (.slice (some ⟨g, 0, none⟩) ks.length c) ks.length (List.replicate k mk ++ ks.drop k) := by
    have := hr
    unfold Rs at this
    rw [hlen] at this
    exact this
  obtain ⟨h1, h2⟩ := World.ownsRow.stored hr' k mk
  rw [mark_step hk] at h1
  have hlen2 : (List.replicate (k + 1) mk ++ ks.drop (k + 1)).length = ks.length := by simp; omega
  refine ⟨?_, below_set hb (World.ownsRow.lt hr' g rfl).1 _ _⟩
  have := hA.set hi h2 (ks := List.replicate (k + 1) mk ++ ks.drop (k + 1)) (by unfold Rs; rw [hlen2]; exact h1) (by rw [hlen2]; exact hlen.symm)
  rw [List.set_set] at this
  exact this
set_option maxRecDepth 100000 in
set_option maxHeartbeats 4000000 in
theorem inB_any {W : World} {B i : Nat} {p0 p6 v5 : Value} {zs : List (Value × List Value)} {z : Value × List Value} (hA : Al B W v5 zs) (hz : zs[i]? = some z) (hn : zs.length ≤ 9000) (hBW : B ≤ W.heap.size)
    {tm : Array Value} (hsz : tm.size = 233) (hchk : chk tm [(0, p0), (5, v5), (6, p6), (14, .int .i64 (i : Int))]) {Q : Exit → Act → World → Prop}
    (hQ : ∀ W', Al B W' v5 (zs.set i (z.1, List.replicate z.2.length (keptV i))) → Below B W W' → ∀ tm : Array Value, tm.size = 233 → chk tm [(0, p0), (5, v5), (6, p6), (14, .int .i64 (i : Int))] → Q .normal { tmps := tm, defers := [] } W') :
    (ckOne kB).wp Tryd.prog Q { tmps := tm, defers := [] } W := by
  have hil : i < zs.length := (List.getElem?_eq_some_iff.1 hz).1
  obtain ⟨zv, ks⟩ := z
  obtain ⟨az, cz, hzv⟩ := (hA.each _ (List.mem_of_getElem? hz)).1.form
  have hks := (hA.each _ (List.mem_of_getElem? hz)).2
  simp only at hzv hks hQ
  subst hzv
  obtain ⟨g5, c5, rfl, -⟩ := hA.cell hz
  have HM := hide (marked_any i (by omega) W)
  obtain ⟨mi, hmi⟩ : ∃ m, mkS i = m := ⟨_, rfl⟩
  have hms : mi.size ≤ 9001 := by rw [← hmi]; have := mkS_size i; omega
  have n1 : ¬ 9223372036854775807 < 5 + mi.size := by omega
  rw [hmi] at HM
  have HQ := hide hQ
  rw [show keptV i = .string (⟨#[107, 101, 112, 116, 32]⟩ ++ mi) from by rw [← hmi]; rfl] at HQ
  have HA := hide hA
  have Hz := hide hz
  have k0 : (0 : Int) ≤ (i : Int) := Int.natCast_nonneg _
  have k1 : (i : Int) < (zs.length : Int) := by omega
  obtain ⟨u, rfl⟩ := frame233 hsz
  obtain ⟨e0, e5, e6, e14, _⟩ := hchk
  replace e0 : u 0 = p0 := Option.some.inj e0
  replace e5 : u 5 = .slice (some ⟨g5, 0, none⟩) zs.length c5 := Option.some.inj e5
  replace e6 : u 6 = p6 := Option.some.inj e6
  replace e14 : u 14 = .int .i64 (i : Int) := Option.some.inj e14
  rw [e0, e5, e6, e14]
  clear e0 e5 e6 e14
  clear hQ hA hz hmi hms
  unfold ckOne kB kBody
  dsimp only [Tryd.f6]
  go_wp2_with fail
  refine (unhide HM).mono ?_
  rintro e w1 ⟨rfl, hb1⟩
  have HA1 := hide ((unhide HA).up hb1)
  have HB1 := hide (Below.mono hb1 hBW)
  clear hb1 HM HA
  go_wp2
  obtain ⟨sk, hmk⟩ : ∃ m, (⟨#[107, 101, 112, 116, 32]⟩ : ByteArray) ++ mi = m := ⟨_, rfl⟩
  rw [hmk] at HQ ⊢
  have HA0 : Hid (Al B w1 (.slice (some ⟨g5, 0, none⟩) zs.length c5) (zs.set i (.slice az ks.length cz, List.replicate 0 (Value.string sk) ++ ks.drop 0))) := by
    show Al _ _ _ _
    have e : zs.set i (.slice az ks.length cz, List.replicate 0 (Value.string sk) ++ ks.drop 0) = zs := by
      refine List.ext_getElem? fun j => ?_
      rw [List.getElem?_set]
      split
      · next e =>
        subst e
        rw [unhide Hz]
        rfl
      · rfl
    rw [e]
    exact unhide HA1
  clear hmk HA1 n1
  refine wp_loop_count (BJ W B i (.slice (some ⟨g5, 0, none⟩) zs.length c5) (.slice az ks.length cz) zs ks (.string sk) (fun k => [(0, p0), (5, .slice (some ⟨g5, 0, none⟩) zs.length c5), (6, p6), (14, .int .i64 (i : Int)), (15, .string sk), (16, .int .i64 (k : Int))])) ?_ ks.length _ _ ⟨_, 0, rfl, rfl, ⟨rfl, rfl, rfl, rfl, rfl, rfl, trivial⟩, rfl, Nat.zero_le _, unhide HA0, unhide HB1⟩
  clear HA0 HB1
  rintro m _ wr ⟨tm, k, rfl, hsz, hchk, hm, hkl, hA, hB⟩
  obtain ⟨x, rfl⟩ := frame233 hsz
  obtain ⟨e0, e5, e6, e14, e15, e16, _⟩ := hchk
  replace e0 : x 0 = p0 := Option.some.inj e0
  replace e5 : x 5 = .slice (some ⟨g5, 0, none⟩) zs.length c5 := Option.some.inj e5
  replace e6 : x 6 = p6 := Option.some.inj e6
  replace e14 : x 14 = .int .i64 (i : Int) := Option.some.inj e14
  replace e15 : x 15 = .string sk := Option.some.inj e15
  replace e16 : x 16 = .int .i64 (k : Int) := Option.some.inj e16
  rw [e0, e5, e6, e14, e15, e16]
  clear e0 e5 e6 e14 e15 e16
  have hc5 := hA.cell' (set_at (.slice az ks.length cz, List.replicate k (Value.string sk) ++ ks.drop k) (unhide Hz))
  simp only at hc5
  have Hm := hide hm
  clear hm
  by_cases hlt : k < ks.length
  · obtain ⟨x0, hx0⟩ : ∃ x0, (List.replicate k (Value.string sk) ++ ks.drop k)[k]? = some x0 := ⟨_, List.getElem?_eq_getElem (by simp; omega)⟩
    have hr := (hA.each _ (List.mem_of_getElem? (set_at (.slice az ks.length cz, List.replicate k (Value.string sk) ++ ks.drop k) (unhide Hz)))).1
    simp only at hr
    obtain ⟨g, c, e, hck⟩ := hr.at' hx0
    have hlen : (List.replicate k (Value.string sk) ++ ks.drop k).length = ks.length := by simp; omega
    rw [hlen] at e
    cases e
    have hfr : wr.frozen? ⟨g, k, none⟩ = false := by
      have h2 := hr
      unfold Rs at h2
      rw [hlen] at h2
      exact World.ownsRow.frozenAt h2 k
    obtain ⟨hA2, hB2⟩ := BJ.step (unhide Hz) hlt hA hB
    have HA2 := hide hA2
    have HB2 := hide hB2
    have q0 : (0 : Int) ≤ (k : Int) := Int.natCast_nonneg _
    have q1 : (k : Int) < (ks.length : Int) := by omega
    clear hA hB hr hA2 hB2 hx0 hlen
    go_wp2
    exact ⟨ks.length - (k + 1), by have := unhide Hm; omega, _, k + 1, rfl, rfl, ⟨rfl, rfl, rfl, rfl, rfl, (by first | rfl | (congr 1; go_num) | (simp; go_num)), trivial⟩, rfl, by omega, unhide HA2, unhide HB2⟩
  · obtain rfl : k = ks.length := by omega
    have q1 : ¬ (ks.length : Int) < (ks.length : Int) := by omega
    have HA2 : Hid (Al B wr (.slice (some ⟨g5, 0, none⟩) zs.length c5) (zs.set i (.slice az ks.length cz, List.replicate ks.length (Value.string sk)))) := by
      show Al _ _ _ _
      rw [List.drop_length, List.append_nil] at hA
      exact hA
    have HB2 := hide hB
    clear hA hB
    go_wp2
    exact unhide HQ _ (unhide HA2) (unhide HB2) _ rfl ⟨rfl, rfl, rfl, rfl, trivial⟩
end Go.Proofs.YtadmamfekodkaaaDoor
