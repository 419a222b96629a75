import Derived.Test.YtobomdokdajbaaaDoorJ26
import Derived.Test.YtobomdokdajbaaaDoorWPg

namespace Go.Proofs.YtobomdokdajbaaaDoor
open Go.RowKit
attribute [local go_sem ↓] Go.wp_at_zero Go.wp_at_succ

set_option maxRecDepth 100000 in
set_option maxHeartbeats 4000000 in
/-- The reference's Split. -/
theorem xsplit_any {W : World} {a : Option Addr} {l : List Nat} {cc : Nat} {st : Bool} (h : HasBN W (.slice a l.length cc) l) (hl : ∀ x ∈ l, x < 256) (hn : l.length ≤ 1048576) :
    Calls Tryd.prog 50 #[.slice a l.length cc, .bool st] W fun e W' => SpT W.heap.size e W' (recT (sOf l) st 63 ((sOf l).size + 1) 0 0 0 []) ∧ Below W.heap.size W W' := by
  have hB := h.bs hl
  have hL := h.low
  have hsz := sOf_size l
  have d0 : decide ((1048576 : Int) < (l.length : Int)) = false := by simp; omega
  have Hop := hide (open_any (W := W) (a := a) (n := l.length) (c := cc) (st := st))
  have hcu : ∀ X : World, X.heap[W.heap.size]? = some (.cells #[.slice a l.length cc, .int .i64 0, .int .i64 (l.length : Int), .bool st] 88 (0, 0)) → CuAt X W.heap.size (.slice a l.length cc) (sOf l) 0 st := fun X h => by unfold CuAt; rw [hsz]; exact h
  have hne : ∀ a' l' cp, (Value.slice a l.length cc) = .slice (some a') l' cp → 0 < (sOf l).size → a'.block ≠ W.heap.size ∧ cp ≤ 9223372036854775807 := fun a' l' cp e hp => ⟨by have := (hL a' l' cp e hp).1; omega, (hL a' l' cp e hp).2⟩
  have hs : (sOf l).size ≤ 1048576 := by rw [hsz]; exact hn
  have Hcu := hide hcu
  have HB := hide hB
  have Hne := hide hne
  clear hsz hcu hB hne hL h hl
  generalize sOf l = s at *
  obtain ⟨R, hR⟩ : ∃ R, recT s st 63 (s.size + 1) 0 0 0 [] = R := ⟨_, rfl⟩
  rw [hR]
  have HR := hide hR
  clear hR
  go_enter Tryd.func50, Tryd.ntmps50
  go_wp2_with fail
  refine (unhide Hop).mono ?_
  rintro e w1 ⟨rfl, hc1, hb1, hy1⟩
  have hz1 : W.heap.size < w1.heap.size := by omega
  have hrc := records_T hs (unhide Hne) (s.size + 1) w1 0 0 0 (unhide Hcu w1 hc1) ((unhide HB).lift hb1) (Nat.zero_le _) (by omega) (by omega) (most := 63)
  rw [unhide HR] at hrc
  have Hrc := hide hrc
  have Hb1 := hide hb1
  clear hc1 hb1 hy1 hrc HR Hop Hcu HB Hne
  go_wp2_with fail
  refine (unhide Hrc).mono ?_
  intro e w2 hq
  obtain ⟨ua, un, uc, q, k2, rfl, hU, hrel⟩ := hq
  have HbE : Hid (Below W.heap.size W w2) := (unhide Hb1).trans (hU.below (n := W.heap.size) (by omega) (Nat.le_refl _))
  obtain ⟨d0, d1, d2, d3, _⟩ := cells4_of hU.at'
  have hz2 := hU.size
  clear Hrc hU
  rcases R with ⟨ts, k'⟩ | ⟨c0, p0⟩
  · obtain ⟨rfl, rfl, hts⟩ := hrel
    have Hts := hide (hts.mono (Q := fun g => W.heap.size ≤ g) (fun g _ hp => ⟨by have : w1.heap.size ≤ g := hp; omega, rfl⟩) (Nat.le_refl _))
    clear hts
    go_wp2
    go_ret3
    exact ⟨⟨ua, un, uc, rfl, unhide Hts⟩, unhide HbE⟩
  · obtain ⟨rfl, hq0, rfl⟩ := hrel
    have qc : ((q : Int) != 0) = true := by simp; omega
    go_wp2
    go_quiet (fail)
    go_wp2
    go_ret3
    exact ⟨⟨rfl, hq0⟩, below_drewN (unhide HbE) _⟩
set_option maxRecDepth 100000 in
theorem xsplit_long {W : World} {a : Option Addr} {n c : Nat} {st : Bool} (hn : 1048576 < n) :
    Calls Tryd.prog 50 #[.slice a n c, .bool st] W fun e W' => e = .returned (.tuple #[.slice none 0 0, .int .i64 0, .int .i64 2]) ∧ W' = W := by
  have hlen : decide ((1048576 : Int) < (n : Int)) = true := by simp; omega
  clear hn
  go_enter Tryd.func50, Tryd.ntmps50
  go_wp2
  go_ret3
  exact ⟨rfl, rfl⟩
set_option maxRecDepth 100000 in
theorem split_long {W : World} {a : Option Addr} {n c : Nat} {st : Bool} (hn : 1048576 < n) :
    Calls Tryd.prog 14 #[.slice a n c, .bool st] W fun e W' => e = .returned (.tuple #[.slice none 0 0, .int .i64 0, .int .i64 2]) ∧ W' = W := by
  have Hrd := hide (read_long (W := W) (a := a) (n := n) (c := c) (st := st) hn)
  clear hn
  go_enter Tryd.func14, Tryd.ntmps14
  go_wp2_with fail
  refine (unhide Hrd).mono ?_
  rintro e w1 ⟨rfl, hw⟩
  obtain rfl : W = w1 := hw.symm
  clear hw Hrd
  go_wp2
  go_ret3
  exact ⟨rfl, rfl⟩
/-- What both say of bytes: the same. -/
def Sp2 (n : Nat) (e : Ending) (w : World) (ts : List Rt) (p q : Nat) : Prop := ∃ a c, e = .returned (.tuple #[.slice a ts.length c, .int .i64 (p : Int), .int .i64 (q : Int)]) ∧ HasRt w (fun g => n ≤ g) (.slice a ts.length c) ts
theorem both_splits {l : List Nat} {st : Bool} (hl : ∀ x ∈ l, x < 256) : ∃ ts p q, (∀ (W : World) (g c : Nat), (∀ (i : Nat) (b : Int), (byB l)[i]? = some b → W.cell? ⟨g, 0 + i, none⟩ = some (.int .u8 b)) → Calls Tryd.prog 14 #[.slice (some ⟨g, 0, none⟩) l.length c, .bool st] W fun e W' => Sp2 W.heap.size e W' ts p q ∧ Below W.heap.size W W') ∧
    ∀ (W : World) (a : Option Addr) (c : Nat), HasBN W (.slice a l.length c) l → Calls Tryd.prog 50 #[.slice a l.length c, .bool st] W fun e W' => Sp2 W.heap.size e W' ts p q ∧ Below W.heap.size W W' := by
  by_cases hn : l.length ≤ 1048576
  · have hR := recT_top (sOf l) st 63 (by decide) ((sOf l).size + 1) 0 ((sOf l).size + 1) [] (Nat.zero_le _) (by omega) (by omega)
    generalize hr : recT (sOf l) st 63 ((sOf l).size + 1) 0 0 0 [] = R at hR
    rcases R with ⟨ts, k'⟩ | ⟨c0, p0⟩
    · refine ⟨ts, 0, 0, fun W g c hc => (split_any (c := c) (st := st) hc hl hn).mono fun e w hq => ?_, fun W a c h => (xsplit_any h hl hn).mono fun e w hq => ?_⟩
      · rw [hR] at hq
        obtain ⟨⟨a, ln, cc, he, hT⟩, hb⟩ := hq
        obtain ⟨a', c', ef⟩ := hT.form
        rw [ef] at he hT
        exact ⟨⟨a', c', he, hT⟩, hb⟩
      · rw [hr] at hq
        obtain ⟨⟨a, ln, cc, he, hT⟩, hb⟩ := hq
        obtain ⟨a', c', ef⟩ := hT.form
        rw [ef] at he hT
        exact ⟨⟨a', c', he, hT⟩, hb⟩
    · refine ⟨[], p0, c0, fun W g c hc => (split_any (c := c) (st := st) hc hl hn).mono fun e w hq => ?_, fun W a c h => (xsplit_any h hl hn).mono fun e w hq => ?_⟩
      · rw [hR] at hq
        exact ⟨⟨none, 0, hq.1.1, .nil none 0⟩, hq.2⟩
      · rw [hr] at hq
        exact ⟨⟨none, 0, hq.1.1, .nil none 0⟩, hq.2⟩
  · refine ⟨[], 0, 2, fun W g c hc => (split_long (by omega)).mono fun e w hq => ?_, fun W a c h => (xsplit_long (by omega)).mono fun e w hq => ?_⟩
    · rw [hq.2]
      exact ⟨⟨none, 0, hq.1, .nil none 0⟩, Below.refl _ _⟩
    · rw [hq.2]
      exact ⟨⟨none, 0, hq.1, .nil none 0⟩, Below.refl _ _⟩
theorem HasBN.up {W w : World} {v : Value} {l : List Nat} (h : HasBN W v l) (hb : Below W.heap.size W w) : HasBN w v l := by
  obtain ⟨a, c, rfl, hm, h3⟩ := h
  refine ⟨a, c, rfl, hm, fun hp => ?_⟩
  obtain ⟨g, off, rfl, h4, h5⟩ := h3 hp
  exact ⟨g, off, rfl, Nat.lt_of_lt_of_le h4 hb.size, fun i k hk => (hb.cell (p := ⟨g, off + i, none⟩) h4).trans (h5 i k hk)⟩
set_option maxRecDepth 100000 in
set_option maxHeartbeats 4000000 in
/-- splits of the law. -/
theorem splits_any {W : World} {v : Value} {l : List Nat} {st : Bool} (h : HasBN W v l) (hl : ∀ x ∈ l, x < 256) (hn : l.length ≤ 140737488351232) :
    Calls Tryd.prog 21 #[v, .bool st] W fun e W' => e = .returned (.bool true) ∧ Below W.heap.size W W' := by
  obtain ⟨ts, p, q, hs1, hs2⟩ := both_splits (l := l) (st := st) hl
  have HH := hide h.has
  have HN := hide h
  have Hs1 := hide hs1
  have Hs2 := hide hs2
  obtain ⟨a0, q0, rfl, -, -⟩ := h
  clear hs1 hs2 hl
  go_enter Tryd.func21, Tryd.ntmps21
  go_wp2_with fail
  refine (hand_any (unhide HH) (by rw [byB_length]; exact hn)).mono ?_
  rintro e W2 ⟨he, hd2, hb2⟩
  rw [byB_length] at he
  subst he
  have hz2 : W.heap.size < W2.heap.size := by
    obtain ⟨cur, e1, _⟩ := id hd2
    exact (Array.getElem?_eq_some_iff.1 e1).1
  have Hd2 := hide hd2
  have Hbe2 := hide hb2
  clear hd2 hb2
  go_wp2_with fail
  refine (unhide Hs1 W2 W.heap.size (l.length + 3) (unhide Hd2).cells).mono ?_
  rintro e W3 ⟨⟨va, vc, rfl, hT⟩, hb3⟩
  have hz3 := hb3.size
  have HT := hide hT
  have Hbe3 := hide ((unhide Hbe2).trans (hb3.mono (by omega)))
  have Hd3 := hide ((unhide Hd2).block (hb3.block _ hz2))
  clear hT hb3 Hd2
  go_wp2_with fail
  refine (unhide Hs2 W3 a0 q0 ((unhide HN).up (unhide Hbe3))).mono ?_
  rintro e W4 ⟨⟨ua, uc, rfl, hT4⟩, hb4⟩
  have hz4 := hb4.size
  have HT4 := hide hT4
  have HTm := hide ((unhide HT).mono (Q := fun g => W2.heap.size ≤ g) (fun g hg hp => ⟨hp, hb4.block g hg⟩) hz4)
  have Hbe4 := hide ((unhide Hbe3).trans (hb4.mono (by omega)))
  have Hd4 := hide ((unhide Hd3).block (hb4.block _ (by omega)))
  clear hT4 hb4 HT Hd3 Hs1 Hs2
  have hbk := back_any (unhide Hd4) ((unhide HH).up (unhide Hbe4)) (by rw [byB_length]; exact hn)
  rw [byB_length] at hbk
  have Hbk := hide hbk
  clear hbk Hd4
  go_wp2_with fail
  refine (unhide Hbk).mono ?_
  rintro e W5 ⟨rfl, cur, hU5⟩
  have hz5 := hU5.size
  have h1 : HasRt W5 (fun g => W2.heap.size ≤ g) (.slice va ts.length vc) ts := (unhide HTm).mono (fun g hg hp => ⟨hp, hU5.far g hg (by have : W2.heap.size ≤ g := hp; omega)⟩) hz5
  have h2 : HasRt W5 (fun g => W3.heap.size ≤ g) (.slice ua ts.length uc) ts := (unhide HT4).mono (fun g hg hp => ⟨hp, hU5.far g hg (by have : W3.heap.size ≤ g := hp; omega)⟩) hz5
  have Hsm := hide (same_rt h1 _ h2 W5 (Below.refl _ _))
  have Hbe5 := hide ((unhide Hbe4).trans (hU5.below (n := W.heap.size) (by omega) (Nat.le_refl _)))
  clear hU5 h1 h2 Hbk HTm HT4
  go_wp2_with fail
  refine (unhide Hsm).mono ?_
  rintro e W6 ⟨rfl, hb6⟩
  have Hbe6 := hide ((unhide Hbe5).trans (hb6.mono (by omega)))
  clear hb6 Hsm
  go_wp2
  go_ret
  exact ⟨by first | rfl | simp, unhide Hbe6⟩
#print axioms splits_any
end Go.Proofs.YtobomdokdajbaaaDoor

namespace Go.Proofs.YtobomdokdajbaaaDoor
open Go.RowKit

def plB : (Rt × Nat) ⊕ Nat → Nat ⊕ Nat
  | .inl (_, k) => .inl k
  | .inr c => .inr c
def plT : (List Rt × Nat) ⊕ (Nat × Nat) → Nat ⊕ (Nat × Nat)
  | .inl (_, k) => .inl k
  | .inr x => .inr x
theorem bodyR_proj (s : ByteArray) (st : Bool) (n k kd : Nat) : bodyR s st k kd = plB (bodyT s st n k kd) := by
  unfold bodyR bodyT
  split
  · generalize vAt s st k = r
    match r with
    | .inl (u, k') => rfl
    | .inr c => rfl
  · split
    · generalize xAt s k 8 = r
      match r with
      | .inl (u, k') => rfl
      | .inr c => rfl
    · split
      · generalize tAt s st k = r
        match r with
        | .inl (u, k') => rfl
        | .inr c => rfl
      · generalize xAt s k 4 = r
        match r with
        | .inl (u, k') => rfl
        | .inr c => rfl
theorem recM_proj (s : ByteArray) (st : Bool) (most : Int) : ∀ (F g o k : Nat) (acc : List Rt), recM s st most F g o k = plT (recT s st most F g o k acc) := by
  intro F
  induction F with
  | zero => intro g o k acc; rfl
  | succ F ih =>
    intro g o k acc
    rw [recM_succ, recT]
    by_cases hk : k = s.size
    · rw [if_pos hk, if_pos hk]
      by_cases hg : g = 0
      · rw [if_pos hg, if_pos hg]; rfl
      · rw [if_neg hg, if_neg hg]; rfl
    · rw [if_neg hk, if_neg hk]
      generalize tagR s st k = r
      match r with
      | .inr c => rfl
      | .inl (n, kd, k') =>
        show (if kd = 4 then (if n = g then .inl k' else .inr (25, k)) else if kd = 3 ∧ (o : Int) = most then .inr (4, k) else match (if kd = 3 then recM s st most F n (o + 1) k' else plcE k' (bodyR s st k' kd)) with | .inr x => .inr x | .inl k2 => recM s st most F g o k2 : Nat ⊕ (Nat × Nat)) = plT (if kd = 4 then (if n = g then .inl (acc, k') else .inr (25, k)) else if kd = 3 ∧ (o : Int) = most then .inr (4, k) else match (if kd = 3 then grpT n (recT s st most F n (o + 1) k' []) else plcT k' (bodyT s st n k' kd)) with | .inr x => .inr x | .inl (t, k2) => recT s st most F g o k2 (acc ++ [t]))
        by_cases h4 : kd = 4
        · rw [if_pos h4, if_pos h4]
          by_cases hg : n = g
          · rw [if_pos hg, if_pos hg]; rfl
          · rw [if_neg hg, if_neg hg]; rfl
        · rw [if_neg h4, if_neg h4]
          by_cases h3 : kd = 3 ∧ (o : Int) = most
          · rw [if_pos h3, if_pos h3]; rfl
          · rw [if_neg h3, if_neg h3]
            by_cases k3 : kd = 3
            · rw [if_pos k3, if_pos k3, ih n (o + 1) k' []]
              generalize recT s st most F n (o + 1) k' [] = r
              match r with
              | .inr x => rfl
              | .inl (ts, k2) => exact ih g o k2 (acc ++ [.mk n 3 0 .empty ts])
            · rw [if_neg k3, if_neg k3, bodyR_proj s st n]
              generalize bodyT s st n k' kd = r
              match r with
              | .inr x => rfl
              | .inl (t, k2) => exact ih g o k2 (acc ++ [t])
theorem recT_pre (s : ByteArray) (st : Bool) (most : Int) : ∀ (F g o k : Nat) (acc ts : List Rt) (k2 : Nat), recT s st most F g o k acc = .inl (ts, k2) → ∃ rest, ts = acc ++ rest := by
  intro F
  induction F with
  | zero => intro g o k acc ts k2 h; cases h
  | succ F ih =>
    intro g o k acc ts k2 h
    rw [recT] at h
    split at h
    · split at h
      · obtain ⟨rfl, _⟩ := Prod.mk.inj (Sum.inl.inj h); exact ⟨[], by simp⟩
      · cases h
    · split at h
      · cases h
      · split at h
        · split at h
          · obtain ⟨rfl, _⟩ := Prod.mk.inj (Sum.inl.inj h); exact ⟨[], by simp⟩
          · cases h
        · split at h
          · cases h
          · split at h
            · cases h
            · rename_i t k3 _
              obtain ⟨rest, rfl⟩ := ih _ _ _ _ _ _ h
              exact ⟨t :: rest, by simp⟩
/-- A place of a part, in the whole. -/
def mv {α : Type} (j : Nat) : (α × Nat) ⊕ Nat → (α × Nat) ⊕ Nat
  | .inl (u, k) => .inl (u, j + k)
  | .inr c => .inr c
theorem sOf_drop_size (l : List Nat) (j : Nat) : (sOf (l.drop j)).size = (sOf l).size - j := by rw [sOf_size, sOf_size, List.length_drop]
theorem bAt_drop {l : List Nat} (hl : ∀ x ∈ l, x < 256) {j i : Nat} (h : j + i < l.length) : bAt (sOf (l.drop j)) i = bAt (sOf l) (j + i) := by
  have hx : l[j + i]? = some l[j + i] := List.getElem?_eq_getElem h
  rw [sOf_at hl hx]
  exact sOf_at (fun x hx => hl x (List.mem_of_mem_drop hx)) (by rw [List.getElem?_drop]; exact hx)
theorem vGo_drop {l : List Nat} (hl : ∀ x ∈ l, x < 256) (st : Bool) {j : Nat} (hj : j ≤ l.length) : ∀ (f i k v : Nat), vGo (sOf l) st f i (j + k) v = mv j (vGo (sOf (l.drop j)) st f i k v) := by
  intro f
  induction f with
  | zero => intro i k v; rfl
  | succ f ih =>
    intro i k v
    rw [vGo, vGo]
    by_cases hk : k < (sOf (l.drop j)).size
    · have hk2 : j + k < (sOf l).size := by rw [sOf_drop_size] at hk; omega
      rw [if_pos hk, if_pos hk2, bAt_drop hl (by rw [sOf_size] at hk2; exact hk2)]
      by_cases h1 : i = 9 ∧ 1 < bAt (sOf l) (j + k)
      · rw [if_pos h1, if_pos h1]; rfl
      · rw [if_neg h1, if_neg h1]
        by_cases h2 : 127 < bAt (sOf l) (j + k)
        · rw [if_pos h2, if_pos h2, show j + k + 1 = j + (k + 1) by omega]
          exact ih _ _ _
        · rw [if_neg h2, if_neg h2]
          by_cases h3 : st = true ∧ 0 < i ∧ bAt (sOf l) (j + k) = 0
          · rw [if_pos h3, if_pos h3]; rfl
          · rw [if_neg h3, if_neg h3, show j + k + 1 = j + (k + 1) by omega]; rfl
    · have hk2 : ¬ j + k < (sOf l).size := by rw [sOf_drop_size] at hk; rw [sOf_size] at hk ⊢; omega
      rw [if_neg hk, if_neg hk2]; rfl
theorem vAt_drop {l : List Nat} (hl : ∀ x ∈ l, x < 256) (st : Bool) {j : Nat} (hj : j ≤ l.length) : vAt (sOf l) st j = mv j (vAt (sOf (l.drop j)) st 0) := vGo_drop hl st hj 10 0 0 0
theorem fAt_drop {l : List Nat} (hl : ∀ x ∈ l, x < 256) {j : Nat} : ∀ n, j + n ≤ l.length → fAt (sOf l) j n = fAt (sOf (l.drop j)) 0 n
  | 0, _ => rfl
  | n + 1, h => by
    show fAt (sOf l) j n + bAt (sOf l) (j + n) * 256 ^ n = fAt (sOf (l.drop j)) 0 n + bAt (sOf (l.drop j)) (0 + n) * 256 ^ n
    rw [fAt_drop hl n (by omega), Nat.zero_add, bAt_drop hl (by omega)]
theorem xAt_drop {l : List Nat} (hl : ∀ x ∈ l, x < 256) {j n : Nat} (hj : j ≤ l.length) : xAt (sOf l) j n = mv j (xAt (sOf (l.drop j)) 0 n) := by
  unfold xAt
  rw [sOf_drop_size, sOf_size]
  by_cases h : l.length < j + n
  · rw [if_pos h, if_pos (by omega)]; rfl
  · rw [if_neg h, if_neg (by omega), fAt_drop hl n (by omega), Nat.zero_add]; rfl
theorem extract_drop {l : List Nat} (hl : ∀ x ∈ l, x < 256) {j k u : Nat} (h : j + k + u ≤ l.length) : (sOf l).extract (j + k) (j + k + u) = (sOf (l.drop j)).extract k (k + u) := by
  rw [ext_list _ _ _ (by rw [sOf_size]; exact h), ext_list _ _ _ (by rw [sOf_drop_size, sOf_size]; omega)]
  congr 1
  congr 1
  rw [show j + k + u - (j + k) = u by omega, show k + u - k = u by omega]
  apply List.map_congr_left
  intro i hi
  have hi := List.mem_range.1 hi
  rw [bAt_drop hl (by omega), Nat.add_assoc]
theorem tAt_drop {l : List Nat} (hl : ∀ x ∈ l, x < 256) (st : Bool) {j : Nat} (hj : j ≤ l.length) : tAt (sOf l) st j = mv j (tAt (sOf (l.drop j)) st 0) := by
  unfold tAt
  rw [vAt_drop hl st hj]
  generalize hv : vAt (sOf (l.drop j)) st 0 = r
  match r, hv with
  | .inr c, _ => rfl
  | .inl (u, k'), hv =>
    have hb := vAt_lt hv
    rw [sOf_drop_size, sOf_size] at hb
    show (if (sOf l).size - (j + k') < u then .inr 20 else .inl ((sOf l).extract (j + k') (j + k' + u), j + k' + u) : (ByteArray × Nat) ⊕ Nat) = mv j (if (sOf (l.drop j)).size - k' < u then .inr 20 else .inl ((sOf (l.drop j)).extract k' (k' + u), k' + u))
    rw [sOf_drop_size, sOf_size]
    by_cases h : l.length - (j + k') < u
    · rw [if_pos h, if_pos (by omega)]; rfl
    · rw [if_neg h, if_neg (by omega), extract_drop hl (by omega), Nat.add_assoc]; rfl
end Go.Proofs.YtobomdokdajbaaaDoor
