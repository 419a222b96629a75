import Derived.Test.YtobomdokdajbaaaDoorJ32
import Derived.Shelf.Strconv.Itoa0
import Derived.Test.YtobomdokdajbaaaDoorJ04
import Derived.Laws.MathBits
import Derived.Test.YtobomdokdajbaaaDoorWFd

namespace Go.Proofs.YtobomdokdajbaaaDoor
open Go.RowKit

theorem vN_small {w : Nat} (h : w ≤ 127) : vN w = [w] := by rw [vN, if_pos h]
theorem vN_big {c w : Nat} (hc : 128 ≤ c) (hc2 : c < 256) (hw : w ≠ 0) : vN ((c - 128) + 128 * w) = c :: vN w := by
  rw [vN, if_neg (by omega), show ((c - 128) + 128 * w) % 128 + 128 = c by omega, show ((c - 128) + 128 * w) / 128 = w by omega]
theorem vN_le {c w : Nat} (hc : 128 ≤ c) (hc2 : c < 256) : (vN ((c - 128) + 128 * w)).length ≤ 1 + (vN w).length := by
  by_cases hw : w = 0
  · subst hw
    rw [vN_small (by omega)]
    simp
  · rw [vN_big hc hc2 hw]
    simp
    omega
/-- What is read as a varint: its shortest form is no longer, and is what stands there where it is read strictly. -/
theorem vGo_enc (s : ByteArray) (st : Bool) : ∀ (f i k v u k' : Nat), vGo s st f i k v = .inl (u, k') → ∃ w, u = v + w * 128 ^ i ∧ k + (vN w).length ≤ k' ∧ (st = true → (0 < i → w ≠ 0) ∧ k' = k + (vN w).length ∧ At s k (vN w)) := by
  intro f
  induction f with
  | zero => intro i k v u k' h; cases h
  | succ f ih =>
    intro i k v u k' h
    rw [vGo] at h
    by_cases hk : k < s.size
    · rw [if_pos hk] at h
      by_cases h1 : i = 9 ∧ 1 < bAt s k
      · rw [if_pos h1] at h; cases h
      · rw [if_neg h1] at h
        by_cases h2 : 127 < bAt s k
        · rw [if_pos h2] at h
          obtain ⟨w, hu, hl, hst⟩ := ih _ _ _ _ _ h
          have hc := bAt_lt s k
          generalize hcc : bAt s k = c at *
          refine ⟨(c - 128) + 128 * w, ?_, ?_, fun hs => ?_⟩
          · rw [hu, Nat.pow_succ, Nat.add_mul, Nat.mul_comm 128 w, Nat.mul_assoc, Nat.mul_comm 128 (128 ^ i)]
            omega
          · have := vN_le (c := c) (w := w) (by omega) hc
            omega
          · obtain ⟨g1, g2, g3⟩ := hst hs
            have hw := g1 (by omega)
            rw [vN_big (by omega) hc hw]
            refine ⟨fun _ => by omega, by simp; omega, At.cons hk hcc g3⟩
        · rw [if_neg h2] at h
          by_cases h3 : st = true ∧ 0 < i ∧ bAt s k = 0
          · rw [if_pos h3] at h; cases h
          · rw [if_neg h3] at h
            obtain ⟨rfl, rfl⟩ := Prod.mk.inj (Sum.inl.inj h)
            refine ⟨bAt s k, rfl, ?_, fun hs => ⟨fun hi hz => h3 ⟨hs, hi, hz⟩, ?_, ?_⟩⟩
            · rw [vN_small (by omega)]; simp
            · rw [vN_small (by omega)]; simp
            · rw [vN_small (by omega)]
              exact At.cons hk rfl (At.nil _ _)
    · rw [if_neg hk] at h; cases h
theorem vAt_enc {s : ByteArray} {st : Bool} {k u k' : Nat} (h : vAt s st k = .inl (u, k')) : k + (vN u).length ≤ k' ∧ (st = true → k' = k + (vN u).length ∧ At s k (vN u)) := by
  obtain ⟨w, hu, hl, hst⟩ := vGo_enc s st _ _ _ _ _ _ h
  rw [Nat.zero_add, Nat.pow_zero, Nat.mul_one] at hu
  subst hu
  exact ⟨hl, fun hs => (hst hs).2⟩
theorem tagR_enc {s : ByteArray} {st : Bool} {k n kd k' : Nat} (h : tagR s st k = .inl (n, kd, k')) : k + (vN (8 * n + kd)).length ≤ k' ∧ (st = true → k' = k + (vN (8 * n + kd)).length ∧ At s k (vN (8 * n + kd))) := by
  unfold tagR at h
  split at h
  · cases h
  · rename_i u k2 hv
    split at h
    · cases h
    · split at h
      · cases h
      · obtain ⟨rfl, hp⟩ := Prod.mk.inj (Sum.inl.inj h)
        obtain ⟨rfl, rfl⟩ := Prod.mk.inj hp
        rw [show 8 * (u / 8) + u % 8 = u by omega]
        exact vAt_enc hv
theorem fAt_low {s : ByteArray} {k : Nat} : ∀ (n j : Nat), j < n → fAt s k n / 256 ^ j % 256 = bAt s (k + j)
  | 0, j, h => by omega
  | n + 1, j, h => by
    show (fAt s k n + bAt s (k + n) * 256 ^ n) / 256 ^ j % 256 = _
    have hp : 0 < 256 ^ j := Nat.pow_pos (by decide)
    by_cases hj : j < n
    · rw [← fAt_low n j hj]
      obtain ⟨d, rfl⟩ : ∃ d, n = j + (d + 1) := ⟨n - j - 1, by omega⟩
      have e : bAt s (k + (j + (d + 1))) * 256 ^ (j + (d + 1)) = 256 ^ j * (256 * (256 ^ d * bAt s (k + (j + (d + 1))))) := by
        rw [Nat.pow_add, Nat.pow_succ, Nat.mul_comm, Nat.mul_assoc (256 ^ j), Nat.mul_comm (256 ^ d) 256, Nat.mul_assoc 256]
      rw [e, Nat.add_mul_div_left _ _ hp]
      omega
    · obtain rfl : j = n := by omega
      have hl := fAt_lt s k j
      have hb := bAt_lt s (k + j)
      rw [Nat.mul_comm, Nat.add_mul_div_left _ _ hp, Nat.div_eq_of_lt hl]
      omega
theorem xAt_enc {s : ByteArray} {k n u k' : Nat} (h : xAt s k n = .inl (u, k')) : k' = k + (fN u n).length ∧ At s k (fN u n) ∧ u < 256 ^ n := by
  unfold xAt at h
  split at h
  · cases h
  · obtain ⟨rfl, rfl⟩ := Prod.mk.inj (Sum.inl.inj h)
    refine ⟨by rw [fN_len], fun j x hx => ?_, fAt_lt s k n⟩
    obtain ⟨h1, h2⟩ := fN_get _ _ _ _ hx
    exact ⟨by omega, by rw [h2, fAt_low n j h1]⟩
theorem tAt_enc {s : ByteArray} {st : Bool} {k k' : Nat} {t : ByteArray} (h : tAt s st k = .inl (t, k')) : k + (vN t.size ++ tN t).length ≤ k' ∧ (st = true → k' = k + (vN t.size ++ tN t).length ∧ At s k (vN t.size ++ tN t)) := by
  unfold tAt at h
  generalize hv : vAt s st k = r at h
  match r, h with
  | .inl (u, k1), h =>
    replace h : (if s.size - k1 < u then .inr 20 else .inl (s.extract k1 (k1 + u), k1 + u) : (ByteArray × Nat) ⊕ Nat) = .inl (t, k') := h
    have hlt := vAt_lt hv
    obtain ⟨h1, h2⟩ := vAt_enc hv
    by_cases hl : s.size - k1 < u
    · rw [if_pos hl] at h; cases h
    · rw [if_neg hl] at h
      obtain ⟨he, rfl⟩ := Prod.mk.inj (Sum.inl.inj h)
      have hts : t.size = u := by rw [← he, ByteArray.size_extract]; omega
      rw [List.length_append, tN_len, hts]
      refine ⟨by omega, fun hs => ?_⟩
      obtain ⟨g1, g2⟩ := h2 hs
      refine ⟨by omega, g2.app fun j x hx => ?_⟩
      obtain ⟨q1, q2⟩ := tN_get hx
      rw [hts] at q1
      refine ⟨by omega, ?_⟩
      rw [q2, ← g1, bAt_eq (show k1 + j < s.size by omega), bAt_eq (show j < t.size by omega)]
      clear hx q2 h1 h2 h g2
      subst he
      rw [ByteArray.getElem_extract]
theorem wrap_word {u : Nat} (h : u < 4294967296) : 0 ≤ wrap64 (u : Int) ∧ wrap64 (u : Int) ≤ 4294967295 := by rw [wrap64_eq]; omega
theorem wrap_rng (u : Nat) : -9223372036854775808 ≤ wrap64 (u : Int) ∧ wrap64 (u : Int) ≤ 9223372036854775807 := by rw [wrap64_eq]; omega
/-- What a body tells. -/
def BdE (s : ByteArray) (st : Bool) (n k kd k' : Nat) (r : Rt) (ys : List Nat) : Prop := ∃ x t, r = .mk n kd x t [] ∧ WfT n kd x t [] ∧ k + (bodyN n kd x t ys).length ≤ k' ∧ (st = true → k' = k + (bodyN n kd x t ys).length ∧ At s k (bodyN n kd x t ys))
theorem BdE.of {s : ByteArray} {st : Bool} {n k kd k' : Nat} {x : Int} {t : ByteArray} {ys m : List Nat} (hw : WfT n kd x t []) (hb : bodyN n kd x t ys = m) (h1 : k + m.length ≤ k') (h2 : st = true → k' = k + m.length ∧ At s k m) : BdE s st n k kd k' (.mk n kd x t []) ys := ⟨x, t, rfl, hw, by rw [hb]; exact h1, by rw [hb]; exact h2⟩
theorem bodyN0 (n : Nat) (x : Int) (t : ByteArray) (ys : List Nat) : bodyN n 0 x t ys = vN (un x) := by unfold bodyN; rw [if_pos rfl]
theorem bodyN1 (n : Nat) (x : Int) (t : ByteArray) (ys : List Nat) : bodyN n 1 x t ys = fN (un x) 8 := by unfold bodyN; rw [if_neg (by decide), if_pos rfl]
theorem bodyN2 (n : Nat) (x : Int) (t : ByteArray) (ys : List Nat) : bodyN n 2 x t ys = vN t.size ++ tN t := by unfold bodyN; rw [if_neg (by decide), if_neg (by decide), if_pos rfl]
theorem bodyN5 (n : Nat) (x : Int) (t : ByteArray) (ys : List Nat) : bodyN n 5 x t ys = fN (un x) 4 := by unfold bodyN; rw [if_neg (by decide), if_neg (by decide), if_neg (by decide), if_neg (by decide)]
theorem numT_at {n kd k' : Nat} {r : Rt} {q : (Nat × Nat) ⊕ Nat} (h : numT n kd q = .inl (r, k')) : ∃ u, q = .inl (u, k') ∧ r = .mk n kd (wrap64 (u : Int)) .empty [] := by
  match q, h with
  | .inl (u, k2), h =>
    obtain ⟨rfl, rfl⟩ := Prod.mk.inj (Sum.inl.inj h)
    exact ⟨u, rfl, rfl⟩
theorem texT_at {n k' : Nat} {r : Rt} {q : (ByteArray × Nat) ⊕ Nat} (h : texT n q = .inl (r, k')) : ∃ t, q = .inl (t, k') ∧ r = .mk n 2 0 t [] := by
  match q, h with
  | .inl (u, k2), h =>
    obtain ⟨rfl, rfl⟩ := Prod.mk.inj (Sum.inl.inj h)
    exact ⟨u, rfl, rfl⟩
theorem pow8 : (256 : Nat) ^ 8 = 18446744073709551616 := by decide
theorem pow4 : (256 : Nat) ^ 4 = 4294967296 := by decide
theorem bodyT_enc {s : ByteArray} {st : Bool} {n k kd k' : Nat} {r : Rt} (ys : List Nat) (hn : 1 ≤ n ∧ n ≤ 536870911) (hk : kd ≤ 5) (h4 : kd ≠ 4) (h3 : kd ≠ 3) (h : bodyT s st n k kd = .inl (r, k')) : BdE s st n k kd k' r ys := by
  have hkk : kd = 0 ∨ kd = 1 ∨ kd = 2 ∨ kd = 5 := by omega
  unfold bodyT at h
  rcases hkk with rfl | rfl | rfl | rfl
  · rw [if_pos rfl] at h
    obtain ⟨u, hv, rfl⟩ := numT_at h
    have hu := (vAt_lt hv).1
    have he := vAt_enc hv
    exact BdE.of ⟨⟨hn, by decide, fun _ => rfl, fun _ => rfl, fun q => absurd q (by decide), fun q => absurd q (by decide)⟩, wrap_rng u⟩ (by rw [bodyN0, un_wrap64 hu]) he.1 he.2
  · rw [if_neg (by decide), if_pos rfl] at h
    obtain ⟨u, hv, rfl⟩ := numT_at h
    obtain ⟨e1, e2, e3⟩ := xAt_enc hv
    rw [pow8] at e3
    exact BdE.of ⟨⟨hn, by decide, fun _ => rfl, fun _ => rfl, fun q => absurd q (by decide), fun q => absurd q (by decide)⟩, wrap_rng u⟩ (by rw [bodyN1, un_wrap64 e3]) (Nat.le_of_eq e1.symm) (fun _ => ⟨e1, e2⟩)
  · rw [if_neg (by decide), if_neg (by decide), if_pos rfl] at h
    obtain ⟨t, hv, rfl⟩ := texT_at h
    have he := tAt_enc hv
    exact BdE.of ⟨⟨hn, by decide, fun q => absurd rfl q, fun _ => rfl, fun _ => rfl, fun q => absurd q (by decide)⟩, by omega⟩ (bodyN2 _ _ _ _) he.1 he.2
  · rw [if_neg (by decide), if_neg (by decide), if_neg (by decide)] at h
    obtain ⟨u, hv, rfl⟩ := numT_at h
    obtain ⟨e1, e2, e3⟩ := xAt_enc hv
    rw [pow4] at e3
    exact BdE.of ⟨⟨hn, by decide, fun _ => rfl, fun _ => rfl, fun q => absurd q (by decide), fun _ => wrap_word e3⟩, wrap_rng u⟩ (by rw [bodyN5, un_wrap64 (Nat.lt_trans e3 (by decide))]) (Nat.le_of_eq e1.symm) (fun _ => ⟨e1, e2⟩)
/-- A group's end. -/
def endN (g : Nat) : List Nat := if g = 0 then [] else vN (8 * g + 4)
/-- What is read is right, not too deep, and written no longer; strictly read it is what stands there. -/
theorem recT_enc (s : ByteArray) (st : Bool) : ∀ (F g o k : Nat) (acc ts : List Rt) (k2 : Nat), k ≤ s.size → o ≤ 63 → recT s st 63 F g o k acc = .inl (ts, k2) →
    ∃ us, ts = acc ++ us ∧ WfL us ∧ deepL (63 - o) us = false ∧ k + (encL us ++ endN g).length ≤ k2 ∧ (st = true → k2 = k + (encL us ++ endN g).length ∧ At s k (encL us ++ endN g)) := by
  intro F
  induction F with
  | zero => intro g o k acc ts k2 _ _ h; cases h
  | succ F ih =>
    intro g o k acc ts k2 hk ho h
    rw [recT] at h
    split at h
    · rename_i hke
      split at h
      · rename_i hg
        obtain ⟨rfl, rfl⟩ := Prod.mk.inj (Sum.inl.inj h)
        subst hg
        refine ⟨[], by simp, .nil, rfl, by simp [encL, endN], fun _ => ⟨by simp [encL, endN], ?_⟩⟩
        simp only [encL, endN]
        exact At.nil _ _
      · cases h
    · split at h
      · cases h
      · rename_i n kd k' ht
        have hb := tagR_lt ht
        obtain ⟨e1, e2⟩ := tagR_enc ht
        split at h
        · rename_i h4
          split at h
          · rename_i hg
            obtain ⟨rfl, rfl⟩ := Prod.mk.inj (Sum.inl.inj h)
            subst h4 hg
            have he : endN n = vN (8 * n + 4) := by unfold endN; rw [if_neg (by omega)]
            refine ⟨[], by simp, .nil, rfl, ?_, ?_⟩
            · rw [he]; exact e1
            · rw [he]; exact e2
          · cases h
        · rename_i h4
          split at h
          · cases h
          · rename_i h3o
            split at h
            · cases h
            · rename_i t k3 hq
              have hk3 := plcT_le (o := o) (by omega) hb.2.2.2.2 hq
              obtain ⟨us, hts, hw, hd, hl, hst⟩ := ih _ _ _ _ _ _ hk3.2 ho h
              obtain ⟨x, tx, li, rfl, hT, hLi, hdr, hbl, hbs⟩ : ∃ x tx li, t = .mk n kd x tx li ∧ WfT n kd x tx li ∧ WfL li ∧ deepR (63 - o) (.mk n kd x tx li) = false ∧ k' + (bodyN n kd x tx (encL li)).length ≤ k3 ∧ (st = true → k3 = k' + (bodyN n kd x tx (encL li)).length ∧ At s k' (bodyN n kd x tx (encL li))) := by
                by_cases h3 : kd = 3
                · subst h3
                  rw [if_pos rfl] at hq
                  generalize hr : recT s st 63 F n (o + 1) k' [] = r at hq
                  match r, hq with
                  | .inl (li, k4), hq =>
                    obtain ⟨rfl, rfl⟩ := Prod.mk.inj (Sum.inl.inj hq)
                    have ho1 : o + 1 ≤ 63 := by
                      have : ¬ ((o : Int) = 63) := fun q => h3o ⟨rfl, q⟩
                      omega
                    obtain ⟨us', hts', hw', hd', hl', hst'⟩ := ih _ _ _ _ _ _ hb.2.2.2.2 ho1 hr
                    rw [List.nil_append] at hts'
                    subst hts'
                    have he : endN n = vN (8 * n + 4) := by unfold endN; rw [if_neg (by omega)]
                    rw [he] at hl' hst'
                    refine ⟨0, .empty, li, rfl, ⟨⟨⟨hb.1, hb.2.1⟩, by decide, fun _ => rfl, fun q => absurd rfl q, fun _ => rfl, fun q => by omega⟩, by decide⟩, hw', ?_, hl', hst'⟩
                    have z : (63 - o == 0) = false := by simp; omega
                    rw [show 63 - (o + 1) = 63 - o - 1 by omega] at hd'
                    simp only [deepR, z, hd']
                    simp
                · rw [if_neg h3] at hq
                  generalize hr : bodyT s st n k' kd = r at hq
                  match r, hq with
                  | .inl (r', k4), hq =>
                    obtain ⟨rfl, rfl⟩ := Prod.mk.inj (Sum.inl.inj hq)
                    obtain ⟨x, tx, rfl, hT, g1, g2⟩ := bodyT_enc (encL []) ⟨hb.1, hb.2.1⟩ hb.2.2.1 h4 h3 hr
                    refine ⟨x, tx, [], rfl, hT, .nil, ?_, g1, g2⟩
                    have z : (kd == 3) = false := by simp [h3]
                    simp [deepR, z]
              refine ⟨.mk n kd x tx li :: us, by rw [hts, List.append_assoc, List.singleton_append], .cons hT hLi hw, ?_, ?_, fun hs => ?_⟩
              · show (deepR (63 - o) (.mk n kd x tx li) || deepL (63 - o) us) = false
                rw [hdr, hd]
                rfl
              · rw [encL, encR, List.append_assoc, List.append_assoc]
                simp only [List.length_append] at hl ⊢
                omega
              · obtain ⟨p1, p2⟩ := e2 hs
                obtain ⟨q1, q2⟩ := hbs hs
                obtain ⟨r1, r2⟩ := hst hs
                rw [encL, encR, List.append_assoc, List.append_assoc]
                refine ⟨?_, p2.app ?_⟩
                · simp only [List.length_append] at r1 ⊢
                  omega
                · rw [← p1]
                  refine q2.app ?_
                  rw [← q1]
                  exact r2
/-- From the top all is read. -/
theorem top_end (s : ByteArray) (st : Bool) : ∀ (F o k : Nat) (acc ts : List Rt) (k2 : Nat), k ≤ s.size → recT s st 63 F 0 o k acc = .inl (ts, k2) → k2 = s.size := by
  intro F
  induction F with
  | zero => intro o k acc ts k2 _ h; cases h
  | succ F ih =>
    intro o k acc ts k2 hk h
    rw [recT] at h
    split at h
    · rename_i hke
      obtain ⟨_, rfl⟩ := Prod.mk.inj (Sum.inl.inj h)
      exact hke
    · split at h
      · cases h
      · rename_i n kd k' ht
        have hb := tagR_lt ht
        split at h
        · split at h
          · omega
          · cases h
        · split at h
          · cases h
          · split at h
            · cases h
            · rename_i t k3 hq
              have hk3 := plcT_le (o := o) (by omega) hb.2.2.2.2 hq
              exact ih _ _ _ _ _ hk3.2 h
/-- What Split takes. -/
theorem run_dec {l : List Nat} {st : Bool} {ts : List Rt} {k2 : Nat} (hl : ∀ x ∈ l, x < 256) (h : runT (sOf l) st 63 ((sOf l).size + 1) (.inl (0, 0, [], [])) = .inl (ts, k2)) : WfL ts ∧ deepL 63 ts = false ∧ (encL ts).length ≤ l.length ∧ (st = true → encL ts = l) := by
  rw [recT_top (sOf l) st 63 (by decide) ((sOf l).size + 1) 0 _ [] (Nat.zero_le _) (by omega) (by omega)] at h
  obtain ⟨us, hts, hw, hd, h1, h2⟩ := recT_enc (sOf l) st _ _ _ _ _ _ _ (Nat.zero_le _) (Nat.zero_le _) h
  rw [List.nil_append] at hts
  subst hts
  have he : endN 0 = [] := rfl
  rw [he, List.append_nil, Nat.zero_add] at h1 h2
  have hk2 : k2 = l.length := by
    rw [← sOf_size l]
    exact top_end _ _ _ _ _ _ _ _ (Nat.zero_le _) h
  refine ⟨hw, hd, by omega, fun hs => ?_⟩
  obtain ⟨g1, g2⟩ := h2 hs
  exact at_eq hl g2 (by omega)
#print axioms run_dec
end Go.Proofs.YtobomdokdajbaaaDoor

namespace Go.Proofs.YtobomdokdajbaaaDoor
open Go.RowKit Go.Lib
attribute [local go_sem ↓] Go.wp_at_zero Go.wp_at_succ

def lenRen : Go.Shelf.Ren := ⟨fun | 129 => 93 | n => n, fun | 53 => 106 | 3 => 3 | 4 => 4 | 46 => 105 | 5 => 5 | 9 => 9 | n => n, fun | n => n⟩
theorem lenLays : Go.Proofs.Lays.n129 Tryd.prog lenRen := {
  mixed := by kernel_rfl
  f129 := Tryd.func93.trans (congrArg some (by kernel_rfl))
  t3 := Tryd.underlying3
  a3 := Tryd.isAgg3
  z3 := Tryd.sizeOf3
  v3 := Tryd.zeroValue3
  t4 := Tryd.underlying4
  a4 := Tryd.isAgg4
  z4 := Tryd.sizeOf4
  v4 := Tryd.zeroValue4
  t5 := Tryd.underlying5
  a5 := Tryd.isAgg5
  z5 := Tryd.sizeOf5
  v5 := Tryd.zeroValue5
  t9 := Tryd.underlying9
  a9 := Tryd.isAgg9
  z9 := Tryd.sizeOf9
  v9 := Tryd.zeroValue9
  t46 := Tryd.underlying105
  a46 := Tryd.isAgg105
  z46 := Tryd.sizeOf105
  v46 := Tryd.zeroValue105
  t53 := Tryd.underlying106
  a53 := Tryd.isAgg106
  z53 := Tryd.sizeOf106
  v53 := Tryd.zeroValue106 }
theorem len64_any (x : Int) (w : World) (h0 : 0 ≤ x) (h1 : x ≤ 18446744073709551615) :
    Calls Tryd.prog 93 #[.int .u64 x] w fun e w' => e = .returned (.int .i64 (Lib.bitLen x.toNat)) ∧ w' = w := Any.bits_Len64 lenLays x w h0 h1

theorem bitLen_uniq {n b : Nat} (hn : n ≠ 0) (h1 : n < 2 ^ b) (h2 : 2 ^ (b - 1) ≤ n) (hb : 1 ≤ b) : bitLen n = b := by
  obtain ⟨s1, s2⟩ := bitLen_spec n
  have s3 := s2 hn
  have a1 : bitLen n - 1 < b := (Nat.pow_lt_pow_iff_right (by decide)).1 (Nat.lt_of_le_of_lt s3 h1)
  have a2 : b - 1 < bitLen n := (Nat.pow_lt_pow_iff_right (by decide)).1 (Nat.lt_of_le_of_lt h2 s1)
  omega
theorem or_one (v : Nat) : v ||| 1 = 2 * (v / 2) + 1 := by
  have e : ∀ w : Nat, w % 2 = 0 → w ||| 1 = w + 1 := fun w hw => nat_join 1 w 1 (by simpa using hw) (by decide)
  rcases Nat.mod_two_eq_zero_or_one v with h | h
  · rw [e v h]; omega
  · obtain ⟨w, rfl, hw⟩ : ∃ w, v = w + 1 ∧ w % 2 = 0 := ⟨v - 1, by omega, by omega⟩
    rw [← e w hw, Nat.or_assoc, Nat.or_self, e w hw]
    omega
theorem bitLen_or (v : Nat) (hv : v ≠ 0) : bitLen (v ||| 1) = bitLen v := by
  obtain ⟨s1, s2⟩ := bitLen_spec v
  have s3 := s2 hv
  have hb : 1 ≤ bitLen v := by
    rcases Nat.eq_zero_or_pos (bitLen v) with h | h
    · rw [h] at s1; omega
    · exact h
  have hp : 2 ^ bitLen v = 2 * 2 ^ (bitLen v - 1) := by
    conv => lhs; rw [← Nat.sub_add_cancel hb]
    rw [Nat.pow_succ]; omega
  rw [or_one]
  refine bitLen_uniq (by omega) ?_ ?_ hb
  · omega
  · omega
/-- A varint has so many bytes as its bits ask for. -/
theorem vint_bits : ∀ (u : Nat), (bitLen (u ||| 1) + 6) / 7 = (vint u).length := by
  intro u
  induction u using Nat.strongRecOn with
  | _ u ih =>
    by_cases h : u ≤ 127
    · rw [vint, if_pos h]
      have hb : bitLen (u ||| 1) ≤ 7 ∧ 1 ≤ bitLen (u ||| 1) := by
        have h1 := or_one u
        obtain ⟨s1, s2⟩ := bitLen_spec (u ||| 1)
        have s3 := s2 (by omega)
        constructor
        · have : 2 ^ (bitLen (u ||| 1) - 1) < 2 ^ 7 := by have : (2 : Nat) ^ 7 = 128 := rfl; omega
          have := (Nat.pow_lt_pow_iff_right (by decide : 1 < 2)).1 this
          omega
        · rcases Nat.eq_zero_or_pos (bitLen (u ||| 1)) with h0 | h0
          · rw [h0] at s1; omega
          · exact h0
      simp
      omega
    · rw [vint, if_neg h]
      have hq : u / 128 ≠ 0 := by omega
      have e1 : (u ||| 1) / 2 ^ 7 = u / 128 := by rw [or_one]; have : (2 : Nat) ^ 7 = 128 := rfl; rw [this]; omega
      have e2 := bitLen_shift (u ||| 1) 7 (by rw [e1]; exact hq)
      rw [e1] at e2
      have e3 := ih (u / 128) (by omega)
      rw [bitLen_or _ hq] at e3
      simp only [List.length_cons]
      omega

theorem retI {a c : Int} (h1 : a = c) : Ending.returned (.int .i64 a) = .returned (.int .i64 c) := by rw [h1]
theorem bitLen_aux : ∀ (f x : Nat), x < 2 ^ f → Lib.bitLenAux f x = Go.bitLen x
  | 0, x, h => by
    have : x = 0 := by simpa using h
    subst this
    rfl
  | f + 1, x, h => by
    rcases Nat.eq_zero_or_pos x with rfl | hx
    · simp [Lib.bitLenAux, Go.bitLen]
    · have h2 : x / 2 < 2 ^ f := by rw [Nat.pow_succ] at h; omega
      have ih := bitLen_aux f (x / 2) h2
      by_cases h1 : x / 2 = 0
      · have : x = 1 := by omega
        subst this
        simp [Lib.bitLenAux, ih, Go.bitLen]
        decide
      · have e := bitLen_shift x 1 (by simpa using h1)
        simp at e
        have hx0 : x ≠ 0 := by omega
        simp [Lib.bitLenAux, hx0, ih, e]
        try omega
theorem libLen {x : Nat} (h : x < 18446744073709551616) : Lib.bitLen x = Go.bitLen x := bitLen_aux 64 x (by simpa using h)
theorem size_val (b : Nat) (h : b ≤ 71) : wrap64 ((wrap64 ((b : Int) + 6)).tdiv 7) = (((b + 6) / 7 : Nat) : Int) := by
  have e1 : wrap64 ((b : Int) + 6) = (b : Int) + 6 := by rw [wrap64_eq]; omega
  rw [e1, Int.tdiv_eq_ediv_of_nonneg (by clear e1; omega), wrap64_eq]
  clear e1
  omega
theorem sizeVarint_any (W : World) (x : Int) (u : Nat) (hu : IntKind.u64.wrap x = (u : Int)) (hu2 : u < 18446744073709551616) :
    Calls Tryd.prog 65 #[.int .i64 x] W fun e W' => e = .returned (.int .i64 ((vint u).length : Int)) ∧ W' = W := by
  have hor : bits BinOp.or IntKind.u64 (u : Int) 1 = ((u ||| 1 : Nat) : Int) := by have := u64_or_nat u 1 hu2 (by decide); simpa using this
  have h1 : (u ||| 1) < 18446744073709551616 := by rw [or_one]; omega
  have hv := vint_bits u
  have hb := vint_ten hu2
  go_enter Tryd.func65, Tryd.ntmps65
  go_wp2_with fail
  refine (len64_any ((u ||| 1 : Nat) : Int) W (by omega) (by omega)).mono ?_
  rintro e w' ⟨rfl, he⟩
  obtain rfl : W = w' := he.symm
  rw [Int.toNat_natCast, libLen h1]
  have hb7 : Go.bitLen (u ||| 1) ≤ 71 := by omega
  have hval := size_val (Go.bitLen (u ||| 1)) hb7
  rw [hv] at hval
  clear hor h1 hu hv hb hb7
  go_wp2
  go_ret
  exact ⟨retI hval, rfl⟩
end Go.Proofs.YtobomdokdajbaaaDoor

namespace Go.Proofs.YtobomdokdajbaaaDoor
open Go.RowKit
attribute [local go_sem ↓] Go.wp_at_zero Go.wp_at_succ

set_option maxRecDepth 100000 in
set_option maxHeartbeats 2000000 in
theorem sizeTag_any (W : World) (n : Nat) (hn : n ≤ 536870911) : Calls Tryd.prog 64 #[.int .i64 (n : Int)] W fun e W' => e = .returned (.int .i64 (((vint (8 * n)).length : Nat) : Int)) ∧ W' = W := by
  obtain ⟨m, hm⟩ : ∃ m, 8 * n = m := ⟨_, rfl⟩
  have h1 : (n : Int) * 8 = (m : Int) := by omega
  have h2 : wrap64 (m : Int) = (m : Int) := wrap64_id (by omega) (by omega)
  have h3 : IntKind.i64.wrap (m : Int) = (m : Int) := by rw [IntKind.wrap_i64]; omega
  have Hs := hide (sizeVarint_any W (m : Int) m (by rw [wrapu_eq]; omega) (by omega))
  rw [hm]
  clear hm hn
  go_enter Tryd.func64, Tryd.ntmps64
  go_wp2_with fail
  refine (unhide Hs).mono ?_
  rintro e w1 ⟨rfl, hw⟩
  subst hw
  go_wp2
  go_ret
  exact ⟨rfl, rfl⟩
set_option maxRecDepth 100000 in
set_option maxHeartbeats 2000000 in
theorem size0 {W : World} {nb : Nat} {x : Int} {t : ByteArray} {ia : Option Addr} {il ic : Nat} (hx : -9223372036854775808 ≤ x ∧ x ≤ 9223372036854775807) :
    Calls Tryd.prog 72 #[.agg #[.int .i64 (nb : Int), .int .i64 0, .int .i64 x, .string t, .slice ia il ic]] W fun e W' => e = .returned (.int .i64 (((vint (un x)).length : Nat) : Int)) ∧ Below W.heap.size W W' := by
  have HB : Hid (Below W.heap.size W (W.alloc (.cells #[.int .i64 (nb : Int), .int .i64 0, .int .i64 x, .string t, .slice ia il ic] 35))) := (Below.refl _ _).alloc (Nat.le_refl _) _
  have Hs := hide (sizeVarint_any (W.alloc (.cells #[.int .i64 (nb : Int), .int .i64 0, .int .i64 x, .string t, .slice ia il ic] 35)) x (un x) (un_wrap x) (un_lt x))
  have _ := hx
  go_enter Tryd.func72, Tryd.ntmps72
  go_wp2_with fail
  refine (unhide Hs).mono ?_
  rintro e w1 ⟨rfl, hw⟩
  subst hw
  go_wp2
  go_ret
  exact ⟨rfl, unhide HB⟩
set_option maxRecDepth 100000 in
theorem size1 {W : World} {x0 x1 x2 : Int} {t : ByteArray} {ia : Option Addr} {il ic : Nat} : Calls Tryd.prog 77 #[.agg #[.int .i64 x0, .int .i64 x1, .int .i64 x2, .string t, .slice ia il ic]] W fun e W' => e = .returned (.int .i64 8) ∧ Below W.heap.size W W' := by
  go_enter Tryd.func77, Tryd.ntmps77
  go_wp2
  go_ret
  exact ⟨rfl, (Below.refl _ _).alloc (Nat.le_refl _) _⟩
set_option maxRecDepth 100000 in
theorem size5 {W : World} {x0 x1 x2 : Int} {t : ByteArray} {ia : Option Addr} {il ic : Nat} : Calls Tryd.prog 90 #[.agg #[.int .i64 x0, .int .i64 x1, .int .i64 x2, .string t, .slice ia il ic]] W fun e W' => e = .returned (.int .i64 4) ∧ Below W.heap.size W W' := by
  go_enter Tryd.func90, Tryd.ntmps90
  go_wp2
  go_ret
  exact ⟨rfl, (Below.refl _ _).alloc (Nat.le_refl _) _⟩
end Go.Proofs.YtobomdokdajbaaaDoor
