import Derived.Test.YtobomdokdajbaaaDoorJ28

namespace Go.Proofs.YtobomdokdajbaaaDoor
open Go.RowKit

/-- What strict reading takes, loose reading takes alike. -/
theorem vGo_loose (s : ByteArray) : ∀ (f i k v : Nat) (x : Nat × Nat), vGo s true f i k v = .inl x → vGo s false f i k v = .inl x := by
  intro f
  induction f with
  | zero => intro i k v x h; cases h
  | succ f ih =>
    intro i k v x h
    rw [vGo] at h ⊢
    by_cases hk : k < s.size
    · rw [if_pos hk] at h ⊢
      by_cases h1 : i = 9 ∧ 1 < bAt s k
      · rw [if_pos h1] at h; cases h
      · rw [if_neg h1] at h ⊢
        by_cases h2 : 127 < bAt s k
        · rw [if_pos h2] at h ⊢
          exact ih _ _ _ _ h
        · rw [if_neg h2] at h ⊢
          by_cases h3 : (true = true ∧ 0 < i ∧ bAt s k = 0)
          · rw [if_pos h3] at h; cases h
          · rw [if_neg h3] at h
            rw [if_neg (by simp)]
            exact h
    · rw [if_neg hk] at h; cases h
theorem vAt_loose {s : ByteArray} {k : Nat} {x : Nat × Nat} (h : vAt s true k = .inl x) : vAt s false k = .inl x := vGo_loose s _ _ _ _ _ h
theorem tAt_loose {s : ByteArray} {k : Nat} {x : ByteArray × Nat} (h : tAt s true k = .inl x) : tAt s false k = .inl x := by
  unfold tAt at h ⊢
  generalize hv : vAt s true k = r at h
  match r, h with
  | .inl (u, k'), h =>
    rw [vAt_loose hv]
    exact h
theorem tagR_loose {s : ByteArray} {k : Nat} {x : Nat × Nat × Nat} (h : tagR s true k = .inl x) : tagR s false k = .inl x := by
  unfold tagR at h ⊢
  generalize hv : vAt s true k = r at h
  match r, h with
  | .inl (u, k'), h =>
    rw [vAt_loose hv]
    exact h
theorem bodyT_loose {s : ByteArray} {n k kd : Nat} {x : Rt × Nat} (h : bodyT s true n k kd = .inl x) : bodyT s false n k kd = .inl x := by
  unfold bodyT at h ⊢
  by_cases h0 : kd = 0
  · rw [if_pos h0] at h ⊢
    generalize hv : vAt s true k = r at h
    match r, h with
    | .inl (u, k'), h =>
      rw [vAt_loose hv]
      exact h
  · rw [if_neg h0] at h ⊢
    by_cases h1 : kd = 1
    · rw [if_pos h1] at h ⊢
      exact h
    · rw [if_neg h1] at h ⊢
      by_cases h2 : kd = 2
      · rw [if_pos h2] at h ⊢
        generalize hv : tAt s true k = r at h
        match r, h with
        | .inl (u, k'), h =>
          rw [tAt_loose hv]
          exact h
      · rw [if_neg h2] at h ⊢
        exact h
theorem recT_loose (s : ByteArray) (most : Int) : ∀ (F g o k : Nat) (acc : List Rt) (x : List Rt × Nat), recT s true most F g o k acc = .inl x → recT s false most F g o k acc = .inl x := by
  intro F
  induction F with
  | zero => intro g o k acc x h; cases h
  | succ F ih =>
    intro g o k acc x h
    rw [recT] at h ⊢
    by_cases hk : k = s.size
    · rw [if_pos hk] at h ⊢
      exact h
    · rw [if_neg hk] at h ⊢
      generalize ht : tagR s true k = r at h
      match r, h with
      | .inl (n, kd, k'), h =>
        rw [tagR_loose ht]
        replace h : (if kd = 4 then (if n = g then .inl (acc, k') else .inr (25, k)) else if kd = 3 ∧ (o : Int) = most then .inr (4, k) else match (if kd = 3 then grpT n (recT s true most F n (o + 1) k' []) else plcT k' (bodyT s true n k' kd)) with | .inr x => .inr x | .inl (t, k2) => recT s true most F g o k2 (acc ++ [t]) : (List Rt × Nat) ⊕ (Nat × Nat)) = .inl x := h
        show (if kd = 4 then (if n = g then .inl (acc, k') else .inr (25, k)) else if kd = 3 ∧ (o : Int) = most then .inr (4, k) else match (if kd = 3 then grpT n (recT s false most F n (o + 1) k' []) else plcT k' (bodyT s false n k' kd)) with | .inr x => .inr x | .inl (t, k2) => recT s false most F g o k2 (acc ++ [t]) : (List Rt × Nat) ⊕ (Nat × Nat)) = .inl x
        by_cases h4 : kd = 4
        · rw [if_pos h4] at h ⊢
          exact h
        · rw [if_neg h4] at h ⊢
          by_cases h3 : kd = 3 ∧ (o : Int) = most
          · rw [if_pos h3] at h; cases h
          · rw [if_neg h3] at h ⊢
            by_cases k3 : kd = 3
            · rw [if_pos k3] at h ⊢
              generalize hr : recT s true most F n (o + 1) k' [] = r at h
              match r, h with
              | .inl (ts, k2), h =>
                rw [ih _ _ _ _ _ hr]
                exact ih _ _ _ _ _ h
            · rw [if_neg k3] at h ⊢
              generalize hr : bodyT s true n k' kd = r at h
              match r, h with
              | .inl (t, k2), h =>
                rw [bodyT_loose hr]
                exact ih _ _ _ _ _ h
end Go.Proofs.YtobomdokdajbaaaDoor

namespace Go.Proofs.YtobomdokdajbaaaDoor
open Go.RowKit
attribute [local go_sem ↓] Go.wp_at_zero Go.wp_at_succ

/-- Not too many records, the inner ones too. -/
inductive SmT : List Rt → Prop
  | mk (ts : List Rt) (h : ts.length ≤ 1099511627776) (hi : ∀ (i : Nat) (t : Rt), ts[i]? = some t → SmT t.inner) : SmT ts
theorem SmT.len {ts : List Rt} (h : SmT ts) : ts.length ≤ 1099511627776 := by cases h with | mk _ h _ => exact h
theorem SmT.inner {ts : List Rt} (h : SmT ts) {i : Nat} {t : Rt} (ht : ts[i]? = some t) : SmT t.inner := by cases h with | mk _ _ hi => exact hi i t ht
theorem SmT.nil : SmT [] := .mk _ (by simp) (fun i t h => by simp at h)
theorem SmT.push {ts : List Rt} {t : Rt} (h : SmT ts) (ht : SmT t.inner) (hl : ts.length < 1099511627776) : SmT (ts ++ [t]) := by
  refine .mk _ (by rw [List.length_append, List.length_singleton]; omega) fun i x hx => ?_
  by_cases hi : i < ts.length
  · rw [List.getElem?_append_left hi] at hx
    exact h.inner hx
  · rw [List.getElem?_append_right (by omega)] at hx
    have hi2 := (List.getElem?_eq_some_iff.1 hx).1
    simp at hi2
    have e : i - ts.length = 0 := by omega
    rw [e] at hx
    simp at hx
    subst hx
    exact ht
theorem bodyT_inner {s : ByteArray} {st : Bool} {n k kd k2 : Nat} {t : Rt} (h : bodyT s st n k kd = .inl (t, k2)) : t.inner = [] := by
  unfold bodyT at h
  split at h
  · exact numT_inner h
  · split at h
    · exact numT_inner h
    · split at h
      · exact texT_inner h
      · exact numT_inner h
/-- What is read has no more records than bytes. -/
theorem recT_sm (s : ByteArray) (st : Bool) (most : Int) (hs : s.size ≤ 1048576) : ∀ (F g o k : Nat) (acc ts : List Rt) (k2 : Nat), k ≤ s.size → acc.length ≤ k → SmT acc → recT s st most F g o k acc = .inl (ts, k2) → SmT ts := by
  intro F
  induction F with
  | zero => intro g o k acc ts k2 _ _ _ h; cases h
  | succ F ih =>
    intro g o k acc ts k2 hk hl ha h
    rw [recT] at h
    split at h
    · split at h
      · obtain ⟨rfl, _⟩ := Prod.mk.inj (Sum.inl.inj h); exact ha
      · cases h
    · split at h
      · cases h
      · rename_i n kd k' ht
        have hb := tagR_lt ht
        split at h
        · split at h
          · obtain ⟨rfl, _⟩ := Prod.mk.inj (Sum.inl.inj h); exact ha
          · cases h
        · split at h
          · cases h
          · split at h
            · cases h
            · rename_i t k3 hq
              have hk3 := plcT_le (o := o) (by omega) hb.2.2.2.2 hq
              refine ih _ _ _ _ _ _ hk3.2 (by rw [List.length_append, List.length_singleton]; omega) (ha.push ?_ (by omega)) h
              split at hq
              · generalize hr : recT s st most F n (o + 1) k' [] = r at hq
                match r, hq with
                | .inl (ts', k4), hq =>
                  cases hq
                  exact ih _ _ _ _ _ _ hb.2.2.2.2 (Nat.zero_le _) .nil hr
              · generalize hr : bodyT s st n k' kd = r at hq
                match r, hq with
                | .inl (t', k4), hq =>
                  cases hq
                  rw [bodyT_inner hr]
                  exact .nil
/-- The record is behind the others, over memory that is new. -/
theorem own_push2 {wr w3 w4 : World} {n m nb kd : Nat} {x : Int} {t : ByteArray} {u u' y : Value} {acc li : List Rt} {us : List Value} (l1 : acc.length = us.length) (l3 : ∀ (i : Nat) (t : Rt) (z : Value), acc[i]? = some t → us[i]? = some z → HasRt wr (PW n u) z t.inner) (hm : acc.length = m)
    (hown : w4.ownsRow n 35 5 u' (m + 1) (rowC acc us ++ [.int .i64 (nb : Int), .int .i64 (kd : Int), .int .i64 x, .string t, y])) (hB : Below wr.heap.size wr w3) (hg : w3.grownBy w4 u.ownBlock) (hat : u'.ownBlock = u.ownBlock ∨ u'.ownBlock = some w3.heap.size) (hlt : ∀ q, u.ownBlock = some q → q < wr.heap.size) (hn : n ≤ wr.heap.size) (hli : HasRt w3 (fun g => wr.heap.size ≤ g) y li) :
    OwnL w4 n (PW n u') u' (acc ++ [.mk nb kd x t li]) := by
  have hz := hB.size
  have hgz := hg.size
  have hnew : ∀ q, q < w3.heap.size → some q ≠ u.ownBlock → some q ≠ u'.ownBlock := fun q hq hne => by
    rcases hat with p | p
    · rw [p]; exact hne
    · rw [p]; intro e; have := Option.some.inj e; omega
  refine OwnL.push (W := wr) (P := PW n u) (fun g hg1 hp => ⟨⟨hp.1, hnew g (by omega) hp.2⟩, (hg.block g (by omega) hp.2).trans (hB.block g hg1)⟩) (by omega) l1 l3 (by rw [hm]; exact hown) ?_
  refine hli.mono (fun g hg1 hp => ?_) hgz
  have hp' : wr.heap.size ≤ g := hp
  have hne : some g ≠ u.ownBlock := fun e => by have := hlt g e.symm; omega
  exact ⟨⟨by omega, hnew g hg1 hne⟩, hg.block g hg1 hne⟩
end Go.Proofs.YtobomdokdajbaaaDoor

namespace Go.Proofs.YtobomdokdajbaaaDoor
open Go.RowKit
attribute [local go_sem ↓] Go.wp_at_zero Go.wp_at_succ

mutual
/-- Too deep, a record. -/
def deepR (d : Nat) : Rt → Bool
  | .mk _ kd _ _ li => (kd == 3 || decide (li.length ≠ 0)) && (d == 0 || deepL (d - 1) li)
/-- Too deep, records. -/
def deepL (d : Nat) : List Rt → Bool
  | [] => false
  | t :: ts => deepR d t || deepL d ts
end
theorem deepL_append (d : Nat) : ∀ a b : List Rt, deepL d (a ++ b) = (deepL d a || deepL d b)
  | [], b => by simp [deepL]
  | t :: a, b => by
    show (deepR d t || deepL d (a ++ b)) = ((deepR d t || deepL d a) || deepL d b)
    rw [deepL_append d a b, Bool.or_assoc]
theorem deepL_at {d : Nat} {ts : List Rt} {i : Nat} {t : Rt} (h : ts[i]? = some t) (hd : deepR d t = true) : deepL d ts = true := by
  have hi := (List.getElem?_eq_some_iff.1 h).1
  have e : ts = ts.take i ++ t :: ts.drop (i + 1) := by
    have q := (List.take_append_drop i ts).symm
    rw [List.drop_eq_getElem_cons hi] at q
    have : ts[i] = t := by rw [List.getElem?_eq_getElem hi] at h; exact Option.some.inj h
    rw [this] at q
    exact q
  rw [e, deepL_append]
  show (_ || (deepR d t || _)) = true
  rw [hd]
  simp
set_option maxRecDepth 100000 in
set_option maxHeartbeats 4000000 in
theorem tooDeep_rt {W : World} {P : Nat → Prop} {v : Value} {ts : List Rt} (h : HasRt W P v ts) : ∀ (d : Nat), d ≤ 1048576 → ∀ w0, Below W.heap.size W w0 → Calls Tryd.prog 37 #[v, .int .i64 (d : Int)] w0 fun e W' => e = .returned (.bool (deepL d ts)) ∧ Below w0.heap.size w0 W' := by
  induction h with
  | nil a c =>
    intro d _ w0 _
    go_enter Tryd.func37, Tryd.ntmps37
    go_wp2
    refine wp_loop_rounds 1 ?_
    rw [rounds_succ]
    go_wp2
    go_ret
    exact ⟨rfl, Below.refl _ _⟩
  | row g n c ts us hp hn hm hg hc hi ih =>
    intro d hdm w0 hw0
    unfold maxLen at hm
    have Hc := hide hc
    have Hih := hide ih
    have Hi := hide hi
    have Hn := hide hn
    have Hw0 := hide hw0
    clear hc ih hi hn hp hw0
    obtain ⟨D, hD⟩ : ∃ D, deepL d ts = D := ⟨_, rfl⟩
    rw [hD]
    have HD := hide hD
    clear hD
    go_enter Tryd.func37, Tryd.ntmps37
    go_wp2
    go_loopg [9] n (fun gk v9 wr => ∃ (i : Nat), v9 = .int .i64 (i : Int) ∧ gk = n - i ∧ i ≤ n ∧ Hid (deepL d (ts.take i) = false) ∧ Hid (Below w0.heap.size w0 wr))
    case atStart => exact ⟨0, rfl, rfl, Nat.zero_le _, rfl, Below.refl _ _⟩
    case round =>
      obtain ⟨i, rfl, hgk, hin, HF, HB⟩ := hrel
      have Hgk := hide hgk
      clear hgk
      by_cases hlt : i < n
      · obtain ⟨r, hr⟩ : ∃ r, ts[i]? = some r := ⟨_, List.getElem?_eq_getElem (by rw [unhide Hn]; exact hlt)⟩
        have hBW : Below W.heap.size W wr := (unhide Hw0).trans ((unhide HB).mono (unhide Hw0).size)
        have hcs := unhide Hc i r hr
        obtain ⟨ia, ic, eu⟩ := (unhide Hi i r hr).form
        have hcall := unhide Hih i r hr
        rw [eu] at hcs hcall
        have hnx : deepL d (ts.take (i + 1)) = deepR d r := by
          rw [List.take_add_one, hr, deepL_append, unhide HF]
          show (false || (deepR d r || false)) = deepR d r
          simp
        have hyes : deepR d r = true → D = true := fun q => by rw [← unhide HD]; exact deepL_at hr q
        obtain ⟨nb, kd, x, t, li⟩ := r
        replace hcall : ∀ (d : Nat), d ≤ 1048576 → ∀ w0, Below W.heap.size W w0 → Calls Tryd.prog 37 #[.slice ia li.length ic, .int .i64 (d : Int)] w0 fun e W' => e = .returned (.bool (deepL d li)) ∧ Below w0.heap.size w0 W' := hcall
        have d0 := (hBW.cell (p := ⟨g, i * 5, none⟩) hg).trans (hcs 0 _ rfl)
        have d1 := (hBW.cell (p := ⟨g, i * 5 + 1, none⟩) hg).trans (hcs 1 _ rfl)
        have d2 := (hBW.cell (p := ⟨g, i * 5 + 2, none⟩) hg).trans (hcs 2 _ rfl)
        have d3 := (hBW.cell (p := ⟨g, i * 5 + 3, none⟩) hg).trans (hcs 3 _ rfl)
        have d4 : wr.cell? ⟨g, i * 5 + 4, none⟩ = some (.slice ia li.length ic) := (hBW.cell (p := ⟨g, i * 5 + 4, none⟩) hg).trans (hcs 4 _ rfl)
        have hj0 : (0 : Int) ≤ (i : Int) := Int.natCast_nonneg _
        have hj1 : (i : Int) < (n : Int) := by omega
        have hdr : deepR d (.mk nb kd x t li) = ((kd == 3 || decide (li.length ≠ 0)) && (d == 0 || deepL (d - 1) li)) := by rw [deepR]
        rw [hdr] at hnx hyes
        have Hnx := hide hnx
        have Hyes := hide hyes
        have HBA : Hid (∀ o, Below w0.heap.size w0 (wr.alloc o)) := fun o => (unhide HB).alloc (unhide HB).size _
        have HBW := hide hBW
        have Hcall := hide hcall
        clear hcs eu hcall hBW hr hnx hyes hdr
        by_cases hpl : kd ≠ 3 ∧ li.length = 0
        · have e3 : ((kd : Int) != 3) = true := by simp; omega
          have e4 : ((li.length : Int) == 0) = true := by rw [hpl.2]; rfl
          have hF2 : deepL d (ts.take (i + 1)) = false := by rw [unhide Hnx]; simp [hpl.1, hpl.2]
          have HF2 := hide hF2
          clear hF2 hpl Hnx Hyes Hcall
          go_wp2
          go_roundg (n - (i + 1))
          case measure => have := unhide Hgk; omega
          case rel => exact ⟨i + 1, by go_num, rfl, by omega, HF2, unhide HBA _⟩
        · have h34 : ((kd : Int) != 3) = false ∨ (((kd : Int) != 3) = true ∧ ((li.length : Int) == 0) = false) := by
            by_cases q : kd = 3
            · exact .inl (by rw [q]; rfl)
            · exact .inr ⟨by simp; omega, beq_eq_false_iff_ne.2 (by omega)⟩
          have hg3 : (kd == 3 || decide (li.length ≠ 0)) = true := by
            by_cases q : kd = 3
            · simp [q]
            · have : li.length ≠ 0 := by omega
              simp [this]
          rw [hg3, Bool.true_and] at Hnx Hyes
          by_cases hd0 : d = 0
          · have e5 : ((d : Int) == 0) = true := by rw [hd0]; rfl
            have hDt : D = true := unhide Hyes (by simp [hd0])
            subst hDt
            clear Hnx Hyes Hcall hpl hg3
            rcases h34 with q3 | ⟨q3, q4⟩
            all_goals (
              go_wp2
              go_ret
              exact ⟨rfl, unhide HBA _⟩)
          · have e5 : ((d : Int) == 0) = false := beq_eq_false_iff_ne.2 (by omega)
            obtain ⟨d', hd'⟩ : ∃ d', d - 1 = d' := ⟨_, rfl⟩
            have e6 : (d : Int) - 1 = (d' : Int) := by omega
            have hb0 : (d == 0) = false := by simp [hd0]
            rw [hb0, Bool.false_or, hd'] at Hnx Hyes
            have HBW2 : Hid (∀ o, Below W.heap.size W (wr.alloc o)) := fun o => (unhide HBW).alloc (unhide HBW).size _
            have hdm' : d' ≤ 1048576 := by omega
            clear hd' hb0 hpl hg3
            rcases h34 with q3 | ⟨q3, q4⟩
            all_goals (
              go_wp2_with fail
              refine (unhide Hcall d' hdm' _ (unhide HBW2 _)).mono ?_
              rintro e w2 ⟨rfl, hb2⟩
              have HB2 : Hid (Below w0.heap.size w0 w2) := (unhide HBA _).trans (hb2.mono (unhide HBA _).size)
              clear hb2
              cases hdl : deepL d' li with
              | true =>
                have hDt : D = true := unhide Hyes hdl
                subst hDt
                clear hdl
                go_wp2
                go_ret
                exact ⟨rfl, unhide HB2⟩
              | false =>
                have HF2 : Hid (deepL d (ts.take (i + 1)) = false) := (unhide Hnx).trans hdl
                clear hdl
                go_wp2
                go_roundg (n - (i + 1))
                case measure => have := unhide Hgk; omega
                case rel => exact ⟨i + 1, by go_num, rfl, by omega, HF2, HB2⟩)
      · obtain rfl : i = n := by omega
        have hDf : D = false := by rw [← unhide HD, ← unhide HF, List.take_of_length_le (by rw [unhide Hn]; exact Nat.le_refl _)]
        subst hDf
        go_wp2
        go_ret
        exact ⟨rfl, unhide HB⟩
#print axioms tooDeep_rt
end Go.Proofs.YtobomdokdajbaaaDoor
