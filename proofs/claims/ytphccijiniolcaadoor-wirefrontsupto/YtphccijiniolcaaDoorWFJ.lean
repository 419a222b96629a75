import Derived.Test.YtphccijiniolcaaDoorWSP
namespace Go.Proofs.YtphccijiniolcaaDoor
open Go.RowKit
attribute [local go_sem ↓] Go.wp_at_zero Go.wp_at_succ

/-- Not too many records, the inner ones too. -/
inductive SmT : List Rt → Prop
  | mk (ts : List Rt) (h : ts.length ≤ 1099511627776) (hi : ∀ (i : Nat) (t : Rt), ts[i]? = some t → SmT t.inner) : SmT ts
theorem SmT.len {ts : List Rt} (h : SmT ts) : ts.length ≤ 1099511627776 := by cases h with | mk _ h _ => exact h
theorem SmT.inner {ts : List Rt} (h : SmT ts) {i : Nat} {t : Rt} (ht : ts[i]? = some t) : SmT t.inner := by cases h with | mk _ _ hi => exact hi i t ht
theorem SmT.nil : SmT [] := .mk _ (by simp) (fun i t h => by simp at h)
theorem SmT.push {ts : List Rt} {t : Rt} (h : SmT ts) (ht : SmT t.inner) (hl : ts.length < 1099511627776) : SmT (ts ++ [t]) := by
  refine .mk _ (by rw [List.length_append, List.length_singleton]; omega) fun i x hx => ?_
  by_cases hi : i < ts.length
  · rw [List.getElem?_append_left hi] at hx
    exact h.inner hx
  · rw [List.getElem?_append_right (by omega)] at hx
    have hi2 := (List.getElem?_eq_some_iff.1 hx).1
    simp at hi2
    have e : i - ts.length = 0 := by omega
    rw [e] at hx
    simp at hx
    subst hx
    exact ht
theorem bodyT_inner {s : ByteArray} {st : Bool} {n k kd k2 : Nat} {t : Rt} (h : bodyT s st n k kd = .inl (t, k2)) : t.inner = [] := by
  unfold bodyT at h
  split at h
  · exact numT_inner h
  · split at h
    · exact numT_inner h
    · split at h
      · exact texT_inner h
      · exact numT_inner h
/-- What is read has no more records than bytes. -/
theorem recT_sm (s : ByteArray) (st : Bool) (most : Int) (hs : s.size ≤ 1048576) : ∀ (F g o k : Nat) (acc ts : List Rt) (k2 : Nat), k ≤ s.size → acc.length ≤ k → SmT acc → recT s st most F g o k acc = .inl (ts, k2) → SmT ts := by
  intro F
  induction F with
  | zero => intro g o k acc ts k2 _ _ _ h; cases h
  | succ F ih =>
    intro g o k acc ts k2 hk hl ha h
    rw [recT] at h
    split at h
    · split at h
      · obtain ⟨rfl, _⟩ := Prod.mk.inj (Sum.inl.inj h); exact ha
      · cases h
    · split at h
      · cases h
      · rename_i n kd k' ht
        have hb := tagR_lt ht
        split at h
        · split at h
          · obtain ⟨rfl, _⟩ := Prod.mk.inj (Sum.inl.inj h); exact ha
          · cases h
        · split at h
          · cases h
          · split at h
            · cases h
            · rename_i t k3 hq
              have hk3 := plcT_le (o := o) (by omega) hb.2.2.2.2 hq
              refine ih _ _ _ _ _ _ hk3.2 (by rw [List.length_append, List.length_singleton]; omega) (ha.push ?_ (by omega)) h
              split at hq
              · generalize hr : recT s st most F n (o + 1) k' [] = r at hq
                match r, hq with
                | .inl (ts', k4), hq =>
                  cases hq
                  exact ih _ _ _ _ _ _ hb.2.2.2.2 (Nat.zero_le _) .nil hr
              · generalize hr : bodyT s st n k' kd = r at hq
                match r, hq with
                | .inl (t', k4), hq =>
                  cases hq
                  rw [bodyT_inner hr]
                  exact .nil
/-- The record is behind the others, over memory that is new. -/
theorem own_push2 {wr w3 w4 : World} {n m nb kd : Nat} {x : Int} {t : ByteArray} {u u' y : Value} {acc li : List Rt} {us : List Value} (l1 : acc.length = us.length) (l3 : ∀ (i : Nat) (t : Rt) (z : Value), acc[i]? = some t → us[i]? = some z → HasRt wr (PW n u) z t.inner) (hm : acc.length = m)
    (hown : w4.ownsRow n 45 5 u' (m + 1) (rowC acc us ++ [.int .i64 (nb : Int), .int .i64 (kd : Int), .int .i64 x, .string t, y])) (hB : Below wr.heap.size wr w3) (hg : w3.grownBy w4 u.ownBlock) (hat : u'.ownBlock = u.ownBlock ∨ u'.ownBlock = some w3.heap.size) (hlt : ∀ q, u.ownBlock = some q → q < wr.heap.size) (hn : n ≤ wr.heap.size) (hli : HasRt w3 (fun g => wr.heap.size ≤ g) y li) :
    OwnL w4 n (PW n u') u' (acc ++ [.mk nb kd x t li]) := by
  have hz := hB.size
  have hgz := hg.size
  have hnew : ∀ q, q < w3.heap.size → some q ≠ u.ownBlock → some q ≠ u'.ownBlock := fun q hq hne => by
    rcases hat with p | p
    · rw [p]; exact hne
    · rw [p]; intro e; have := Option.some.inj e; omega
  refine OwnL.push (W := wr) (P := PW n u) (fun g hg1 hp => ⟨⟨hp.1, hnew g (by omega) hp.2⟩, (hg.block g (by omega) hp.2).trans (hB.block g hg1)⟩) (by omega) l1 l3 (by rw [hm]; exact hown) ?_
  refine hli.mono (fun g hg1 hp => ?_) hgz
  have hp' : wr.heap.size ≤ g := hp
  have hne : some g ≠ u.ownBlock := fun e => by have := hlt g e.symm; omega
  exact ⟨⟨by omega, hnew g hg1 hne⟩, hg.block g hg1 hne⟩
set_option maxRecDepth 100000 in
set_option maxHeartbeats 4000000 in
/-- A deep copy of records. -/
theorem twin_rt {W : World} {P : Nat → Prop} {v : Value} {ts : List Rt} (h : HasRt W P v ts) : SmT ts → ∀ w0, Below W.heap.size W w0 → Calls Tryd.prog 14 #[v] w0 fun e W' => ∃ a c, e = .returned (.slice a ts.length c) ∧ HasRt W' (fun g => w0.heap.size ≤ g) (.slice a ts.length c) ts ∧ Below w0.heap.size w0 W' := by
  induction h with
  | nil a c =>
    intro _ w0 _
    go_enter Tryd.func14, Tryd.ntmps14
    go_wp2
    refine wp_loop_rounds 1 ?_
    rw [rounds_succ]
    go_wp2
    go_ret
    exact ⟨none, 0, rfl, .nil _ _, Below.refl _ _⟩
  | row g n c ts us hp hn hm hg hc hi ih =>
    intro hsm w0 hw0
    obtain ⟨i0, hi0', hz0, hz1, hz2⟩ := info_parts Tryd.infoRec
    have hnl := hsm.len
    rw [hn] at hnl
    have Hc := hide hc
    have Hih := hide ih
    have Hi := hide hi
    have Hn := hide hn
    have Hw0 := hide hw0
    have Hsm := hide hsm
    have H0 : Hid (OwnL w0 w0.heap.size (PW w0.heap.size (.slice none 0 0)) (.slice none 0 0) (ts.take 0)) := OwnL.nil _ _ _
    clear hc ih hi hn hp hw0 hm hsm
    go_enter Tryd.func14, Tryd.ntmps14
    go_wp2
    go_loopg [3, 4] n (fun gk v3 v4 wr => ∃ (i : Nat) (ya : Option Addr) (yc : Nat), v3 = .slice ya i yc ∧ v4 = .int .i64 (i : Int) ∧ gk = n - i ∧ i ≤ n ∧ Hid (OwnL wr w0.heap.size (PW w0.heap.size (.slice ya i yc)) (.slice ya i yc) (ts.take i)) ∧ Hid (Below w0.heap.size w0 wr))
    case atStart => exact ⟨0, none, 0, rfl, rfl, rfl, Nat.zero_le _, H0, Below.refl _ _⟩
    case round =>
      obtain ⟨i, ya, yc, rfl, rfl, hgk, hin, HO, HB⟩ := hrel
      have Hgk := hide hgk
      clear hgk H0
      by_cases hlt : i < n
      · obtain ⟨r, hr⟩ : ∃ r, ts[i]? = some r := ⟨_, List.getElem?_eq_getElem (by rw [unhide Hn]; exact hlt)⟩
        have hBW : Below W.heap.size W wr := (unhide Hw0).trans ((unhide HB).mono (unhide Hw0).size)
        have hcs := unhide Hc i r hr
        obtain ⟨ia, ic, eu⟩ := (unhide Hi i r hr).form
        have hcall := unhide Hih i r hr ((unhide Hsm).inner hr)
        rw [eu] at hcs hcall
        have hnx : ts.take (i + 1) = ts.take i ++ [r] := by rw [List.take_add_one, hr]; rfl
        obtain ⟨nb, kd, x, t, li⟩ := r
        replace hcall : ∀ w0, Below W.heap.size W w0 → Calls Tryd.prog 14 #[.slice ia li.length ic] w0 fun e W' => ∃ a c, e = .returned (.slice a li.length c) ∧ HasRt W' (fun g => w0.heap.size ≤ g) (.slice a li.length c) li ∧ Below w0.heap.size w0 W' := hcall
        have d0 := (hBW.cell (p := ⟨g, i * 5, none⟩) hg).trans (hcs 0 _ rfl)
        have d1 := (hBW.cell (p := ⟨g, i * 5 + 1, none⟩) hg).trans (hcs 1 _ rfl)
        have d2 := (hBW.cell (p := ⟨g, i * 5 + 2, none⟩) hg).trans (hcs 2 _ rfl)
        have d3 := (hBW.cell (p := ⟨g, i * 5 + 3, none⟩) hg).trans (hcs 3 _ rfl)
        have d4 : wr.cell? ⟨g, i * 5 + 4, none⟩ = some (.slice ia li.length ic) := (hBW.cell (p := ⟨g, i * 5 + 4, none⟩) hg).trans (hcs 4 _ rfl)
        have hgw : g < wr.heap.size := Nat.lt_of_lt_of_le hg hBW.size
        have gf4 : ∀ o, (wr.alloc o).cell? ⟨g, i * 5 + 4, none⟩ = _ := fun o => (World.cell?_alloc_lt _ _ _ hgw).trans d4
        have hj0 : (0 : Int) ≤ (i : Int) := Int.natCast_nonneg _
        have hj1 : (i : Int) < (n : Int) := by omega
        obtain ⟨X, hX⟩ : ∃ X, X = wr.alloc (.cells #[.int .i64 (nb : Int), .int .i64 (kd : Int), .int .i64 x, .string t, .slice ia li.length ic] 45) := ⟨_, rfl⟩
        have hXB : Below wr.heap.size wr X := by rw [hX]; exact (Below.refl _ _).alloc (Nat.le_refl _) _
        have hbx : X.heap[wr.heap.size]? = some (.cells #[.int .i64 (nb : Int), .int .i64 (kd : Int), .int .i64 x, .string t, .slice ia li.length ic] 45 (0, 0)) := by rw [hX]; exact heap_alloc_new _ _
        have hXs : wr.heap.size < X.heap.size := by rw [hX, World.size_alloc]; omega
        have Hcall := hide (hcall X (hBW.trans (hXB.mono hBW.size)))
        have HX := hide hX
        have Hnx := hide hnx
        clear hcs eu hcall hBW hX hnx hr
        go_wp2_with fail
        rw [← unhide HX]
        refine (unhide Hcall).mono ?_
        rintro e w2 ⟨ua, uc, rfl, hT2, hb2⟩
        obtain ⟨b0, b1, b2, b3, b4, bf0, bf1, bf2, bf3, bf4⟩ := cells5_of ((hb2.block _ hXs).trans hbx)
        have hzb2 := hb2.size
        have HY : Hid (Below wr.heap.size wr ((w2.setCell ⟨wr.heap.size, 4, none⟩ (.slice ua li.length uc)).alloc (.cells #[.int .i64 (nb : Int), .int .i64 (kd : Int), .int .i64 x, .string t, .slice ua li.length uc] 45))) := by
          have q := hXB.trans ((hb2.mono (Nat.le_of_lt hXs)).setCell (p := ⟨wr.heap.size, 4, none⟩) (Nat.le_refl _) (.slice ua li.length uc))
          exact q.alloc q.size _
        have HT3 : Hid (HasRt ((w2.setCell ⟨wr.heap.size, 4, none⟩ (.slice ua li.length uc)).alloc (.cells #[.int .i64 (nb : Int), .int .i64 (kd : Int), .int .i64 x, .string t, .slice ua li.length uc] 45)) (fun g => wr.heap.size ≤ g) (.slice ua li.length uc) li) := hT2.mono (fun g hg hp => ⟨by have : X.heap.size ≤ g := hp; omega, (Below.heap_alloc _ _ g (by rw [World.size_setCell]; exact hg)).trans (heap_setCell_other w2 ⟨wr.heap.size, 4, none⟩ g _ (by have : X.heap.size ≤ g := hp; show g ≠ wr.heap.size; omega))⟩) (by rw [World.size_alloc, World.size_setCell]; omega)
        obtain ⟨us2, l1, l2, l3⟩ := unhide HO
        have htl : (ts.take i).length = i := by rw [List.length_take, unhide Hn]; omega
        rw [htl] at l2
        have L1 := hide l1
        have L3 := hide l3
        have Hl2 := hide l2
        have Htl := hide htl
        have O1 : Hid (i + 1 ≤ maxLen) := by show _ ≤ _; unfold maxLen; omega
        have O2 : Hid ((i + 1) * 64 ≤ 140737488355328) := by show _ ≤ _; omega
        have hws : w0.heap.size ≤ wr.heap.size := (unhide HB).size
        have Hsz2 : Hid (((w2.setCell ⟨wr.heap.size, 4, none⟩ (.slice ua li.length uc))).heap.size = w2.heap.size) := World.size_setCell _ _ _
        clear hT2 hb2 hbx Hcall HX l1 l2 l3 htl HO hXB gf4 d0 d1 d2 d3 d4
        go_wp2_with (at_builtin; refine wpList_append_own_at _ rfl _ _ 25 rfl w0.heap.size 45 i0 (.agg #[.int .i64 0, .int .i64 0, .int .i64 0, .string .empty, .slice none 0 0]) 5 64 Tryd.underlying25 hi0' hz0 hz1 hz2 rfl (by decide) _ _ _ rfl (row_keep (unhide Hl2) (fun q hq _ => (unhide HY).block q hq)) ⟨w2.heap.size, 0, none⟩ 1 1 [.int .i64 (nb : Int), .int .i64 (kd : Int), .int .i64 x, .string t, .slice ua li.length uc] rfl rfl (World.news_of_block (cs := #[.int .i64 (nb : Int), .int .i64 (kd : Int), .int .i64 x, .string t, .slice ua li.length uc]) (t := 45) (fr := (0, 0)) (by rw [← unhide Hsz2]; exact heap_alloc_new _ _)) (by simp [Value.oneCell']) (unhide O1) (unhide O2) (by have := (unhide HY).size; omega) ?_; intro v4 w4 hown4 hgrow4 hdrop4 hat4; clear hdrop4; obtain ⟨za, zc, rfl⟩ := row_form hown4; have Hown4 := hide hown4; have Hgr4 := hide hgrow4; have Hat4 := hide hat4; clear hown4 hgrow4 hat4)
        go_roundg (n - (i + 1))
        case measure => have := unhide Hgk; omega
        case rel =>
          have hown := own_push2 (unhide L1) (unhide L3) (unhide Htl) (unhide Hown4) (unhide HY) (unhide Hgr4) (unhide Hat4) (fun q hq => ((unhide Hl2).lt q hq).2) hws (unhide HT3)
          rw [← unhide Hnx] at hown
          exact ⟨i + 1, za, zc, rfl, by go_num, rfl, by omega, hown, (unhide HB).trans ⟨(unhide Hgr4).os.trans (unhide HY).os, (unhide Hgr4).tape.trans (unhide HY).tape, (unhide Hgr4).output.trans (unhide HY).output, Nat.le_trans (unhide HY).size (unhide Hgr4).size, fun q hq => ((unhide Hgr4).block q (Nat.lt_of_lt_of_le (Nat.lt_of_lt_of_le hq hws) (unhide HY).size) (fun e => by have := ((unhide Hl2).lt q e.symm).1; omega)).trans ((unhide HY).block q (Nat.lt_of_lt_of_le hq hws))⟩⟩
      · obtain rfl : i = n := by omega
        have hO := unhide HO
        rw [List.take_of_length_le (by rw [unhide Hn]; exact Nat.le_refl _)] at hO
        have Hd := hide (hO.done (Q := fun g => w0.heap.size ≤ g) (fun g _ hp => hp.1) (fun g _ q2 _ => q2))
        have hnn := unhide Hn
        clear hO HO
        go_wp2
        go_ret
        subst hnn
        exact ⟨ya, yc, rfl, unhide Hd, unhide HB⟩
#print axioms twin_rt
end Go.Proofs.YtphccijiniolcaaDoor
namespace Go.Proofs.YtphccijiniolcaaDoor
open Go.RowKit
attribute [local go_sem ↓] Go.wp_at_zero Go.wp_at_succ

mutual
/-- Too deep, a record. -/
def deepR (d : Nat) : Rt → Bool
  | .mk _ kd _ _ li => (kd == 3 || decide (li.length ≠ 0)) && (d == 0 || deepL (d - 1) li)
/-- Too deep, records. -/
def deepL (d : Nat) : List Rt → Bool
  | [] => false
  | t :: ts => deepR d t || deepL d ts
end
theorem deepL_append (d : Nat) : ∀ a b : List Rt, deepL d (a ++ b) = (deepL d a || deepL d b)
  | [], b => by simp [deepL]
  | t :: a, b => by
    show (deepR d t || deepL d (a ++ b)) = ((deepR d t || deepL d a) || deepL d b)
    rw [deepL_append d a b, Bool.or_assoc]
theorem deepL_at {d : Nat} {ts : List Rt} {i : Nat} {t : Rt} (h : ts[i]? = some t) (hd : deepR d t = true) : deepL d ts = true := by
  have hi := (List.getElem?_eq_some_iff.1 h).1
  have e : ts = ts.take i ++ t :: ts.drop (i + 1) := by
    have q := (List.take_append_drop i ts).symm
    rw [List.drop_eq_getElem_cons hi] at q
    have : ts[i] = t := by rw [List.getElem?_eq_getElem hi] at h; exact Option.some.inj h
    rw [this] at q
    exact q
  rw [e, deepL_append]
  show (_ || (deepR d t || _)) = true
  rw [hd]
  simp
set_option maxRecDepth 100000 in
set_option maxHeartbeats 4000000 in
theorem tooDeep_rt {W : World} {P : Nat → Prop} {v : Value} {ts : List Rt} (h : HasRt W P v ts) : ∀ (d : Nat), d ≤ 1048576 → ∀ w0, Below W.heap.size W w0 → Calls Tryd.prog 41 #[v, .int .i64 (d : Int)] w0 fun e W' => e = .returned (.bool (deepL d ts)) ∧ Below w0.heap.size w0 W' := by
  induction h with
  | nil a c =>
    intro d _ w0 _
    go_enter Tryd.func41, Tryd.ntmps41
    go_wp2
    refine wp_loop_rounds 1 ?_
    rw [rounds_succ]
    go_wp2
    go_ret
    exact ⟨rfl, Below.refl _ _⟩
  | row g n c ts us hp hn hm hg hc hi ih =>
    intro d hdm w0 hw0
    unfold maxLen at hm
    have Hc := hide hc
    have Hih := hide ih
    have Hi := hide hi
    have Hn := hide hn
    have Hw0 := hide hw0
    clear hc ih hi hn hp hw0
    obtain ⟨D, hD⟩ : ∃ D, deepL d ts = D := ⟨_, rfl⟩
    rw [hD]
    have HD := hide hD
    clear hD
    go_enter Tryd.func41, Tryd.ntmps41
    go_wp2
    go_loopg [9] n (fun gk v9 wr => ∃ (i : Nat), v9 = .int .i64 (i : Int) ∧ gk = n - i ∧ i ≤ n ∧ Hid (deepL d (ts.take i) = false) ∧ Hid (Below w0.heap.size w0 wr))
    case atStart => exact ⟨0, rfl, rfl, Nat.zero_le _, rfl, Below.refl _ _⟩
    case round =>
      obtain ⟨i, rfl, hgk, hin, HF, HB⟩ := hrel
      have Hgk := hide hgk
      clear hgk
      by_cases hlt : i < n
      · obtain ⟨r, hr⟩ : ∃ r, ts[i]? = some r := ⟨_, List.getElem?_eq_getElem (by rw [unhide Hn]; exact hlt)⟩
        have hBW : Below W.heap.size W wr := (unhide Hw0).trans ((unhide HB).mono (unhide Hw0).size)
        have hcs := unhide Hc i r hr
        obtain ⟨ia, ic, eu⟩ := (unhide Hi i r hr).form
        have hcall := unhide Hih i r hr
        rw [eu] at hcs hcall
        have hnx : deepL d (ts.take (i + 1)) = deepR d r := by
          rw [List.take_add_one, hr, deepL_append, unhide HF]
          show (false || (deepR d r || false)) = deepR d r
          simp
        have hyes : deepR d r = true → D = true := fun q => by rw [← unhide HD]; exact deepL_at hr q
        obtain ⟨nb, kd, x, t, li⟩ := r
        replace hcall : ∀ (d : Nat), d ≤ 1048576 → ∀ w0, Below W.heap.size W w0 → Calls Tryd.prog 41 #[.slice ia li.length ic, .int .i64 (d : Int)] w0 fun e W' => e = .returned (.bool (deepL d li)) ∧ Below w0.heap.size w0 W' := hcall
        have d0 := (hBW.cell (p := ⟨g, i * 5, none⟩) hg).trans (hcs 0 _ rfl)
        have d1 := (hBW.cell (p := ⟨g, i * 5 + 1, none⟩) hg).trans (hcs 1 _ rfl)
        have d2 := (hBW.cell (p := ⟨g, i * 5 + 2, none⟩) hg).trans (hcs 2 _ rfl)
        have d3 := (hBW.cell (p := ⟨g, i * 5 + 3, none⟩) hg).trans (hcs 3 _ rfl)
        have d4 : wr.cell? ⟨g, i * 5 + 4, none⟩ = some (.slice ia li.length ic) := (hBW.cell (p := ⟨g, i * 5 + 4, none⟩) hg).trans (hcs 4 _ rfl)
        have hj0 : (0 : Int) ≤ (i : Int) := Int.natCast_nonneg _
        have hj1 : (i : Int) < (n : Int) := by omega
        have hdr : deepR d (.mk nb kd x t li) = ((kd == 3 || decide (li.length ≠ 0)) && (d == 0 || deepL (d - 1) li)) := by rw [deepR]
        rw [hdr] at hnx hyes
        have Hnx := hide hnx
        have Hyes := hide hyes
        have HBA : Hid (∀ o, Below w0.heap.size w0 (wr.alloc o)) := fun o => (unhide HB).alloc (unhide HB).size _
        have HBW := hide hBW
        have Hcall := hide hcall
        clear hcs eu hcall hBW hr hnx hyes hdr
        by_cases hpl : kd ≠ 3 ∧ li.length = 0
        · have e3 : ((kd : Int) != 3) = true := by simp; omega
          have e4 : ((li.length : Int) == 0) = true := by rw [hpl.2]; rfl
          have hF2 : deepL d (ts.take (i + 1)) = false := by rw [unhide Hnx]; simp [hpl.1, hpl.2]
          have HF2 := hide hF2
          clear hF2 hpl Hnx Hyes Hcall
          go_wp2
          go_roundg (n - (i + 1))
          case measure => have := unhide Hgk; omega
          case rel => exact ⟨i + 1, by go_num, rfl, by omega, HF2, unhide HBA _⟩
        · have h34 : ((kd : Int) != 3) = false ∨ (((kd : Int) != 3) = true ∧ ((li.length : Int) == 0) = false) := by
            by_cases q : kd = 3
            · exact .inl (by rw [q]; rfl)
            · exact .inr ⟨by simp; omega, beq_eq_false_iff_ne.2 (by omega)⟩
          have hg3 : (kd == 3 || decide (li.length ≠ 0)) = true := by
            by_cases q : kd = 3
            · simp [q]
            · have : li.length ≠ 0 := by omega
              simp [this]
          rw [hg3, Bool.true_and] at Hnx Hyes
          by_cases hd0 : d = 0
          · have e5 : ((d : Int) == 0) = true := by rw [hd0]; rfl
            have hDt : D = true := unhide Hyes (by simp [hd0])
            subst hDt
            clear Hnx Hyes Hcall hpl hg3
            rcases h34 with q3 | ⟨q3, q4⟩
            all_goals (
              go_wp2
              go_ret
              exact ⟨rfl, unhide HBA _⟩)
          · have e5 : ((d : Int) == 0) = false := beq_eq_false_iff_ne.2 (by omega)
            obtain ⟨d', hd'⟩ : ∃ d', d - 1 = d' := ⟨_, rfl⟩
            have e6 : (d : Int) - 1 = (d' : Int) := by omega
            have hb0 : (d == 0) = false := by simp [hd0]
            rw [hb0, Bool.false_or, hd'] at Hnx Hyes
            have HBW2 : Hid (∀ o, Below W.heap.size W (wr.alloc o)) := fun o => (unhide HBW).alloc (unhide HBW).size _
            have hdm' : d' ≤ 1048576 := by omega
            clear hd' hb0 hpl hg3
            rcases h34 with q3 | ⟨q3, q4⟩
            all_goals (
              go_wp2_with fail
              refine (unhide Hcall d' hdm' _ (unhide HBW2 _)).mono ?_
              rintro e w2 ⟨rfl, hb2⟩
              have HB2 : Hid (Below w0.heap.size w0 w2) := (unhide HBA _).trans (hb2.mono (unhide HBA _).size)
              clear hb2
              cases hdl : deepL d' li with
              | true =>
                have hDt : D = true := unhide Hyes hdl
                subst hDt
                clear hdl
                go_wp2
                go_ret
                exact ⟨rfl, unhide HB2⟩
              | false =>
                have HF2 : Hid (deepL d (ts.take (i + 1)) = false) := (unhide Hnx).trans hdl
                clear hdl
                go_wp2
                go_roundg (n - (i + 1))
                case measure => have := unhide Hgk; omega
                case rel => exact ⟨i + 1, by go_num, rfl, by omega, HF2, HB2⟩)
      · obtain rfl : i = n := by omega
        have hDf : D = false := by rw [← unhide HD, ← unhide HF, List.take_of_length_le (by rw [unhide Hn]; exact Nat.le_refl _)]
        subst hDf
        go_wp2
        go_ret
        exact ⟨rfl, unhide HB⟩
#print axioms tooDeep_rt
end Go.Proofs.YtphccijiniolcaaDoor
