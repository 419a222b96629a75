import Derived.Test.YtgbadnbhgpnppaaDoorWGI
import Derived.Test.YtgbadnbhgpnppaaDoorWHM
import Derived.Test.YtgbadnbhgpnppaaDoorWGI
namespace Go.Proofs.YtgbadnbhgpnppaaDoor
open Go.RowKit
attribute [local go_sem ↓] Go.wp_at_zero Go.wp_at_succ

mutual
/-- A record whose numbers are no less than 0. -/
def toT : Ri → Rt
  | .mk nb kd x t li => .mk nb.toNat kd.toNat x t (toTL li)
def toTL : List Ri → List Rt
  | [] => []
  | r :: rs => toT r :: toTL rs
end
theorem toTL_len : ∀ rs, (toTL rs).length = rs.length
  | [] => rfl
  | r :: rs => by show (toTL rs).length + 1 = _; rw [toTL_len rs]; rfl
theorem toTL_get : ∀ (rs : List Ri) (i : Nat) (t : Rt), (toTL rs)[i]? = some t → ∃ r, rs[i]? = some r ∧ t = toT r
  | [], i, t, h => by simp [toTL] at h
  | r :: rs, 0, t, h => ⟨r, rfl, (Option.some.inj h).symm⟩
  | r :: rs, i + 1, t, h => by
    have h' : (toTL rs)[i]? = some t := h
    obtain ⟨q, h1, h2⟩ := toTL_get rs i t h'
    exact ⟨q, h1, h2⟩
mutual
theorem toT_cnt : ∀ r : Ri, cntR (toT r) = kcR r
  | .mk nb kd x t li => by rw [toT, cntR, kcR, toTL_cnt li]
theorem toTL_cnt : ∀ rs : List Ri, cntL (toTL rs) = kcL rs
  | [] => rfl
  | r :: rs => by rw [toTL, cntL, kcL, toT_cnt r, toTL_cnt rs]
end
theorem three (kd : Int) : (kd.toNat == 3) = (kd == 3) := by
  by_cases h : kd = 3
  · subst h; rfl
  · have h1 : (kd == 3) = false := by simpa using h
    have h2 : (kd.toNat == 3) = false := by simp; omega
    rw [h1, h2]
mutual
theorem toT_deep : ∀ (r : Ri) (d : Nat), deepR d (toT r) = dkR d r
  | .mk nb kd x t li, d => by rw [toT, deepR, dkR, toTL_deep li (d - 1), toTL_len, three]
theorem toTL_deep : ∀ (rs : List Ri) (d : Nat), deepL d (toTL rs) = dkL d rs
  | [], d => rfl
  | r :: rs, d => by rw [toTL, deepL, dkL, toT_deep r d, toTL_deep rs d]
end
theorem fk_at : ∀ {rs : List Ri} {i : Nat} {r : Ri}, fkL rs = 0 → rs[i]? = some r → fkR r = 0
  | [], i, r, _, hr => by simp at hr
  | q :: rs, 0, r, h, hr => by
    simp at hr
    subst hr
    rw [fkL] at h
    by_cases hz : fkR q = 0
    · exact hz
    · rw [if_neg hz] at h; exact absurd h hz
  | q :: rs, i + 1, r, h, hr => by
    rw [List.getElem?_cons_succ] at hr
    rw [fkL] at h
    by_cases hz : fkR q = 0
    · rw [if_pos hz] at h
      exact fk_at h hr
    · rw [if_neg hz] at h; exact absurd h hz
theorem empty_of {t : ByteArray} (h : t.toList = []) : t = ⟨#[]⟩ := by
  rw [Lib.toList_data] at h
  obtain ⟨⟨l⟩⟩ := t
  have h' : l = [] := h
  rw [h']
theorem fk_right {nb kd x : Int} {t : ByteArray} {li : List Ri} (h : fkR (.mk nb kd x t li) = 0) (hx : RngI x) : WfT nb.toNat kd.toNat x t (toTL li) ∧ fkL li = 0 ∧ (0 ≤ nb ∧ 0 ≤ kd) := by
  rw [fkR] at h
  by_cases hA : nb < 1 ∨ 536870911 < nb
  · rw [if_pos hA] at h; cases h
  · rw [if_neg hA] at h
    by_cases hK : kd < 0 ∨ 5 < kd
    · rw [if_pos hK] at h; cases h
    · rw [if_neg hK] at h
      by_cases h4 : kd = 4
      · rw [if_pos h4] at h; cases h
      · rw [if_neg h4] at h
        by_cases hR : rightK kd.toNat x t li.length = true
        · rw [if_pos hR] at h
          refine ⟨?_, h, by omega, by omega⟩
          have hl0 : li.length = 0 → toTL li = [] := fun q => by rw [List.eq_nil_of_length_eq_zero q]; rfl
          have hkk : kd.toNat = 0 ∨ kd.toNat = 1 ∨ kd.toNat = 2 ∨ kd.toNat = 3 ∨ kd.toNat = 5 := by omega
          unfold RngI at hx
          refine ⟨⟨by omega, by omega, fun q => ?_, fun q => ?_, fun q => ?_, fun q => ?_⟩, hx⟩
          all_goals (rcases hkk with e | e | e | e | e <;> rw [e] at hR <;> simp [rightK] at hR)
          all_goals first
            | (exact empty_of hR.1) | (exact empty_of hR.2) | (exact empty_of hR.2.1) | (exact hl0 (by simpa using hR.2)) | (exact hl0 (by simpa using hR.2.2)) | (exact hR.1) | omega
        · rw [if_neg hR] at h; cases h
/-- What is right can be read as right records. -/
theorem HasRk.right {W : World} {P : Nat → Prop} {v : Value} {rs : List Ri} (h : HasRk W P v rs) : fkL rs = 0 → HasRt W P v (toTL rs) ∧ WfL (toTL rs) := by
  induction h with
  | row g n rs us hp hn hm hg hk hw hc hi ih =>
    intro hf
    have key : ∀ (i : Nat) (t : Rt), (toTL rs)[i]? = some t → ∃ nb kd x tx li, rs[i]? = some (.mk nb kd x tx li) ∧ t = .mk nb.toNat kd.toNat x tx (toTL li) ∧ WfT nb.toNat kd.toNat x tx (toTL li) ∧ fkL li = 0 ∧ (0 ≤ nb ∧ 0 ≤ kd) := fun i t ht => by
      obtain ⟨⟨nb, kd, x, tx, li⟩, hr, rfl⟩ := toTL_get rs i t ht
      obtain ⟨h1, h2, h3⟩ := fk_right (fk_at hf hr) (hw i nb kd x tx li hr).2.2
      exact ⟨nb, kd, x, tx, li, hr, by rw [toT], h1, h2, h3⟩
    refine ⟨.row g n (n + 1) (toTL rs) us hp (by rw [toTL_len]; exact hn) (by unfold maxLen; omega) hg (fun i t ht j z hz => ?_) (fun i t ht => ?_), .mk _ (fun i nb kd x tx li ht => ?_) (fun i t ht => ?_)⟩
    · obtain ⟨nb, kd, x, tx, li, hr, rfl, _, _, h3, h4⟩ := key i t ht
      refine hc i _ hr j z ?_
      have e1 : ((nb.toNat : Nat) : Int) = nb := by omega
      have e2 : ((kd.toNat : Nat) : Int) = kd := by omega
      rw [rcells, e1, e2] at hz
      exact hz
    · obtain ⟨nb, kd, x, tx, li, hr, rfl, _, h2, _⟩ := key i t ht
      exact (ih i _ hr h2).1
    · obtain ⟨nb', kd', x', tx', li', hr, e, h1, _⟩ := key i _ ht
      injection e with e1 e2 e3 e4 e5
      subst e1 e2 e3 e4 e5
      exact h1
    · obtain ⟨nb, kd, x, tx, li, hr, rfl, _, h2, _⟩ := key i t ht
      exact (ih i _ hr h2).2
/-- What Join says. -/
def jc (rs : List Ri) : Nat := if 1048576 < kcL rs then 2 else if dkL 63 rs = true then 4 else if fkL rs ≠ 0 then fkL rs else if 1048576 < (encL (toTL rs)).length then 5 else 0
def JnA (W : World) (rs : List Ri) (e : Ending) (W' : World) : Prop := ((jc rs = 0 ∧ ∃ g c, e = .returned (.tuple #[.slice (some ⟨g, 0, none⟩) (encL (toTL rs)).length c, .int .i64 0]) ∧ Bytes W.heap.size W' (.slice (some ⟨g, 0, none⟩) (encL (toTL rs)).length c) (byB (encL (toTL rs)))) ∨ (jc rs ≠ 0 ∧ e = .returned (.tuple #[.slice none 0 0, .int .i64 ((jc rs : Nat) : Int)]))) ∧ Below W.heap.size W W'
set_option maxRecDepth 100000 in
set_option maxHeartbeats 8000000 in
theorem join_rk {W : World} {P : Nat → Prop} {v : Value} {rs : List Ri} (h : HasRk W P v rs) (hl : fkL rs = 0 → (encL (toTL rs)).length ≤ 1099511627000) : Calls Tryd.prog 8 #[v] W (JnA W rs) := by
  have Hmany := hide (tooMany_rk h)
  have Hdeep := hide (tooDeep_rk h 63 (by decide))
  have Hff := hide (firstFault_rk h)
  by_cases h2 : 1048576 < kcL rs
  · have e : jc rs = 2 := by unfold jc; rw [if_pos h2]
    rw [decide_eq_true h2] at Hmany
    unfold JnA
    rw [e]
    clear h hl h2 e
    go_enter Tryd.func8, Tryd.ntmps8
    go_wp2_with fail
    refine (unhide Hmany).mono ?_
    rintro e w1 ⟨rfl, hb1⟩
    go_wp2
    go_ret2
    exact ⟨.inr ⟨by decide, rfl⟩, hb1⟩
  · rw [decide_eq_false h2] at Hmany
    by_cases h4 : dkL 63 rs = true
    · have e : jc rs = 4 := by unfold jc; rw [if_neg h2, if_pos h4]
      rw [h4] at Hdeep
      unfold JnA
      rw [e]
      clear h hl h2 e h4
      go_enter Tryd.func8, Tryd.ntmps8
      go_wp2_with fail
      refine (unhide Hmany).mono ?_
      rintro e w1 ⟨rfl, hb1⟩
      have Hb1 := hide hb1
      clear hb1 Hmany
      go_wp2_with fail
      refine (unhide Hdeep w1 (unhide Hb1)).mono ?_
      rintro e w2 ⟨rfl, hb2⟩
      have Hb2 := hide ((unhide Hb1).trans (hb2.mono (unhide Hb1).size))
      clear hb2 Hdeep
      go_wp2
      go_ret2
      exact ⟨.inr ⟨by decide, rfl⟩, unhide Hb2⟩
    · have h4' : dkL 63 rs = false := by simpa using h4
      by_cases hf : fkL rs = 0
      · obtain ⟨hT, hWf⟩ := h.right hf
        have hcn : cntL (toTL rs) ≤ 1048576 := by rw [toTL_cnt]; omega
        have hsm := sm_of _ (toTL rs) (Nat.le_refl _) hcn
        have hdp : deepL 63 (toTL rs) = false := by rw [toTL_deep]; exact h4'
        by_cases h5 : 1048576 < (encL (toTL rs)).length
        · have e : jc rs = 5 := by unfold jc; rw [if_neg h2, if_neg h4, if_neg (by simpa using hf), if_pos h5]
          refine (join_size hT hsm hWf hdp hcn h5 (hl hf)).mono fun e' w ⟨he, hb⟩ => ?_
          exact ⟨.inr ⟨by rw [e]; decide, by rw [e]; exact he⟩, hb⟩
        · have e : jc rs = 0 := by unfold jc; rw [if_neg h2, if_neg h4, if_neg (by simpa using hf), if_neg h5]
          refine (join_rt hT hsm hWf hdp hcn (by omega)).mono fun e' w ⟨g, c, he, hB, hb⟩ => ?_
          exact ⟨.inl ⟨e, g, c, he, hB⟩, hb⟩
      · have e : jc rs = fkL rs := by unfold jc; rw [if_neg h2, if_neg h4, if_pos hf]
        unfold JnA
        rw [e]
        rw [h4'] at Hdeep
        obtain ⟨D, hD⟩ : ∃ D, fkL rs = D := ⟨_, rfl⟩
        rw [hD] at Hff hf ⊢
        have q2 : ((D : Int) != 0) = true := by simpa using hf
        clear h hl h2 e h4 h4' hD
        go_enter Tryd.func8, Tryd.ntmps8
        go_wp2_with fail
        refine (unhide Hmany).mono ?_
        rintro e w1 ⟨rfl, hb1⟩
        have Hb1 := hide hb1
        clear hb1 Hmany
        go_wp2_with fail
        refine (unhide Hdeep w1 (unhide Hb1)).mono ?_
        rintro e w2 ⟨rfl, hb2⟩
        have Hb2 := hide ((unhide Hb1).trans (hb2.mono (unhide Hb1).size))
        clear hb2 Hdeep
        go_wp2_with fail
        refine (unhide Hff w2 (unhide Hb2)).mono ?_
        rintro e w3 ⟨rfl, hb3⟩
        have Hb3 := hide ((unhide Hb2).trans (hb3.mono (unhide Hb2).size))
        clear hb3 Hff
        go_wp2
        go_ret2
        exact ⟨.inr ⟨hf, rfl⟩, unhide Hb3⟩
#print axioms join_rk
end Go.Proofs.YtgbadnbhgpnppaaDoor
namespace Go.Proofs.YtgbadnbhgpnppaaDoor
open Go.RowKit
attribute [local go_sem ↓] Go.wp_at_zero Go.wp_at_succ

mutual
/-- How deep groups lie in one another. -/
def dpR : Ri → Nat
  | .mk _ kd _ _ li => dpL li + (if kd = 3 ∨ 0 < li.length then 1 else 0)
def dpL : List Ri → Nat
  | [] => 0
  | r :: rs => max (dpR r) (dpL rs)
end
theorem dpL_append : ∀ a b : List Ri, dpL (a ++ b) = max (dpL a) (dpL b)
  | [], b => by simp [dpL]
  | r :: a, b => by
    show max (dpR r) (dpL (a ++ b)) = max (max (dpR r) (dpL a)) (dpL b)
    rw [dpL_append a b]
    omega
mutual
theorem dk_dpR : ∀ (r : Ri) (d : Nat), dkR d r = decide (d < dpR r)
  | .mk nb kd x t li, d => by
    rw [dkR, dpR, dk_dpL li (d - 1)]
    by_cases h : kd = 3 ∨ 0 < li.length
    · have h1 : (kd == 3 || decide (li.length ≠ 0)) = true := by
        rcases h with h | h
        · rw [h]; rfl
        · have : decide (li.length ≠ 0) = true := decide_eq_true (by omega)
          rw [this]; simp
      rw [h1, if_pos h, Bool.true_and]
      by_cases hd : d = 0
      · subst hd; simp
      · have : (d == 0) = false := by simpa using hd
        rw [this, Bool.false_or]
        exact decide_eq_decide.2 (by omega)
    · have h1 : (kd == 3 || decide (li.length ≠ 0)) = false := by
        have a : (kd == 3) = false := by simp; intro q; exact h (.inl q)
        have b : decide (li.length ≠ 0) = false := decide_eq_false (by omega)
        rw [a, b]; rfl
      have h0 : li = [] := List.eq_nil_of_length_eq_zero (by omega)
      rw [h1, if_neg h, h0, dpL]
      simp
theorem dk_dpL : ∀ (rs : List Ri) (d : Nat), dkL d rs = decide (d < dpL rs)
  | [], d => by rw [dkL, dpL]; simp
  | r :: rs, d => by
    rw [dkL, dpL, dk_dpR r d, dk_dpL rs d]
    by_cases h1 : d < dpR r
    · rw [decide_eq_true h1, Bool.true_or, decide_eq_true (by omega)]
    · rw [decide_eq_false h1, Bool.false_or]
      exact decide_eq_decide.2 (by omega)
end
mutual
theorem kcR_bl : ∀ r : Ri, kcR r ≤ blR r ∧ dpR r ≤ kcR r
  | .mk nb kd x t li => by
    have h := kcL_bl li
    rw [kcR, blR, dpR]
    refine ⟨by omega, ?_⟩
    split <;> omega
theorem kcL_bl : ∀ rs : List Ri, kcL rs ≤ blL rs ∧ dpL rs ≤ kcL rs
  | [] => ⟨Nat.le_refl _, Nat.le_refl _⟩
  | r :: rs => by
    have h1 := kcR_bl r
    have h2 := kcL_bl rs
    rw [kcL, blL, dpL]
    omega
end
/-- What count answers. -/
def CntA (w0 : World) (rs : List Ri) (e : Ending) (W' : World) : Prop := e = .returned (.tuple #[.int .i64 ((kcL rs : Nat) : Int), .int .i64 ((dpL rs : Nat) : Int)]) ∧ Below w0.heap.size w0 W'
set_option maxRecDepth 100000 in
set_option maxHeartbeats 8000000 in
theorem xcount_ri {W : World} {v : Value} {rs : List Ri} (h : HasRi W v rs) : blL rs ≤ 1048576 → ∀ w0, Below W.heap.size W w0 → Calls Tryd.prog 32 #[v] w0 (CntA w0 rs) := by
  induction h with
  | nil a c =>
    intro _ w0 _
    unfold CntA
    go_enter Tryd.func32, Tryd.ntmps32
    go_wp2
    refine wp_loop_rounds 1 ?_
    rw [rounds_succ]
    go_wp2
    go_ret2
    exact ⟨rfl, Below.refl _ _⟩
  | row g off n c rs us hn hm hg hw hc hi ih =>
    intro hb w0 hw0
    unfold maxLen at hm
    have hbl := bl_len rs
    rw [hn] at hbl
    have hks := kc_split rs
    rw [hn] at hks
    have hkb := kcL_bl rs
    obtain ⟨D, hD⟩ : ∃ D, dpL rs = D := ⟨_, rfl⟩
    obtain ⟨Kc, hKc⟩ : ∃ Kc, kcL rs = Kc := ⟨_, rfl⟩
    unfold CntA
    rw [hD, hKc]
    have HD := hide hD
    have HK := hide (hks.symm.trans hKc)
    have HKb : Hid (Kc ≤ 1048576 ∧ D ≤ Kc) := by show _ ∧ _; omega
    have hnb : n ≤ 1048576 := by omega
    have Hc := hide hc
    have Hih := hide ih
    have Hi := hide hi
    have Hn := hide hn
    have Hw0 := hide hw0
    have Hb := hide hb
    clear hc ih hi hn hw0 hw hb hD hKc hks hkb
    go_enter Tryd.func32, Tryd.ntmps32
    go_wp2
    go_loopg [4, 5, 6] n (fun gk v4 v5 v6 wr => ∃ (i k d : Nat), v4 = .int .i64 (k : Int) ∧ v5 = .int .i64 (d : Int) ∧ v6 = .int .i64 (i : Int) ∧ gk = n - i ∧ i ≤ n ∧ k ≤ 2097152 ∧ d ≤ 2097152 ∧ Hid (k = n + kcI (rs.take i)) ∧ Hid (d = dpL (rs.take i)) ∧ Hid (Below w0.heap.size w0 wr))
    case atStart => exact ⟨0, n, 0, rfl, rfl, rfl, rfl, Nat.zero_le _, by omega, by omega, by show n = n + kcI []; simp [kcI], by show 0 = dpL []; rw [dpL], Below.refl _ _⟩
    case round =>
      obtain ⟨i, k, d, rfl, rfl, rfl, hgk, hin, hk2, hd2, Hk, Hd, HB⟩ := hrel
      have Hgk := hide hgk
      clear hgk
      by_cases hlt : i < n
      · obtain ⟨r, hr⟩ : ∃ r, rs[i]? = some r := ⟨_, List.getElem?_eq_getElem (by rw [unhide Hn]; exact hlt)⟩
        have hBW : Below W.heap.size W wr := (unhide Hw0).trans ((unhide HB).mono (unhide Hw0).size)
        have hcs := unhide Hc i r hr
        obtain ⟨ia, ic, eu⟩ := (unhide Hi i r hr).form
        have hcall0 := unhide Hih i r hr
        rw [eu] at hcs hcall0
        have hbm := bl_mem hr
        have hnI : kcI (rs.take (i + 1)) = kcI (rs.take i) + kcL r.inner := by
          rw [List.take_add_one, hr]
          simp [kcI]
        have hnD : dpL (rs.take (i + 1)) = max (dpL (rs.take i)) (dpR r) := by
          rw [List.take_add_one, hr, dpL_append]
          simp [dpL]
        have hIle : kcI (rs.take (i + 1)) ≤ kcI rs := by
          have e : rs = rs.take (i + 1) ++ rs.drop (i + 1) := (List.take_append_drop _ _).symm
          conv => rhs; rw [e]
          unfold kcI
          rw [List.map_append, List.sum_append]
          omega
        have hDle : dpL (rs.take (i + 1)) ≤ dpL rs := by
          have e : rs = rs.take (i + 1) ++ rs.drop (i + 1) := (List.take_append_drop _ _).symm
          conv => rhs; rw [e, dpL_append]
          omega
        obtain ⟨nb, kd, x, t, li⟩ := r
        rw [blR] at hbm
        replace hnI : kcI (rs.take (i + 1)) = kcI (rs.take i) + kcL li := hnI
        have hcall : ∀ w0, Below W.heap.size W w0 → Calls Tryd.prog 32 #[.slice ia li.length ic] w0 (CntA w0 li) := hcall0 (by have := unhide Hb; show blL li ≤ _; omega)
        rw [dpR] at hnD
        obtain ⟨kk, hkk⟩ : ∃ kk, kcL li = kk := ⟨_, rfl⟩
        obtain ⟨dd, hdd⟩ : ∃ dd, dpL li = dd := ⟨_, rfl⟩
        unfold CntA at hcall
        rw [hkk, hdd] at hcall
        rw [hkk] at hnI
        rw [hdd] at hnD
        have hkb := unhide HKb
        have hKe := unhide HK
        have hDe := unhide HD
        rw [hDe] at hDle
        have hk' := unhide Hk
        have hd' := unhide Hd
        obtain ⟨k3, hk3⟩ : ∃ k3, k + kk = k3 := ⟨_, rfl⟩
        have Hk3 : Hid (k3 = n + kcI (rs.take (i + 1))) := by show _ = _; omega
        have hk3b : k3 ≤ 2097152 := by have : kcI (rs.take (i + 1)) ≤ 1048576 := by omega
                                       omega
        have ek3 : (k : Int) + (kk : Int) = (k3 : Int) := by omega
        have hddb : dd ≤ 2097151 := by omega
        have d1 := (hBW.cell (p := ⟨g, off + i * 5 + 1, none⟩) hg).trans (hcs 1 _ rfl)
        have d4 : wr.cell? ⟨g, off + i * 5 + 4, none⟩ = some (.slice ia li.length ic) := (hBW.cell (p := ⟨g, off + i * 5 + 4, none⟩) hg).trans (hcs 4 _ rfl)
        have hi0 : (0 : Int) ≤ (i : Int) := Int.natCast_nonneg _
        have hi1 : (i : Int) < (n : Int) := by omega
        have Hcl : Hid (∀ w, Below wr.heap.size wr w → w.cell? ⟨g, off + i * 5 + 1, none⟩ = some (.int .i64 kd) ∧ w.cell? ⟨g, off + i * 5 + 4, none⟩ = some (.slice ia li.length ic)) := fun w hw => ⟨(hw.cell (p := ⟨g, off + i * 5 + 1, none⟩) (Nat.lt_of_lt_of_le hg hBW.size)).trans d1, (hw.cell (p := ⟨g, off + i * 5 + 4, none⟩) (Nat.lt_of_lt_of_le hg hBW.size)).trans d4⟩
        have Hcall := hide (hcall wr hBW)
        have HnD := hide hnD
        have Hd0 := hide hd'
        clear hcs eu hcall0 hcall hBW hr hnI hnD hIle hDle hkk hdd hkb hKe hDe hk' hd' hk3 hbm
        go_wp2_with fail
        refine (unhide Hcall).mono ?_
        rintro e w2 ⟨rfl, hb2⟩
        obtain ⟨c1, c4⟩ := unhide Hcl w2 hb2
        have HB2 := hide ((unhide HB).trans (hb2.mono (unhide HB).size))
        clear hb2 Hcall Hcl d1 d4
        by_cases hcd : kd = 3 ∨ 0 < li.length
        · have Hnx : Hid (max d (dd + 1) = dpL (rs.take (i + 1))) := by show _ = _; rw [unhide HnD, ← unhide Hd0, if_pos hcd]
          have hsp : (kd == 3) = true ∨ ((kd == 3) = false ∧ 0 < li.length) := by
            by_cases q : kd = 3
            · exact .inl (by rw [q]; rfl)
            · exact .inr ⟨by simpa using q, by rcases hcd with h | h; exact absurd h q; exact h⟩
          obtain ⟨d3, hd3⟩ : ∃ d3, dd + 1 = d3 := ⟨_, rfl⟩
          have ed3 : (dd : Int) + 1 = (d3 : Int) := by omega
          have hd3b : d3 ≤ 2097152 := by omega
          rw [hd3] at Hnx
          clear hcd hd3
          by_cases hmx : d < d3
          · have Hm : Hid (d3 = dpL (rs.take (i + 1))) := by show _ = _; rw [← unhide Hnx]; omega
            rcases hsp with hs | ⟨hs, hs2⟩
            all_goals (
              go_wp2
              go_roundg (n - (i + 1))
              case measure => have := unhide Hgk; omega
              case rel => exact ⟨i + 1, k3, d3, rfl, rfl, by go_num, rfl, by omega, hk3b, hd3b, Hk3, Hm, HB2⟩)
          · have Hm : Hid (d = dpL (rs.take (i + 1))) := by show _ = _; rw [← unhide Hnx]; omega
            rcases hsp with hs | ⟨hs, hs2⟩
            all_goals (
              go_wp2
              go_roundg (n - (i + 1))
              case measure => have := unhide Hgk; omega
              case rel => exact ⟨i + 1, k3, d, rfl, rfl, by go_num, rfl, by omega, hk3b, hd2, Hk3, Hm, HB2⟩)
        · have Hnx : Hid (max d dd = dpL (rs.take (i + 1))) := by show _ = _; rw [unhide HnD, ← unhide Hd0, if_neg hcd, Nat.add_zero]
          have hs : (kd == 3) = false := by simp; intro q; exact hcd (.inl q)
          have hs2 : ¬ 0 < li.length := fun q => hcd (.inr q)
          clear hcd
          by_cases hmx : d < dd
          · have Hm : Hid (dd = dpL (rs.take (i + 1))) := by show _ = _; rw [← unhide Hnx]; omega
            go_wp2
            go_roundg (n - (i + 1))
            case measure => have := unhide Hgk; omega
            case rel => exact ⟨i + 1, k3, dd, rfl, rfl, by go_num, rfl, by omega, hk3b, by omega, Hk3, Hm, HB2⟩
          · have Hm : Hid (d = dpL (rs.take (i + 1))) := by show _ = _; rw [← unhide Hnx]; omega
            go_wp2
            go_roundg (n - (i + 1))
            case measure => have := unhide Hgk; omega
            case rel => exact ⟨i + 1, k3, d, rfl, rfl, by go_num, rfl, by omega, hk3b, hd2, Hk3, Hm, HB2⟩
      · obtain rfl : i = n := by omega
        have hk := unhide Hk
        have hd := unhide Hd
        rw [List.take_of_length_le (by rw [unhide Hn]; exact Nat.le_refl _)] at hk hd
        rw [unhide HK] at hk
        rw [unhide HD] at hd
        subst hk hd
        go_wp2
        go_ret2
        exact ⟨rfl, unhide HB⟩
#print axioms xcount_ri
end Go.Proofs.YtgbadnbhgpnppaaDoor
