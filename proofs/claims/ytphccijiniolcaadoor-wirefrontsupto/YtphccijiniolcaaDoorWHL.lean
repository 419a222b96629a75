import Derived.Test.YtphccijiniolcaaDoorWHK
import Derived.Test.YtphccijiniolcaaDoorWGK
import Derived.Test.YtphccijiniolcaaDoorWGJ
namespace Go.Proofs.YtphccijiniolcaaDoor
open Go.RowKit
attribute [local go_sem ↓] Go.wp_at_zero Go.wp_at_succ

mutual
/-- No fewer than the bytes. -/
def lgR : Rt → Nat
  | .mk _ _ _ t li => 20 + t.size + lgL li
def lgL : List Rt → Nat
  | [] => 0
  | t :: ts => lgR t + lgL ts
end
theorem lgL_append : ∀ a b : List Rt, lgL (a ++ b) = lgL a + lgL b
  | [], b => by simp [lgL]
  | t :: a, b => by
    show lgR t + lgL (a ++ b) = (lgR t + lgL a) + lgL b
    rw [lgL_append a b]
    omega
theorem tag_five {u : Nat} (h : u < 34359738368) : (vN u).length ≤ 5 := by
  have := (vint_len 4 u (by omega)).2
  rw [vint_vN] at this
  exact this
theorem enc_lg : ∀ (N : Nat) (ts : List Rt), SizeOf.sizeOf ts ≤ N → WfL ts → lgL ts < 18446744073709551616 → (encL ts).length ≤ lgL ts := by
  intro N
  induction N with
  | zero =>
    intro ts hN
    cases ts with
    | nil => simp at hN
    | cons a b => simp at hN
  | succ N ih =>
    intro ts hN hw hl
    cases ts with
    | nil => exact Nat.le_refl _
    | cons r ts =>
      obtain ⟨nb, kd, x, t, li⟩ := r
      have hN1 : SizeOf.sizeOf li ≤ N := by simp at hN; omega
      have hN2 : SizeOf.sizeOf ts ≤ N := by simp at hN; omega
      obtain ⟨hT, hLi⟩ := hw.at' (i := 0) rfl
      rw [lgL, lgR] at hl ⊢
      have h2 := ih ts hN2 hw.tail (by omega)
      have h1 := ih li hN1 hLi (by omega)
      have hnum := hT.rg.num
      have hkk := hT.rg.kind
      have hv : (vN (8 * nb + kd)).length ≤ 5 := tag_five (by omega)
      rw [encL, encR, List.length_append, List.length_append]
      have hb : (bodyN nb kd x t (encL li)).length ≤ 15 + t.size + lgL li := by
        unfold bodyN
        split
        · have := (vN_len (un_lt x)).2; omega
        · split
          · rw [fN_len]; omega
          · split
            · rw [List.length_append, tN_len]
              have := (vN_len (u := t.size) (by omega)).2
              omega
            · split
              · rw [List.length_append]
                have : (vN (8 * nb + 4)).length ≤ 5 := tag_five (by omega)
                omega
              · rw [fN_len]; omega
      omega
theorem tmB_cases {nb k : Nat} {x : Int} {t : ByteArray} {ys : List Rt} : (∃ x' t', tmB nb k x t ys = .mk nb (if k = 0 then 0 else if k = 1 then 1 else if k = 2 then 2 else 5) x' t' [] ∧ t'.size ≤ t.size ∧ k ≤ 3) ∨ (tmB nb k x t ys = .mk nb 3 0 .empty ys ∧ ¬ k ≤ 3) := by
  unfold tmB
  by_cases h0 : k = 0
  · rw [if_pos h0]; exact .inl ⟨x, .empty, by rw [if_pos h0], Nat.zero_le _, by omega⟩
  · rw [if_neg h0]
    by_cases h1 : k = 1
    · rw [if_pos h1]; exact .inl ⟨x, .empty, by rw [if_neg h0, if_pos h1], Nat.zero_le _, by omega⟩
    · rw [if_neg h1]
      by_cases h2 : k = 2
      · rw [if_pos h2]; exact .inl ⟨0, t, by rw [if_neg h0, if_neg h1, if_pos h2], Nat.le_refl _, by omega⟩
      · rw [if_neg h2]
        by_cases h3 : k = 3
        · rw [if_pos h3]; exact .inl ⟨_, .empty, by rw [if_neg h0, if_neg h1, if_neg h2], Nat.zero_le _, by omega⟩
        · rw [if_neg h3]; exact .inr ⟨rfl, by omega⟩
theorem tmR_any (d : Nat) (nb kd x : Int) (t : ByteArray) (li : List Ri) : ∃ ys, tmR d (.mk nb kd x t li) = tmB (numN nb) (kd % 5).toNat x t ys ∧ ((d = 0 ∧ ys = []) ∨ (∃ e, d = e + 1 ∧ ys = tmL e li)) := tmR_k (by omega)
theorem mem_sum_le : ∀ {l : List Nat} {a : Nat}, a ∈ l → a ≤ l.sum
  | [], a, h => by simp at h
  | b :: l, a, h => by
    rw [List.sum_cons]
    rcases List.mem_cons.1 h with rfl | h
    · omega
    · have := mem_sum_le h; omega
mutual
theorem tmR_lg : ∀ (r : Ri) (d : Nat), lgR (tmR d r) ≤ 20 * blR r
  | .mk nb kd x t li, d => by
    obtain ⟨ys, ey, hy⟩ := tmR_any d nb kd x t li
    rw [ey, blR]
    have hi : ∀ e, lgL (tmL e li) ≤ 20 * blL li := fun e => tmL_lg li e
    rcases tmB_cases (nb := numN nb) (k := (kd % 5).toNat) (x := x) (t := t) (ys := ys) with ⟨x', t', e, h1, _⟩ | ⟨e, _⟩
    · rw [e, lgR, lgL]
      omega
    · rw [e, lgR, show ByteArray.empty.size = 0 from rfl]
      rcases hy with ⟨_, rfl⟩ | ⟨e0, _, rfl⟩
      · rw [lgL]; omega
      · have := hi e0
        omega
theorem tmL_lg : ∀ (rs : List Ri) (d : Nat), lgL (tmL d rs) ≤ 20 * blL rs
  | [], d => by rw [tmL, lgL]; omega
  | r :: rs, d => by
    have h1 := tmR_lg r d
    have h2 := tmL_lg rs d
    rw [tmL, lgL, blL]
    omega
end
mutual
theorem tmR_cnt : ∀ (r : Ri) (d : Nat), cntR (tmR d r) ≤ blR r
  | .mk nb kd x t li, d => by
    obtain ⟨ys, ey, hy⟩ := tmR_any d nb kd x t li
    rw [ey, blR]
    have hi : ∀ e, cntL (tmL e li) ≤ blL li := fun e => tmL_cnt li e
    rcases tmB_cases (nb := numN nb) (k := (kd % 5).toNat) (x := x) (t := t) (ys := ys) with ⟨x', t', e, h1, _⟩ | ⟨e, _⟩
    · rw [e, cntR, cntL]
      omega
    · rw [e, cntR]
      rcases hy with ⟨_, rfl⟩ | ⟨e0, _, rfl⟩
      · rw [cntL]; omega
      · have := hi e0
        omega
theorem tmL_cnt : ∀ (rs : List Ri) (d : Nat), cntL (tmL d rs) ≤ blL rs
  | [], d => by rw [tmL, cntL]; omega
  | r :: rs, d => by
    have h1 := tmR_cnt r d
    have h2 := tmL_cnt rs d
    rw [tmL, cntL, blL]
    omega
end
mutual
theorem tmR_deep : ∀ (r : Ri) (d D : Nat), d < D → deepR D (tmR d r) = false
  | .mk nb kd x t li, d, D, hd => by
    obtain ⟨ys, ey, hy⟩ := tmR_any d nb kd x t li
    rw [ey]
    have hi : ∀ e E, e < E → deepL E (tmL e li) = false := fun e E h => tmL_deep li e E h
    rcases tmB_cases (nb := numN nb) (k := (kd % 5).toNat) (x := x) (t := t) (ys := ys) with ⟨x', t', e, _, h1⟩ | ⟨e, _⟩
    · rw [e]
      have z : ((if (kd % 5).toNat = 0 then 0 else if (kd % 5).toNat = 1 then 1 else if (kd % 5).toNat = 2 then 2 else 5 : Nat) == 3) = false := by
        split
        · rfl
        · split
          · rfl
          · split <;> rfl
      simp only [deepR, z]
      simp
    · rw [e]
      have z : (D == 0) = false := by simp; omega
      rcases hy with ⟨_, rfl⟩ | ⟨e0, _, rfl⟩
      · simp [deepR, deepL, z]
      · have := hi e0 (D - 1) (by omega)
        simp [deepR, z, this]
theorem tmL_deep : ∀ (rs : List Ri) (d D : Nat), d < D → deepL D (tmL d rs) = false
  | [], d, D, _ => by rw [tmL, deepL]
  | r :: rs, d, D, hd => by
    have h1 := tmR_deep r d D hd
    have h2 := tmL_deep rs d D hd
    show (deepR D (tmR d r) || deepL D (tmL d rs)) = false
    rw [h1, h2]
    rfl
end
theorem sm_of : ∀ (N : Nat) (ts : List Rt), SizeOf.sizeOf ts ≤ N → cntL ts ≤ 1048576 → SmT ts := by
  intro N
  induction N with
  | zero =>
    intro ts hN
    cases ts with
    | nil => simp at hN
    | cons a b => simp at hN
  | succ N ih =>
    intro ts hN hc
    have hs := cnt_split ts
    refine .mk _ (by omega) fun i t ht => ?_
    have hi := (List.getElem?_eq_some_iff.1 ht).1
    have hlt : SizeOf.sizeOf t.inner ≤ N := by
      have h1 : SizeOf.sizeOf t < SizeOf.sizeOf ts := by
        have := List.sizeOf_lt_of_mem (List.mem_of_getElem? ht)
        exact this
      obtain ⟨nb, kd, x, tt, li⟩ := t
      show SizeOf.sizeOf li ≤ N
      simp at h1
      omega
    refine ih _ hlt ?_
    have hI : cntL t.inner ≤ cntI ts := by
      unfold cntI
      exact mem_sum_le (List.mem_map.2 ⟨t, List.mem_of_getElem? ht, rfl⟩)
    omega
theorem rng_mod (x : Int) : -9223372036854775808 ≤ x % 4294967296 ∧ x % 4294967296 ≤ 9223372036854775807 := by omega
theorem rng_mod2 (x : Int) : 0 ≤ x % 4294967296 ∧ x % 4294967296 ≤ 4294967295 := by omega
/-- What tame makes is right. -/
theorem HasRi.wf {W : World} {v : Value} {rs : List Ri} (h : HasRi W v rs) : ∀ d, WfL (tmL d rs) := by
  induction h with
  | nil a c => exact fun d => .nil
  | row g off n c rs us hn hm hg hw hc hi ih =>
    intro d
    have key : ∀ (i : Nat) (r : Rt), (tmL d rs)[i]? = some r → ∃ q : Ri, rs[i]? = some q ∧ r = tmR d q := fun i r hr => by
      have hlt := (List.getElem?_eq_some_iff.1 hr).1
      rw [tmL_len] at hlt
      have e := List.getElem?_eq_getElem hlt
      have q := tmL_get d rs i _ e
      rw [hr] at q
      exact ⟨_, e, Option.some.inj q⟩
    have both : ∀ (i : Nat) (r : Rt), (tmL d rs)[i]? = some r → ∃ nb kd x t li, r = .mk nb kd x t li ∧ WfT nb kd x t li ∧ WfL li := fun i r hr => by
      obtain ⟨⟨nb, kd, x, t, li⟩, hq, rfl⟩ := key i r hr
      obtain ⟨_, _, hx⟩ := hw i nb kd x t li hq
      have hnn := numN_rng nb
      obtain ⟨ys, ey, hy⟩ := tmR_any d nb kd x t li
      have hin : WfL ys := by
        rcases hy with ⟨_, rfl⟩ | ⟨e, _, rfl⟩
        · exact .nil
        · exact ih i _ hq e
      rw [ey]
      have hk : (kd % 5).toNat = 0 ∨ (kd % 5).toNat = 1 ∨ (kd % 5).toNat = 2 ∨ (kd % 5).toNat = 3 ∨ (kd % 5).toNat = 4 := by omega
      unfold RngI at hx
      rcases hk with hk | hk | hk | hk | hk <;> rw [hk]
      · exact ⟨numN nb, 0, x, .empty, [], rfl, ⟨⟨hnn, by decide, fun _ => rfl, fun _ => rfl, fun q => absurd q (by decide), fun q => absurd q (by decide)⟩, hx⟩, .nil⟩
      · exact ⟨numN nb, 1, x, .empty, [], rfl, ⟨⟨hnn, by decide, fun _ => rfl, fun _ => rfl, fun q => absurd q (by decide), fun q => absurd q (by decide)⟩, hx⟩, .nil⟩
      · exact ⟨numN nb, 2, 0, t, [], rfl, ⟨⟨hnn, by decide, fun q => absurd rfl q, fun _ => rfl, fun _ => rfl, fun q => absurd q (by decide)⟩, by omega⟩, .nil⟩
      · exact ⟨numN nb, 5, x % 4294967296, .empty, [], rfl, ⟨⟨hnn, by decide, fun _ => rfl, fun _ => rfl, fun q => absurd q (by decide), fun _ => rng_mod2 x⟩, rng_mod x⟩, .nil⟩
      · exact ⟨numN nb, 3, 0, .empty, ys, rfl, ⟨⟨hnn, by decide, fun _ => rfl, fun q => absurd rfl q, fun _ => rfl, fun q => absurd q (by decide)⟩, by omega⟩, hin⟩
    refine .mk _ (fun i nb kd x t li hr => ?_) (fun i r hr => ?_)
    · obtain ⟨nb', kd', x', t', li', e, h1, _⟩ := both i _ hr
      injection e with e1 e2 e3 e4 e5
      subst e1 e2 e3 e4 e5
      exact h1
    · obtain ⟨nb', kd', x', t', li', rfl, _, h2⟩ := both i _ hr
      exact h2
theorem add_lg {m a b n : Nat} (e : n = m + (20 + a + b)) (h : n ≤ 1099511627776) : Value.int .i64 (IntKind.i64.wrap (IntKind.i64.wrap (IntKind.i64.wrap ((m : Int) + 20) + (a : Int)) + (b : Int))) = .int .i64 (n : Int) := by
  refine congrArg (Value.int .i64) ?_
  have e1 : IntKind.i64.wrap ((m : Int) + 20) = (m : Int) + 20 := by rw [IntKind.wrap_i64]; omega
  rw [e1]
  clear e1
  have e2 : IntKind.i64.wrap ((m : Int) + 20 + (a : Int)) = (m : Int) + 20 + (a : Int) := by rw [IntKind.wrap_i64]; omega
  rw [e2]
  clear e2
  rw [IntKind.wrap_i64]
  omega
set_option maxRecDepth 100000 in
set_option maxHeartbeats 8000000 in
/-- large, in general. -/
theorem large_rt {W : World} {P : Nat → Prop} {v : Value} {ts : List Rt} (h : HasRt W P v ts) : lgL ts ≤ 1099511627000 → ∀ w0, Below W.heap.size W w0 → Calls Tryd.prog 17 #[v] w0 fun e W' => e = .returned (.int .i64 ((lgL ts : Nat) : Int)) ∧ Below w0.heap.size w0 W' := by
  induction h with
  | nil a c =>
    intro _ w0 _
    go_enter Tryd.func17, Tryd.ntmps17
    go_wp2
    refine wp_loop_rounds 1 ?_
    rw [rounds_succ]
    go_wp2
    go_ret
    exact ⟨rfl, Below.refl _ _⟩
  | row g n c ts us hp hn hm hg hc hi ih =>
    intro hbd w0 hw0
    unfold maxLen at hm
    have Hc := hide hc
    have Hih := hide ih
    have Hi := hide hi
    have Hn := hide hn
    have Hw0 := hide hw0
    have Hbd0 := hide hbd
    clear hc ih hi hn hp hw0 hbd
    go_enter Tryd.func17, Tryd.ntmps17
    go_wp2
    go_loopg [3, 4] n (fun gk v3 v4 wr => ∃ (i m : Nat), v3 = .int .i64 (m : Int) ∧ v4 = .int .i64 (i : Int) ∧ gk = n - i ∧ i ≤ n ∧ Hid (m = lgL (ts.take i)) ∧ Hid (Below w0.heap.size w0 wr))
    case atStart => exact ⟨0, 0, rfl, rfl, rfl, Nat.zero_le _, by show 0 = _; simp [lgL], Below.refl _ _⟩
    case round =>
      obtain ⟨i, m, rfl, rfl, hgk, hin, Hm, HB⟩ := hrel
      have Hgk := hide hgk
      clear hgk
      by_cases hlt : i < n
      · obtain ⟨r, hr⟩ : ∃ r, ts[i]? = some r := ⟨_, List.getElem?_eq_getElem (by rw [unhide Hn]; exact hlt)⟩
        have hBW : Below W.heap.size W wr := (unhide Hw0).trans ((unhide HB).mono (unhide Hw0).size)
        have hcs := unhide Hc i r hr
        obtain ⟨ia, ic, eu⟩ := (unhide Hi i r hr).form
        have hcall0 := unhide Hih i r hr
        rw [eu] at hcs hcall0
        have hnx : lgL (ts.take (i + 1)) = lgL (ts.take i) + lgR r := by
          rw [List.take_add_one, hr, lgL_append]
          simp [lgL]
        have hfr : lgL (ts.take (i + 1)) ≤ lgL ts := by
          have e : ts = ts.take (i + 1) ++ ts.drop (i + 1) := (List.take_append_drop _ _).symm
          conv => rhs; rw [e, lgL_append]
          omega
        have hbd := unhide Hbd0
        obtain ⟨nb, kd, x, t, li⟩ := r
        rw [lgR] at hnx
        have hcall : ∀ w0, Below W.heap.size W w0 → Calls Tryd.prog 17 #[.slice ia li.length ic] w0 fun e W' => e = .returned (.int .i64 ((lgL li : Nat) : Int)) ∧ Below w0.heap.size w0 W' := hcall0 (by show lgL li ≤ _; omega)
        generalize lgL li = lz at *
        obtain ⟨m2, hm2⟩ : ∃ m2, lgL (ts.take (i + 1)) = m2 := ⟨_, rfl⟩
        rw [hm2] at hnx hfr
        have hmm := unhide Hm
        rw [← hmm] at hnx
        have d3 := (hBW.cell (p := ⟨g, i * 5 + 3, none⟩) hg).trans (hcs 3 _ rfl)
        have d4 : wr.cell? ⟨g, i * 5 + 4, none⟩ = some (.slice ia li.length ic) := (hBW.cell (p := ⟨g, i * 5 + 4, none⟩) hg).trans (hcs 4 _ rfl)
        have hi0 : (0 : Int) ≤ (i : Int) := Int.natCast_nonneg _
        have hi1 : (i : Int) < (n : Int) := by omega
        have hgw : g < wr.heap.size := Nat.lt_of_lt_of_le hg hBW.size
        have Hcall := hide (hcall wr.drew hBW.drew)
        have HV : Hid (Value.int .i64 (IntKind.i64.wrap (IntKind.i64.wrap (IntKind.i64.wrap ((m : Int) + 20) + (t.size : Int)) + (lz : Int))) = .int .i64 (m2 : Int)) := by
          exact add_lg hnx (by omega)
        have Hm2 := hide hm2
        have HS : Hid (∀ w', Below wr.heap.size wr w' → (w'.cell? ⟨g, i * 5 + 3, none⟩ = some (.string t) ∧ w'.cell? ⟨g, i * 5 + 4, none⟩ = some (.slice ia li.length ic)) ∧ Below wr.heap.size wr w') := fun w' h => ⟨⟨(h.cell (p := ⟨g, i * 5 + 3, none⟩) hgw).trans d3, (h.cell (p := ⟨g, i * 5 + 4, none⟩) hgw).trans d4⟩, h⟩
        clear hcs eu hcall0 hcall hBW hr hnx hfr hmm hm2 hbd
        go_wp2_with fail
        go_region_held3 (fun w' => (w'.cell? ⟨g, i * 5 + 3, none⟩ = some (.string t) ∧ w'.cell? ⟨g, i * 5 + 4, none⟩ = some (.slice ia li.length ic)) ∧ Below wr.heap.size wr w')
          ((refine unhide HS _ ?_; first | exact (Below.refl _ _).drew | exact hB2 | exact Below.refl _ _))
          (first
            | (go_at_call 17; refine (unhide Hcall).mono ?_; rintro o W2 ⟨rfl, hb2⟩; have hB2 : Below wr.heap.size wr W2 := ((Below.refl _ wr).drew).trans hb2))
        go_wp2
        go_roundg (n - (i + 1))
        case measure => have := unhide Hgk; omega
        case rel => exact ⟨i + 1, m2, unhide HV, by go_num, rfl, by omega, (unhide Hm2).symm, (unhide HB).trans (hB2.mono (unhide HB).size)⟩
      · obtain rfl : i = n := by omega
        have hmm := unhide Hm
        rw [List.take_of_length_le (by rw [unhide Hn]; exact Nat.le_refl _)] at hmm
        have Hmm := hide hmm
        clear hmm
        go_wp2
        go_ret
        exact ⟨by rw [unhide Hmm]; rfl, unhide HB⟩
#print axioms large_rt
end Go.Proofs.YtphccijiniolcaaDoor
namespace Go.Proofs.YtphccijiniolcaaDoor
open Go.RowKit
attribute [local go_sem ↓] Go.wp_at_zero Go.wp_at_succ

set_option maxRecDepth 100000 in
set_option maxHeartbeats 4000000 in
theorem join_size {W : World} {P : Nat → Prop} {v : Value} {ts : List Rt} (h : HasRt W P v ts) (hsm : SmT ts) (hw : WfL ts) (hd : deepL 63 ts = false) (hc : cntL ts ≤ 1048576) (hl : 1048576 < (encL ts).length) (hl2 : (encL ts).length ≤ 1099511627000) :
    Calls Tryd.prog 13 #[v] W fun e W' => e = .returned (.tuple #[.slice none 0 0, .int .i64 5]) ∧ Below W.heap.size W W' := by
  have Hmany := hide (tooMany_rt h hsm)
  rw [decide_eq_false (by omega)] at Hmany
  have Hdeep := hide (tooDeep_rt h 63 (by decide))
  rw [hd] at Hdeep
  have Hff := hide (firstFault_rt h hw.rg)
  have Hsz := hide (sizeAll_rt h hw hl2)
  obtain ⟨n, hn⟩ : ∃ n, (encL ts).length = n := ⟨_, rfl⟩
  rw [hn] at Hsz
  have hln : 1048576 < n := by omega
  clear h hsm hw hd hc hl hn hl2
  have hdd : decide ((1048576 : Int) < (n : Int)) = true := decide_eq_true (by omega)
  go_enter Tryd.func13, Tryd.ntmps13
  go_wp2_with fail
  refine (unhide Hmany).mono ?_
  rintro e w1 ⟨rfl, hb1⟩
  have Hb1 := hide hb1
  clear hb1 Hmany
  go_wp2_with fail
  refine (unhide Hdeep w1 (unhide Hb1)).mono ?_
  rintro e w2 ⟨rfl, hb2⟩
  have Hb2 := hide ((unhide Hb1).trans (hb2.mono (unhide Hb1).size))
  clear hb2 Hdeep
  go_wp2_with fail
  refine (unhide Hff w2 (unhide Hb2)).mono ?_
  rintro e w3 ⟨rfl, hb3⟩
  have Hb3 := hide ((unhide Hb2).trans (hb3.mono (unhide Hb2).size))
  clear hb3 Hff
  go_wp2_with fail
  refine (unhide Hsz w3 (unhide Hb3)).mono ?_
  rintro e w4 ⟨rfl, hb4⟩
  have HB4 := hide ((unhide Hb3).trans (hb4.mono (unhide Hb3).size))
  clear hb4 Hsz
  go_wp2
  go_ret2
  exact ⟨rfl, unhide HB4⟩
set_option maxRecDepth 100000 in
set_option maxHeartbeats 8000000 in
/-- The law. -/
theorem wireBack_row {W : World} {v : Value} {rs : List Ri} (hF : HasF W) (h : HasRi W v rs) (hb : blL rs ≤ 1048576) :
    Calls Tryd.prog 4 #[v] W fun e W' => e = .returned (.bool true) ∧ Below W.heap.size W W' := by
  have Hkn := hide (known_any (fun _ _ _ _ _ _ _ r h => add_nil r h) hF)
  have Htm := hide (fun w0 hB => tames_any h hb w0 hB)
  have hwf := h.wf 59
  have hcn := tmL_cnt rs 59
  have hlg := tmL_lg rs 59
  have hdp := tmL_deep rs 59 63 (by decide)
  obtain ⟨va, vc, rfl⟩ := h.form
  obtain ⟨ts, hts⟩ : ∃ ts, tmL 59 rs = ts := ⟨_, rfl⟩
  rw [hts] at Htm hwf hcn hlg hdp
  have hcn2 : cntL ts ≤ 1048576 := by omega
  have hlg2 : lgL ts ≤ 20971520 := by omega
  have hsm := sm_of _ ts (Nat.le_refl _) hcn2
  have hel := enc_lg _ ts (Nat.le_refl _) hwf (by omega)
  obtain ⟨nn, hnn⟩ : ∃ nn, (encL ts).length = nn := ⟨_, rfl⟩
  have Hnn := hide hnn
  have Hwf := hide hwf
  have Hdp := hide hdp
  have Hsm := hide hsm
  have Hcn := hide hcn2
  have hnl : nn ≤ lgL ts := by omega
  obtain ⟨lz, hlz⟩ : ∃ lz, lgL ts = lz := ⟨_, rfl⟩
  have Hlz := hide hlz
  rw [hlz] at hnl hlg2
  clear hF h hb hwf hcn hlg hdp hts hcn2 hsm hel hnn hlz
  go_enter Tryd.func4, Tryd.ntmps4
  go_wp2_with fail
  refine (unhide Hkn).mono ?_
  rintro e W1 ⟨rfl, hb1⟩
  have HB1 := hide hb1
  clear hb1 Hkn
  go_wp2_with fail
  refine (unhide Htm W1 (unhide HB1)).mono ?_
  rintro e W2 ⟨wa, wc, rfl, hT2, hb2⟩
  have HB2 := hide ((unhide HB1).trans (hb2.mono (unhide HB1).size))
  have HT2 := hide hT2
  have Htwr := hide (twin_rt hT2 (unhide Hsm) W2 (Below.refl _ _))
  clear hT2 hb2 Htm
  go_wp2_with fail
  refine (unhide Htwr).mono ?_
  rintro e W3 ⟨ya, yc, rfl, hT3, hb3⟩
  have HB3 := hide ((unhide HB2).trans (hb3.mono (unhide HB2).size))
  have HTw := hide ((unhide HT2).mono (Q := fun _ => True) (fun g hg hp => ⟨trivial, hb3.block g hg⟩) hb3.size)
  have HT3 := hide hT3
  clear hb3 Htwr hT3 HT2
  by_cases hsz : nn ≤ 1048576
  · have Hj := hide (join_rt (unhide HT3) (unhide Hsm) (unhide Hwf) (unhide Hdp) (unhide Hcn) (by rw [unhide Hnn]; exact hsz))
    rw [unhide Hnn] at Hj
    have Hrun : Hid (∀ st, SpOk (encL ts) st ts) := fun st => spOk_of (encL_byt ts) (by rw [unhide Hnn]; exact hsz) (run_enc st (unhide Hwf) (unhide Hdp) (by rw [unhide Hnn]; exact hsz))
    clear HT3
    go_wp2_with fail
    refine (unhide Hj).mono ?_
    rintro e W4 ⟨jg, jc, rfl, hJ4, hb4⟩
    have HB4 := hide ((unhide HB3).trans (hb4.mono (unhide HB3).size))
    have HTx := hide ((unhide HTw).mono (Q := fun _ => True) (fun g hg hp => ⟨trivial, hb4.block g hg⟩) hb4.size)
    have HJ4 := hide hJ4.has
    clear hJ4 hb4 Hj HTw HB3
    go_wp2
    go_loopg [6] 2 (fun gk v6 wr => ∃ k : Nat, v6 = .int .i64 (k : Int) ∧ gk = 2 - k ∧ k ≤ 2 ∧ Hid (Below W.heap.size W wr) ∧ Hid (HasRt wr (fun _ => True) (.slice wa ts.length wc) ts) ∧ Hid (HasB wr (.slice (some ⟨jg, 0, none⟩) nn jc) (byB (encL ts))))
    case atStart => exact ⟨0, rfl, rfl, by decide, HB4, HTx, HJ4⟩
    case round =>
      clear HB4 HTx HJ4
      obtain ⟨k, rfl, hgk, hk, HB, HT, HJ⟩ := hrel
      have Hgk := hide hgk
      clear hgk
      by_cases hlt : k < 2
      · have htw := twin_any (unhide HJ) (by rw [byB_length, unhide Hnn]; omega)
        rw [byB_length, unhide Hnn] at htw
        have Htw := hide htw
        obtain ⟨st, hst⟩ : ∃ st, ((k : Int) == 0) = st := ⟨_, rfl⟩
        clear htw
        go_wp2_with fail
        refine (unhide Htw).mono ?_
        rintro e w2 ⟨rfl, hy2, hb2⟩
        have HB2' := hide ((unhide HB).trans (hb2.mono (unhide HB).size))
        have hsp := unhide Hrun st w2 wr.heap.size nn (bytes_at hy2)
        rw [unhide Hnn] at hsp
        have Hsp := hide hsp
        have HT2' := hide ((unhide HT).mono (Q := fun _ => True) (fun g hg hp => ⟨trivial, hb2.block g hg⟩) hb2.size)
        have HJ2 := hide ((unhide HJ).up hb2)
        clear hy2 hb2 Htw hsp HB HT HJ
        go_wp2_with fail
        refine (unhide Hsp).mono ?_
        rintro e w3 ⟨xa, xc, rfl, hT3, hb3⟩
        have HB3' := hide ((unhide HB2').trans (hb3.mono (unhide HB2').size))
        have HTy := hide ((unhide HT2').mono (Q := fun _ => True) (fun g hg hp => ⟨trivial, hb3.block g hg⟩) hb3.size)
        have HJ3 := hide ((unhide HJ2).up hb3)
        have Hsame := hide (same_rt hT3 _ (unhide HTy) w3 (Below.refl _ _))
        clear hT3 hb3 Hsp HB2' HT2' HJ2
        go_wp2_with fail
        refine (unhide Hsame).mono ?_
        rintro e w4 ⟨rfl, hb4⟩
        have HB4' := hide ((unhide HB3').trans (hb4.mono (unhide HB3').size))
        have HTz := hide ((unhide HTy).mono (Q := fun _ => True) (fun g hg hp => ⟨trivial, hb4.block g hg⟩) hb4.size)
        have HJ4' := hide ((unhide HJ3).up hb4)
        clear hb4 Hsame HB3' HTy HJ3 hst
        go_wp2
        go_roundg (2 - (k + 1))
        case measure => have := unhide Hgk; omega
        case rel => exact ⟨k + 1, by go_num, rfl, by omega, HB4', HTz, HJ4'⟩
      · obtain rfl : k = 2 := by omega
        go_wp2
        go_ret
        exact ⟨rfl, unhide HB⟩
  · have Hj := hide (join_size (unhide HT3) (unhide Hsm) (unhide Hwf) (unhide Hdp) (unhide Hcn) (by rw [unhide Hnn]; omega) (by rw [unhide Hnn]; omega))
    clear HT3
    go_wp2_with fail
    refine (unhide Hj).mono ?_
    rintro e W4 ⟨rfl, hb4⟩
    have HB4 := hide ((unhide HB3).trans (hb4.mono (unhide HB3).size))
    have HTx := hide ((unhide HTw).mono (Q := fun _ => True) (fun g hg hp => ⟨trivial, hb4.block g hg⟩) hb4.size)
    have Hlg := hide (large_rt (unhide HTx) (by rw [unhide Hlz]; omega) W4 (Below.refl _ _))
    rw [unhide Hlz] at Hlg
    have hbig : decide ((1048576 : Int) < (lz : Int)) = true := decide_eq_true (by omega)
    clear hb4 Hj HTw HB3 HTx
    go_wp2_with fail
    refine (unhide Hlg).mono ?_
    rintro e W5 ⟨rfl, hb5⟩
    have HB5 := hide ((unhide HB4).trans (hb5.mono (unhide HB4).size))
    clear hb5 Hlg HB4
    go_wp2
    go_ret
    exact ⟨by first | rfl | simp, unhide HB5⟩
#print axioms wireBack_row
end Go.Proofs.YtphccijiniolcaaDoor
namespace Go.Proofs.YtphccijiniolcaaDoor
open Go.RowKit
attribute [local go_sem ↓] Go.wp_at_zero Go.wp_at_succ

theorem HasRt.take {W : World} {P : Nat → Prop} {a : Option Addr} {n c : Nat} {ts : List Rt} (h : HasRt W P (.slice a n c) ts) (m : Nat) (hm : m ≤ n) : HasRt W P (.slice a m c) (ts.take m) := by
  generalize hv : Value.slice a n c = v at h
  cases h with
  | nil a' c' =>
    injection hv with e1 e2 e3
    subst e1 e2 e3
    obtain rfl : m = 0 := by omega
    exact .nil _ _
  | row g n' c' ts us hp hn hmx hg hc hi =>
    injection hv with e1 e2 e3
    subst e1 e2 e3
    refine .row g m c (ts.take m) us hp (by rw [List.length_take]; omega) (by omega) hg (fun i t ht j x hx => ?_) (fun i t ht => ?_)
    · have hi := (List.getElem?_eq_some_iff.1 ht).1
      rw [List.length_take] at hi
      rw [List.getElem?_take_of_lt (by omega)] at ht
      exact hc i t ht j x hx
    · have hi' := (List.getElem?_eq_some_iff.1 ht).1
      rw [List.length_take] at hi'
      rw [List.getElem?_take_of_lt (by omega)] at ht
      exact hi i t ht
theorem HasB.take {W : World} {a : Option Addr} {n c : Nat} {l : List Int} (h : HasB W (.slice a n c) l) (m : Nat) (hm : m ≤ n) : HasB W (.slice a m c) (l.take m) := by
  obtain ⟨a', c', e, hmx, h3⟩ := h
  injection e with e1 e2 e3
  subst e1 e2 e3
  have hl : (l.take m).length = m := by rw [List.length_take]; omega
  refine ⟨a, c, by rw [hl], by rw [hl]; omega, fun hp => ?_⟩
  rw [hl] at hp
  obtain ⟨g, off, rfl, hg, hc⟩ := h3 (by omega)
  refine ⟨g, off, rfl, hg, fun i b hb => ?_⟩
  have hi := (List.getElem?_eq_some_iff.1 hb).1
  rw [hl] at hi
  rw [List.getElem?_take_of_lt hi] at hb
  exact hc i b hb
theorem byB_take (l : List Nat) (n : Nat) : (byB l).take n = byB (l.take n) := by simp [byB, List.map_take]
theorem bytes_cap {base : Nat} {W : World} {a : Option Addr} {n c : Nat} {bs : List Int} (h : Bytes base W (.slice a n c) bs) : n ≤ c := by
  obtain ⟨_, ⟨e, h0⟩ | ⟨g, c', cur, e, _, _, h4, _⟩⟩ := h
  · injection e with e1 e2 e3
    omega
  · injection e with e1 e2 e3
    omega
theorem within_c (W : World) {v : Int} {n : Nat} (hv : RngI v) (hn : n ≤ 1048576) : ∃ q : Nat, q ≤ n ∧ Calls Tryd.prog 18 #[.int .i64 v, .int .i64 0, .int .i64 (n : Int)] W fun e w => e = .returned (.int .i64 (q : Int)) ∧ w = W := by
  have h := within_all W (v := v) (lo := 0) (hi := (n : Int)) (d := (n : Int)) (N := (n : Int) + 1) hv (by decide) (by omega) rfl (by omega) (by omega)
  have h1 := Int.emod_nonneg v (show (n : Int) + 1 ≠ 0 by omega)
  have h2 := Int.emod_lt_of_pos v (show (0 : Int) < (n : Int) + 1 by omega)
  refine ⟨(v % ((n : Int) + 1)).toNat, by omega, ?_⟩
  rw [Int.zero_add] at h
  rw [Int.toNat_of_nonneg h1]
  exact h
/-- The front of the bytes is split to a front of the records, or runs out. -/
theorem front_cases {ts : List Rt} {n : Nat} (hw : WfL ts) (hd : deepL 63 ts = false) (hl : (encL ts).length ≤ 1048576) (hn : n ≤ (encL ts).length) :
    (∃ p, p ≤ n ∧ n < (encL ts).length ∧ SpEr ((encL ts).take n) true p 20) ∨ (∃ m, m ≤ ts.length ∧ SpOk ((encL ts).take n) true (ts.take m) ∧ (n < (encL ts).length ∨ m = ts.length)) := by
  have hb : ∀ x ∈ (encL ts).take n, x < 256 := fun x hx => encL_byt ts x (List.mem_of_mem_take hx)
  have hln : ((encL ts).take n).length ≤ 1048576 := by rw [List.length_take]; omega
  by_cases hlt : n < (encL ts).length
  · rcases run_cut true hw hd hl hlt with ⟨p, h1, h2⟩ | ⟨m, h1, h2⟩
    · refine .inl ⟨p, h1, hlt, fun W g c hc => (split_any (c := c) (st := true) hc hb hln).mono fun e w hq => ?_⟩
      rw [h2] at hq
      exact ⟨hq.1.1, hq.2⟩
    · exact .inr ⟨m, h1, spOk_of hb hln h2, .inl hlt⟩
  · have hne : n = (encL ts).length := by omega
    have e : (encL ts).take n = encL ts := by rw [hne, List.take_length]
    rw [e]
    exact .inr ⟨ts.length, Nat.le_refl _, by rw [List.take_length]; exact spOk_of (encL_byt ts) hl (run_enc true hw hd hl), .inr rfl⟩
set_option maxRecDepth 100000 in
set_option maxHeartbeats 16000000 in
/-- The law. -/
theorem wireFronts_row {W : World} {v : Value} {rs : List Ri} {cut : Int} (hF : HasF W) (h : HasRi W v rs) (hb : blL rs ≤ 1048576) (hcut : -9223372036854775808 ≤ cut ∧ cut ≤ 9223372036854775807) :
    Calls Tryd.prog 5 #[v, .int .i64 cut] W fun e W' => e = .returned (.bool true) ∧ Below W.heap.size W W' := by
  have Hkn := hide (known_any (fun _ _ _ _ _ _ _ r h => add_nil r h) hF)
  have Htm := hide (fun w0 hB => tames_cap h hb w0 hB)
  have hwf := h.wf 59
  have hcn := tmL_cnt rs 59
  have hlg := tmL_lg rs 59
  have hdp := tmL_deep rs 59 63 (by decide)
  obtain ⟨va, vc, rfl⟩ := h.form
  obtain ⟨ts, hts⟩ : ∃ ts, tmL 59 rs = ts := ⟨_, rfl⟩
  rw [hts] at Htm hwf hcn hlg hdp
  have hcn2 : cntL ts ≤ 1048576 := by omega
  have hsm := sm_of _ ts (Nat.le_refl _) hcn2
  have hel := enc_lg _ ts (Nat.le_refl _) hwf (by omega)
  obtain ⟨nn, hnn⟩ : ∃ nn, (encL ts).length = nn := ⟨_, rfl⟩
  have Hnn := hide hnn
  have Hwf := hide hwf
  have Hdp := hide hdp
  have Hsm := hide hsm
  have Hcn := hide hcn2
  have hnl : nn ≤ 20971520 := by omega
  have hcl : ts.length ≤ 1048576 := by have := cnt_split ts; omega
  have HC := hide hcut
  clear hF h hb hwf hcn hlg hdp hts hcn2 hsm hel hnn hcut
  go_enter Tryd.func5, Tryd.ntmps5
  go_wp2_with fail
  refine (unhide Hkn).mono ?_
  rintro e W1 ⟨rfl, hb1⟩
  have HB1 := hide hb1
  clear hb1 Hkn
  go_wp2_with fail
  refine (unhide Htm W1 (unhide HB1)).mono ?_
  rintro e W2 ⟨wa, wc, rfl, hT2, hb2, hwc1, hwc2, hwa⟩
  unfold maxLen at hwc2
  have HB2 := hide ((unhide HB1).trans (hb2.mono (unhide HB1).size))
  have HT2 := hide hT2
  have Htwr := hide (twin_rt hT2 (unhide Hsm) W2 (Below.refl _ _))
  have Hwa := hide hwa
  clear hT2 hb2 Htm hwa
  go_wp2_with fail
  refine (unhide Htwr).mono ?_
  rintro e W3 ⟨ya, yc, rfl, hT3, hb3⟩
  have HB3 := hide ((unhide HB2).trans (hb3.mono (unhide HB2).size))
  have HTw := hide ((unhide HT2).mono (Q := fun _ => True) (fun g hg hp => ⟨trivial, hb3.block g hg⟩) hb3.size)
  have HT3 := hide hT3
  clear hb3 Htwr hT3 HT2
  by_cases hsz : nn ≤ 1048576
  · have Hj := hide (join_rt (unhide HT3) (unhide Hsm) (unhide Hwf) (unhide Hdp) (unhide Hcn) (by rw [unhide Hnn]; exact hsz))
    rw [unhide Hnn] at Hj
    clear HT3
    go_wp2_with fail
    refine (unhide Hj).mono ?_
    rintro e W4 ⟨jg, jc, rfl, hJ4, hb4⟩
    have HB4 := hide ((unhide HB3).trans (hb4.mono (unhide HB3).size))
    have HTx := hide ((unhide HTw).mono (Q := fun _ => True) (fun g hg hp => ⟨trivial, hb4.block g hg⟩) hb4.size)
    have hjc := bytes_cap hJ4
    have HJ4 := hide hJ4.has
    obtain ⟨n, hn, hwi⟩ := within_c W4 (unhide HC) hsz
    have Hwi := hide hwi
    clear hJ4 hb4 Hj HTw HB3 hwi
    go_wp2_with fail
    refine (unhide Hwi).mono ?_
    rintro e w5 ⟨rfl, hw5⟩
    subst hw5
    have hbt : ((encL ts).take n).length = n := by rw [List.length_take, unhide Hnn]; omega
    have Hbt := hide hbt
    have htw := twin_any (HasB.take (unhide HJ4) n hn) (by rw [byB_take, byB_length, hbt]; omega)
    rw [byB_take, byB_length, hbt] at htw
    have Htw := hide htw
    have Hfc := hide (front_cases (n := n) (unhide Hwf) (unhide Hdp) (by rw [unhide Hnn]; exact hsz) (by rw [unhide Hnn]; exact hn))
    rw [unhide Hnn] at Hfc
    clear hbt htw Hwi HJ4
    have hn0 : (0 : Int) ≤ (n : Int) := Int.natCast_nonneg _
    have hn1 : (n : Int) ≤ (jc : Int) := by omega
    have hjm : jc = 0 ∨ ¬ jc = 0 := by omega
    rcases hjm with rfl | hj0
    · go_wp2_with fail
      refine (unhide Htw).mono ?_
      rintro e w6 ⟨rfl, hy6, hb6⟩
      have HB6 := hide ((unhide HB4).trans (hb6.mono (unhide HB4).size))
      have HTy := hide ((unhide HTx).mono (Q := fun _ => True) (fun g hg hp => ⟨trivial, hb6.block g hg⟩) hb6.size)
      clear Htw HB4 HTx
      rcases unhide Hfc with ⟨p, hp, hlt, hsp⟩ | ⟨m, hm, hsp, hor⟩
      · have hsp' := hsp w6 w5.heap.size n (bytes_at hy6)
        rw [unhide Hbt] at hsp'
        have Hsp := hide hsp'
        clear hsp hsp' hy6 hb6
        go_wp2_with fail
        refine (unhide Hsp).mono ?_
        rintro e w7 ⟨rfl, hb7⟩
        have HB7 := hide ((unhide HB6).trans (hb7.mono (unhide HB6).size))
        clear hb7 Hsp HB6 HTy
        go_wp2
        go_ret
        exact ⟨by first | rfl | simp, unhide HB7⟩
      · have htk : (ts.take m).length = m := by rw [List.length_take]; omega
        have hsp' := hsp w6 w5.heap.size n (bytes_at hy6)
        rw [unhide Hbt, htk] at hsp'
        have Hsp := hide hsp'
        clear hsp hsp' hy6 hb6 htk
        go_wp2_with fail
        refine (unhide Hsp).mono ?_
        rintro e w7 ⟨xa, xc, rfl, hT7, hb7⟩
        have HB7 := hide ((unhide HB6).trans (hb7.mono (unhide HB6).size))
        have HTz := hide ((unhide HTy).mono (Q := fun _ => True) (fun g hg hp => ⟨trivial, hb7.block g hg⟩) hb7.size)
        have Hsame := hide (same_rt hT7 _ (HasRt.take (unhide HTz) m hm) w7 (Below.refl _ _))
        clear hT7 hb7 Hsp HB6 HTy HTz
        have hm0 : (0 : Int) ≤ (m : Int) := Int.natCast_nonneg _
        have hm1 : (m : Int) ≤ (wc : Int) := by omega
        have hfin : n < nn ∨ (¬ n < nn ∧ m = ts.length) := by
          rcases hor with q | q
          · exact .inl q
          · by_cases z : n < nn
            · exact .inl z
            · exact .inr ⟨z, q⟩
        clear hor
        rcases unhide Hwa with ⟨rfl, rfl⟩ | ⟨wg, rfl⟩
        · obtain rfl : m = 0 := by omega
          obtain rfl := List.eq_nil_of_length_eq_zero (show ts.length = 0 by omega)
          clear hm1 hm0 hwc1 hm hfin hcl
          by_cases hf : n < nn
          · go_wp2_with fail
            refine (unhide Hsame).mono ?_
            rintro e w8 ⟨rfl, hb8⟩
            have HB8 := hide ((unhide HB7).trans (hb8.mono (unhide HB7).size))
            clear hb8 Hsame HB7
            go_wp2
            go_ret
            exact ⟨by first | rfl | simp, unhide HB8⟩
          · go_wp2_with fail
            refine (unhide Hsame).mono ?_
            rintro e w8 ⟨rfl, hb8⟩
            have HB8 := hide ((unhide HB7).trans (hb8.mono (unhide HB7).size))
            clear hb8 Hsame HB7
            go_wp2
            go_ret
            exact ⟨by first | rfl | simp, unhide HB8⟩
        · have hwm : wc = 0 ∨ ¬ wc = 0 := by omega
          rcases hwm with rfl | hw0
          · obtain rfl : m = 0 := by omega
            obtain rfl := List.eq_nil_of_length_eq_zero (show ts.length = 0 by omega)
            clear hm1 hm0 hwc1 hm hfin hcl
            by_cases hf : n < nn
            · go_wp2_with fail
              refine (unhide Hsame).mono ?_
              rintro e w8 ⟨rfl, hb8⟩
              have HB8 := hide ((unhide HB7).trans (hb8.mono (unhide HB7).size))
              clear hb8 Hsame HB7
              go_wp2
              go_ret
              exact ⟨by first | rfl | simp, unhide HB8⟩
            · go_wp2_with fail
              refine (unhide Hsame).mono ?_
              rintro e w8 ⟨rfl, hb8⟩
              have HB8 := hide ((unhide HB7).trans (hb8.mono (unhide HB7).size))
              clear hb8 Hsame HB7
              go_wp2
              go_ret
              exact ⟨by first | rfl | simp, unhide HB8⟩
          · rcases hfin with hf | ⟨hf, rfl⟩
            · go_wp2_with fail
              refine (unhide Hsame).mono ?_
              rintro e w8 ⟨rfl, hb8⟩
              have HB8 := hide ((unhide HB7).trans (hb8.mono (unhide HB7).size))
              clear hb8 Hsame HB7
              go_wp2
              go_ret
              exact ⟨by first | rfl | simp, unhide HB8⟩
            · go_wp2_with fail
              refine (unhide Hsame).mono ?_
              rintro e w8 ⟨rfl, hb8⟩
              have HB8 := hide ((unhide HB7).trans (hb8.mono (unhide HB7).size))
              clear hb8 Hsame HB7
              go_wp2
              go_ret
              exact ⟨by first | rfl | simp, unhide HB8⟩
    · go_wp2_with fail
      refine (unhide Htw).mono ?_
      rintro e w6 ⟨rfl, hy6, hb6⟩
      have HB6 := hide ((unhide HB4).trans (hb6.mono (unhide HB4).size))
      have HTy := hide ((unhide HTx).mono (Q := fun _ => True) (fun g hg hp => ⟨trivial, hb6.block g hg⟩) hb6.size)
      clear Htw HB4 HTx
      rcases unhide Hfc with ⟨p, hp, hlt, hsp⟩ | ⟨m, hm, hsp, hor⟩
      · have hsp' := hsp w6 w5.heap.size n (bytes_at hy6)
        rw [unhide Hbt] at hsp'
        have Hsp := hide hsp'
        clear hsp hsp' hy6 hb6
        go_wp2_with fail
        refine (unhide Hsp).mono ?_
        rintro e w7 ⟨rfl, hb7⟩
        have HB7 := hide ((unhide HB6).trans (hb7.mono (unhide HB6).size))
        clear hb7 Hsp HB6 HTy
        go_wp2
        go_ret
        exact ⟨by first | rfl | simp, unhide HB7⟩
      · have htk : (ts.take m).length = m := by rw [List.length_take]; omega
        have hsp' := hsp w6 w5.heap.size n (bytes_at hy6)
        rw [unhide Hbt, htk] at hsp'
        have Hsp := hide hsp'
        clear hsp hsp' hy6 hb6 htk
        go_wp2_with fail
        refine (unhide Hsp).mono ?_
        rintro e w7 ⟨xa, xc, rfl, hT7, hb7⟩
        have HB7 := hide ((unhide HB6).trans (hb7.mono (unhide HB6).size))
        have HTz := hide ((unhide HTy).mono (Q := fun _ => True) (fun g hg hp => ⟨trivial, hb7.block g hg⟩) hb7.size)
        have Hsame := hide (same_rt hT7 _ (HasRt.take (unhide HTz) m hm) w7 (Below.refl _ _))
        clear hT7 hb7 Hsp HB6 HTy HTz
        have hm0 : (0 : Int) ≤ (m : Int) := Int.natCast_nonneg _
        have hm1 : (m : Int) ≤ (wc : Int) := by omega
        have hfin : n < nn ∨ (¬ n < nn ∧ m = ts.length) := by
          rcases hor with q | q
          · exact .inl q
          · by_cases z : n < nn
            · exact .inl z
            · exact .inr ⟨z, q⟩
        clear hor
        rcases unhide Hwa with ⟨rfl, rfl⟩ | ⟨wg, rfl⟩
        · obtain rfl : m = 0 := by omega
          obtain rfl := List.eq_nil_of_length_eq_zero (show ts.length = 0 by omega)
          clear hm1 hm0 hwc1 hm hfin hcl
          by_cases hf : n < nn
          · go_wp2_with fail
            refine (unhide Hsame).mono ?_
            rintro e w8 ⟨rfl, hb8⟩
            have HB8 := hide ((unhide HB7).trans (hb8.mono (unhide HB7).size))
            clear hb8 Hsame HB7
            go_wp2
            go_ret
            exact ⟨by first | rfl | simp, unhide HB8⟩
          · go_wp2_with fail
            refine (unhide Hsame).mono ?_
            rintro e w8 ⟨rfl, hb8⟩
            have HB8 := hide ((unhide HB7).trans (hb8.mono (unhide HB7).size))
            clear hb8 Hsame HB7
            go_wp2
            go_ret
            exact ⟨by first | rfl | simp, unhide HB8⟩
        · have hwm : wc = 0 ∨ ¬ wc = 0 := by omega
          rcases hwm with rfl | hw0
          · obtain rfl : m = 0 := by omega
            obtain rfl := List.eq_nil_of_length_eq_zero (show ts.length = 0 by omega)
            clear hm1 hm0 hwc1 hm hfin hcl
            by_cases hf : n < nn
            · go_wp2_with fail
              refine (unhide Hsame).mono ?_
              rintro e w8 ⟨rfl, hb8⟩
              have HB8 := hide ((unhide HB7).trans (hb8.mono (unhide HB7).size))
              clear hb8 Hsame HB7
              go_wp2
              go_ret
              exact ⟨by first | rfl | simp, unhide HB8⟩
            · go_wp2_with fail
              refine (unhide Hsame).mono ?_
              rintro e w8 ⟨rfl, hb8⟩
              have HB8 := hide ((unhide HB7).trans (hb8.mono (unhide HB7).size))
              clear hb8 Hsame HB7
              go_wp2
              go_ret
              exact ⟨by first | rfl | simp, unhide HB8⟩
          · rcases hfin with hf | ⟨hf, rfl⟩
            · go_wp2_with fail
              refine (unhide Hsame).mono ?_
              rintro e w8 ⟨rfl, hb8⟩
              have HB8 := hide ((unhide HB7).trans (hb8.mono (unhide HB7).size))
              clear hb8 Hsame HB7
              go_wp2
              go_ret
              exact ⟨by first | rfl | simp, unhide HB8⟩
            · go_wp2_with fail
              refine (unhide Hsame).mono ?_
              rintro e w8 ⟨rfl, hb8⟩
              have HB8 := hide ((unhide HB7).trans (hb8.mono (unhide HB7).size))
              clear hb8 Hsame HB7
              go_wp2
              go_ret
              exact ⟨by first | rfl | simp, unhide HB8⟩
  · have Hj := hide (join_size (unhide HT3) (unhide Hsm) (unhide Hwf) (unhide Hdp) (unhide Hcn) (by rw [unhide Hnn]; omega) (by rw [unhide Hnn]; omega))
    clear HT3
    go_wp2_with fail
    refine (unhide Hj).mono ?_
    rintro e W4 ⟨rfl, hb4⟩
    have HB4 := hide ((unhide HB3).trans (hb4.mono (unhide HB3).size))
    clear hb4 Hj HTw HB3
    go_wp2
    go_ret
    exact ⟨by first | rfl | simp, unhide HB4⟩
#print axioms wireFronts_row
end Go.Proofs.YtphccijiniolcaaDoor
