import Derived.Test.YtobomdokdajbaaaDoorWGe

namespace Go.Proofs.YtobomdokdajbaaaDoor
open Go.RowKit
attribute [local go_sem ↓] Go.wp_at_zero Go.wp_at_succ

mutual
/-- How many records there are, one with those in it. -/
def cntR : Rt → Nat
  | .mk _ _ _ _ li => 1 + cntL li
/-- How many records there are. -/
def cntL : List Rt → Nat
  | [] => 0
  | t :: ts => cntR t + cntL ts
end
/-- Those within alone. -/
def cntI (ts : List Rt) : Nat := (ts.map fun t => cntL t.inner).sum
theorem cnt_split : ∀ ts : List Rt, cntL ts = ts.length + cntI ts
  | [] => rfl
  | .mk nb kd x t li :: ts => by
    rw [cntL, cntR, cnt_split ts, List.length_cons]
    show _ = _ + (cntL li + cntI ts)
    omega
theorem cnt_enc : ∀ (N : Nat) (ts : List Rt), SizeOf.sizeOf ts ≤ N → WfL ts → cntL ts ≤ (encL ts).length := by
  intro N
  induction N with
  | zero =>
    intro ts hN
    cases ts with
    | nil => simp at hN
    | cons a b => simp at hN
  | succ N ih =>
    intro ts hN hw
    cases ts with
    | nil => exact Nat.le_refl _
    | cons r ts =>
      obtain ⟨nb, kd, x, t, li⟩ := r
      have hN1 : SizeOf.sizeOf li ≤ N := by simp at hN; omega
      have hN2 : SizeOf.sizeOf ts ≤ N := by simp at hN; omega
      obtain ⟨hT, hLi⟩ := hw.at' (i := 0) rfl
      have h2 := ih ts hN2 hw.tail
      have h1 := ih li hN1 hLi
      have hv := vN_pos (8 * nb + kd)
      rw [cntL, cntR, encL, encR, List.length_append, List.length_append]
      by_cases h3 : kd = 3
      · subst h3
        rw [show bodyN nb 3 x t (encL li) = encL li ++ vN (8 * nb + 4) from rfl, List.length_append]
        omega
      · rw [hT.rg.inner h3, cntL]
        omega
/-- A record of those that can be read. -/
theorem HasRt.rec' {W : World} {P : Nat → Prop} {v : Value} {ts : List Rt} (h : HasRt W P v ts) {i nb kd : Nat} {x : Int} {t : ByteArray} {li : List Rt} (hr : ts[i]? = some (.mk nb kd x t li)) :
    ∃ g c ia ic, v = .slice (some ⟨g, 0, none⟩) ts.length c ∧ ts.length ≤ maxLen ∧ g < W.heap.size ∧ W.cell? ⟨g, i * 5, none⟩ = some (.int .i64 (nb : Int)) ∧ W.cell? ⟨g, i * 5 + 1, none⟩ = some (.int .i64 (kd : Int)) ∧ W.cell? ⟨g, i * 5 + 2, none⟩ = some (.int .i64 x) ∧ W.cell? ⟨g, i * 5 + 3, none⟩ = some (.string t) ∧ W.cell? ⟨g, i * 5 + 4, none⟩ = some (.slice ia li.length ic) ∧ HasRt W P (.slice ia li.length ic) li := by
  cases h with
  | nil a c => simp at hr
  | row g n c ts us hp hn hm hg hc hi =>
    have hcs := hc i _ hr
    have hin := hi i _ hr
    obtain ⟨ia, ic, eu⟩ := hin.form
    rw [eu] at hcs hin
    exact ⟨g, c, ia, ic, by rw [hn], by rw [hn]; exact hm, hg, hcs 0 _ rfl, hcs 1 _ rfl, hcs 2 _ rfl, hcs 3 _ rfl, hcs 4 _ rfl, hin⟩
theorem Tryd.infoRecs : (Tryd.prog.info? 33).map (fun i => (i.zero, i.size, i.bytes)) = some (some (.slice none 0 0), 1, 24) := by kernel_rfl
theorem row_pop1 {W : World} {B g m gc : Nat} {e : TypeId} {xs : List Value} {x : Value} (hx : xs.length = m) (h : W.ownsRow B e 1 (.slice (some ⟨g, 0, none⟩) (m + 1) gc) (m + 1) (xs ++ [x])) :
    W.cell? ⟨g, m, none⟩ = some x ∧ m + 1 ≤ gc ∧ gc ≤ maxLen ∧ B ≤ g ∧ g < W.heap.size ∧ W.ownsRow B e 1 (.slice (some ⟨g, 0, none⟩) m gc) m xs := by
  obtain ⟨h1, ⟨q, _⟩ | ⟨g', cap, cur, e1, h3, h4, h5, h6, h7, h8⟩⟩ := h
  · cases q
  · injection e1 with e1 _ e2
    injection e1 with e1
    injection e1 with e1
    subst e1 e2
    have hat : ∀ i z, (xs ++ [x])[i]? = some z → cur[i]? = some z := fun i z hz => by
      rw [← h8] at hz
      have hi : i < (m + 1) * 1 := by
        have := (List.getElem?_eq_some_iff.1 hz).1
        simp at this
        omega
      rw [List.getElem?_take_of_lt hi] at hz
      rw [← Array.getElem?_toList]
      exact hz
    have c1 := hat m x (by rw [List.getElem?_append_right (by omega), hx]; simp)
    refine ⟨(cell_of_row _ _ _ _ _ _ h4).trans c1, h5, h6, h3, (Array.getElem?_eq_some_iff.1 h4).1, by rw [Nat.mul_one]; exact hx, .inr ⟨g, gc, cur, rfl, h3, h4, by omega, h6, h7, ?_⟩⟩
    have : (cur.toList.take ((m + 1) * 1)).take (m * 1) = cur.toList.take (m * 1) := by rw [List.take_take]; congr 1; omega
    rw [← this, h8, Nat.mul_one, ← hx]
    simp
/-- Lists that wait. -/
def cS (st : List (Value × List Rt)) : Nat := (st.map fun p => cntL p.2).sum
def mS (st : List (Value × List Rt)) : Nat := (st.map fun p => cntL p.2 + 1).sum
theorem mS_eq : ∀ st, mS st = cS st + st.length
  | [] => rfl
  | p :: st => by
    show (cntL p.2 + 1) + mS st = (cntL p.2 + cS st) + (st.length + 1)
    rw [mS_eq st]
    omega
theorem cS_push (st : List (Value × List Rt)) (p : Value × List Rt) : cS (st ++ [p]) = cS st + cntL p.2 := by simp [cS]
structure Wt (W : World) (P : Nat → Prop) (w : World) (v4 : Value) (st : List (Value × List Rt)) : Prop where
  row : w.ownsRow W.heap.size 33 1 v4 st.length (st.map (·.1))
  has : ∀ p ∈ st, HasRt W P p.1 p.2 ∧ SmT p.2
  bel : Below W.heap.size W w
theorem nonempty_last {α : Type} (l : List α) (h : l.length ≠ 0) : ∃ l' x, l = l' ++ [x] := by
  have hne : l ≠ [] := fun e => h (by rw [e]; rfl)
  exact ⟨l.dropLast, l.getLast hne, (List.dropLast_concat_getLast hne).symm⟩
theorem Wt.alloc {W w : World} {P : Nat → Prop} {v : Value} {st : List (Value × List Rt)} (h : Wt W P w v st) (o : Obj) : Wt W P (w.alloc o) v st := ⟨row_keep h.row (fun q hq _ => Below.heap_alloc w o q hq), h.has, h.bel.alloc h.bel.size o⟩
theorem Wt.push {W w w4 : World} {P : Nat → Prop} {v v' x : Value} {st : List (Value × List Rt)} {l : List Rt} (h : Wt W P w v st) (hx : HasRt W P x l ∧ SmT l) (hown : w4.ownsRow W.heap.size 33 1 v' (st.length + 1) (st.map (·.1) ++ [x])) (hg : w.grownBy w4 v.ownBlock) : Wt W P w4 v' (st ++ [(x, l)]) := by
  refine ⟨by rw [List.length_append, List.length_singleton, List.map_append]; exact hown, fun p hp => ?_, ?_⟩
  · rcases List.mem_append.1 hp with q | q
    · exact h.has p q
    · obtain rfl : p = (x, l) := by simpa using q
      exact hx
  · refine ⟨hg.os.trans h.bel.os, hg.tape.trans h.bel.tape, hg.output.trans h.bel.output, Nat.le_trans h.bel.size hg.size, fun q hq => (hg.block q (Nat.lt_of_lt_of_le hq h.bel.size) (fun e => ?_)).trans (h.bel.block q hq)⟩
    have := (h.row.lt q e.symm).1
    omega
set_option maxRecDepth 100000 in
set_option maxHeartbeats 8000000 in
/-- Too many records, in general. -/
theorem tooMany_rt {W : World} {P : Nat → Prop} {v : Value} {ts : List Rt} (h : HasRt W P v ts) (hsm : SmT ts) :
    Calls Tryd.prog 36 #[v] W fun e W' => e = .returned (.bool (decide (1048576 < cntL ts))) ∧ Below W.heap.size W W' := by
  obtain ⟨i0, hi0', hz0, hz1, hz2⟩ := info_parts Tryd.infoRecs
  obtain ⟨R, hR⟩ : ∃ R, decide (1048576 < cntL ts) = R := ⟨_, rfl⟩
  have HR := hide hR
  rw [hR]
  clear hR
  have H0 : Hid (Wt W P (W.alloc (.cells #[v] 33)) (.slice (some ⟨W.heap.size, 0, none⟩) 1 1) [(v, ts)]) := by
    refine ⟨⟨rfl, .inr ⟨W.heap.size, 1, #[v], rfl, Nat.le_refl _, heap_alloc_new _ _, Nat.le_refl _, by unfold maxLen; omega, rfl, rfl⟩⟩, fun p hp => ?_, (Below.refl _ _).alloc (Nat.le_refl _) _⟩
    obtain rfl : p = (v, ts) := by simpa using hp
    exact ⟨h, hsm⟩
  obtain ⟨va, vc, rfl⟩ := h.form
  clear h hsm
  go_enter Tryd.func36, Tryd.ntmps36
  go_wp2
  generalize W.alloc (.cells #[.slice va ts.length vc] 33) = V at *
  go_loopg [3, 4] (cntL ts + 1) (fun gk v3 v4 wr => ∃ (m : Nat) (st : List (Value × List Rt)), v3 = .int .i64 (m : Int) ∧ gk = mS st ∧ m ≤ 1048576 ∧ st.length ≤ m + 1 ∧ Hid (m + cS st = cntL ts) ∧ Hid (Wt W P wr v4 st))
  case atStart => exact ⟨0, [(.slice va ts.length vc, ts)], rfl, by simp [mS], by omega, by simp, by show 0 + _ = _; simp [cS], H0⟩
  case round =>
    obtain ⟨m, st, rfl, hgk, hm, hsl, Hsum, HW⟩ := hrel
    have Hgk := hide hgk
    clear hgk H0
    by_cases hne : st.length = 0
    · obtain ⟨a, c, rfl⟩ := row_form (unhide HW).row
      rw [hne]
      have hRf : R = false := by
        rw [← unhide HR]
        have hs := unhide Hsum
        rw [List.eq_nil_of_length_eq_zero hne] at hs
        simp [cS] at hs
        simp
        omega
      subst hRf
      clear hne
      go_wp2
      go_ret
      exact ⟨rfl, (unhide HW).bel⟩
    · obtain ⟨st', p, rfl⟩ := nonempty_last st hne
      obtain ⟨w, l⟩ := p
      have hHas := (unhide HW).has
      obtain ⟨hHl, hSl⟩ : HasRt W P w l ∧ SmT l := hHas (w, l) (by simp)
      have hrow := (unhide HW).row
      have hbel := (unhide HW).bel
      rw [List.length_append, List.length_singleton, List.map_append] at hrow
      rw [List.length_append, List.length_singleton] at hsl
      obtain ⟨k, hk⟩ : ∃ k, st'.length = k := ⟨_, rfl⟩
      rw [hk] at hrow hsl
      obtain ⟨g, c, rfl⟩ : ∃ g c, u4 = .slice (some ⟨g, 0, none⟩) (k + 1) c := by
        obtain ⟨_, ⟨_, q⟩ | ⟨g, c, _, e, _⟩⟩ := hrow
        · omega
        · exact ⟨g, c, e⟩
      obtain ⟨r0, r1, r2, r3, r4, r5⟩ := row_pop1 (by rw [List.length_map]; exact hk) hrow
      obtain ⟨ia, ic, rfl⟩ := hHl.form
      have hlm : l.length ≤ 1099511627776 := hSl.len
      have hsum := unhide Hsum
      rw [cS_push] at hsum
      replace hsum : m + (cS st' + cntL l) = cntL ts := hsum
      have hcs := cnt_split l
      unfold maxLen at r2
      have hgc : ¬ c = 0 := by omega
      have hk0 : (0 : Int) ≤ (k : Int) := Int.natCast_nonneg _
      have hk1 : (k : Int) ≤ (c : Int) := by omega
      have hk2 : (k : Int) < ((k + 1 : Nat) : Int) := by omega
      have ek : ((k + 1 : Nat) : Int) - 1 = (k : Int) := by omega
      have ekp : decide ((0 : Int) < ((k + 1 : Nat) : Int)) = true := decide_eq_true (by omega)
      obtain ⟨m2, hm2⟩ : ∃ m2, m + l.length = m2 := ⟨_, rfl⟩
      have eadd : (m : Int) + (l.length : Int) = (m2 : Int) := by omega
      have Hst : Hid (Wt W P wr (.slice (some ⟨g, 0, none⟩) k c) st') := ⟨by rw [hk]; exact r5, fun p hp => hHas p (by simp [hp]), hbel⟩
      have Hms : Hid (mS (st' ++ [(Value.slice ia l.length ic, l)]) = cS st' + k + cntL l + 1) := by
        show _ = _
        rw [mS_eq, cS_push, List.length_append, List.length_singleton, hk]
        show cS st' + cntL l + _ = _
        omega
      by_cases hbig : 1048576 < m2
      · have hRt : R = true := by
          rw [← unhide HR]
          simp
          omega
        subst hRt
        have hdb : decide ((1048576 : Int) < (m2 : Int)) = true := decide_eq_true (by omega)
        have hmb : m2 ≤ 1099512676352 := by omega
        clear HW Hst hsum hcs hrow r5 Hms Hsum hHas hHl hm2 hne hSl
        go_wp2
        go_ret
        exact ⟨rfl, hbel⟩
      · have hdb : decide ((1048576 : Int) < (m2 : Int)) = false := decide_eq_false (by omega)
        have Hsum2 := hide hsum
        have Hcs := hide hcs
        have Hm2 := hide hm2
        have HHl := hide hHl
        have HSl := hide hSl
        have Hk := hide hk
        have hk3 : k ≤ 1048576 := by omega
        have hl3 : l.length ≤ 1048576 := by omega
        have hmk : Hid (k ≤ m) := by show k ≤ m; omega
        have hmb : m2 ≤ 1099512676352 := by omega
        clear HW hsum hcs hrow r5 hHas hHl hm2 Hsum hne hk hsl hSl
        go_wp2
        clear eadd ek ekp hdb hk2
        obtain ⟨wo, ewo⟩ : ∃ wo, wo = wr := ⟨_, rfl⟩
        subst ewo
        clear r0
        go_loopg [4, 32] l.length (fun gk v4 v32 wx => ∃ (i : Nat) (s2 : List (Value × List Rt)), v32 = .int .i64 (i : Int) ∧ gk = l.length - i ∧ i ≤ l.length ∧ s2.length ≤ k + i ∧ Hid (cS s2 + cntI (l.drop i) = cS st' + cntI l) ∧ Hid (Wt W P wx v4 s2))
        case atStart => exact ⟨0, st', rfl, rfl, Nat.zero_le _, by have := unhide Hk; omega, rfl, Hst⟩
        case round =>
          obtain ⟨i, s2, rfl, hgk, hin, hs2, HS2, HW2⟩ := hrel
          have Hgk2 := hide hgk
          clear hgk Hst
          by_cases hlt : i < l.length
          · obtain ⟨r, hr⟩ : ∃ r, l[i]? = some r := ⟨_, List.getElem?_eq_getElem hlt⟩
            obtain ⟨nb, kd, x, t, li⟩ := r
            obtain ⟨g1, c1, ja, jc, e1, _, hg1, q0, q1, q2, q3, q4, hin2⟩ := (unhide HHl).rec' hr
            obtain ⟨rfl, rfl⟩ : ia = some ⟨g1, 0, none⟩ ∧ ic = c1 := by injection e1 with x1 x2 x3; exact ⟨x1, x3⟩
            clear e1
            have hB := (unhide HW2).bel
            have d0 := (hB.cell (p := ⟨g1, i * 5, none⟩) hg1).trans q0
            have d1 := (hB.cell (p := ⟨g1, i * 5 + 1, none⟩) hg1).trans q1
            have d2 := (hB.cell (p := ⟨g1, i * 5 + 2, none⟩) hg1).trans q2
            have d3 := (hB.cell (p := ⟨g1, i * 5 + 3, none⟩) hg1).trans q3
            have d4 := (hB.cell (p := ⟨g1, i * 5 + 4, none⟩) hg1).trans q4
            have hi0 : (0 : Int) ≤ (i : Int) := Int.natCast_nonneg _
            have hi1 : (i : Int) < (l.length : Int) := by omega
            have hdrop : cntI (l.drop i) = cntL li + cntI (l.drop (i + 1)) := by
              rw [List.drop_eq_getElem_cons hlt]
              have : l[i] = .mk nb kd x t li := by rw [List.getElem?_eq_getElem hlt] at hr; exact Option.some.inj hr
              rw [this]
              rfl
            have Hdrop := hide hdrop
            have Hin2 : Hid (HasRt W P (.slice ja li.length jc) li ∧ SmT li) := ⟨hin2, (unhide HSl).inner hr⟩
            clear q0 q1 q2 q3 q4 hr hdrop hin2
            by_cases hli : li.length = 0
            · rw [hli] at d4
              have HY : Hid (Wt W P (wr.alloc (.cells #[.int .i64 (nb : Int), .int .i64 (kd : Int), .int .i64 x, .string t, .slice ja 0 jc] 35)) u4 s2) := (unhide HW2).alloc _
              have Hz : Hid (cntL li = 0) := by show _ = _; rw [List.eq_nil_of_length_eq_zero hli, cntL]
              clear hli HW2 hB
              go_wp2
              go_roundg (l.length - (i + 1))
              case measure => have := unhide Hgk2; omega
              case rel => exact ⟨i + 1, s2, by go_num, rfl, by omega, by omega, by show _ = _; have h1 := unhide HS2; have h2 := unhide Hdrop; have h3 := unhide Hz; omega, HY⟩
            · have hlp : 0 < li.length := by omega
              have HY : Hid (Wt W P ((wr.alloc (.cells #[.int .i64 (nb : Int), .int .i64 (kd : Int), .int .i64 x, .string t, .slice ja li.length jc] 35)).alloc (.cells #[.slice ja li.length jc] 33)) u4 s2) := ((unhide HW2).alloc _).alloc _
              have O1 : Hid (s2.length + 1 ≤ maxLen) := by show _ ≤ _; unfold maxLen; omega
              have O2 : Hid ((s2.length + 1) * 24 ≤ 140737488355328) := by show _ ≤ _; omega
              clear hli HW2 hB
              go_wp2_with (at_builtin; refine wpList_append_own_at _ rfl _ _ 44 rfl W.heap.size 33 i0 (.slice none 0 0) 1 24 Tryd.underlying44 hi0' hz0 hz1 hz2 rfl (by decide) _ _ _ rfl (unhide HY).row ⟨wr.heap.size + 1, 0, none⟩ 1 1 [.slice ja li.length jc] rfl rfl (World.news_of_block (cs := #[.slice ja li.length jc]) (t := 33) (fr := (0, 0)) (by rw [← World.size_alloc wr (.cells #[.int .i64 (nb : Int), .int .i64 (kd : Int), .int .i64 x, .string t, .slice ja li.length jc] 35)]; exact heap_alloc_new _ _)) (by simp [Value.oneCell']) (unhide O1) (unhide O2) (unhide HY).bel.size ?_; intro v9 w9 hown9 hgrow9 hdrop9 hat9; clear hdrop9 hat9; have HP : Hid (Wt W P w9 v9 (s2 ++ [(.slice ja li.length jc, li)])) := (unhide HY).push (unhide Hin2) hown9 hgrow9; clear hown9 hgrow9)
              go_roundg (l.length - (i + 1))
              case measure => have := unhide Hgk2; omega
              case rel => exact ⟨i + 1, s2 ++ [(.slice ja li.length jc, li)], by go_num, rfl, by omega, by rw [List.length_append, List.length_singleton]; omega, by show _ = _; have h1 := unhide HS2; have h2 := unhide Hdrop; rw [cS_push]; show cS s2 + cntL li + _ = _; omega, HP⟩
          · obtain rfl : i = l.length := by omega
            have Hfin : Hid (cS s2 = cS st' + cntI l) := by
              have h1 := unhide HS2
              rw [List.drop_length] at h1
              have h2 : cntI ([] : List Rt) = 0 := rfl
              rw [h2] at h1
              exact h1
            clear HS2
            go_wp2
            go_roundg (mS s2)
            case measure =>
              rw [unhide Hgk, unhide Hms, mS_eq]
              have h1 := unhide Hfin
              have h2 := unhide Hcs
              omega
            case rel =>
              refine ⟨m2, s2, rfl, rfl, by omega, ?_, ?_, HW2⟩
              · have h1 := unhide Hm2
                have h2 := unhide hmk
                omega
              · show _ = _
                have h1 := unhide Hfin
                have h2 := unhide Hcs
                have h3 := unhide Hsum2
                have h4 := unhide Hm2
                omega
#print axioms tooMany_rt
end Go.Proofs.YtobomdokdajbaaaDoor
