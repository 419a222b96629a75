import Derived.Test.YtobomdokdajbaaaDoorWJb
import Derived.Deep.RegionHeld3

namespace Go.Proofs.YtobomdokdajbaaaDoor
open Go.RowKit
attribute [local go_sem ↓] Go.wp_at_zero Go.wp_at_succ

mutual
/-- How many records there are, one with those in it. -/
def kcR : Ri → Nat
  | .mk _ _ _ _ li => 1 + kcL li
/-- How many records there are. -/
def kcL : List Ri → Nat
  | [] => 0
  | t :: ts => kcR t + kcL ts
end
/-- Those within alone. -/
def kcI (ts : List Ri) : Nat := (ts.map fun t => kcL t.inner).sum
theorem kc_split : ∀ ts : List Ri, kcL ts = ts.length + kcI ts
  | [] => rfl
  | .mk nb kd x t li :: ts => by
    rw [kcL, kcR, kc_split ts, List.length_cons]
    show _ = _ + (kcL li + kcI ts)
    omega
theorem HasRk.len {W : World} {P : Nat → Prop} {v : Value} {rs : List Ri} (h : HasRk W P v rs) : rs.length ≤ 1048576 := by
  cases h with
  | row g n rs us hP hn hm hg hk hw hc hi => rw [hn]; exact hm
/-- A record of those. -/
theorem HasRk.rec' {W : World} {P : Nat → Prop} {v : Value} {rs : List Ri} (h : HasRk W P v rs) {i : Nat} {nb kd x : Int} {t : ByteArray} {li : List Ri} (hr : rs[i]? = some (.mk nb kd x t li)) :
    ∃ g c ia ic, v = .slice (some ⟨g, 0, none⟩) rs.length c ∧ g < W.heap.size ∧ (RngI nb ∧ RngI kd ∧ RngI x) ∧ W.cell? ⟨g, i * 5, none⟩ = some (.int .i64 nb) ∧ W.cell? ⟨g, i * 5 + 1, none⟩ = some (.int .i64 kd) ∧ W.cell? ⟨g, i * 5 + 2, none⟩ = some (.int .i64 x) ∧ W.cell? ⟨g, i * 5 + 3, none⟩ = some (.string t) ∧ W.cell? ⟨g, i * 5 + 4, none⟩ = some (.slice ia li.length ic) ∧ HasRk W P (.slice ia li.length ic) li := by
  cases h with
  | row g n rs us hP hn hm hg hk hw hc hi =>
    have hcs := hc i _ hr
    have hin := hi i _ hr
    obtain ⟨ig, eu⟩ := hin.form
    rw [eu] at hcs hin
    exact ⟨g, n + 1, _, _, by rw [hn], hg, hw i nb kd x t li hr, hcs 0 _ rfl, hcs 1 _ rfl, hcs 2 _ rfl, hcs 3 _ rfl, hcs 4 _ rfl, hin⟩
/-- Lists that wait. -/
def kcS (st : List (Value × List Ri)) : Nat := (st.map fun p => kcL p.2).sum
def kmS (st : List (Value × List Ri)) : Nat := (st.map fun p => kcL p.2 + 1).sum
theorem kmS_eq : ∀ st, kmS st = kcS st + st.length
  | [] => rfl
  | p :: st => by
    show (kcL p.2 + 1) + kmS st = (kcL p.2 + kcS st) + (st.length + 1)
    rw [kmS_eq st]
    omega
theorem kcS_push (st : List (Value × List Ri)) (p : Value × List Ri) : kcS (st ++ [p]) = kcS st + kcL p.2 := by simp [kcS]
structure KWt (W : World) (P : Nat → Prop) (w : World) (v4 : Value) (st : List (Value × List Ri)) : Prop where
  row : w.ownsRow W.heap.size 33 1 v4 st.length (st.map (·.1))
  has : ∀ p ∈ st, HasRk W P p.1 p.2 
  bel : Below W.heap.size W w
theorem KWt.alloc {W w : World} {P : Nat → Prop} {v : Value} {st : List (Value × List Ri)} (h : KWt W P w v st) (o : Obj) : KWt W P (w.alloc o) v st := ⟨row_keep h.row (fun q hq _ => Below.heap_alloc w o q hq), h.has, h.bel.alloc h.bel.size o⟩
theorem KWt.push {W w w4 : World} {P : Nat → Prop} {v v' x : Value} {st : List (Value × List Ri)} {l : List Ri} (h : KWt W P w v st) (hx : HasRk W P x l) (hown : w4.ownsRow W.heap.size 33 1 v' (st.length + 1) (st.map (·.1) ++ [x])) (hg : w.grownBy w4 v.ownBlock) : KWt W P w4 v' (st ++ [(x, l)]) := by
  refine ⟨by rw [List.length_append, List.length_singleton, List.map_append]; exact hown, fun p hp => ?_, ?_⟩
  · rcases List.mem_append.1 hp with q | q
    · exact h.has p q
    · obtain rfl : p = (x, l) := by simpa using q
      exact hx
  · refine ⟨hg.os.trans h.bel.os, hg.tape.trans h.bel.tape, hg.output.trans h.bel.output, Nat.le_trans h.bel.size hg.size, fun q hq => (hg.block q (Nat.lt_of_lt_of_le hq h.bel.size) (fun e => ?_)).trans (h.bel.block q hq)⟩
    have := (h.row.lt q e.symm).1
    omega
set_option maxRecDepth 100000 in
set_option maxHeartbeats 8000000 in
/-- Too many records, in general. -/
theorem tooMany_rk {W : World} {P : Nat → Prop} {v : Value} {ts : List Ri} (h : HasRk W P v ts) :
    Calls Tryd.prog 36 #[v] W fun e W' => e = .returned (.bool (decide (1048576 < kcL ts))) ∧ Below W.heap.size W W' := by
  obtain ⟨i0, hi0', hz0, hz1, hz2⟩ := info_parts Tryd.infoRecs
  obtain ⟨R, hR⟩ : ∃ R, decide (1048576 < kcL ts) = R := ⟨_, rfl⟩
  have HR := hide hR
  rw [hR]
  clear hR
  have H0 : Hid (KWt W P (W.alloc (.cells #[v] 33)) (.slice (some ⟨W.heap.size, 0, none⟩) 1 1) [(v, ts)]) := by
    refine ⟨⟨rfl, .inr ⟨W.heap.size, 1, #[v], rfl, Nat.le_refl _, heap_alloc_new _ _, Nat.le_refl _, by unfold maxLen; omega, rfl, rfl⟩⟩, fun p hp => ?_, (Below.refl _ _).alloc (Nat.le_refl _) _⟩
    obtain rfl : p = (v, ts) := by simpa using hp
    exact h
  obtain ⟨vg, rfl⟩ := h.form
  clear h
  go_enter Tryd.func36, Tryd.ntmps36
  go_wp2
  generalize W.alloc (.cells #[.slice (some ⟨vg, 0, none⟩) ts.length (ts.length + 1)] 33) = V at *
  go_loopg [3, 4] (kcL ts + 1) (fun gk v3 v4 wr => ∃ (m : Nat) (st : List (Value × List Ri)), v3 = .int .i64 (m : Int) ∧ gk = kmS st ∧ m ≤ 1048576 ∧ st.length ≤ m + 1 ∧ Hid (m + kcS st = kcL ts) ∧ Hid (KWt W P wr v4 st))
  case atStart => exact ⟨0, [(.slice (some ⟨vg, 0, none⟩) ts.length (ts.length + 1), ts)], rfl, by simp [kmS], by omega, by simp, by show 0 + _ = _; simp [kcS], H0⟩
  case round =>
    obtain ⟨m, st, rfl, hgk, hm, hsl, Hsum, HW⟩ := hrel
    have Hgk := hide hgk
    clear hgk H0
    by_cases hne : st.length = 0
    · obtain ⟨a, c, rfl⟩ := row_form (unhide HW).row
      rw [hne]
      have hRf : R = false := by
        rw [← unhide HR]
        have hs := unhide Hsum
        rw [List.eq_nil_of_length_eq_zero hne] at hs
        simp [kcS] at hs
        simp
        omega
      subst hRf
      clear hne
      go_wp2
      go_ret
      exact ⟨rfl, (unhide HW).bel⟩
    · obtain ⟨st', p, rfl⟩ := nonempty_last st hne
      obtain ⟨w, l⟩ := p
      have hHas := (unhide HW).has
      have hHl : HasRk W P w l := hHas (w, l) (by simp)
      have hrow := (unhide HW).row
      have hbel := (unhide HW).bel
      rw [List.length_append, List.length_singleton, List.map_append] at hrow
      rw [List.length_append, List.length_singleton] at hsl
      obtain ⟨k, hk⟩ : ∃ k, st'.length = k := ⟨_, rfl⟩
      rw [hk] at hrow hsl
      obtain ⟨g, c, rfl⟩ : ∃ g c, u4 = .slice (some ⟨g, 0, none⟩) (k + 1) c := by
        obtain ⟨_, ⟨_, q⟩ | ⟨g, c, _, e, _⟩⟩ := hrow
        · omega
        · exact ⟨g, c, e⟩
      obtain ⟨r0, r1, r2, r3, r4, r5⟩ := row_pop1 (by rw [List.length_map]; exact hk) hrow
      obtain ⟨ig, rfl⟩ := hHl.form
      have hlm : l.length ≤ 1099511627776 := by have := hHl.len; omega
      have hsum := unhide Hsum
      rw [kcS_push] at hsum
      replace hsum : m + (kcS st' + kcL l) = kcL ts := hsum
      have hcs := kc_split l
      unfold maxLen at r2
      have hgc : ¬ c = 0 := by omega
      have hk0 : (0 : Int) ≤ (k : Int) := Int.natCast_nonneg _
      have hk1 : (k : Int) ≤ (c : Int) := by omega
      have hk2 : (k : Int) < ((k + 1 : Nat) : Int) := by omega
      have ek : ((k + 1 : Nat) : Int) - 1 = (k : Int) := by omega
      have ekp : decide ((0 : Int) < ((k + 1 : Nat) : Int)) = true := decide_eq_true (by omega)
      obtain ⟨m2, hm2⟩ : ∃ m2, m + l.length = m2 := ⟨_, rfl⟩
      have eadd : (m : Int) + (l.length : Int) = (m2 : Int) := by omega
      have Hst : Hid (KWt W P wr (.slice (some ⟨g, 0, none⟩) k c) st') := ⟨by rw [hk]; exact r5, fun p hp => hHas p (by simp [hp]), hbel⟩
      have Hms : Hid (kmS (st' ++ [(Value.slice (some ⟨ig, 0, none⟩) l.length (l.length + 1), l)]) = kcS st' + k + kcL l + 1) := by
        show _ = _
        rw [kmS_eq, kcS_push, List.length_append, List.length_singleton, hk]
        show kcS st' + kcL l + _ = _
        omega
      by_cases hbig : 1048576 < m2
      · have hRt : R = true := by
          rw [← unhide HR]
          simp
          omega
        subst hRt
        have hdb : decide ((1048576 : Int) < (m2 : Int)) = true := decide_eq_true (by omega)
        have hmb : m2 ≤ 1099512676352 := by omega
        clear HW Hst hsum hcs hrow r5 Hms Hsum hHas hHl hm2 hne
        go_wp2
        go_ret
        exact ⟨rfl, hbel⟩
      · have hdb : decide ((1048576 : Int) < (m2 : Int)) = false := decide_eq_false (by omega)
        have Hsum2 := hide hsum
        have Hcs := hide hcs
        have Hm2 := hide hm2
        have HHl := hide hHl
        have Hk := hide hk
        have hk3 : k ≤ 1048576 := by omega
        have hl3 : l.length ≤ 1048576 := by omega
        have hmk : Hid (k ≤ m) := by show k ≤ m; omega
        have hmb : m2 ≤ 1099512676352 := by omega
        clear HW hsum hcs hrow r5 hHas hHl hm2 Hsum hne hk hsl
        go_wp2
        clear eadd ek ekp hdb hk2
        obtain ⟨wo, ewo⟩ : ∃ wo, wo = wr := ⟨_, rfl⟩
        subst ewo
        clear r0
        go_loopg [4, 32] l.length (fun gk v4 v32 wx => ∃ (i : Nat) (s2 : List (Value × List Ri)), v32 = .int .i64 (i : Int) ∧ gk = l.length - i ∧ i ≤ l.length ∧ s2.length ≤ k + i ∧ Hid (kcS s2 + kcI (l.drop i) = kcS st' + kcI l) ∧ Hid (KWt W P wx v4 s2))
        case atStart => exact ⟨0, st', rfl, rfl, Nat.zero_le _, by have := unhide Hk; omega, rfl, Hst⟩
        case round =>
          obtain ⟨i, s2, rfl, hgk, hin, hs2, HS2, HW2⟩ := hrel
          have Hgk2 := hide hgk
          clear hgk Hst
          by_cases hlt : i < l.length
          · obtain ⟨r, hr⟩ : ∃ r, l[i]? = some r := ⟨_, List.getElem?_eq_getElem hlt⟩
            obtain ⟨nb, kd, x, t, li⟩ := r
            obtain ⟨g1, c1, ja, jc, e1, hg1, _, q0, q1, q2, q3, q4, hin2⟩ := (unhide HHl).rec' hr
            obtain ⟨rfl, rfl⟩ : g1 = ig ∧ c1 = l.length + 1 := by injection e1 with x1 x2 x3; injection x1 with x1; injection x1 with x1; exact ⟨x1.symm, x3.symm⟩
            clear e1
            have hB := (unhide HW2).bel
            have d0 := (hB.cell (p := ⟨g1, i * 5, none⟩) hg1).trans q0
            have d1 := (hB.cell (p := ⟨g1, i * 5 + 1, none⟩) hg1).trans q1
            have d2 := (hB.cell (p := ⟨g1, i * 5 + 2, none⟩) hg1).trans q2
            have d3 := (hB.cell (p := ⟨g1, i * 5 + 3, none⟩) hg1).trans q3
            have d4 := (hB.cell (p := ⟨g1, i * 5 + 4, none⟩) hg1).trans q4
            have hi0 : (0 : Int) ≤ (i : Int) := Int.natCast_nonneg _
            have hi1 : (i : Int) < (l.length : Int) := by omega
            have hdrop : kcI (l.drop i) = kcL li + kcI (l.drop (i + 1)) := by
              rw [List.drop_eq_getElem_cons hlt]
              have : l[i] = .mk nb kd x t li := by rw [List.getElem?_eq_getElem hlt] at hr; exact Option.some.inj hr
              rw [this]
              rfl
            have Hdrop := hide hdrop
            have Hin2 := hide hin2
            clear q0 q1 q2 q3 q4 hr hdrop hin2
            by_cases hli : li.length = 0
            · rw [hli] at d4
              have HY : Hid (KWt W P (wr.alloc (.cells #[.int .i64 (nb : Int), .int .i64 (kd : Int), .int .i64 x, .string t, .slice ja 0 jc] 35)) u4 s2) := (unhide HW2).alloc _
              have Hz : Hid (kcL li = 0) := by show _ = _; rw [List.eq_nil_of_length_eq_zero hli, kcL]
              clear hli HW2 hB
              go_wp2
              go_roundg (l.length - (i + 1))
              case measure => have := unhide Hgk2; omega
              case rel => exact ⟨i + 1, s2, by go_num, rfl, by omega, by omega, by show _ = _; have h1 := unhide HS2; have h2 := unhide Hdrop; have h3 := unhide Hz; omega, HY⟩
            · have hlp : 0 < li.length := by omega
              have HY : Hid (KWt W P ((wr.alloc (.cells #[.int .i64 (nb : Int), .int .i64 (kd : Int), .int .i64 x, .string t, .slice ja li.length jc] 35)).alloc (.cells #[.slice ja li.length jc] 33)) u4 s2) := ((unhide HW2).alloc _).alloc _
              have O1 : Hid (s2.length + 1 ≤ maxLen) := by show _ ≤ _; unfold maxLen; omega
              have O2 : Hid ((s2.length + 1) * 24 ≤ 140737488355328) := by show _ ≤ _; omega
              clear hli HW2 hB
              go_wp2_with (at_builtin; refine wpList_append_own_at _ rfl _ _ 44 rfl W.heap.size 33 i0 (.slice none 0 0) 1 24 Tryd.underlying44 hi0' hz0 hz1 hz2 rfl (by decide) _ _ _ rfl (unhide HY).row ⟨wr.heap.size + 1, 0, none⟩ 1 1 [.slice ja li.length jc] rfl rfl (World.news_of_block (cs := #[.slice ja li.length jc]) (t := 33) (fr := (0, 0)) (by rw [← World.size_alloc wr (.cells #[.int .i64 (nb : Int), .int .i64 (kd : Int), .int .i64 x, .string t, .slice ja li.length jc] 35)]; exact heap_alloc_new _ _)) (by simp [Value.oneCell']) (unhide O1) (unhide O2) (unhide HY).bel.size ?_; intro v9 w9 hown9 hgrow9 hdrop9 hat9; clear hdrop9 hat9; have HP : Hid (KWt W P w9 v9 (s2 ++ [(.slice ja li.length jc, li)])) := (unhide HY).push (unhide Hin2) hown9 hgrow9; clear hown9 hgrow9)
              go_roundg (l.length - (i + 1))
              case measure => have := unhide Hgk2; omega
              case rel => exact ⟨i + 1, s2 ++ [(.slice ja li.length jc, li)], by go_num, rfl, by omega, by rw [List.length_append, List.length_singleton]; omega, by show _ = _; have h1 := unhide HS2; have h2 := unhide Hdrop; rw [kcS_push]; show kcS s2 + kcL li + _ = _; omega, HP⟩
          · obtain rfl : i = l.length := by omega
            have Hfin : Hid (kcS s2 = kcS st' + kcI l) := by
              have h1 := unhide HS2
              rw [List.drop_length] at h1
              have h2 : kcI ([] : List Ri) = 0 := rfl
              rw [h2] at h1
              exact h1
            clear HS2
            go_wp2
            go_roundg (kmS s2)
            case measure =>
              rw [unhide Hgk, unhide Hms, kmS_eq]
              have h1 := unhide Hfin
              have h2 := unhide Hcs
              omega
            case rel =>
              refine ⟨m2, s2, rfl, rfl, by omega, ?_, ?_, HW2⟩
              · have h1 := unhide Hm2
                have h2 := unhide hmk
                omega
              · show _ = _
                have h1 := unhide Hfin
                have h2 := unhide Hcs
                have h3 := unhide Hsum2
                have h4 := unhide Hm2
                omega
#print axioms tooMany_rk
end Go.Proofs.YtobomdokdajbaaaDoor

namespace Go.Proofs.YtobomdokdajbaaaDoor
open Go.RowKit
attribute [local go_sem ↓] Go.wp_at_zero Go.wp_at_succ

theorem HasRk.form2 {W : World} {P : Nat → Prop} {v : Value} {rs : List Ri} (h : HasRk W P v rs) : ∃ a c, v = .slice a rs.length c := by
  obtain ⟨g, e⟩ := h.form
  exact ⟨_, _, e⟩
mutual
/-- Too deep, a record. -/
def dkR (d : Nat) : Ri → Bool
  | .mk _ kd _ _ li => (kd == 3 || decide (li.length ≠ 0)) && (d == 0 || dkL (d - 1) li)
/-- Too deep, records. -/
def dkL (d : Nat) : List Ri → Bool
  | [] => false
  | t :: ts => dkR d t || dkL d ts
end
theorem dkL_append (d : Nat) : ∀ a b : List Ri, dkL d (a ++ b) = (dkL d a || dkL d b)
  | [], b => by simp [dkL]
  | t :: a, b => by
    show (dkR d t || dkL d (a ++ b)) = ((dkR d t || dkL d a) || dkL d b)
    rw [dkL_append d a b, Bool.or_assoc]
theorem dkL_at {d : Nat} {ts : List Ri} {i : Nat} {t : Ri} (h : ts[i]? = some t) (hd : dkR d t = true) : dkL d ts = true := by
  have hi := (List.getElem?_eq_some_iff.1 h).1
  have e : ts = ts.take i ++ t :: ts.drop (i + 1) := by
    have q := (List.take_append_drop i ts).symm
    rw [List.drop_eq_getElem_cons hi] at q
    have : ts[i] = t := by rw [List.getElem?_eq_getElem hi] at h; exact Option.some.inj h
    rw [this] at q
    exact q
  rw [e, dkL_append]
  show (_ || (dkR d t || _)) = true
  rw [hd]
  simp
set_option maxRecDepth 100000 in
set_option maxHeartbeats 4000000 in
theorem tooDeep_rk {W : World} {P : Nat → Prop} {v : Value} {ts : List Ri} (h : HasRk W P v ts) : ∀ (d : Nat), d ≤ 1048576 → ∀ w0, Below W.heap.size W w0 → Calls Tryd.prog 37 #[v, .int .i64 (d : Int)] w0 fun e W' => e = .returned (.bool (dkL d ts)) ∧ Below w0.heap.size w0 W' := by
  induction h with
  | row g n ts us hp hn hm hg hk hw hc hi ih =>
    intro d hdm w0 hw0
    have Hc := hide hc
    have Hih := hide ih
    have Hi := hide hi
    have Hn := hide hn
    have Hw0 := hide hw0
    clear hc ih hi hn hp hw0 hk hw
    obtain ⟨D, hD⟩ : ∃ D, dkL d ts = D := ⟨_, rfl⟩
    rw [hD]
    have HD := hide hD
    clear hD
    go_enter Tryd.func37, Tryd.ntmps37
    go_wp2
    go_loopg [9] n (fun gk v9 wr => ∃ (i : Nat), v9 = .int .i64 (i : Int) ∧ gk = n - i ∧ i ≤ n ∧ Hid (dkL d (ts.take i) = false) ∧ Hid (Below w0.heap.size w0 wr))
    case atStart => exact ⟨0, rfl, rfl, Nat.zero_le _, rfl, Below.refl _ _⟩
    case round =>
      obtain ⟨i, rfl, hgk, hin, HF, HB⟩ := hrel
      have Hgk := hide hgk
      clear hgk
      by_cases hlt : i < n
      · obtain ⟨r, hr⟩ : ∃ r, ts[i]? = some r := ⟨_, List.getElem?_eq_getElem (by rw [unhide Hn]; exact hlt)⟩
        have hBW : Below W.heap.size W wr := (unhide Hw0).trans ((unhide HB).mono (unhide Hw0).size)
        have hcs := unhide Hc i r hr
        obtain ⟨ia, ic, eu⟩ := (unhide Hi i r hr).form2
        have hcall := unhide Hih i r hr
        rw [eu] at hcs hcall
        have hnx : dkL d (ts.take (i + 1)) = dkR d r := by
          rw [List.take_add_one, hr, dkL_append, unhide HF]
          show (false || (dkR d r || false)) = dkR d r
          simp
        have hyes : dkR d r = true → D = true := fun q => by rw [← unhide HD]; exact dkL_at hr q
        obtain ⟨nb, kd, x, t, li⟩ := r
        replace hcall : ∀ (d : Nat), d ≤ 1048576 → ∀ w0, Below W.heap.size W w0 → Calls Tryd.prog 37 #[.slice ia li.length ic, .int .i64 (d : Int)] w0 fun e W' => e = .returned (.bool (dkL d li)) ∧ Below w0.heap.size w0 W' := hcall
        have d0 := (hBW.cell (p := ⟨g, i * 5, none⟩) hg).trans (hcs 0 _ rfl)
        have d1 := (hBW.cell (p := ⟨g, i * 5 + 1, none⟩) hg).trans (hcs 1 _ rfl)
        have d2 := (hBW.cell (p := ⟨g, i * 5 + 2, none⟩) hg).trans (hcs 2 _ rfl)
        have d3 := (hBW.cell (p := ⟨g, i * 5 + 3, none⟩) hg).trans (hcs 3 _ rfl)
        have d4 : wr.cell? ⟨g, i * 5 + 4, none⟩ = some (.slice ia li.length ic) := (hBW.cell (p := ⟨g, i * 5 + 4, none⟩) hg).trans (hcs 4 _ rfl)
        have hj0 : (0 : Int) ≤ (i : Int) := Int.natCast_nonneg _
        have hj1 : (i : Int) < (n : Int) := by omega
        have hdr : dkR d (.mk nb kd x t li) = ((kd == 3 || decide (li.length ≠ 0)) && (d == 0 || dkL (d - 1) li)) := by rw [dkR]
        rw [hdr] at hnx hyes
        have Hnx := hide hnx
        have Hyes := hide hyes
        have HBA : Hid (∀ o, Below w0.heap.size w0 (wr.alloc o)) := fun o => (unhide HB).alloc (unhide HB).size _
        have HBW := hide hBW
        have Hcall := hide hcall
        clear hcs eu hcall hBW hr hnx hyes hdr
        by_cases hpl : kd ≠ 3 ∧ li.length = 0
        · have e3 : ((kd : Int) != 3) = true := by simp; omega
          have e4 : ((li.length : Int) == 0) = true := by rw [hpl.2]; rfl
          have hF2 : dkL d (ts.take (i + 1)) = false := by rw [unhide Hnx]; simp [hpl.1, hpl.2]
          have HF2 := hide hF2
          clear hF2 hpl Hnx Hyes Hcall
          go_wp2
          go_roundg (n - (i + 1))
          case measure => have := unhide Hgk; omega
          case rel => exact ⟨i + 1, by go_num, rfl, by omega, HF2, unhide HBA _⟩
        · have h34 : ((kd : Int) != 3) = false ∨ (((kd : Int) != 3) = true ∧ ((li.length : Int) == 0) = false) := by
            by_cases q : kd = 3
            · exact .inl (by rw [q]; rfl)
            · exact .inr ⟨by simp; omega, beq_eq_false_iff_ne.2 (by omega)⟩
          have hg3 : (kd == 3 || decide (li.length ≠ 0)) = true := by
            by_cases q : kd = 3
            · simp [q]
            · have : li.length ≠ 0 := by omega
              simp [this]
          rw [hg3, Bool.true_and] at Hnx Hyes
          by_cases hd0 : d = 0
          · have e5 : ((d : Int) == 0) = true := by rw [hd0]; rfl
            have hDt : D = true := unhide Hyes (by simp [hd0])
            subst hDt
            clear Hnx Hyes Hcall hpl hg3
            rcases h34 with q3 | ⟨q3, q4⟩
            all_goals (
              go_wp2
              go_ret
              exact ⟨rfl, unhide HBA _⟩)
          · have e5 : ((d : Int) == 0) = false := beq_eq_false_iff_ne.2 (by omega)
            obtain ⟨d', hd'⟩ : ∃ d', d - 1 = d' := ⟨_, rfl⟩
            have e6 : (d : Int) - 1 = (d' : Int) := by omega
            have hb0 : (d == 0) = false := by simp [hd0]
            rw [hb0, Bool.false_or, hd'] at Hnx Hyes
            have HBW2 : Hid (∀ o, Below W.heap.size W (wr.alloc o)) := fun o => (unhide HBW).alloc (unhide HBW).size _
            have hdm' : d' ≤ 1048576 := by omega
            clear hd' hb0 hpl hg3
            rcases h34 with q3 | ⟨q3, q4⟩
            all_goals (
              go_wp2_with fail
              refine (unhide Hcall d' hdm' _ (unhide HBW2 _)).mono ?_
              rintro e w2 ⟨rfl, hb2⟩
              have HB2 : Hid (Below w0.heap.size w0 w2) := (unhide HBA _).trans (hb2.mono (unhide HBA _).size)
              clear hb2
              cases hdl : dkL d' li with
              | true =>
                have hDt : D = true := unhide Hyes hdl
                subst hDt
                clear hdl
                go_wp2
                go_ret
                exact ⟨rfl, unhide HB2⟩
              | false =>
                have HF2 : Hid (dkL d (ts.take (i + 1)) = false) := (unhide Hnx).trans hdl
                clear hdl
                go_wp2
                go_roundg (n - (i + 1))
                case measure => have := unhide Hgk; omega
                case rel => exact ⟨i + 1, by go_num, rfl, by omega, HF2, HB2⟩)
      · obtain rfl : i = n := by omega
        have hDf : D = false := by rw [← unhide HD, ← unhide HF, List.take_of_length_le (by rw [unhide Hn]; exact Nat.le_refl _)]
        subst hDf
        go_wp2
        go_ret
        exact ⟨rfl, unhide HB⟩
#print axioms tooDeep_rk
end Go.Proofs.YtobomdokdajbaaaDoor

namespace Go.Proofs.YtobomdokdajbaaaDoor
open Go.RowKit
attribute [local go_sem ↓] Go.wp_at_zero Go.wp_at_succ

/-- Does a record hold just what its kind names? -/
def rightK (k : Nat) (x : Int) (t : ByteArray) (il : Nat) : Bool := if k ≤ 1 then decide (t.toList = []) && decide (il = 0) else if k = 2 then decide (x = 0) && decide (il = 0) else if k = 3 then decide (x = 0) && decide (t.toList = []) else decide (0 ≤ x ∧ x ≤ 4294967295) && (decide (t.toList = []) && decide (il = 0))
mutual
/-- The first fault. -/
def fkR : Ri → Nat
  | .mk nb kd x t li => if nb < 1 ∨ 536870911 < nb then 24 else if kd < 0 ∨ 5 < kd then 23 else if kd = 4 then 23 else if rightK kd.toNat x t li.length = true then fkL li else 1
def fkL : List Ri → Nat
  | [] => 0
  | r :: rs => if fkR r = 0 then fkL rs else fkR r
end
theorem fkL_append : ∀ a b : List Ri, fkL a = 0 → fkL (a ++ b) = fkL b
  | [], b, _ => by simp
  | r :: a, b, h => by
    rw [fkL] at h
    by_cases hr : fkR r = 0
    · rw [if_pos hr] at h
      show (if fkR r = 0 then fkL (a ++ b) else fkR r) = _
      rw [if_pos hr, fkL_append a b h]
    · rw [if_neg hr] at h
      exact absurd h hr
theorem fk_next {rs : List Ri} {i : Nat} {r : Ri} (hr : rs[i]? = some r) (h : fkL (rs.take i) = 0) : (fkR r = 0 → fkL (rs.take (i + 1)) = 0) ∧ (fkR r ≠ 0 → fkL rs = fkR r) := by
  have hi := (List.getElem?_eq_some_iff.1 hr).1
  constructor
  · intro h0
    rw [List.take_add_one, hr, fkL_append _ _ h]
    show (if fkR r = 0 then fkL [] else fkR r) = 0
    rw [if_pos h0, fkL]
  · intro h0
    have e : rs = rs.take i ++ r :: rs.drop (i + 1) := by
      have q := (List.take_append_drop i rs).symm
      rw [List.drop_eq_getElem_cons hi] at q
      have : rs[i] = r := by rw [List.getElem?_eq_getElem hi] at hr; exact Option.some.inj hr
      rw [this] at q
      exact q
    rw [e, fkL_append _ _ h]
    show (if fkR r = 0 then _ else fkR r) = _
    rw [if_neg h0]
set_option maxRecDepth 100000 in
set_option maxHeartbeats 2000000 in
theorem rk0 {W : World} {nb x : Int} {t : ByteArray} {ia : Option Addr} {il ic : Nat} :
    Calls Tryd.prog 71 #[.agg #[.int .i64 nb, .int .i64 0, .int .i64 x, .string t, .slice ia il ic]] W fun e W' => e = .returned (.bool (rightK 0 x t il)) ∧ Below W.heap.size W W' := by
  unfold rightK
  by_cases te : t.toList = [] <;> by_cases l0 : il = 0 <;> simp only [te, l0] <;> (
    go_enter Tryd.func71, Tryd.ntmps71
    go_wp2
    all_goals (go_ret; exact ⟨by first | rfl | simp [l0] | simp [te] | (simp at te ⊢; simp [te, l0]), (Below.refl _ _).alloc (Nat.le_refl _) _⟩))
set_option maxRecDepth 100000 in
set_option maxHeartbeats 2000000 in
theorem rk1 {W : World} {nb x : Int} {t : ByteArray} {ia : Option Addr} {il ic : Nat} :
    Calls Tryd.prog 76 #[.agg #[.int .i64 nb, .int .i64 1, .int .i64 x, .string t, .slice ia il ic]] W fun e W' => e = .returned (.bool (rightK 1 x t il)) ∧ Below W.heap.size W W' := by
  unfold rightK
  by_cases te : t.toList = [] <;> by_cases l0 : il = 0 <;> simp only [te, l0] <;> (
    go_enter Tryd.func76, Tryd.ntmps76
    go_wp2
    all_goals (go_ret; exact ⟨by first | rfl | simp [l0] | simp [te] | (simp at te ⊢; simp [te, l0]), (Below.refl _ _).alloc (Nat.le_refl _) _⟩))
set_option maxRecDepth 100000 in
set_option maxHeartbeats 2000000 in
theorem rk2 {W : World} {nb x : Int} {t : ByteArray} {ia : Option Addr} {il ic : Nat} :
    Calls Tryd.prog 80 #[.agg #[.int .i64 nb, .int .i64 2, .int .i64 x, .string t, .slice ia il ic]] W fun e W' => e = .returned (.bool (rightK 2 x t il)) ∧ Below W.heap.size W W' := by
  unfold rightK
  by_cases te : x = 0 <;> by_cases l0 : il = 0 <;> simp only [te, l0] <;> (
    go_enter Tryd.func80, Tryd.ntmps80
    go_wp2
    all_goals (go_ret; exact ⟨by first | rfl | simp [l0] | simp [te] | (simp at te ⊢; simp [te, l0]), (Below.refl _ _).alloc (Nat.le_refl _) _⟩))
set_option maxRecDepth 100000 in
set_option maxHeartbeats 2000000 in
theorem rk3 {W : World} {nb x : Int} {t : ByteArray} {ia : Option Addr} {il ic : Nat} :
    Calls Tryd.prog 84 #[.agg #[.int .i64 nb, .int .i64 3, .int .i64 x, .string t, .slice ia il ic]] W fun e W' => e = .returned (.bool (rightK 3 x t il)) ∧ Below W.heap.size W W' := by
  unfold rightK
  by_cases te : x = 0 <;> by_cases l0 : t.toList = [] <;> simp only [te, l0] <;> (
    go_enter Tryd.func84, Tryd.ntmps84
    go_wp2
    all_goals (go_ret; exact ⟨by first | rfl | simp [l0] | simp [te] | (simp at te ⊢; simp [te, l0]), (Below.refl _ _).alloc (Nat.le_refl _) _⟩))
end Go.Proofs.YtobomdokdajbaaaDoor
