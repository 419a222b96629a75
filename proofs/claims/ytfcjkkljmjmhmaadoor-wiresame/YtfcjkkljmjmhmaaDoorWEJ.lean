import Derived.Test.YtfcjkkljmjmhmaaDoorWSP
import Derived.Deep.RegionHeld3
import Derived.Test.YtfcjkkljmjmhmaaDoorWX
namespace Go.Proofs.YtfcjkkljmjmhmaaDoor
open Go.RowKit
attribute [local go_sem ↓] Go.wp_at_zero Go.wp_at_succ

def plQ : (Rt × Nat) ⊕ (Nat × Nat) → Nat ⊕ (Nat × Nat)
  | .inl (_, k) => .inl k
  | .inr x => .inr x
/-- What is behind a tag of the top. -/
def topQ (s : ByteArray) (st : Bool) (f n kd k' : Nat) : (Rt × Nat) ⊕ (Nat × Nat) := if kd = 3 then grpT n (recT s st 63 f n 1 k' []) else plcT k' (bodyT s st n k' kd)
theorem skip_top {s : ByteArray} {st : Bool} {k n kd f : Nat} (hk : k ≤ s.size) (h1 : 1 ≤ n) (h2 : n ≤ 536870911) (hkd : kd ≤ 5) (h4 : kd ≠ 4) (hf : s.size < k + f) : skipM s st 63 k (n : Int) (kd : Int) = plQ (topQ s st f n kd k) := by
  unfold skipM topQ
  rw [if_neg (by omega), if_neg (by omega), Int.toNat_natCast, Int.toNat_natCast]
  by_cases h3 : kd = 3
  · rw [if_pos h3]
    have ht : tkM s st 63 k k 0 [] n kd = .inl (k, n, [] ++ [0]) := by
      unfold tkM
      rw [if_pos h3, if_neg (by simp)]
    rw [ht, rec_run s st 63 f n 0 k (s.size + 2) (s.size + 2) [] ⟨hk, by simp, fun e => by simp at e, fun _ => rfl⟩ (by omega) (by simp) hf (by omega) (by omega)]
    show goOn s st 63 (s.size + 2) 0 [] (recM s st 63 f n 1 k) = _
    rw [recM_proj s st 63 f n 1 k []]
    generalize recT s st 63 f n 1 k [] = r
    match r with
    | .inr x => rfl
    | .inl (ts, k2) => exact runM_nil _ _ _ _ _ _
  · rw [if_neg h3]
    have ht : tkM s st 63 k k 0 [] n kd = plcM 0 [] k (bodyR s st k kd) := by
      unfold tkM
      rw [if_neg h3, if_neg h4]
      rfl
    rw [ht, bodyR_proj s st n]
    generalize bodyT s st n k kd = r
    match r with
    | .inr x => exact runM_err _ _ _ _ _
    | .inl (t, k2) => exact runM_nil _ _ _ _ _ _
theorem recT_top1 {s : ByteArray} {st : Bool} {f k : Nat} {acc : List Rt} (hk : k ≠ s.size) : recT s st 63 (f + 1) 0 0 k acc = match tagR s st k with
    | .inr c => .inr (c, k)
    | .inl (n, kd, k') => if kd = 4 then .inr (25, k) else match topQ s st f n kd k' with
        | .inr x => .inr x
        | .inl (t, k2) => recT s st 63 f 0 0 k2 (acc ++ [t]) := by
  rw [recT, if_neg hk]
  generalize ht : tagR s st k = r
  match r, ht with
  | .inr c, _ => rfl
  | .inl (n, kd, k'), ht =>
    have hb := tagR_lt ht
    show (if kd = 4 then (if n = 0 then .inl (acc, k') else .inr (25, k)) else if kd = 3 ∧ ((0 : Nat) : Int) = 63 then .inr (4, k) else match topQ s st f n kd k' with | .inr x => .inr x | .inl (t, k2) => recT s st 63 f 0 0 k2 (acc ++ [t]) : (List Rt × Nat) ⊕ (Nat × Nat)) = (if kd = 4 then .inr (25, k) else match topQ s st f n kd k' with | .inr x => .inr x | .inl (t, k2) => recT s st 63 f 0 0 k2 (acc ++ [t]))
    rw [if_neg (show ¬ n = 0 by omega), if_neg (show ¬ (kd = 3 ∧ ((0 : Nat) : Int) = 63) by omega)]
theorem topQ_lt {s : ByteArray} {st : Bool} {f n kd k k2 : Nat} {t : Rt} (hn : n ≠ 0) (hk : k ≤ s.size) (h : topQ s st f n kd k = .inl (t, k2)) : k ≤ k2 ∧ k2 ≤ s.size := by
  unfold topQ at h
  exact plcT_le (o := 0) hn hk h
theorem topQ_form {s : ByteArray} {st : Bool} {f n kd k k2 : Nat} {t : Rt} (h4 : kd ≠ 4) (hkd : kd ≤ 5) (h : topQ s st f n kd k = .inl (t, k2)) : ∃ x tt li, t = .mk n kd x tt li ∧ (kd ≠ 3 → bodyT s st n k kd = .inl (.mk n kd x tt li, k2)) := by
  unfold topQ at h
  by_cases h3 : kd = 3
  · rw [if_pos h3] at h
    generalize recT s st 63 f n 1 k [] = r at h
    match r, h with
    | .inl (ts, k3), h =>
      cases h
      subst h3
      exact ⟨0, .empty, ts, rfl, fun q => absurd rfl q⟩
  · rw [if_neg h3] at h
    generalize hb : bodyT s st n k kd = r at h
    match r, h with
    | .inl (t', k3), h =>
      cases h
      obtain rfl | rfl | rfl | rfl : kd = 0 ∨ kd = 1 ∨ kd = 2 ∨ kd = 5 := by omega
      · obtain ⟨u, _, hr⟩ := numT_inl (q := vAt s st k) hb
        exact ⟨_, _, _, hr, fun _ => by rw [← hr]⟩
      · obtain ⟨u, _, hr⟩ := numT_inl (q := xAt s k 8) hb
        exact ⟨_, _, _, hr, fun _ => by rw [← hr]⟩
      · obtain ⟨u, _, hr⟩ := texT_inl (q := tAt s st k) hb
        exact ⟨_, _, _, hr, fun _ => by rw [← hr]⟩
      · obtain ⟨u, _, hr⟩ := numT_inl (q := xAt s k 4) hb
        exact ⟨_, _, _, hr, fun _ => by rw [← hr]⟩
theorem HasRt.at' {W : World} {P : Nat → Prop} {v : Value} {ts : List Rt} {i : Nat} {t : Rt} (h : HasRt W P v ts) (ht : ts[i]? = some t) : ∃ g c ua un uc, v = .slice (some ⟨g, 0, none⟩) ts.length c ∧ P g ∧ g < W.heap.size ∧ ∀ (j : Nat) (x : Value), (rcells t (.slice ua un uc))[j]? = some x → W.cell? ⟨g, i * 5 + j, none⟩ = some x := by
  cases h with
  | nil a c => simp at ht
  | row g n c ts us hp hn hm hg hc hi =>
    obtain ⟨a, cc, e⟩ := (hi i t ht).form
    have q := hc i t ht
    rw [e] at q
    exact ⟨g, c, a, _, cc, by rw [hn], hp, hg, q⟩
/-- Where the law's loop stands. -/
structure LE (W : World) (b : Nat) (s : ByteArray) (st : Bool) (R : (List Rt × Nat) ⊕ (Nat × Nat)) (n4 : Nat) (lv : Value) (ts : List Rt) (gk : Nat) (wr : World) (m k : Nat) (acc : List Rt) : Prop where
  rd : RdAt wr b s k st
  below : Below W.heap.size W wr
  eq : recT s st 63 gk 0 0 k acc = R
  le : k ≤ s.size
  fu : s.size < k + gk
  few : m ≤ k
  len : acc.length = m
  has : HasRt wr (fun g => g < n4) lv ts
set_option maxRecDepth 100000 in
set_option maxHeartbeats 16000000 in
theorem wireSame_short (hadd : AddNil) {W : World} {v0 : Value} {l : List Nat} {st : Bool} (hF : HasF W) (h0 : HasBN W v0 l) (b0 : ∀ x ∈ l, x < 256) (n0 : l.length ≤ 1048576) :
    Calls Tryd.prog 4 #[v0, .bool st] W fun e W' => e = .returned (.bool true) ∧ Below W.heap.size W W' := by
  have Hkn := hide (known_any hadd hF)
  have HH0 := hide h0.has
  have Hb0 := hide b0
  have hsz := sOf_size l
  have hR := recT_top (sOf l) st 63 (by decide) ((sOf l).size + 1) 0 ((sOf l).size + 1) [] (Nat.zero_le _) (by omega) (by omega)
  obtain ⟨R, hRR⟩ : ∃ R, recT (sOf l) st 63 ((sOf l).size + 1) 0 0 0 [] = R := ⟨_, rfl⟩
  rw [hRR] at hR
  have HRR := hide hRR
  have HR := hide hR
  obtain ⟨a0, q0, rfl, m0, r0⟩ := h0
  have R0 := hide r0
  have M0 := hide m0
  have Hsz := hide hsz
  clear hF b0 m0 r0 hR hRR hsz
  go_enter Tryd.func4, Tryd.ntmps4
  go_wp2_with fail
  refine (unhide Hkn).mono ?_
  rintro e W1 ⟨rfl, hb1⟩
  have hz1 := hb1.size
  have Hbe1 := hide hb1
  clear hb1 Hkn
  go_wp2_with fail
  refine (twin_any ((unhide HH0).up (unhide Hbe1)) (by rw [byB_length]; omega)).mono ?_
  rintro e W2 ⟨he, hy2, hb2⟩
  rw [byB_length] at he hy2
  subst he
  have hz2 := hb2.size
  have hsp := split_any (W := W2) (l := l) (g := W1.heap.size) (off := 0) (c := l.length) (st := st) hy2.cellsB (unhide Hb0) n0
  rw [unhide HR] at hsp
  have Hsp := hide hsp
  have Hbe2 := hide ((unhide Hbe1).trans (hb2.mono hz1))
  clear hy2 hb2 hsp HR
  go_wp2_with fail
  refine (unhide Hsp).mono ?_
  intro e W3 hq
  obtain ⟨hq3, hb3⟩ := hq
  have hz3 := hb3.size
  have Hbe3 := hide ((unhide Hbe2).trans (hb3.mono (by omega)))
  clear hb3 Hsp
  have htw := twin_any ((unhide HH0).up (unhide Hbe3)) (by rw [byB_length]; omega)
  rw [byB_length] at htw
  have Htw := hide htw
  clear htw
  rcases R with ⟨ts, kE⟩ | ⟨c, p⟩
  · obtain ⟨va, vl, vc, rfl, hT3⟩ := hq3
    obtain ⟨va', vc', ef⟩ := hT3.form
    obtain ⟨rfl, rfl, rfl⟩ : va = va' ∧ vl = ts.length ∧ vc = vc' := by injection ef with e1 e2 e3; exact ⟨e1, e2, e3⟩
    have HT3 := hide hT3
    clear hT3 ef
    go_wp2_with fail
    refine (unhide Htw).mono ?_
    rintro e W4 ⟨rfl, hy4, hb4⟩
    have hz4 := hb4.size
    have Hrd := hide (read_at (W := W4) (l := l) (g := W3.heap.size) (off := 0) (c := l.length) (st := st) hy4.cellsB (unhide Hb0) n0)
    have Hbe4 := hide ((unhide Hbe3).trans (hb4.mono (by omega)))
    have Hb34 := hide hb4
    clear hy4 hb4 Htw
    go_wp2_with fail
    refine (unhide Hrd).mono ?_
    rintro e W5 ⟨rfl, hr5, hb5, hy5⟩
    have hz5 := hb5.size
    have HLE : Hid (LE W W4.heap.size (sOf l) st (.inl (ts, kE)) W4.heap.size (.slice va ts.length vc) ts ((sOf l).size + 1) W5 0 0 []) := ⟨hr5, (unhide Hbe4).trans (hb5.mono (by omega)), unhide HRR, Nat.zero_le _, by omega, Nat.le_refl _, rfl, (unhide HT3).mono (fun g hg _ => ⟨by omega, (hb5.block g (by omega)).trans ((unhide Hb34).block g hg)⟩) (by omega)⟩
    have hWb : W.heap.size ≤ W4.heap.size := by omega
    obtain ⟨b, eb⟩ : ∃ b, W4.heap.size = b := ⟨_, rfl⟩
    rw [eb] at HLE hWb ⊢
    clear hr5 hb5 hy5 Hrd Hbe4 Hbe3 Hbe2 Hbe1 hz1 hz2 hz3 hz4 hz5 HRR eb HT3 Hb34
    go_wp2_with fail
    go_loopg [10] ((sOf l).size + 1) (fun gk v10 wr => ∃ m k acc, v10 = .int .i64 ((m : Nat) : Int) ∧ Hid (LE W b (sOf l) st (.inl (ts, kE)) b (.slice va ts.length vc) ts gk wr m k acc))
    case atStart => exact ⟨0, _, _, rfl, HLE⟩
    case round =>
      obtain ⟨m, k, acc, rfl, HL⟩ := hrel
      clear HLE
      have hL := unhide HL
      obtain ⟨f, hgf⟩ : ∃ f, gk = f + 1 := ⟨gk - 1, by have := hL.le; have := hL.fu; omega⟩
      by_cases hke : k = (sOf l).size
      · have hEq := hL.eq
        rw [hgf, recT, if_pos hke, if_pos rfl] at hEq
        obtain ⟨rfl, _⟩ := Prod.mk.inj (Sum.inl.inj hEq)
        obtain rfl := hL.len
        have hd : decide (k < (sOf l).size) = false := decide_eq_false (by omega)
        have hmo := more_any hL.rd
        rw [hd] at hmo
        have Hmo := hide hmo
        have HE := hide hL.below
        clear hL hmo hd hEq hgf hke HL R0 M0 HH0 Hb0
        go_wp2_with fail
        refine (unhide Hmo).mono ?_
        rintro e w3 ⟨rfl, n3, rfl⟩
        clear Hmo
        go_wp2
        go_ret
        exact ⟨by first | rfl | simp, below_drewN (unhide HE) _⟩
      · have hEq := hL.eq
        rw [hgf, recT_top1 hke] at hEq
        have hlt : k < (sOf l).size := by have := hL.le; omega
        have hd : decide (k < (sOf l).size) = true := decide_eq_true hlt
        have hmo := more_any hL.rd
        rw [hd] at hmo
        have Hmo := hide hmo
        have Hat := hide (fun (n : Nat) => rAt_any (W := wr.drewN n) (b := b) (s := sOf l) (k := k) (st := st) hL.rd)
        have Htg := hide (fun (n : Nat) => rTag_any (W := wr.drewN n) (b := b) (s := sOf l) (k := k) (st := st) hL.rd hL.le (by rw [unhide Hsz]; exact n0))
        have HEq := hide hEq
        have Hgf := hide hgf
        clear hL hmo hd hEq hgf hke
        go_wp2_with fail
        refine (unhide Hmo).mono ?_
        rintro e w3 ⟨rfl, n3, rfl⟩
        clear Hmo
        go_wp2_with fail
        refine (unhide Hat n3).mono ?_
        rintro e w4 ⟨rfl, hw4⟩
        obtain rfl : wr.drewN n3 = w4 := hw4.symm
        clear hw4
        go_wp2_with fail
        refine (unhide Htg n3).mono ?_
        intro e w5 hq
        have hEq := unhide HEq
        have hx := fun h => rg_uni h hq
        rcases hx (unhide HL).rd with ⟨q, hq0, htr, rfl, hU⟩ | ⟨n, kd, k', htr, rfl, hU⟩
        · rw [htr] at hEq
          cases hEq
        · rw [htr] at hEq
          have hb := tagR_lt htr
          have HB5 : Hid (Below W.heap.size W w5) := (below_drewN (unhide HL).below n3).trans (hU.below (n := W.heap.size) (unhide HL).below.size hWb)
          replace hEq : (if kd = 4 then .inr (25, k) else match topQ (sOf l) st f n kd k' with | .inr x => .inr x | .inl (t, k2) => recT (sOf l) st 63 f 0 0 k2 (acc ++ [t]) : (List Rt × Nat) ⊕ (Nat × Nat)) = .inl (ts, kE) := hEq
          by_cases h4 : kd = 4
          · rw [if_pos h4] at hEq
            cases hEq
          · rw [if_neg h4] at hEq
            have e4 : ((kd : Int) == 4) = false := beq_eq_false_iff_ne.2 (by omega)
            have hsl : (sOf l).size = l.length := unhide Hsz
            have Hat5 := hide (rAt_any (W := w5) (b := b) (s := sOf l) (k := k') (st := st) hU.at')
            have x1 : decide ((k' : Int) ≤ (k : Int)) = false := decide_eq_false (by omega)
            have x2 : decide ((l.length : Int) < (k' : Int)) = false := decide_eq_false (by omega)
            obtain ⟨g0, off, rfl, hg0, hcell⟩ := unhide R0 (by omega)
            have hm0 := unhide M0
            unfold maxLen at hm0
            have x3 : (0 : Int) ≤ (k' : Int) := by omega
            have x4 : (k' : Int) ≤ (l.length : Int) := by omega
            have x5 : (l.length : Int) ≤ (q0 : Int) := by omega
            have x6 : k' ≤ l.length := by omega
            have x7 : l.length ≤ q0 := hm0.1
            obtain ⟨L', hL'⟩ : ∃ L', l.length - k' = L' := ⟨_, rfl⟩
            have x8 : (l.length : Int) - (k' : Int) = (L' : Int) := by omega
            have Hrd5 := hide hU.at'
            have Hhas5 : Hid (HasRt w5 (fun g => g < b) (.slice va ts.length vc) ts) := ((unhide HL).has.drewN n3).mono (fun g hg hp => ⟨hp, hU.far g hg (by have : g < b := hp; omega)⟩) hU.size
            have hz5b : b < w5.heap.size := (Array.getElem?_eq_some_iff.1 hU.at').1
            have Htw : Hid (∀ (a' : Option Addr) (c' : Nat), (a' = some ⟨g0, off + k', none⟩ ∨ L' = 0) → Calls Tryd.prog 14 #[.slice a' L' c'] w5 fun e W' => e = .returned (.slice (some ⟨w5.heap.size, 0, none⟩) L' L') ∧ Bytes w5.heap.size W' (.slice (some ⟨w5.heap.size, 0, none⟩) L' L') (byB (l.drop k')) ∧ Below w5.heap.size w5 W') := by
              intro a' c' ha
              have hlen : (byB (l.drop k')).length = L' := by rw [byB_length, List.length_drop]; exact hL'
              have hB : HasB w5 (.slice a' L' c') (byB (l.drop k')) := by
                refine ⟨a', c', by rw [hlen], by rw [hlen]; unfold maxLen; omega, fun hp => ?_⟩
                rcases ha with rfl | ha
                · refine ⟨g0, off + k', rfl, Nat.lt_of_lt_of_le hg0 (unhide HB5).size, fun i b hb => ?_⟩
                  obtain ⟨x, hx, rfl⟩ := byB_get hb
                  rw [List.getElem?_drop] at hx
                  have := (unhide HB5).cell (p := ⟨g0, off + (k' + i), none⟩) hg0
                  rw [← Nat.add_assoc] at this
                  exact this.trans (by rw [Nat.add_assoc]; exact hcell _ _ hx)
                · rw [hlen, ha] at hp
                  omega
              have q := twin_any hB (by rw [hlen]; omega)
              rw [hlen] at q
              exact q
            have hle := (unhide HL).le
            have hfu := (unhide HL).fu
            have hgf := unhide Hgf
            have hsk := skip_top (s := sOf l) (st := st) (k := k') (n := n) (kd := kd) (f := f) hb.2.2.2.2 hb.1 hb.2.1 hb.2.2.1 h4 (by omega)
            have Htq : Hid (∀ t k2, topQ (sOf l) st f n kd k' = .inl (t, k2) → k' ≤ k2 ∧ k2 ≤ (sOf l).size) := fun t k2 q => topQ_lt (by omega) hb.2.2.2.2 q
            have hk' : k < k' ∧ k' ≤ (sOf l).size ∧ (sOf l).size < k' + f := by omega
            have Hkk := hide hk'
            have Hsk : Hid (∀ (w : World) (q5 k5 : Nat), fS (plQ (topQ (sOf l) st f n kd k')) = (q5, k5) → RdAt w b (sOf l) k' st → Calls Tryd.prog 21 #[.pointer (some ⟨b, 0, none⟩), .int .i64 (n : Int), .int .i64 (kd : Int), .int .i64 63] w fun e w' => e = .returned (.int .i64 (q5 : Int)) ∧ Upd w b (rdO (sOf l) st k5) w') := by
              intro w q5 k5 hf hr
              rw [← hsk] at hf
              exact (rSkip_any hr hb.2.2.2.2 (by rw [hsl]; exact n0)).mono fun e w' hq => rs_fun hf hq
            clear hq hx Hat Htg HEq htr hU hle hfu hgf hsk hk' hcell hg0
            obtain ⟨Q, hQ⟩ : ∃ Q, topQ (sOf l) st f n kd k' = Q := ⟨_, rfl⟩
            rw [hQ] at hEq Hsk Htq
            have HQ := hide hQ
            clear hQ
            have hcase : k' = q0 ∨ ¬ q0 = k' := by omega
            rcases hcase with rfl | hcp
            all_goals (
              go_wp2_with fail
              refine (unhide Hat5).mono ?_
              rintro e w6 ⟨rfl, hw6⟩
              obtain rfl : w5 = w6 := hw6.symm
              clear hw6 Hat5
              go_wp2_with fail
              refine (unhide Htw _ _ (by first | exact .inl rfl | exact .inr (by omega))).mono ?_
              rintro e w7 ⟨rfl, hy7, hb7⟩
              have hz7 := hb7.size
              have hrd2 := read_at (W := w7) (l := l.drop k') (g := w5.heap.size) (off := 0) (c := L') (st := st) hy7.cellsB (fun x hx => unhide Hb0 x (List.mem_of_mem_drop hx)) (by rw [List.length_drop]; omega)
              rw [List.length_drop, hL'] at hrd2
              have Hrd2 := hide hrd2
              have Hr7 : Hid (RdAt w7 b (sOf l) k' st) := (hb7.block b hz5b).trans (unhide Hrd5)
              have HB7 : Hid (Below W.heap.size W w7) := (unhide HB5).trans (hb7.mono (unhide HB5).size)
              have Hhas7 : Hid (HasRt w7 (fun g => g < b) (.slice va ts.length vc) ts) := (unhide Hhas5).mono (fun g hg hp => ⟨hp, hb7.block g hg⟩) hz7
              clear hy7 hb7 hrd2 Htw Hrd5
              go_wp2_with fail
              refine (unhide Hrd2).mono ?_
              rintro e w8 ⟨rfl, hr8, hb8, hy8⟩
              have hz8 : w7.heap.size < w8.heap.size := by omega
              have Hr8 : Hid (RdAt w8 b (sOf l) k' st) := (hb8.block b (by omega)).trans (unhide Hr7)
              have HB8 : Hid (Below W.heap.size W w8) := (unhide HB7).trans (hb8.mono (unhide HB7).size)
              have Hhas8 : Hid (HasRt w8 (fun g => g < b) (.slice va ts.length vc) ts) := (unhide Hhas7).mono (fun g hg hp => ⟨hp, hb8.block g hg⟩) (by omega)
              have Hr28 := hide hr8
              clear hb8 hy8 Hrd2 Hr7 hr8 Hhas7
              rcases Q with ⟨t, k2⟩ | ⟨c5, p5⟩
              · replace hEq : recT (sOf l) st 63 f 0 0 k2 (acc ++ [t]) = .inl (ts, kE) := hEq
                have hk2 := unhide Htq t k2 rfl
                have Hs9 := hide (unhide Hsk w8 0 k2 rfl (unhide Hr8))
                obtain ⟨rest, hts⟩ := recT_pre _ _ _ _ _ _ _ _ _ _ hEq
                obtain ⟨x, tt, li, ht, hbody⟩ := topQ_form h4 hb.2.2.1 (unhide HQ)
                have hm := (unhide HL).len
                have htm : ts[m]? = some t := by rw [hts, ← hm]; simp
                have y3 : m < ts.length := (List.getElem?_eq_some_iff.1 htm).1
                have HEq2 := hide hEq
                have Hbody := hide hbody
                have hk1 : k' ≤ l.length := by omega
                clear hEq Hsk hts hbody
                go_wp2_with fail
                refine (unhide Hs9).mono ?_
                rintro e w9 ⟨rfl, hU9⟩
                have hz9 := hU9.size
                have hR9 : RdAt w9 w7.heap.size (sOf (l.drop k')) 0 st := (hU9.far _ hz8 (by omega)).trans (unhide Hr28)
                have hHas : HasRt w9 (fun g => g < b) (.slice va ts.length vc) ts := (unhide Hhas8).mono (fun g hg hp => ⟨hp, hU9.far g hg (by have : g < b := hp; omega)⟩) hz9
                obtain ⟨g5, c5, ua, un, uc, ev, hg5, hg5w, hc5⟩ := hHas.at' htm
                rw [ht] at hc5
                obtain ⟨rfl, rfl⟩ : va = some ⟨g5, 0, none⟩ ∧ vc = c5 := by injection ev with e1 e2 e3; exact ⟨e1, e3⟩
                have z0 : w9.cell? ⟨g5, m * 5, none⟩ = some (.int .i64 (n : Int)) := hc5 0 _ rfl
                have z1 : w9.cell? ⟨g5, m * 5 + 1, none⟩ = some (.int .i64 (kd : Int)) := hc5 1 _ rfl
                have z2 : w9.cell? ⟨g5, m * 5 + 2, none⟩ = some (.int .i64 x) := hc5 2 _ rfl
                have z3 : w9.cell? ⟨g5, m * 5 + 3, none⟩ = some (.string tt) := hc5 3 _ rfl
                have z4 : w9.cell? ⟨g5, m * 5 + 4, none⟩ = some (.slice ua un uc) := hc5 4 _ rfl
                have Hat9 := hide (fun (nn : Nat) => rAt_any (W := w9.drewN nn) (b := b) (s := sOf l) (k := k2) (st := st) hU9.at')
                have HB9 : Hid (Below W.heap.size W w9) := (unhide HB8).trans (hU9.below (n := W.heap.size) (unhide HB8).size hWb)
                have Hr9 := hide hU9.at'
                have HatD := hide (rAt_any (W := w9.drew) (b := b) (s := sOf l) (k := k2) (st := st) hU9.at')
                have hctD := content_any (W := w9.drew) (b := w7.heap.size) (n := n) (kd := kd) (j := k') (k2 := k2) (x := x) (t := tt) (li := li) (l := l) (st := st) (ua := ua) (un := un) (uc := uc) (unhide Hb0) n0 hk1 hR9 hb.2.2.1 h4 (unhide Hbody)
                have Hhas9 := hide hHas
                have y1 : k < k2 := by have := unhide Hkk; omega
                have y4 : (0 : Int) ≤ (m : Int) := Int.natCast_nonneg _
                have y5 : (m : Int) < (ts.length : Int) := by omega
                have hbw7 : b < w7.heap.size := by omega
                have hmb : m ≤ 1048576 := by have := (unhide HL).few; have := (unhide HL).le; omega
                obtain ⟨zz, hzz⟩ : ∃ zz, (k2 : Int) - (k' : Int) = zz := ⟨_, rfl⟩
                rw [hzz] at hctD
                have HctD := hide hctD
                clear hctD
                have zwr : wrap64 zz = zz := wrap64_id (by omega) (by omega)
                have zwr2 : IntKind.i64.wrap zz = zz := by rw [IntKind.wrap_i64]; omega
                have HSd : ∀ w' : World, (∀ q, q < b → w'.heap[q]? = w9.heap[q]?) → (w'.cell? ⟨g5, m * 5, none⟩ = some (.int .i64 (n : Int)) ∧ w'.cell? ⟨g5, m * 5 + 1, none⟩ = some (.int .i64 (kd : Int)) ∧ w'.cell? ⟨g5, m * 5 + 2, none⟩ = some (.int .i64 x) ∧ w'.cell? ⟨g5, m * 5 + 3, none⟩ = some (.string tt) ∧ w'.cell? ⟨g5, m * 5 + 4, none⟩ = some (.slice ua un uc)) := by
                  intro w' hw'
                  have hq : ∀ j, w'.cell? ⟨g5, j, none⟩ = w9.cell? ⟨g5, j, none⟩ := fun j => by unfold World.cell?; rw [hw' g5 hg5]
                  exact ⟨(hq _).trans z0, (hq _).trans z1, (hq _).trans z2, (hq _).trans z3, (hq _).trans z4⟩
                have hbw9 : b < w9.heap.size := (Array.getElem?_eq_some_iff.1 hU9.at').1
                clear hU9 Hs9 hHas hc5 ev hR9 htm hm ht hk2 hL' x8 x7 x6 x5 x4 x3 x2 x1 hm0 hz7 hz8 hz5b hlt hsl
                go_wp2_with fail
                refine (unhide Hat9 0).mono ?_
                rintro e w10 ⟨rfl, hw10⟩
                obtain rfl : w9 = w10 := hw10.symm
                clear hw10
                go_wp2_with fail
                go_region_held3 (fun w' => w'.cell? ⟨g5, m * 5, none⟩ = some (.int .i64 (n : Int)) ∧ w'.cell? ⟨g5, m * 5 + 1, none⟩ = some (.int .i64 (kd : Int)) ∧ w'.cell? ⟨g5, m * 5 + 2, none⟩ = some (.int .i64 x) ∧ w'.cell? ⟨g5, m * 5 + 3, none⟩ = some (.string tt) ∧ w'.cell? ⟨g5, m * 5 + 4, none⟩ = some (.slice ua un uc)) (first | exact HSd _ hlow | exact HSd _ (fun _ _ => rfl))
                  (first
                    | (go_at_call 19; refine (unhide HatD).mono ?_; rintro e w11 ⟨rfl, hw11⟩; obtain rfl : w9.drew = w11 := hw11.symm; clear hw11)
                    | (go_at_call 22; (try rw [zwr2]); refine (unhide HctD).mono ?_; rintro e w12 ⟨rfl, hf12⟩; have hlow : ∀ q, q < b → w12.heap[q]? = w9.heap[q]? := (fun q hq => hf12.far q (Nat.lt_trans hq hbw9) (by omega))))
                have HLn : Hid (LE W b (sOf l) st (.inl (ts, kE)) b (.slice (some ⟨g5, 0, none⟩) ts.length vc) ts f w12 (m + 1) k2 (acc ++ [t])) := ⟨(hf12.far b hbw9 (by omega)).trans (unhide Hr9), (below_drewN (unhide HB9) 1).trans ⟨hf12.os, hf12.tape, hf12.output, hf12.size, fun q hq => hf12.far q (by have := (unhide HB9).size; exact Nat.lt_of_lt_of_le hq this) (by omega)⟩, unhide HEq2, (unhide Htq t k2 rfl).2, by have := unhide Hkk; have := (unhide Htq t k2 rfl).1; omega, by have := (unhide HL).few; have := unhide Hkk; have := (unhide Htq t k2 rfl).1; omega, by rw [List.length_append, List.length_singleton, (unhide HL).len], (unhide Hhas9).mono (fun g _ hp => ⟨hp, hlow g hp⟩) hf12.size⟩
                clear hf12 hlow HSd
                go_wp2
                go_roundg f
                case measure => have := unhide Hgf; omega
                case rel => exact ⟨m + 1, _, _, by go_num, HLn⟩
              · cases hEq)
  · obtain ⟨rfl, hc⟩ := hq3
    have qc0 : ((c : Int) == 0) = false := beq_eq_false_iff_ne.2 (by omega)
    go_wp2_with fail
    refine (unhide Htw).mono ?_
    rintro e W4 ⟨rfl, hy4, hb4⟩
    have hz4 := hb4.size
    have Hrd := hide (read_at (W := W4) (l := l) (g := W3.heap.size) (off := 0) (c := l.length) (st := st) hy4.cellsB (unhide Hb0) n0)
    have Hbe4 := hide ((unhide Hbe3).trans (hb4.mono (by omega)))
    clear hy4 hb4 Htw
    go_wp2_with fail
    refine (unhide Hrd).mono ?_
    rintro e W5 ⟨rfl, hr5, hb5, hy5⟩
    have hz5 := hb5.size
    have HLE : Hid (LE W W4.heap.size (sOf l) st (.inr (c, p)) W4.heap.size (.slice none 0 0) [] ((sOf l).size + 1) W5 0 0 []) := ⟨hr5, (unhide Hbe4).trans (hb5.mono (by omega)), unhide HRR, Nat.zero_le _, by omega, Nat.le_refl _, rfl, .nil _ _⟩
    have hWb : W.heap.size ≤ W4.heap.size := by omega
    obtain ⟨b, eb⟩ : ∃ b, W4.heap.size = b := ⟨_, rfl⟩
    rw [eb] at HLE hWb ⊢
    clear hr5 hb5 hy5 Hrd Hbe4 Hbe3 Hbe2 Hbe1 hz1 hz2 hz3 hz4 hz5 HRR eb
    go_wp2_with fail
    go_loopg [10] ((sOf l).size + 1) (fun gk v10 wr => ∃ m k acc, v10 = .int .i64 ((m : Nat) : Int) ∧ Hid (LE W b (sOf l) st (.inr (c, p)) b (.slice none 0 0) [] gk wr m k acc))
    case atStart => exact ⟨0, _, _, rfl, HLE⟩
    case round =>
      obtain ⟨m, k, acc, rfl, HL⟩ := hrel
      clear HLE
      have hL := unhide HL
      obtain ⟨f, hgf⟩ : ∃ f, gk = f + 1 := ⟨gk - 1, by have := hL.le; have := hL.fu; omega⟩
      have hke : k ≠ (sOf l).size := fun e => by
        have q := hL.eq
        rw [hgf, recT, if_pos e, if_pos rfl] at q
        cases q
      have hEq := hL.eq
      rw [hgf, recT_top1 hke] at hEq
      have hlt : k < (sOf l).size := by have := hL.le; omega
      have hd : decide (k < (sOf l).size) = true := decide_eq_true hlt
      have hmo := more_any hL.rd
      rw [hd] at hmo
      have Hmo := hide hmo
      have Hat := hide (fun (n : Nat) => rAt_any (W := wr.drewN n) (b := b) (s := sOf l) (k := k) (st := st) hL.rd)
      have Htg := hide (fun (n : Nat) => rTag_any (W := wr.drewN n) (b := b) (s := sOf l) (k := k) (st := st) hL.rd hL.le (by rw [unhide Hsz]; exact n0))
      have HEq := hide hEq
      have Hgf := hide hgf
      clear hL hmo hd hEq hgf hke
      go_wp2_with fail
      refine (unhide Hmo).mono ?_
      rintro e w3 ⟨rfl, n3, rfl⟩
      clear Hmo
      go_wp2_with fail
      refine (unhide Hat n3).mono ?_
      rintro e w4 ⟨rfl, hw4⟩
      obtain rfl : wr.drewN n3 = w4 := hw4.symm
      clear hw4
      go_wp2_with fail
      refine (unhide Htg n3).mono ?_
      intro e w5 hq
      have hEq := unhide HEq
      have hx := fun h => rg_uni h hq
      rcases hx (unhide HL).rd with ⟨q, hq0, htr, rfl, hU⟩ | ⟨n, kd, k', htr, rfl, hU⟩
      · rw [htr] at hEq
        replace hEq : (.inr (q, k) : (List Rt × Nat) ⊕ (Nat × Nat)) = .inr (c, p) := hEq
        obtain ⟨rfl, rfl⟩ := Prod.mk.inj (Sum.inr.inj hEq)
        have Hat5 := hide (rAt_any (W := w5) (b := b) (s := sOf l) (k := k) (st := st) hU.at')
        have HE : Hid (Below W.heap.size W w5) := (below_drewN (unhide HL).below n3).trans (hU.below (n := W.heap.size) (unhide HL).below.size hWb)
        have qc : ((q : Int) != 0) = true := by simp; omega
        clear hEq HEq hU htr hq hx Hat Htg HL Hgf hq0 R0 M0 HH0 Hb0
        go_wp2_with fail
        refine (unhide Hat5).mono ?_
        rintro e w6 ⟨rfl, hw6⟩
        obtain rfl : w5 = w6 := hw6.symm
        clear hw6 Hat5
        go_wp2
        go_ret
        exact ⟨by first | rfl | simp, unhide HE⟩
      · rw [htr] at hEq
        have hb := tagR_lt htr
        have HB5 : Hid (Below W.heap.size W w5) := (below_drewN (unhide HL).below n3).trans (hU.below (n := W.heap.size) (unhide HL).below.size hWb)
        replace hEq : (if kd = 4 then .inr (25, k) else match topQ (sOf l) st f n kd k' with | .inr x => .inr x | .inl (t, k2) => recT (sOf l) st 63 f 0 0 k2 (acc ++ [t]) : (List Rt × Nat) ⊕ (Nat × Nat)) = .inr (c, p) := hEq
        by_cases h4 : kd = 4
        · rw [if_pos h4] at hEq
          obtain ⟨rfl, rfl⟩ := Prod.mk.inj (Sum.inr.inj hEq)
          have e4 : ((kd : Int) == 4) = true := by rw [h4]; rfl
          clear hEq HEq hU htr hq hx Hat Htg HL Hgf R0 M0 HH0 Hb0 h4 hb
          go_wp2
          go_ret
          exact ⟨by first | rfl | simp, unhide HB5⟩
        · rw [if_neg h4] at hEq
          have e4 : ((kd : Int) == 4) = false := beq_eq_false_iff_ne.2 (by omega)
          have hsl : (sOf l).size = l.length := unhide Hsz
          have Hat5 := hide (rAt_any (W := w5) (b := b) (s := sOf l) (k := k') (st := st) hU.at')
          have x1 : decide ((k' : Int) ≤ (k : Int)) = false := decide_eq_false (by omega)
          have x2 : decide ((l.length : Int) < (k' : Int)) = false := decide_eq_false (by omega)
          obtain ⟨g0, off, rfl, hg0, hcell⟩ := unhide R0 (by omega)
          have hm0 := unhide M0
          unfold maxLen at hm0
          have x3 : (0 : Int) ≤ (k' : Int) := by omega
          have x4 : (k' : Int) ≤ (l.length : Int) := by omega
          have x5 : (l.length : Int) ≤ (q0 : Int) := by omega
          have x6 : k' ≤ l.length := by omega
          have x7 : l.length ≤ q0 := hm0.1
          obtain ⟨L', hL'⟩ : ∃ L', l.length - k' = L' := ⟨_, rfl⟩
          have x8 : (l.length : Int) - (k' : Int) = (L' : Int) := by omega
          have Hrd5 := hide hU.at'
          have hz5b : b < w5.heap.size := (Array.getElem?_eq_some_iff.1 hU.at').1
          have Htw : Hid (∀ (a' : Option Addr) (c' : Nat), (a' = some ⟨g0, off + k', none⟩ ∨ L' = 0) → Calls Tryd.prog 14 #[.slice a' L' c'] w5 fun e W' => e = .returned (.slice (some ⟨w5.heap.size, 0, none⟩) L' L') ∧ Bytes w5.heap.size W' (.slice (some ⟨w5.heap.size, 0, none⟩) L' L') (byB (l.drop k')) ∧ Below w5.heap.size w5 W') := by
            intro a' c' ha
            have hlen : (byB (l.drop k')).length = L' := by rw [byB_length, List.length_drop]; exact hL'
            have hB : HasB w5 (.slice a' L' c') (byB (l.drop k')) := by
              refine ⟨a', c', by rw [hlen], by rw [hlen]; unfold maxLen; omega, fun hp => ?_⟩
              rcases ha with rfl | ha
              · refine ⟨g0, off + k', rfl, Nat.lt_of_lt_of_le hg0 (unhide HB5).size, fun i b hb => ?_⟩
                obtain ⟨x, hx, rfl⟩ := byB_get hb
                rw [List.getElem?_drop] at hx
                have := (unhide HB5).cell (p := ⟨g0, off + (k' + i), none⟩) hg0
                rw [← Nat.add_assoc] at this
                exact this.trans (by rw [Nat.add_assoc]; exact hcell _ _ hx)
              · rw [hlen, ha] at hp
                omega
            have q := twin_any hB (by rw [hlen]; omega)
            rw [hlen] at q
            exact q
          have hle := (unhide HL).le
          have hfu := (unhide HL).fu
          have hgf := unhide Hgf
          have hsk := skip_top (s := sOf l) (st := st) (k := k') (n := n) (kd := kd) (f := f) hb.2.2.2.2 hb.1 hb.2.1 hb.2.2.1 h4 (by omega)
          have Htq : Hid (∀ t k2, topQ (sOf l) st f n kd k' = .inl (t, k2) → k' ≤ k2 ∧ k2 ≤ (sOf l).size) := fun t k2 q => topQ_lt (by omega) hb.2.2.2.2 q
          have hk' : k < k' ∧ k' ≤ (sOf l).size ∧ (sOf l).size < k' + f := by omega
          have Hkk := hide hk'
          have Hsk : Hid (∀ (w : World) (q5 k5 : Nat), fS (plQ (topQ (sOf l) st f n kd k')) = (q5, k5) → RdAt w b (sOf l) k' st → Calls Tryd.prog 21 #[.pointer (some ⟨b, 0, none⟩), .int .i64 (n : Int), .int .i64 (kd : Int), .int .i64 63] w fun e w' => e = .returned (.int .i64 (q5 : Int)) ∧ Upd w b (rdO (sOf l) st k5) w') := by
            intro w q5 k5 hf hr
            rw [← hsk] at hf
            exact (rSkip_any hr hb.2.2.2.2 (by rw [hsl]; exact n0)).mono fun e w' hq => rs_fun hf hq
          clear hq hx Hat Htg HEq htr hU hle hfu hgf hsk hk' hcell hg0
          obtain ⟨Q, hQ⟩ : ∃ Q, topQ (sOf l) st f n kd k' = Q := ⟨_, rfl⟩
          rw [hQ] at hEq Hsk Htq
          have HQ := hide hQ
          clear hQ
          have hcase : k' = q0 ∨ ¬ q0 = k' := by omega
          rcases hcase with rfl | hcp
          all_goals (
            go_wp2_with fail
            refine (unhide Hat5).mono ?_
            rintro e w6 ⟨rfl, hw6⟩
            obtain rfl : w5 = w6 := hw6.symm
            clear hw6 Hat5
            go_wp2_with fail
            refine (unhide Htw _ _ (by first | exact .inl rfl | exact .inr (by omega))).mono ?_
            rintro e w7 ⟨rfl, hy7, hb7⟩
            have hz7 := hb7.size
            have hrd2 := read_at (W := w7) (l := l.drop k') (g := w5.heap.size) (off := 0) (c := L') (st := st) hy7.cellsB (fun x hx => unhide Hb0 x (List.mem_of_mem_drop hx)) (by rw [List.length_drop]; omega)
            rw [List.length_drop, hL'] at hrd2
            have Hrd2 := hide hrd2
            have Hr7 : Hid (RdAt w7 b (sOf l) k' st) := (hb7.block b hz5b).trans (unhide Hrd5)
            have HB7 : Hid (Below W.heap.size W w7) := (unhide HB5).trans (hb7.mono (unhide HB5).size)
            clear hy7 hb7 hrd2 Htw Hrd5
            go_wp2_with fail
            refine (unhide Hrd2).mono ?_
            rintro e w8 ⟨rfl, hr8, hb8, hy8⟩
            have hz8 : w7.heap.size < w8.heap.size := by omega
            have Hr8 : Hid (RdAt w8 b (sOf l) k' st) := (hb8.block b (by omega)).trans (unhide Hr7)
            have HB8 : Hid (Below W.heap.size W w8) := (unhide HB7).trans (hb8.mono (unhide HB7).size)
            clear hb8 hy8 Hrd2 Hr7 hr8
            rcases Q with ⟨t, k2⟩ | ⟨c5, p5⟩
            · replace hEq : recT (sOf l) st 63 f 0 0 k2 (acc ++ [t]) = .inr (c, p) := hEq
              have hk2 := unhide Htq t k2 rfl
              have Hs9 := hide (unhide Hsk w8 0 k2 rfl (unhide Hr8))
              have HEq2 := hide hEq
              clear hEq Hsk
              go_wp2_with fail
              refine (unhide Hs9).mono ?_
              rintro e w9 ⟨rfl, hU9⟩
              have Hat9 := hide (rAt_any (W := w9) (b := b) (s := sOf l) (k := k2) (st := st) hU9.at')
              have HB9 : Hid (Below W.heap.size W w9) := (unhide HB8).trans (hU9.below (n := W.heap.size) (unhide HB8).size hWb)
              have Hr9 := hide hU9.at'
              have y1 : k < k2 := by have := unhide Hkk; omega
              clear hU9 Hs9
              go_wp2_with fail
              refine (unhide Hat9).mono ?_
              rintro e w10 ⟨rfl, hw10⟩
              obtain rfl : w9 = w10 := hw10.symm
              clear hw10 Hat9
              have HLn : Hid (∀ nn, LE W b (sOf l) st (.inr (c, p)) b (.slice none 0 0) [] f (w9.drewN nn) (m + 1) k2 (acc ++ [t])) := fun nn => ⟨unhide Hr9, below_drewN (unhide HB9) nn, unhide HEq2, hk2.2, by have := unhide Hkk; omega, by have := (unhide HL).few; have := unhide Hkk; omega, by rw [List.length_append, List.length_singleton, (unhide HL).len], .nil _ _⟩
              have hmb : m ≤ 1048576 := by have := (unhide HL).few; have := (unhide HL).le; omega
              clear Hr9 HEq2 hk2 hL' x8 x7 x6 x5 x4 x3 x2 x1 hb hm0 hz7 hz8 hz5b hlt hsl
              go_wp2
              go_quiet (fail)
              go_wp2
              go_roundg f
              case measure => have := unhide Hgf; omega
              case rel => exact ⟨m + 1, _, _, by go_num, unhide HLn _⟩
            · replace hEq : (.inr (c5, p5) : (List Rt × Nat) ⊕ (Nat × Nat)) = .inr (c, p) := hEq
              obtain ⟨rfl, rfl⟩ := Prod.mk.inj (Sum.inr.inj hEq)
              have Hs9 := hide (unhide Hsk w8 c5 p5 rfl (unhide Hr8))
              have qc : ((c5 : Int) != 0) = true := by simp; omega
              clear hEq Hsk
              go_wp2_with fail
              refine (unhide Hs9).mono ?_
              rintro e w9 ⟨rfl, hU9⟩
              have Hat9 := hide (rAt_any (W := w9) (b := b) (s := sOf l) (k := p5) (st := st) hU9.at')
              have HB9 : Hid (Below W.heap.size W w9) := (unhide HB8).trans (hU9.below (n := W.heap.size) (unhide HB8).size hWb)
              clear hU9 Hs9
              go_wp2_with fail
              refine (unhide Hat9).mono ?_
              rintro e w10 ⟨rfl, hw10⟩
              obtain rfl : w9 = w10 := hw10.symm
              clear hw10 Hat9
              go_wp2
              go_ret
              exact ⟨by first | rfl | simp, unhide HB9⟩)
end Go.Proofs.YtfcjkkljmjmhmaaDoor
namespace Go.Proofs.YtfcjkkljmjmhmaaDoor
open Go.RowKit
attribute [local go_sem ↓] Go.wp_at_zero Go.wp_at_succ

set_option maxRecDepth 100000 in
set_option maxHeartbeats 4000000 in
theorem wireSame_long (hadd : AddNil) {W : World} {v0 : Value} {l : List Nat} {st : Bool} (hF : HasF W) (h0 : HasBN W v0 l) (n0 : l.length ≤ 140737488351232) (hlg : 1048576 < l.length) :
    Calls Tryd.prog 4 #[v0, .bool st] W fun e W' => e = .returned (.bool true) ∧ Below W.heap.size W W' := by
  have Hkn := hide (known_any hadd hF)
  have HH0 := hide h0.has
  obtain ⟨a0, q0, rfl, m0, r0⟩ := h0
  clear hF m0 r0
  go_enter Tryd.func4, Tryd.ntmps4
  go_wp2_with fail
  refine (unhide Hkn).mono ?_
  rintro e W1 ⟨rfl, hb1⟩
  have hz1 := hb1.size
  have Hbe1 := hide hb1
  clear hb1 Hkn
  go_wp2_with fail
  refine (twin_any ((unhide HH0).up (unhide Hbe1)) (by rw [byB_length]; omega)).mono ?_
  rintro e W2 ⟨he, hy2, hb2⟩
  rw [byB_length] at he
  subst he
  have hz2 := hb2.size
  have Hbe2 := hide ((unhide Hbe1).trans (hb2.mono hz1))
  have Hsp := hide (split_long (W := W2) (a := some ⟨W1.heap.size, 0, none⟩) (n := l.length) (c := l.length) (st := st) hlg)
  clear hy2 hb2
  go_wp2_with fail
  refine (unhide Hsp).mono ?_
  rintro e W3 ⟨rfl, hw3⟩
  obtain rfl : W2 = W3 := hw3.symm
  clear hw3 Hsp
  have htw := twin_any ((unhide HH0).up (unhide Hbe2)) (by rw [byB_length]; omega)
  rw [byB_length] at htw
  have Htw := hide htw
  clear htw
  go_wp2_with fail
  refine (unhide Htw).mono ?_
  rintro e W4 ⟨rfl, hy4, hb4⟩
  have Hbe4 := hide ((unhide Hbe2).trans (hb4.mono (by omega)))
  have Hrd := hide (read_long (W := W4) (a := some ⟨W2.heap.size, 0, none⟩) (n := l.length) (c := l.length) (st := st) hlg)
  clear hy4 hb4 Htw
  go_wp2_with fail
  refine (unhide Hrd).mono ?_
  rintro e W5 ⟨rfl, hw5⟩
  obtain rfl : W4 = W5 := hw5.symm
  clear hw5 Hrd
  go_wp2
  go_ret
  exact ⟨by first | rfl | simp, unhide Hbe4⟩
/-- The law. -/
theorem wireSame_row {W : World} {v0 : Value} {l : List Nat} {st : Bool} (hF : HasF W) (h0 : HasBN W v0 l) (b0 : ∀ x ∈ l, x < 256) (n0 : l.length ≤ 140737488351232) :
    Calls Tryd.prog 4 #[v0, .bool st] W fun e W' => e = .returned (.bool true) ∧ Below W.heap.size W W' := by
  by_cases hlg : 1048576 < l.length
  · exact wireSame_long (fun _ _ _ _ _ _ _ r h => add_nil r h) hF h0 n0 hlg
  · exact wireSame_short (fun _ _ _ _ _ _ _ r h => add_nil r h) hF h0 b0 (by omega)
#print axioms wireSame_row
end Go.Proofs.YtfcjkkljmjmhmaaDoor
