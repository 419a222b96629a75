import Derived.Test.YtadmamfekodkaaaDoorHN
import Derived.Test.YtadmamfekodkaaaDoorHG

namespace Go.Proofs.YtadmamfekodkaaaDoor
open Go.RowKit
attribute [local go_sem ↓] Go.wp_at_zero Go.wp_at_succ

/-- The word in front of a line that begins with one. -/
def Tk : List Nat → Option (List Nat × List Nat)
  | [] => none
  | c :: r => if c = 34 then Qw r else bareP (c :: r)
def st0 (acc : List (List Nat)) (d : Int) : RS := ⟨0, [], acc, d, false⟩
theorem fin_nil (acc : List (List Nat)) (d : Int) : finR (runR [] (st0 acc d)) = some acc := rfl
theorem fin_comment (r : List Nat) (acc : List (List Nat)) (d : Int) : finR (runR (35 :: r) (st0 acc d)) = some acc := by
  unfold st0
  rw [run_step rfl]
  have e : nextR 35 ⟨0, [], acc, d, false⟩ = ⟨7, [], acc, d, false⟩ := by simp only [nextR, firstR]; rfl
  rw [e, run_comment]
theorem fin_word {c : Nat} {r : List Nat} {acc : List (List Nat)} {d : Int} (hb : blk c = false) (h35 : c ≠ 35) : match Tk (c :: r) with
    | none => finR (runR (c :: r) (st0 acc d)) = none
    | some p => (∃ d', finR (runR (c :: r) (st0 acc d)) = finR (runR (skipP p.2) (st0 (acc ++ [p.1]) d'))) ∧ p.2.length ≤ r.length := by
  have hb2 : ¬ blk c = true := by rw [hb]; decide
  unfold st0
  by_cases h34 : c = 34
  · have e : nextR c ⟨0, [], acc, d, false⟩ = ⟨2, [], acc, d, false⟩ := by simp only [nextR, firstR]; rw [h34]; rfl
    have hq := run_quot (r.length + 1) r [] acc d (by omega)
    simp only [Tk]
    rw [if_pos h34, run_step rfl, e]
    unfold Qw
    cases hp : quotP (r.length + 1) r with
    | none =>
      rw [hp] at hq
      exact hq
    | some p =>
      rw [hp] at hq
      obtain ⟨⟨d2, i1⟩, i2, i3⟩ := hq
      simp only
      refine ⟨⟨d2, ?_⟩, i3⟩
      rw [i1, run_skip]
      rfl
  · have e : runR (c :: r) ⟨0, [], acc, d, false⟩ = runR (c :: r) ⟨1, [], acc, d, false⟩ := by
      rw [run_step rfl, run_step rfl]
      congr 1
      simp only [nextR, firstR]
      simp [hb2, h35, h34]
    simp only [Tk]
    rw [if_neg h34, e, run_bare]
    cases hp : bareP (c :: r) with
    | none => rfl
    | some p =>
      obtain ⟨q1, q2⟩ := bare_stops _ _ _ hp
      have q3 : p.2.length < (c :: r).length := by
        rw [bareP, if_neg hb2] at hp
        split at hp
        · cases hp
        · obtain ⟨p', hp', h2⟩ := Option.map_eq_some_iff.1 hp
          subst h2
          have := (bare_stops _ _ _ hp').2
          rw [List.length_cons]
          simp only
          omega
      rw [List.length_cons] at q3
      simp only
      refine ⟨⟨d, ?_⟩, by omega⟩
      rw [List.nil_append, bare_end q1, run_skip]
set_option maxRecDepth 100000 in
set_option maxHeartbeats 2000000 in
theorem taken_any {W : World} (hE : HasE W) (s : ByteArray) (hs : s.size ≤ 65536) {c : Nat} {r : List Nat} (h : strN s = c :: r) : Calls Tryd.prog 15 #[.string s] W (TkR (Tk (strN s)) W) := by
  have hlen := congrArg List.length h
  rw [strN_len, List.length_cons] at hlen
  have hl0 : 0 < s.size := by omega
  obtain ⟨x, hx, hx2, gx⟩ := strN_ex s 0 hl0
  obtain rfl : c = x := by
    rw [h] at hx
    exact Option.some.inj hx
  have k5 : (1 : Int) ≤ (s.size : Int) := by omega
  by_cases h34 : c = 34
  · have HQ := hide (quotW_any hE (s.extract 1 s.size) (by rw [ByteArray.size_extract]; omega))
    have e : strN (s.extract 1 s.size) = r := by
      rw [strN_ext, h]
      exact List.take_of_length_le (by simp; omega)
    rw [e] at HQ
    have e2 : Tk (strN s) = Qw r := by rw [h, Tk, if_pos h34]
    rw [e2]
    clear e e2 h hx hlen
    subst h34
    go_enter Tryd.func15, Tryd.ntmps15
    go_wp2_with fail
    refine (unhide HQ).mono ?_
    rintro e w1 hq
    have Hq := hide hq
    obtain ⟨⟨X, Y, ok, he, -⟩, -⟩ := hq
    subst he
    go_wp2
    go_ret3
    exact unhide Hq
  · have HQ := hide (bareW_any W s hs)
    have e2 : Tk (strN s) = bareP (strN s) := by rw [h, Tk, if_neg h34]
    rw [e2]
    have n1 : ((c : Int) == 34) = false := beq_false_of_ne (by omega)
    clear e2 h hx h34 hlen
    go_enter Tryd.func15, Tryd.ntmps15
    go_wp2_with fail
    refine (unhide HQ).mono ?_
    rintro e w1 hq
    have Hq := hide hq
    obtain ⟨⟨X, Y, ok, he, -⟩, -⟩ := hq
    subst he
    go_wp2
    go_ret3
    exact unhide Hq
theorem ofN_strN (s : ByteArray) : ofN (strN s) = s := strN_inj (strN_ofN (strN_byt s))
theorem list_ne {Y : ByteArray} (h : 0 < Y.size) : Y.toList ≠ [] := fun q => by
  rw [ByteArray.toList_eq] at q
  have h2 := congrArg List.length q
  rw [Array.length_toList] at h2
  have h3 : Y.data.size = Y.size := rfl
  rw [h3] at h2
  exact absurd h2 (by show Y.size ≠ 0; omega)
theorem begins_nil (W : World) (s : ByteArray) (h : strN s = []) : Calls Tryd.prog 14 #[.string s] W fun e w => e = .returned (.bool false) ∧ w = W := by
  obtain rfl : s = ⟨#[]⟩ := strN_inj (by rw [h]; rfl)
  clear h
  go_enter Tryd.func14, Tryd.ntmps14
  go_wp2
  go_ret
  exact ⟨rfl, rfl⟩
theorem begins_cons (W : World) (s : ByteArray) {c : Nat} {r : List Nat} (h : strN s = c :: r) : Calls Tryd.prog 14 #[.string s] W fun e w => e = .returned (.bool ((c : Int) != 35)) ∧ w = W := by
  have hlen := congrArg List.length h
  rw [strN_len, List.length_cons] at hlen
  obtain ⟨x, hx, hx2, gx⟩ := strN_ex s 0 (by omega)
  obtain rfl : c = x := by
    rw [h] at hx
    exact Option.some.inj hx
  have hne := list_ne (Y := s) (by omega)
  have q : s.toList.isEmpty = false := by
    cases h : s.toList with
    | nil => exact absurd h hne
    | cons a l => rfl
  clear hx
  go_enter Tryd.func14, Tryd.ntmps14
  go_wp2
  go_ret
  exact ⟨rfl, rfl⟩
set_option maxRecDepth 100000 in
set_option maxHeartbeats 4000000 in
theorem hWords_any {W : World} (hE : HasE W) (s : ByteArray) : Calls Tryd.prog 7 #[.string s] W (WdQ W (wR s)) := by
  by_cases hl : 65536 < s.size
  · have f1 : decide ((65536 : Int) < (s.size : Int)) = true := by simp; omega
    have e : wR s = ([], 2) := by unfold wR; rw [if_pos hl]
    rw [e]
    clear e hl hE
    go_enter Tryd.func7, Tryd.ntmps7
    go_wp2
    go_ret2
    exact ⟨_, rfl, ⟨rfl, .inl ⟨rfl, rfl⟩⟩, Below.refl _ _⟩
  · have f1 : decide ((65536 : Int) < (s.size : Int)) = false := by simp; omega
    have hR : wR s = match finR (runR (strN s) rs0) with
      | none => ([], 200)
      | some ws => (ws, 0) := by unfold wR; rw [if_neg hl] <;> rfl
    obtain ⟨R, hR0⟩ : ∃ R, wR s = R := ⟨_, rfl⟩
    rw [hR0] at hR ⊢
    have HE := hide hE
    have HB := hide (behind_any W s (by omega))
    have Hl := hide (show s.size ≤ 65536 by omega)
    have HR := hide hR
    obtain ⟨i0, hi, hz0, hz1, hz2⟩ := info_parts infoS
    clear hR hR0 hl hE
    go_enter Tryd.func7, Tryd.ntmps7
    go_wp2_with fail
    refine (unhide HB).mono ?_
    rintro e w1 ⟨⟨t, rfl, ht⟩, hb⟩
    have HT : Hid (R = match finR (runR (strN t) (st0 [] 0)) with
      | none => ([], 200)
      | some ws => (ws, 0)) := by
      show _ = _
      rw [unhide HR, ht, show rs0 = ⟨0, [], [], 0, false⟩ from rfl, run_skip]
      rfl
    have Ht : Hid (t.size ≤ 65536) := by
      show _ ≤ _
      have h1 := skip_len (strN s)
      rw [← ht, strN_len, strN_len] at h1
      have := unhide Hl
      omega
    have HSk : Hid (∃ L, strN t = skipP L) := ⟨_, ht⟩
    have HB1 := hide hb
    clear HR HB hb ht f1
    go_wp2_with fail
    go_loopg [4, 5, 6, 7, 8] t.size (fun gk v4 v5 _ _ _ wr => ∃ (acc : List (List Nat)) (y : ByteArray) (d : Int) (a4 : Option Addr) (c4 : Nat), v4 = .slice a4 acc.length c4 ∧ v5 = .string y ∧ gk = y.size ∧ y.size ≤ 65536 ∧ Hid (∃ L, strN y = skipP L) ∧ Hid (wr.ownsRow W.heap.size 9 1 (.slice a4 acc.length c4) acc.length (wsC acc)) ∧ Hid (Below W.heap.size W wr) ∧ Hid (R = match finR (runR (strN y) (st0 acc d)) with
      | none => ([], 200)
      | some ws => (ws, 0)) ∧ Hid (acc.length + y.size ≤ 65536))
    case atStart => exact ⟨[], t, 0, none, 0, rfl, rfl, rfl, unhide Ht, HSk, ⟨rfl, .inl ⟨rfl, rfl⟩⟩, HB1, HT, by show _ ≤ _; have := unhide Ht; simp; omega⟩
    case round =>
      obtain ⟨acc, y, d, a4, c4, rfl, rfl, hgk, hy, HSy, HO, HBr, HU, HN⟩ := hrel
      have Hgk := hide hgk
      clear hgk HB1 HT HSk Ht
      cases hys : strN y with
      | nil =>
        have HG := hide (begins_nil wr y hys)
        have HRe : Hid (R = (acc, 0)) := by
          show _ = _
          rw [unhide HU, hys, fin_nil]
        have hfin : Hid (WdQ W R (.returned (.tuple #[.slice a4 acc.length c4, .int .i64 0])) wr) := by
          rw [unhide HRe]
          exact ⟨_, rfl, unhide HO, unhide HBr⟩
        clear hys HU
        go_wp2_with fail
        refine (unhide HG).mono ?_
        rintro e w2 ⟨rfl, hw⟩
        subst hw
        go_wp2
        try rw [Exit.noGoto_ret]
        go_ret2
        exact unhide hfin
      | cons c r =>
        have hbk : blk c = false := by
          obtain ⟨L, hL⟩ := unhide HSy
          exact skip_head (hL.symm.trans hys)
        have HG := hide (begins_cons wr y hys)
        by_cases h35 : c = 35
        · subst h35
          have HRe : Hid (R = (acc, 0)) := by
            show _ = _
            rw [unhide HU, hys, fin_comment]
          have hfin : Hid (WdQ W R (.returned (.tuple #[.slice a4 acc.length c4, .int .i64 0])) wr) := by
            rw [unhide HRe]
            exact ⟨_, rfl, unhide HO, unhide HBr⟩
          clear hys HU hbk
          go_wp2_with fail
          refine (unhide HG).mono ?_
          rintro e w2 ⟨rfl, hw⟩
          subst hw
          go_wp2
          try rw [Exit.noGoto_ret]
          go_ret2
          exact unhide hfin
        · have n35 : ((c : Int) != 35) = true := by simp; omega
          rw [n35] at HG
          have HF := hide (fin_word (r := r) (acc := acc) (d := d) hbk h35)
          have HTk := hide (taken_any ((unhide HE).up (unhide HBr)) y hy hys)
          have hlen := congrArg List.length hys
          rw [strN_len, List.length_cons] at hlen
          have Hlen := hide hlen
          rw [hys] at HU HTk
          obtain ⟨k, hk⟩ : ∃ k, Tk (c :: r) = k := ⟨_, rfl⟩
          rw [hk] at HTk HF
          clear hys hbk h35 n35 hlen hk
          go_wp2_with fail
          refine (unhide HG).mono ?_
          rintro e w2 ⟨rfl, hw⟩
          subst hw
          clear HG
          go_wp2_with fail
          refine (unhide HTk).mono ?_
          rintro e w2 ⟨⟨X, Y, ok, rfl, hm⟩, hb2⟩
          cases k with
          | none =>
            simp only at hm
            subst hm
            have HRe : Hid (R = ([], 200)) := by
              have hf : finR (runR (c :: r) (st0 acc d)) = none := unhide HF
              show _ = _
              rw [unhide HU, hf]
            have hfin : Hid (WdQ W R (.returned (.tuple #[.slice none 0 0, .int .i64 200])) w2) := by
              rw [unhide HRe]
              exact ⟨_, rfl, ⟨rfl, .inl ⟨rfl, rfl⟩⟩, (unhide HBr).trans (hb2.mono (unhide HBr).size)⟩
            clear HRe HU HF HTk hb2
            go_wp2
            try rw [Exit.noGoto_ret]
            go_ret2
            exact unhide hfin
          | some p =>
            obtain ⟨pw, pb⟩ := p
            simp only at hm
            obtain ⟨rfl, hX, hY⟩ := hm
            obtain ⟨⟨d', hd'⟩, hle⟩ := unhide HF
            simp only at hd' hle
            have hys2 : Y.size < y.size := by
              rw [← strN_len Y, hY]
              have := unhide Hlen
              omega
            have HO2 := hide (own_up (unhide HO) hb2)
            have HB2 := hide ((unhide HBr).trans (hb2.mono (unhide HBr).size))
            have HU2 : Hid (R = match finR (runR (skipP (strN Y)) (st0 (acc ++ [strN X]) d')) with
              | none => ([], 200)
              | some ws => (ws, 0)) := by
              show _ = _
              rw [unhide HU, hd', hX, hY]
            have HBh := hide (fun w => behind_any w Y (by omega))
            have HY := hide (And.intro hys2 hy)
            clear HU HF HTk hb2 hd' hle hX hY HO Hlen HBr hys2
            have O1 : Hid (acc.length + 1 ≤ maxLen) := by show _ ≤ _; have := unhide HN; have := unhide HY; unfold maxLen; omega
            have O2 : Hid ((acc.length + 1) * 16 ≤ 140737488355328) := by show _ ≤ _; have := unhide HN; have := unhide HY; omega
            go_wp2_with (at_builtin; refine wpList_append_own_at _ rfl _ _ 22 rfl W.heap.size 9 i0 (.string ByteArray.empty) 1 16 Tryd.underlying22 hi hz0 hz1 hz2 rfl (by decide) (.slice a4 acc.length c4) acc.length _ rfl ((unhide HO2).alloc _) ⟨w2.heap.size, 0, none⟩ 1 1 [.string X] rfl rfl (cell_one_new _ _ _) (by simp [Value.oneCell']) (unhide O1) (unhide O2) (by rw [World.size_alloc]; have := (unhide HB2).size; omega) ?_; intro v8 w3 hown8 hgrow8 hdrop8 hat8; clear hdrop8 hat8; obtain ⟨a5, c5, hv5⟩ := own_form hown8; subst hv5; have HO8 := hide hown8; have HB8 := hide (((unhide HB2).alloc (unhide HB2).size _).grown hgrow8 (by rw [World.size_alloc]; have := (unhide HB2).size; omega) (fun k hk => ((unhide HO2).lt k hk).1)); clear hown8 hgrow8)
            have ho := unhide HO8
            have hb3 := unhide HB8
            clear HO8 HB8 HO2 HB2 O1 O2
            have hT := trivial
            have HO3 : Hid (w3.ownsRow W.heap.size 9 1 (.slice a5 (acc ++ [strN X]).length c5) (acc ++ [strN X]).length (wsC (acc ++ [strN X]))) := by
              show w3.ownsRow _ _ _ _ _ _
              rw [List.length_append, show wsC (acc ++ [strN X]) = wsC acc ++ [.string X] from by unfold wsC; rw [List.map_append]; show _ ++ [Value.string (ofN (strN X))] = _; rw [ofN_strN]]
              exact ho
            have HB3 := hide hb3
            clear ho hb3 hT
            obtain ⟨ac2, hac2⟩ : ∃ x, acc ++ [strN X] = x := ⟨_, rfl⟩
            have HL2 : Hid (ac2.length = acc.length + 1) := by show _ = _; rw [← hac2]; simp
            rw [hac2] at HO3 HU2
            have hl2 : acc.length + 1 = ac2.length := (unhide HL2).symm
            clear hac2
            rw [hl2]
            clear hl2
            go_wp2_with fail
            refine (unhide HBh _).mono ?_
            rintro e w4 ⟨⟨z, rfl, hz⟩, hb4⟩
            have hzl : z.size ≤ Y.size := by
              have h1 := skip_len (strN Y)
              rw [← hz, strN_len, strN_len] at h1
              exact h1
            have HZ := hide (And.intro hzl (unhide HY))
            rw [← hz] at HU2
            have HS4 : Hid (∃ L, strN z = skipP L) := ⟨_, hz⟩
            have HO4 := hide (own_up (unhide HO3) hb4)
            have HB4 := hide ((unhide HB3).trans (hb4.mono (unhide HB3).size))
            clear hzl hz hb4 HO3 HB3 HBh HY
            go_wp2
            go_roundg z.size
            case measure =>
              have := unhide Hgk
              have := unhide HZ
              omega
            case rel =>
              have hZ := unhide HZ
              have hN := unhide HN
              have hL := unhide HL2
              exact ⟨ac2, z, d', a5, c5, rfl, rfl, rfl, by omega, HS4, HO4, HB4, HU2, by show _ ≤ _; omega⟩
end Go.Proofs.YtadmamfekodkaaaDoor
