import Derived.Test.YtobomdokdajbaaaDoorWGf
import Derived.Test.YtobomdokdajbaaaDoorWJf

namespace Go.Proofs.YtobomdokdajbaaaDoor
open Go.RowKit

theorem mem_sum_le : ∀ {l : List Nat} {a : Nat}, a ∈ l → a ≤ l.sum
  | [], a, h => by simp at h
  | b :: l, a, h => by
    rw [List.sum_cons]
    rcases List.mem_cons.1 h with rfl | h
    · omega
    · have := mem_sum_le h; omega
theorem sm_of : ∀ (N : Nat) (ts : List Rt), SizeOf.sizeOf ts ≤ N → cntL ts ≤ 1048576 → SmT ts := by
  intro N
  induction N with
  | zero =>
    intro ts hN
    cases ts with
    | nil => simp at hN
    | cons a b => simp at hN
  | succ N ih =>
    intro ts hN hc
    have hs := cnt_split ts
    refine .mk _ (by omega) fun i t ht => ?_
    have hi := (List.getElem?_eq_some_iff.1 ht).1
    have hlt : SizeOf.sizeOf t.inner ≤ N := by
      have h1 : SizeOf.sizeOf t < SizeOf.sizeOf ts := by
        have := List.sizeOf_lt_of_mem (List.mem_of_getElem? ht)
        exact this
      obtain ⟨nb, kd, x, tt, li⟩ := t
      show SizeOf.sizeOf li ≤ N
      simp at h1
      omega
    refine ih _ hlt ?_
    have hI : cntL t.inner ≤ cntI ts := by
      unfold cntI
      exact mem_sum_le (List.mem_map.2 ⟨t, List.mem_of_getElem? ht, rfl⟩)
    omega
end Go.Proofs.YtobomdokdajbaaaDoor

namespace Go.Proofs.YtobomdokdajbaaaDoor
open Go.RowKit
attribute [local go_sem ↓] Go.wp_at_zero Go.wp_at_succ

theorem bytes_form {base : Nat} {W : World} {v : Value} {bs : List Int} (h : Bytes base W v bs) (hn : v.ownBlock ≠ none) : ∃ g c, v = .slice (some ⟨g, 0, none⟩) bs.length c := by
  obtain ⟨_, ⟨rfl, _⟩ | ⟨g, c, cur, rfl, _⟩⟩ := h
  · exact absurd rfl hn
  · exact ⟨g, c, rfl⟩
/-- What Join does ahead of the bytes. -/
theorem bytes_at {base : Nat} {W : World} {g n c : Nat} {bs : List Int} (h : Bytes base W (.slice (some ⟨g, 0, none⟩) n c) bs) : ∀ (i : Nat) (b : Int), bs[i]? = some b → W.cell? ⟨g, 0 + i, none⟩ = some (.int .u8 b) := fun i b hb => by
  have := h.cells (g := g) rfl i (.int .u8 b) (by simp [hb])
  rw [Go.WideShapes.add_plain] at this
  exact this
set_option maxRecDepth 100000 in
set_option maxHeartbeats 4000000 in
theorem join_rt {W : World} {P : Nat → Prop} {v : Value} {ts : List Rt} (h : HasRt W P v ts) (hsm : SmT ts) (hw : WfL ts) (hd : deepL 63 ts = false) (hc : cntL ts ≤ 1048576) (hl : (encL ts).length ≤ 1048576) :
    Calls Tryd.prog 11 #[v] W fun e W' => ∃ g c, e = .returned (.tuple #[.slice (some ⟨g, 0, none⟩) (encL ts).length c, .int .i64 0]) ∧ Bytes W.heap.size W' (.slice (some ⟨g, 0, none⟩) (encL ts).length c) (byB (encL ts)) ∧ Below W.heap.size W W' := by
  obtain ⟨i0, hi, hz0, hz1, hz2⟩ := info_parts Tryd.infoByte
  have Hmany := hide (tooMany_rt h hsm)
  rw [decide_eq_false (by omega)] at Hmany
  have Hdeep := hide (tooDeep_rt h 63 (by decide))
  rw [hd] at Hdeep
  have Hff := hide (firstFault_rt h hw.rg)
  have Hsz := hide (sizeAll_rt h hw (by omega))
  have Hput := hide (putAll_rt h hw)
  obtain ⟨n, hn⟩ : ∃ n, (encL ts).length = n := ⟨_, rfl⟩
  obtain ⟨ys, hys⟩ : ∃ ys, encL ts = ys := ⟨_, rfl⟩
  rw [hys] at hn Hput ⊢
  rw [hys, hn] at Hsz
  rw [hys] at hl
  have hln : n ≤ 1048576 := by omega
  have Hn := hide hn
  rw [hn]
  clear h hsm hw hd hc hl hys hn
  have hdd : decide ((1048576 : Int) < (n : Int)) = false := decide_eq_false (by omega)
  go_enter Tryd.func11, Tryd.ntmps11
  go_wp2_with fail
  refine (unhide Hmany).mono ?_
  rintro e w1 ⟨rfl, hb1⟩
  have Hb1 := hide hb1
  clear hb1 Hmany
  go_wp2_with fail
  refine (unhide Hdeep w1 (unhide Hb1)).mono ?_
  rintro e w2 ⟨rfl, hb2⟩
  have Hb2 := hide ((unhide Hb1).trans (hb2.mono (unhide Hb1).size))
  clear hb2 Hdeep
  go_wp2_with fail
  refine (unhide Hff w2 (unhide Hb2)).mono ?_
  rintro e w3 ⟨rfl, hb3⟩
  have Hb3 := hide ((unhide Hb2).trans (hb3.mono (unhide Hb2).size))
  clear hb3 Hff
  go_wp2_with fail
  refine (unhide Hsz w3 (unhide Hb3)).mono ?_
  rintro e w4 ⟨rfl, hb4⟩
  have hB4 := (unhide Hb3).trans (hb4.mono (unhide Hb3).size)
  have HB4 := hide hB4
  have hz4 := hB4.size
  clear hb4 Hsz hB4
  go_wp2_with (at_make; refine wpList_make_own _ rfl _ _ 24 rfl W.heap.size 5 i0 (.int .u8 0) 1 Tryd.underlying24 hi hz0 hz1 .i64 .i64 (n : Int) n rfl rfl rfl (by rw [hz2]; omega) (by unfold maxLen; omega) hz4 ?_; intro w5 hown5 hgrow5)
  have hb5 : Below w4.heap.size w4 w5 := ⟨hgrow5.os, hgrow5.tape, hgrow5.output, hgrow5.size, fun b hb => hgrow5.block b hb (by simp)⟩
  have hB5 := (unhide HB4).trans (hb5.mono hz4)
  have hby : Bytes W.heap.size w5 (.slice (some ⟨w4.heap.size, 0, none⟩) 0 n) [] := hown5
  refine (unhide Hput W.heap.size w5 (.slice (some ⟨w4.heap.size, 0, none⟩) 0 n) [] ⟨hB5.size, fun g hg _ => ⟨hB5.block g hg, fun e => ?_⟩⟩ hby hB5.size (by rw [unhide Hn]; simp; omega)).mono ?_
  · have : g = w4.heap.size := by simpa [Value.ownBlock] using e
    omega
  rintro e w6 ⟨u, rfl, hB6, hE6⟩
  have hbel : Below W.heap.size w5 w6 := hE6.below hB5.size (fun b hb => (hby.lt b hb).1)
  rw [List.nil_append] at hB6
  obtain ⟨g, c, rfl⟩ : ∃ g c, u = .slice (some ⟨g, 0, none⟩) n c := by
    have := bytes_form hB6 (by
      rcases hE6.own with o | ⟨q, o, _⟩
      · rw [o]; simp [Value.ownBlock]
      · rw [o]; simp)
    rw [byB_length, unhide Hn] at this
    exact this
  have HB6 := hide hB6
  have HBE := hide (hB5.trans hbel)
  clear hB6 hE6 hby hb5 hB5 hbel hown5 hgrow5 Hput
  go_wp2
  go_ret2
  exact ⟨g, c, rfl, unhide HB6, unhide HBE⟩
#print axioms join_rt
end Go.Proofs.YtobomdokdajbaaaDoor

namespace Go.Proofs.YtobomdokdajbaaaDoor
open Go.RowKit
attribute [local go_sem ↓] Go.wp_at_zero Go.wp_at_succ

set_option maxRecDepth 100000 in
set_option maxHeartbeats 4000000 in
theorem join_size {W : World} {P : Nat → Prop} {v : Value} {ts : List Rt} (h : HasRt W P v ts) (hsm : SmT ts) (hw : WfL ts) (hd : deepL 63 ts = false) (hc : cntL ts ≤ 1048576) (hl : 1048576 < (encL ts).length) (hl2 : (encL ts).length ≤ 1099511627000) :
    Calls Tryd.prog 11 #[v] W fun e W' => e = .returned (.tuple #[.slice none 0 0, .int .i64 5]) ∧ Below W.heap.size W W' := by
  have Hmany := hide (tooMany_rt h hsm)
  rw [decide_eq_false (by omega)] at Hmany
  have Hdeep := hide (tooDeep_rt h 63 (by decide))
  rw [hd] at Hdeep
  have Hff := hide (firstFault_rt h hw.rg)
  have Hsz := hide (sizeAll_rt h hw hl2)
  obtain ⟨n, hn⟩ : ∃ n, (encL ts).length = n := ⟨_, rfl⟩
  rw [hn] at Hsz
  have hln : 1048576 < n := by omega
  clear h hsm hw hd hc hl hn hl2
  have hdd : decide ((1048576 : Int) < (n : Int)) = true := decide_eq_true (by omega)
  go_enter Tryd.func11, Tryd.ntmps11
  go_wp2_with fail
  refine (unhide Hmany).mono ?_
  rintro e w1 ⟨rfl, hb1⟩
  have Hb1 := hide hb1
  clear hb1 Hmany
  go_wp2_with fail
  refine (unhide Hdeep w1 (unhide Hb1)).mono ?_
  rintro e w2 ⟨rfl, hb2⟩
  have Hb2 := hide ((unhide Hb1).trans (hb2.mono (unhide Hb1).size))
  clear hb2 Hdeep
  go_wp2_with fail
  refine (unhide Hff w2 (unhide Hb2)).mono ?_
  rintro e w3 ⟨rfl, hb3⟩
  have Hb3 := hide ((unhide Hb2).trans (hb3.mono (unhide Hb2).size))
  clear hb3 Hff
  go_wp2_with fail
  refine (unhide Hsz w3 (unhide Hb3)).mono ?_
  rintro e w4 ⟨rfl, hb4⟩
  have HB4 := hide ((unhide Hb3).trans (hb4.mono (unhide Hb3).size))
  clear hb4 Hsz
  go_wp2
  go_ret2
  exact ⟨rfl, unhide HB4⟩
end Go.Proofs.YtobomdokdajbaaaDoor

namespace Go.Proofs.YtobomdokdajbaaaDoor
open Go.RowKit
attribute [local go_sem ↓] Go.wp_at_zero Go.wp_at_succ

mutual
/-- A record whose numbers are no less than 0. -/
def toT : Ri → Rt
  | .mk nb kd x t li => .mk nb.toNat kd.toNat x t (toTL li)
def toTL : List Ri → List Rt
  | [] => []
  | r :: rs => toT r :: toTL rs
end
theorem toTL_len : ∀ rs, (toTL rs).length = rs.length
  | [] => rfl
  | r :: rs => by show (toTL rs).length + 1 = _; rw [toTL_len rs]; rfl
theorem toTL_get : ∀ (rs : List Ri) (i : Nat) (t : Rt), (toTL rs)[i]? = some t → ∃ r, rs[i]? = some r ∧ t = toT r
  | [], i, t, h => by simp [toTL] at h
  | r :: rs, 0, t, h => ⟨r, rfl, (Option.some.inj h).symm⟩
  | r :: rs, i + 1, t, h => by
    have h' : (toTL rs)[i]? = some t := h
    obtain ⟨q, h1, h2⟩ := toTL_get rs i t h'
    exact ⟨q, h1, h2⟩
mutual
theorem toT_cnt : ∀ r : Ri, cntR (toT r) = kcR r
  | .mk nb kd x t li => by rw [toT, cntR, kcR, toTL_cnt li]
theorem toTL_cnt : ∀ rs : List Ri, cntL (toTL rs) = kcL rs
  | [] => rfl
  | r :: rs => by rw [toTL, cntL, kcL, toT_cnt r, toTL_cnt rs]
end
theorem three (kd : Int) : (kd.toNat == 3) = (kd == 3) := by
  by_cases h : kd = 3
  · subst h; rfl
  · have h1 : (kd == 3) = false := by simpa using h
    have h2 : (kd.toNat == 3) = false := by simp; omega
    rw [h1, h2]
mutual
theorem toT_deep : ∀ (r : Ri) (d : Nat), deepR d (toT r) = dkR d r
  | .mk nb kd x t li, d => by rw [toT, deepR, dkR, toTL_deep li (d - 1), toTL_len, three]
theorem toTL_deep : ∀ (rs : List Ri) (d : Nat), deepL d (toTL rs) = dkL d rs
  | [], d => rfl
  | r :: rs, d => by rw [toTL, deepL, dkL, toT_deep r d, toTL_deep rs d]
end
theorem fk_at : ∀ {rs : List Ri} {i : Nat} {r : Ri}, fkL rs = 0 → rs[i]? = some r → fkR r = 0
  | [], i, r, _, hr => by simp at hr
  | q :: rs, 0, r, h, hr => by
    simp at hr
    subst hr
    rw [fkL] at h
    by_cases hz : fkR q = 0
    · exact hz
    · rw [if_neg hz] at h; exact absurd h hz
  | q :: rs, i + 1, r, h, hr => by
    rw [List.getElem?_cons_succ] at hr
    rw [fkL] at h
    by_cases hz : fkR q = 0
    · rw [if_pos hz] at h
      exact fk_at h hr
    · rw [if_neg hz] at h; exact absurd h hz
theorem empty_of {t : ByteArray} (h : t.toList = []) : t = ⟨#[]⟩ := by
  rw [Lib.toList_data] at h
  obtain ⟨⟨l⟩⟩ := t
  have h' : l = [] := h
  rw [h']
theorem fk_right {nb kd x : Int} {t : ByteArray} {li : List Ri} (h : fkR (.mk nb kd x t li) = 0) (hx : RngI x) : WfT nb.toNat kd.toNat x t (toTL li) ∧ fkL li = 0 ∧ (0 ≤ nb ∧ 0 ≤ kd) := by
  rw [fkR] at h
  by_cases hA : nb < 1 ∨ 536870911 < nb
  · rw [if_pos hA] at h; cases h
  · rw [if_neg hA] at h
    by_cases hK : kd < 0 ∨ 5 < kd
    · rw [if_pos hK] at h; cases h
    · rw [if_neg hK] at h
      by_cases h4 : kd = 4
      · rw [if_pos h4] at h; cases h
      · rw [if_neg h4] at h
        by_cases hR : rightK kd.toNat x t li.length = true
        · rw [if_pos hR] at h
          refine ⟨?_, h, by omega, by omega⟩
          have hl0 : li.length = 0 → toTL li = [] := fun q => by rw [List.eq_nil_of_length_eq_zero q]; rfl
          have hkk : kd.toNat = 0 ∨ kd.toNat = 1 ∨ kd.toNat = 2 ∨ kd.toNat = 3 ∨ kd.toNat = 5 := by omega
          unfold RngI at hx
          refine ⟨⟨by omega, by omega, fun q => ?_, fun q => ?_, fun q => ?_, fun q => ?_⟩, hx⟩
          all_goals (rcases hkk with e | e | e | e | e <;> rw [e] at hR <;> simp [rightK] at hR)
          all_goals first
            | (exact empty_of hR.1) | (exact empty_of hR.2) | (exact empty_of hR.2.1) | (exact hl0 (by simpa using hR.2)) | (exact hl0 (by simpa using hR.2.2)) | (exact hR.1) | omega
        · rw [if_neg hR] at h; cases h
/-- What is right can be read as right records. -/
theorem HasRk.right {W : World} {P : Nat → Prop} {v : Value} {rs : List Ri} (h : HasRk W P v rs) : fkL rs = 0 → HasRt W P v (toTL rs) ∧ WfL (toTL rs) := by
  induction h with
  | row g n rs us hp hn hm hg hk hw hc hi ih =>
    intro hf
    have key : ∀ (i : Nat) (t : Rt), (toTL rs)[i]? = some t → ∃ nb kd x tx li, rs[i]? = some (.mk nb kd x tx li) ∧ t = .mk nb.toNat kd.toNat x tx (toTL li) ∧ WfT nb.toNat kd.toNat x tx (toTL li) ∧ fkL li = 0 ∧ (0 ≤ nb ∧ 0 ≤ kd) := fun i t ht => by
      obtain ⟨⟨nb, kd, x, tx, li⟩, hr, rfl⟩ := toTL_get rs i t ht
      obtain ⟨h1, h2, h3⟩ := fk_right (fk_at hf hr) (hw i nb kd x tx li hr).2.2
      exact ⟨nb, kd, x, tx, li, hr, by rw [toT], h1, h2, h3⟩
    refine ⟨.row g n (n + 1) (toTL rs) us hp (by rw [toTL_len]; exact hn) (by unfold maxLen; omega) hg (fun i t ht j z hz => ?_) (fun i t ht => ?_), .mk _ (fun i nb kd x tx li ht => ?_) (fun i t ht => ?_)⟩
    · obtain ⟨nb, kd, x, tx, li, hr, rfl, _, _, h3, h4⟩ := key i t ht
      refine hc i _ hr j z ?_
      have e1 : ((nb.toNat : Nat) : Int) = nb := by omega
      have e2 : ((kd.toNat : Nat) : Int) = kd := by omega
      rw [rcells, e1, e2] at hz
      exact hz
    · obtain ⟨nb, kd, x, tx, li, hr, rfl, _, h2, _⟩ := key i t ht
      exact (ih i _ hr h2).1
    · obtain ⟨nb', kd', x', tx', li', hr, e, h1, _⟩ := key i _ ht
      injection e with e1 e2 e3 e4 e5
      subst e1 e2 e3 e4 e5
      exact h1
    · obtain ⟨nb, kd, x, tx, li, hr, rfl, _, h2, _⟩ := key i t ht
      exact (ih i _ hr h2).2
/-- What Join says. -/
def jc (rs : List Ri) : Nat := if 1048576 < kcL rs then 2 else if dkL 63 rs = true then 4 else if fkL rs ≠ 0 then fkL rs else if 1048576 < (encL (toTL rs)).length then 5 else 0
def JnA (W : World) (rs : List Ri) (e : Ending) (W' : World) : Prop := ((jc rs = 0 ∧ ∃ g c, e = .returned (.tuple #[.slice (some ⟨g, 0, none⟩) (encL (toTL rs)).length c, .int .i64 0]) ∧ Bytes W.heap.size W' (.slice (some ⟨g, 0, none⟩) (encL (toTL rs)).length c) (byB (encL (toTL rs)))) ∨ (jc rs ≠ 0 ∧ e = .returned (.tuple #[.slice none 0 0, .int .i64 ((jc rs : Nat) : Int)]))) ∧ Below W.heap.size W W'
set_option maxRecDepth 100000 in
set_option maxHeartbeats 8000000 in
theorem join_rk {W : World} {P : Nat → Prop} {v : Value} {rs : List Ri} (h : HasRk W P v rs) (hl : fkL rs = 0 → (encL (toTL rs)).length ≤ 1099511627000) : Calls Tryd.prog 11 #[v] W (JnA W rs) := by
  have Hmany := hide (tooMany_rk h)
  have Hdeep := hide (tooDeep_rk h 63 (by decide))
  have Hff := hide (firstFault_rk h)
  by_cases h2 : 1048576 < kcL rs
  · have e : jc rs = 2 := by unfold jc; rw [if_pos h2]
    rw [decide_eq_true h2] at Hmany
    unfold JnA
    rw [e]
    clear h hl h2 e
    go_enter Tryd.func11, Tryd.ntmps11
    go_wp2_with fail
    refine (unhide Hmany).mono ?_
    rintro e w1 ⟨rfl, hb1⟩
    go_wp2
    go_ret2
    exact ⟨.inr ⟨by decide, rfl⟩, hb1⟩
  · rw [decide_eq_false h2] at Hmany
    by_cases h4 : dkL 63 rs = true
    · have e : jc rs = 4 := by unfold jc; rw [if_neg h2, if_pos h4]
      rw [h4] at Hdeep
      unfold JnA
      rw [e]
      clear h hl h2 e h4
      go_enter Tryd.func11, Tryd.ntmps11
      go_wp2_with fail
      refine (unhide Hmany).mono ?_
      rintro e w1 ⟨rfl, hb1⟩
      have Hb1 := hide hb1
      clear hb1 Hmany
      go_wp2_with fail
      refine (unhide Hdeep w1 (unhide Hb1)).mono ?_
      rintro e w2 ⟨rfl, hb2⟩
      have Hb2 := hide ((unhide Hb1).trans (hb2.mono (unhide Hb1).size))
      clear hb2 Hdeep
      go_wp2
      go_ret2
      exact ⟨.inr ⟨by decide, rfl⟩, unhide Hb2⟩
    · have h4' : dkL 63 rs = false := by simpa using h4
      by_cases hf : fkL rs = 0
      · obtain ⟨hT, hWf⟩ := h.right hf
        have hcn : cntL (toTL rs) ≤ 1048576 := by rw [toTL_cnt]; omega
        have hsm := sm_of _ (toTL rs) (Nat.le_refl _) hcn
        have hdp : deepL 63 (toTL rs) = false := by rw [toTL_deep]; exact h4'
        by_cases h5 : 1048576 < (encL (toTL rs)).length
        · have e : jc rs = 5 := by unfold jc; rw [if_neg h2, if_neg h4, if_neg (by simpa using hf), if_pos h5]
          refine (join_size hT hsm hWf hdp hcn h5 (hl hf)).mono fun e' w ⟨he, hb⟩ => ?_
          exact ⟨.inr ⟨by rw [e]; decide, by rw [e]; exact he⟩, hb⟩
        · have e : jc rs = 0 := by unfold jc; rw [if_neg h2, if_neg h4, if_neg (by simpa using hf), if_neg h5]
          refine (join_rt hT hsm hWf hdp hcn (by omega)).mono fun e' w ⟨g, c, he, hB, hb⟩ => ?_
          exact ⟨.inl ⟨e, g, c, he, hB⟩, hb⟩
      · have e : jc rs = fkL rs := by unfold jc; rw [if_neg h2, if_neg h4, if_pos hf]
        unfold JnA
        rw [e]
        rw [h4'] at Hdeep
        obtain ⟨D, hD⟩ : ∃ D, fkL rs = D := ⟨_, rfl⟩
        rw [hD] at Hff hf ⊢
        have q2 : ((D : Int) != 0) = true := by simpa using hf
        clear h hl h2 e h4 h4' hD
        go_enter Tryd.func11, Tryd.ntmps11
        go_wp2_with fail
        refine (unhide Hmany).mono ?_
        rintro e w1 ⟨rfl, hb1⟩
        have Hb1 := hide hb1
        clear hb1 Hmany
        go_wp2_with fail
        refine (unhide Hdeep w1 (unhide Hb1)).mono ?_
        rintro e w2 ⟨rfl, hb2⟩
        have Hb2 := hide ((unhide Hb1).trans (hb2.mono (unhide Hb1).size))
        clear hb2 Hdeep
        go_wp2_with fail
        refine (unhide Hff w2 (unhide Hb2)).mono ?_
        rintro e w3 ⟨rfl, hb3⟩
        have Hb3 := hide ((unhide Hb2).trans (hb3.mono (unhide Hb2).size))
        clear hb3 Hff
        go_wp2
        go_ret2
        exact ⟨.inr ⟨hf, rfl⟩, unhide Hb3⟩
#print axioms join_rk
end Go.Proofs.YtobomdokdajbaaaDoor
