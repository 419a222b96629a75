import Derived.Test.YtaadpiimcaabkaaGreatDoorJ09
import Derived.Test.YtaadpiimcaabkaaGreatDoorJ13
import Derived.Test.YtaadpiimcaabkaaGreatDoorJ12

namespace Go.Proofs.YtaadpiimcaabkaaGreatDoor
open Go.RowKit
attribute [local go_sem ↓] Go.wp_at_zero Go.wp_at_succ

theorem isd8 {x : Nat} : isd 8 x ≠ none ↔ 48 ≤ x ∧ x ≤ 55 := by
  unfold isd dgv
  by_cases h1 : 48 ≤ x ∧ x ≤ 57
  · rw [if_pos h1]
    show (if x - 48 < 8 then some (x - 48) else none) ≠ none ↔ _
    split
    · simp; omega
    · simp; omega
  · rw [if_neg h1]
    by_cases h2 : 65 ≤ x ∧ x ≤ 90
    · rw [if_pos h2]
      show (if x - 55 < 8 then some (x - 55) else none) ≠ none ↔ _
      rw [if_neg (by omega)]
      simp; omega
    · rw [if_neg h2]
      by_cases h3 : 97 ≤ x ∧ x ≤ 122
      · rw [if_pos h3]
        show (if x - 87 < 8 then some (x - 87) else none) ≠ none ↔ _
        rw [if_neg (by omega)]
        simp; omega
      · rw [if_neg h3]
        simp; omega
theorem isd16 {x : Nat} : isd 16 x ≠ none ↔ (48 ≤ x ∧ x ≤ 57) ∨ (97 ≤ x ∧ x ≤ 102) ∨ (65 ≤ x ∧ x ≤ 70) := by
  unfold isd dgv
  by_cases h1 : 48 ≤ x ∧ x ≤ 57
  · rw [if_pos h1]
    show (if x - 48 < 16 then some (x - 48) else none) ≠ none ↔ _
    rw [if_pos (by omega)]
    simp; omega
  · rw [if_neg h1]
    by_cases h2 : 65 ≤ x ∧ x ≤ 90
    · rw [if_pos h2]
      show (if x - 55 < 16 then some (x - 55) else none) ≠ none ↔ _
      split
      · simp; omega
      · simp; omega
    · rw [if_neg h2]
      by_cases h3 : 97 ≤ x ∧ x ≤ 122
      · rw [if_pos h3]
        show (if x - 87 < 16 then some (x - 87) else none) ≠ none ↔ _
        split
        · simp; omega
        · simp; omega
      · rw [if_neg h3]
        simp; omega
/-- The call answers a bool that says p. -/
def SaysD (W : World) (p : Prop) (e : Ending) (w : World) : Prop := ∃ b : Bool, e = .returned (.bool b) ∧ w = W ∧ (b = true ↔ p)
theorem saysD {W : World} {p : Prop} (b : Bool) (h : b = true ↔ p) : SaysD W p (.returned (.bool b)) W := ⟨b, rfl, rfl, h⟩
set_option maxRecDepth 100000 in
theorem isDigit8 (W : World) (x : Nat) (hx : x < 256) : Calls Tryz.prog 217 #[.int .u8 (x : Int), .int .i64 8] W (SaysD W (isd 8 x ≠ none)) := by
  rw [isd8]
  go_enter Tryz.func217, Tryz.ntmps217
  go_wp2
  all_goals (go_ret; refine saysD _ ?_; simp; omega)
set_option maxRecDepth 100000 in
theorem isDigit16 (W : World) (x : Nat) (hx : x < 256) : Calls Tryz.prog 217 #[.int .u8 (x : Int), .int .i64 16] W (SaysD W (isd 16 x ≠ none)) := by
  rw [isd16]
  go_enter Tryz.func217, Tryz.ntmps217
  go_wp2
  all_goals (go_ret; refine saysD _ ?_; simp; omega)
theorem spu8 {W : World} (h : HasE W) (s : ByteArray) (hs : s.size ≤ 65536) :
    Calls Tryz.prog 179 #[.string s, .int .i64 16, .int .i64 8] W (SPU W 16 255 s) ∧
    Calls Tryz.prog 179 #[.string s, .int .i64 8, .int .i64 8] W (SPU W 8 255 s) := by
  exact ⟨sparse_any h s hs _ _ _ _ (parseU (Or.inr (Or.inr (Or.inr (Or.inl ⟨rfl, rfl, rfl, rfl, rfl, rfl⟩)))) W s hs), sparse_any h s hs _ _ _ _ (parseU (Or.inr (Or.inr (Or.inr (Or.inr ⟨rfl, rfl, rfl, rfl, rfl, rfl⟩)))) W s hs)⟩
/-- A byte and a number of bytes. -/
def VN (W : World) (o : Option (Nat × Nat)) (e : Ending) (w : World) : Prop := Below W.heap.size W w ∧ ((o = none ∧ e = .returned (.tuple #[.int .u8 0, .int .i64 0])) ∨ ∃ v n : Nat, o = some (v, n) ∧ e = .returned (.tuple #[.int .u8 (v : Int), .int .i64 (n : Int)]))
theorem vnBad {W w : World} {o : Option (Nat × Nat)} (hb : Below W.heap.size W w) (h : o = none) : VN W o (.returned (.tuple #[.int .u8 0, .int .i64 0])) w := ⟨hb, .inl ⟨h, rfl⟩⟩
theorem vnGood {W w : World} {o : Option (Nat × Nat)} {v n : Nat} (hb : Below W.heap.size W w) (h : o = some (v, n)) : VN W o (.returned (.tuple #[.int .u8 (v : Int), .int .i64 (n : Int)])) w := ⟨hb, .inr ⟨v, n, h, rfl⟩⟩
theorem dcnt_no {B f : Nat} {l : List Nat} (h : l = [] ∨ f = 0) : dcnt B f l = 0 := by
  rcases h with rfl | rfl
  · cases f <;> rfl
  · cases l <;> rfl
theorem dcnt_not {B f x : Nat} {r : List Nat} (h : ¬ isd B x ≠ none) : dcnt B f (x :: r) = 0 := by
  have h' : isd B x = none := Classical.not_not.1 h
  cases f with
  | zero => rfl
  | succ f => simp [dcnt, h']
theorem dcnt_yes {B f x : Nat} {r : List Nat} (h : isd B x ≠ none) : dcnt B (f + 1) (x :: r) = dcnt B f r + 1 := by
  obtain ⟨d, hd⟩ := Option.ne_none_iff_exists'.1 h
  simp [dcnt, hd]
/-- What byBase reckons with the digits. -/
theorem fin_good {B m f u : Nat} {l : List Nat} (hB : 1 ≤ B) (h0 : 0 < dcnt B m l) (h : nval B 255 (l.take (dcnt B m l)) 0 = some u) : fin (drun B m l 0 0) f = some (u, f + dcnt B m l) ∧ u ≤ 255 := by
  have h1 := drun_nval hB m l 0 0 (by omega)
  have h2 := drun_cnt (B := B) m l 0 0
  rw [h] at h1
  unfold fin
  split at h1
  · rename_i hle
    have h3 := Option.some.inj h1
    rw [if_neg (by omega), ← h3, h2, Nat.zero_add]
    exact ⟨rfl, by omega⟩
  · cases h1
theorem fin_bad {B m f : Nat} {l : List Nat} (hB : 1 ≤ B) (h : dcnt B m l = 0 ∨ nval B 255 (l.take (dcnt B m l)) 0 = none) : fin (drun B m l 0 0) f = none := by
  have h1 := drun_nval hB m l 0 0 (by omega)
  have h2 := drun_cnt (B := B) m l 0 0
  unfold fin
  rw [if_pos]
  rcases h with h | h
  · left; omega
  · right
    rw [h] at h1
    split at h1
    · cases h1
    · omega
set_option maxRecDepth 100000 in
set_option maxHeartbeats 2000000 in
theorem byBase_hex {W : World} (hE : HasE W) (s : ByteArray) (hs : s.size ≤ 65536) (hfs : 2 ≤ s.size) :
    Calls Tryz.prog 209 #[.string s, .int .i64 2, .int .i64 2, .int .i64 16] W (VN W (fin (drun 16 2 ((strN s).drop 2) 0 0) 2)) := by
  go_enter Tryz.func209, Tryz.ntmps209
  go_wp2
  go_loopg [10] 2 (fun gk v10 wr => ∃ (j : Nat), v10 = .int .i64 ((2 + j : Nat) : Int) ∧ gk = 2 - j ∧ j ≤ 2 ∧ 2 + j ≤ s.size ∧ wr = W ∧ Hid (dcnt 16 2 ((strN s).drop 2) = j + dcnt 16 (2 - j) ((strN s).drop (2 + j))))
  case atStart => exact ⟨0, rfl, rfl, by omega, by omega, rfl, by show _ = _; simp⟩
  case round =>
    obtain ⟨j, rfl, hgk, hj, hjs, rfl, Hd⟩ := hrel
    obtain ⟨p, hp⟩ : ∃ p, p = 2 + j := ⟨_, rfl⟩
    rw [← hp] at Hd ⊢
    have hps : p ≤ s.size := by omega
    have hpf : 2 ≤ p := by omega
    have Hp := hide hp
    have Hgk := hide hgk
    have p0 : (0 : Int) ≤ (p : Int) := Int.natCast_nonneg _
    clear hgk
    by_cases hlt : p < s.size
    · obtain ⟨x, hx, hx2, gx⟩ := strN_ex s p hlt
      have hdrop : (strN s).drop p = x :: (strN s).drop (p + 1) := by
        obtain ⟨hl, hx'⟩ := List.getElem?_eq_some_iff.1 hx
        rw [List.drop_eq_getElem_cons hl, hx']
      have Hdr := hide hdrop
      have p1 : (p : Int) < (s.size : Int) := by omega
      clear hdrop hx
      by_cases hlt2 : j < 2
      · have p2 : (p : Int) < (4 : Int) := by omega
        clear hp hjs
        by_cases hq : (4 : Int) < (s.size : Int)
        · have hmn : min (s.size : Int) 4 = 4 := by omega
          have d1 : decide ((p : Int) < (4 : Int)) = true := by simp; omega
          have Hlt2 := hide hlt2
          clear hlt2 hq
          go_wp2_with fail
          refine (isDigit16 _ x hx2).mono ?_
          rintro e w' ⟨d, rfl, he, hd⟩
          obtain rfl : wr = w' := he.symm
          cases d with
          | true =>
            have hlt2 := unhide Hlt2
            have hy : isd 16 x ≠ none := hd.1 rfl
            have hnext : dcnt 16 2 ((strN s).drop 2) = (j + 1) + dcnt 16 (2 - (j + 1)) ((strN s).drop (p + 1)) := by
              rw [unhide Hd, unhide Hdr, show 2 - j = (2 - (j + 1)) + 1 by omega, dcnt_yes hy]; omega
            have Hnext := hide hnext
            clear hnext hy hd Hd Hdr hlt2
            go_wp2
            go_roundg (2 - (j + 1))
            case measure => have := unhide Hgk; have := unhide Hlt2; omega
            case rel =>
              have hlt2 := unhide Hlt2
              refine ⟨j + 1, ?_, rfl, by omega, by have := unhide Hp; omega, rfl, ?_⟩
              · have e := unhide Hp; subst e; go_num
              · have := unhide Hnext; rw [unhide Hp] at this; exact this
          | false =>
            have hcnt : dcnt 16 2 ((strN s).drop 2) = j := by
              rw [unhide Hd, unhide Hdr, dcnt_not (fun q => by simpa using hd.2 q)]; rfl
            clear hd Hdr gx
            have Hgood : Hid (∀ u, 0 < (s.extract 2 p).size → nval 16 255 (strN (s.extract 2 p)) 0 = some u → fin (drun 16 2 ((strN s).drop 2) 0 0) 2 = some (u, p) ∧ u ≤ 255) := fun u h1 h2 => by
              rw [strN_extract] at h2
              have e := extract_size s 2 p hps; have hp := unhide Hp
              have q := fin_good (f := 2) (B := 16) (by decide) (m := 2) (l := (strN s).drop 2) (u := u) (by omega) (by rw [hcnt, show j = p - 2 by omega]; exact h2)
              rw [hcnt, ← hp] at q
              exact q
            have Hbad : Hid ((s.extract 2 p).size = 0 ∨ nval 16 255 (strN (s.extract 2 p)) 0 = none → fin (drun 16 2 ((strN s).drop 2) 0 0) 2 = none) := fun h1 => by
              rw [strN_extract] at h1
              have e := extract_size s 2 p hps; have hp := unhide Hp
              refine fin_bad (by decide) ?_
              rcases h1 with h1 | h1
              · left; omega
              · right; rw [hcnt, show j = p - 2 by omega]; exact h1
            have hxz := extract_size s 2 p hps
            have f1 : (2 : Int) ≤ (p : Int) := by omega
            have f2 : (p : Int) ≤ (s.size : Int) := by omega
            clear hcnt Hd
            go_wp2_with fail
            refine ((spu8 hE _ (by omega)).1).mono ?_
            rintro e w1 ⟨hb1, ⟨u, rfl, hz, hu⟩ | ⟨u, q, rfl, hu⟩⟩
            · obtain ⟨hw, hle⟩ := unhide Hgood u hz hu
              have Hw := hide hw
              have Hb := hide hb1
              clear hw hu hz hb1 Hgood Hbad
              go_wp2
              go_ret2
              have e1 : IntKind.u8.wrap (u : Int) = (u : Int) := by simp [IntKind.wrap, IntKind.bits, IntKind.signed]; omega
              first
                | exact vnGood (unhide Hb) (unhide Hw)
                | (rw [e1]; exact vnGood (unhide Hb) (unhide Hw))
            · have hw := unhide Hbad hu
              have Hw := hide hw
              have Hb := hide hb1
              clear hw hu hb1 Hgood Hbad
              go_wp2
              go_ret2
              exact vnBad (unhide Hb) (unhide Hw)
        · have hmn : min (s.size : Int) 4 = (s.size : Int) := by omega
          have d1 : decide ((p : Int) < (s.size : Int)) = true := by simp; omega
          have Hlt2 := hide hlt2
          clear hlt2 hq
          go_wp2_with fail
          refine (isDigit16 _ x hx2).mono ?_
          rintro e w' ⟨d, rfl, he, hd⟩
          obtain rfl : wr = w' := he.symm
          cases d with
          | true =>
            have hlt2 := unhide Hlt2
            have hy : isd 16 x ≠ none := hd.1 rfl
            have hnext : dcnt 16 2 ((strN s).drop 2) = (j + 1) + dcnt 16 (2 - (j + 1)) ((strN s).drop (p + 1)) := by
              rw [unhide Hd, unhide Hdr, show 2 - j = (2 - (j + 1)) + 1 by omega, dcnt_yes hy]; omega
            have Hnext := hide hnext
            clear hnext hy hd Hd Hdr hlt2
            go_wp2
            go_roundg (2 - (j + 1))
            case measure => have := unhide Hgk; have := unhide Hlt2; omega
            case rel =>
              have hlt2 := unhide Hlt2
              refine ⟨j + 1, ?_, rfl, by omega, by have := unhide Hp; omega, rfl, ?_⟩
              · have e := unhide Hp; subst e; go_num
              · have := unhide Hnext; rw [unhide Hp] at this; exact this
          | false =>
            have hcnt : dcnt 16 2 ((strN s).drop 2) = j := by
              rw [unhide Hd, unhide Hdr, dcnt_not (fun q => by simpa using hd.2 q)]; rfl
            clear hd Hdr gx
            have Hgood : Hid (∀ u, 0 < (s.extract 2 p).size → nval 16 255 (strN (s.extract 2 p)) 0 = some u → fin (drun 16 2 ((strN s).drop 2) 0 0) 2 = some (u, p) ∧ u ≤ 255) := fun u h1 h2 => by
              rw [strN_extract] at h2
              have e := extract_size s 2 p hps; have hp := unhide Hp
              have q := fin_good (f := 2) (B := 16) (by decide) (m := 2) (l := (strN s).drop 2) (u := u) (by omega) (by rw [hcnt, show j = p - 2 by omega]; exact h2)
              rw [hcnt, ← hp] at q
              exact q
            have Hbad : Hid ((s.extract 2 p).size = 0 ∨ nval 16 255 (strN (s.extract 2 p)) 0 = none → fin (drun 16 2 ((strN s).drop 2) 0 0) 2 = none) := fun h1 => by
              rw [strN_extract] at h1
              have e := extract_size s 2 p hps; have hp := unhide Hp
              refine fin_bad (by decide) ?_
              rcases h1 with h1 | h1
              · left; omega
              · right; rw [hcnt, show j = p - 2 by omega]; exact h1
            have hxz := extract_size s 2 p hps
            have f1 : (2 : Int) ≤ (p : Int) := by omega
            have f2 : (p : Int) ≤ (s.size : Int) := by omega
            clear hcnt Hd
            go_wp2_with fail
            refine ((spu8 hE _ (by omega)).1).mono ?_
            rintro e w1 ⟨hb1, ⟨u, rfl, hz, hu⟩ | ⟨u, q, rfl, hu⟩⟩
            · obtain ⟨hw, hle⟩ := unhide Hgood u hz hu
              have Hw := hide hw
              have Hb := hide hb1
              clear hw hu hz hb1 Hgood Hbad
              go_wp2
              go_ret2
              have e1 : IntKind.u8.wrap (u : Int) = (u : Int) := by simp [IntKind.wrap, IntKind.bits, IntKind.signed]; omega
              first
                | exact vnGood (unhide Hb) (unhide Hw)
                | (rw [e1]; exact vnGood (unhide Hb) (unhide Hw))
            · have hw := unhide Hbad hu
              have Hw := hide hw
              have Hb := hide hb1
              clear hw hu hb1 Hgood Hbad
              go_wp2
              go_ret2
              exact vnBad (unhide Hb) (unhide Hw)
      · have hcnt : dcnt 16 2 ((strN s).drop 2) = j := by
          rw [unhide Hd, dcnt_no (.inr (by omega))]; rfl
        have hmn : min (s.size : Int) 4 = 4 := by omega
        have d1 : decide ((p : Int) < (4 : Int)) = false := by simp; omega
        clear hp hjs hlt2
        clear Hdr gx
        have Hgood : Hid (∀ u, 0 < (s.extract 2 p).size → nval 16 255 (strN (s.extract 2 p)) 0 = some u → fin (drun 16 2 ((strN s).drop 2) 0 0) 2 = some (u, p) ∧ u ≤ 255) := fun u h1 h2 => by
          rw [strN_extract] at h2
          have e := extract_size s 2 p hps; have hp := unhide Hp
          have q := fin_good (f := 2) (B := 16) (by decide) (m := 2) (l := (strN s).drop 2) (u := u) (by omega) (by rw [hcnt, show j = p - 2 by omega]; exact h2)
          rw [hcnt, ← hp] at q
          exact q
        have Hbad : Hid ((s.extract 2 p).size = 0 ∨ nval 16 255 (strN (s.extract 2 p)) 0 = none → fin (drun 16 2 ((strN s).drop 2) 0 0) 2 = none) := fun h1 => by
          rw [strN_extract] at h1
          have e := extract_size s 2 p hps; have hp := unhide Hp
          refine fin_bad (by decide) ?_
          rcases h1 with h1 | h1
          · left; omega
          · right; rw [hcnt, show j = p - 2 by omega]; exact h1
        have hxz := extract_size s 2 p hps
        have f1 : (2 : Int) ≤ (p : Int) := by omega
        have f2 : (p : Int) ≤ (s.size : Int) := by omega
        clear hcnt Hd
        go_wp2_with fail
        refine ((spu8 hE _ (by omega)).1).mono ?_
        rintro e w1 ⟨hb1, ⟨u, rfl, hz, hu⟩ | ⟨u, q, rfl, hu⟩⟩
        · obtain ⟨hw, hle⟩ := unhide Hgood u hz hu
          have Hw := hide hw
          have Hb := hide hb1
          clear hw hu hz hb1 Hgood Hbad
          go_wp2
          go_ret2
          have e1 : IntKind.u8.wrap (u : Int) = (u : Int) := by simp [IntKind.wrap, IntKind.bits, IntKind.signed]; omega
          first
            | exact vnGood (unhide Hb) (unhide Hw)
            | (rw [e1]; exact vnGood (unhide Hb) (unhide Hw))
        · have hw := unhide Hbad hu
          have Hw := hide hw
          have Hb := hide hb1
          clear hw hu hb1 Hgood Hbad
          go_wp2
          go_ret2
          exact vnBad (unhide Hb) (unhide Hw)
    · have hcnt : dcnt 16 2 ((strN s).drop 2) = j := by
        rw [unhide Hd, dcnt_no (.inl (List.drop_eq_nil_of_le (by rw [strN_len]; omega)))]; rfl
      have hmn : min (s.size : Int) 4 = (s.size : Int) := by omega
      have d1 : decide ((p : Int) < (s.size : Int)) = false := by simp; omega
      clear hp hjs
      have Hgood : Hid (∀ u, 0 < (s.extract 2 p).size → nval 16 255 (strN (s.extract 2 p)) 0 = some u → fin (drun 16 2 ((strN s).drop 2) 0 0) 2 = some (u, p) ∧ u ≤ 255) := fun u h1 h2 => by
        rw [strN_extract] at h2
        have e := extract_size s 2 p hps; have hp := unhide Hp
        have q := fin_good (f := 2) (B := 16) (by decide) (m := 2) (l := (strN s).drop 2) (u := u) (by omega) (by rw [hcnt, show j = p - 2 by omega]; exact h2)
        rw [hcnt, ← hp] at q
        exact q
      have Hbad : Hid ((s.extract 2 p).size = 0 ∨ nval 16 255 (strN (s.extract 2 p)) 0 = none → fin (drun 16 2 ((strN s).drop 2) 0 0) 2 = none) := fun h1 => by
        rw [strN_extract] at h1
        have e := extract_size s 2 p hps; have hp := unhide Hp
        refine fin_bad (by decide) ?_
        rcases h1 with h1 | h1
        · left; omega
        · right; rw [hcnt, show j = p - 2 by omega]; exact h1
      have hxz := extract_size s 2 p hps
      have f1 : (2 : Int) ≤ (p : Int) := by omega
      have f2 : (p : Int) ≤ (s.size : Int) := by omega
      clear hcnt Hd
      go_wp2_with fail
      refine ((spu8 hE _ (by omega)).1).mono ?_
      rintro e w1 ⟨hb1, ⟨u, rfl, hz, hu⟩ | ⟨u, q, rfl, hu⟩⟩
      · obtain ⟨hw, hle⟩ := unhide Hgood u hz hu
        have Hw := hide hw
        have Hb := hide hb1
        clear hw hu hz hb1 Hgood Hbad
        go_wp2
        go_ret2
        have e1 : IntKind.u8.wrap (u : Int) = (u : Int) := by simp [IntKind.wrap, IntKind.bits, IntKind.signed]; omega
        first
          | exact vnGood (unhide Hb) (unhide Hw)
          | (rw [e1]; exact vnGood (unhide Hb) (unhide Hw))
      · have hw := unhide Hbad hu
        have Hw := hide hw
        have Hb := hide hb1
        clear hw hu hb1 Hgood Hbad
        go_wp2
        go_ret2
        exact vnBad (unhide Hb) (unhide Hw)
set_option maxRecDepth 100000 in
set_option maxHeartbeats 2000000 in
theorem byBase_oct {W : World} (hE : HasE W) (s : ByteArray) (hs : s.size ≤ 65536) (hfs : 1 ≤ s.size) :
    Calls Tryz.prog 209 #[.string s, .int .i64 1, .int .i64 3, .int .i64 8] W (VN W (fin (drun 8 3 ((strN s).drop 1) 0 0) 1)) := by
  go_enter Tryz.func209, Tryz.ntmps209
  go_wp2
  go_loopg [10] 3 (fun gk v10 wr => ∃ (j : Nat), v10 = .int .i64 ((1 + j : Nat) : Int) ∧ gk = 3 - j ∧ j ≤ 3 ∧ 1 + j ≤ s.size ∧ wr = W ∧ Hid (dcnt 8 3 ((strN s).drop 1) = j + dcnt 8 (3 - j) ((strN s).drop (1 + j))))
  case atStart => exact ⟨0, rfl, rfl, by omega, by omega, rfl, by show _ = _; simp⟩
  case round =>
    obtain ⟨j, rfl, hgk, hj, hjs, rfl, Hd⟩ := hrel
    obtain ⟨p, hp⟩ : ∃ p, p = 1 + j := ⟨_, rfl⟩
    rw [← hp] at Hd ⊢
    have hps : p ≤ s.size := by omega
    have hpf : 1 ≤ p := by omega
    have Hp := hide hp
    have Hgk := hide hgk
    have p0 : (0 : Int) ≤ (p : Int) := Int.natCast_nonneg _
    clear hgk
    by_cases hlt : p < s.size
    · obtain ⟨x, hx, hx2, gx⟩ := strN_ex s p hlt
      have hdrop : (strN s).drop p = x :: (strN s).drop (p + 1) := by
        obtain ⟨hl, hx'⟩ := List.getElem?_eq_some_iff.1 hx
        rw [List.drop_eq_getElem_cons hl, hx']
      have Hdr := hide hdrop
      have p1 : (p : Int) < (s.size : Int) := by omega
      clear hdrop hx
      by_cases hlt2 : j < 3
      · have p2 : (p : Int) < (4 : Int) := by omega
        clear hp hjs
        by_cases hq : (4 : Int) < (s.size : Int)
        · have hmn : min (s.size : Int) 4 = 4 := by omega
          have d1 : decide ((p : Int) < (4 : Int)) = true := by simp; omega
          have Hlt2 := hide hlt2
          clear hlt2 hq
          go_wp2_with fail
          refine (isDigit8 _ x hx2).mono ?_
          rintro e w' ⟨d, rfl, he, hd⟩
          obtain rfl : wr = w' := he.symm
          cases d with
          | true =>
            have hlt2 := unhide Hlt2
            have hy : isd 8 x ≠ none := hd.1 rfl
            have hnext : dcnt 8 3 ((strN s).drop 1) = (j + 1) + dcnt 8 (3 - (j + 1)) ((strN s).drop (p + 1)) := by
              rw [unhide Hd, unhide Hdr, show 3 - j = (3 - (j + 1)) + 1 by omega, dcnt_yes hy]; omega
            have Hnext := hide hnext
            clear hnext hy hd Hd Hdr hlt2
            go_wp2
            go_roundg (3 - (j + 1))
            case measure => have := unhide Hgk; have := unhide Hlt2; omega
            case rel =>
              have hlt2 := unhide Hlt2
              refine ⟨j + 1, ?_, rfl, by omega, by have := unhide Hp; omega, rfl, ?_⟩
              · have e := unhide Hp; subst e; go_num
              · have := unhide Hnext; rw [unhide Hp] at this; exact this
          | false =>
            have hcnt : dcnt 8 3 ((strN s).drop 1) = j := by
              rw [unhide Hd, unhide Hdr, dcnt_not (fun q => by simpa using hd.2 q)]; rfl
            clear hd Hdr gx
            have Hgood : Hid (∀ u, 0 < (s.extract 1 p).size → nval 8 255 (strN (s.extract 1 p)) 0 = some u → fin (drun 8 3 ((strN s).drop 1) 0 0) 1 = some (u, p) ∧ u ≤ 255) := fun u h1 h2 => by
              rw [strN_extract] at h2
              have e := extract_size s 1 p hps; have hp := unhide Hp
              have q := fin_good (f := 1) (B := 8) (by decide) (m := 3) (l := (strN s).drop 1) (u := u) (by omega) (by rw [hcnt, show j = p - 1 by omega]; exact h2)
              rw [hcnt, ← hp] at q
              exact q
            have Hbad : Hid ((s.extract 1 p).size = 0 ∨ nval 8 255 (strN (s.extract 1 p)) 0 = none → fin (drun 8 3 ((strN s).drop 1) 0 0) 1 = none) := fun h1 => by
              rw [strN_extract] at h1
              have e := extract_size s 1 p hps; have hp := unhide Hp
              refine fin_bad (by decide) ?_
              rcases h1 with h1 | h1
              · left; omega
              · right; rw [hcnt, show j = p - 1 by omega]; exact h1
            have hxz := extract_size s 1 p hps
            have f1 : (1 : Int) ≤ (p : Int) := by omega
            have f2 : (p : Int) ≤ (s.size : Int) := by omega
            clear hcnt Hd
            go_wp2_with fail
            refine ((spu8 hE _ (by omega)).2).mono ?_
            rintro e w1 ⟨hb1, ⟨u, rfl, hz, hu⟩ | ⟨u, q, rfl, hu⟩⟩
            · obtain ⟨hw, hle⟩ := unhide Hgood u hz hu
              have Hw := hide hw
              have Hb := hide hb1
              clear hw hu hz hb1 Hgood Hbad
              go_wp2
              go_ret2
              have e1 : IntKind.u8.wrap (u : Int) = (u : Int) := by simp [IntKind.wrap, IntKind.bits, IntKind.signed]; omega
              first
                | exact vnGood (unhide Hb) (unhide Hw)
                | (rw [e1]; exact vnGood (unhide Hb) (unhide Hw))
            · have hw := unhide Hbad hu
              have Hw := hide hw
              have Hb := hide hb1
              clear hw hu hb1 Hgood Hbad
              go_wp2
              go_ret2
              exact vnBad (unhide Hb) (unhide Hw)
        · have hmn : min (s.size : Int) 4 = (s.size : Int) := by omega
          have d1 : decide ((p : Int) < (s.size : Int)) = true := by simp; omega
          have Hlt2 := hide hlt2
          clear hlt2 hq
          go_wp2_with fail
          refine (isDigit8 _ x hx2).mono ?_
          rintro e w' ⟨d, rfl, he, hd⟩
          obtain rfl : wr = w' := he.symm
          cases d with
          | true =>
            have hlt2 := unhide Hlt2
            have hy : isd 8 x ≠ none := hd.1 rfl
            have hnext : dcnt 8 3 ((strN s).drop 1) = (j + 1) + dcnt 8 (3 - (j + 1)) ((strN s).drop (p + 1)) := by
              rw [unhide Hd, unhide Hdr, show 3 - j = (3 - (j + 1)) + 1 by omega, dcnt_yes hy]; omega
            have Hnext := hide hnext
            clear hnext hy hd Hd Hdr hlt2
            go_wp2
            go_roundg (3 - (j + 1))
            case measure => have := unhide Hgk; have := unhide Hlt2; omega
            case rel =>
              have hlt2 := unhide Hlt2
              refine ⟨j + 1, ?_, rfl, by omega, by have := unhide Hp; omega, rfl, ?_⟩
              · have e := unhide Hp; subst e; go_num
              · have := unhide Hnext; rw [unhide Hp] at this; exact this
          | false =>
            have hcnt : dcnt 8 3 ((strN s).drop 1) = j := by
              rw [unhide Hd, unhide Hdr, dcnt_not (fun q => by simpa using hd.2 q)]; rfl
            clear hd Hdr gx
            have Hgood : Hid (∀ u, 0 < (s.extract 1 p).size → nval 8 255 (strN (s.extract 1 p)) 0 = some u → fin (drun 8 3 ((strN s).drop 1) 0 0) 1 = some (u, p) ∧ u ≤ 255) := fun u h1 h2 => by
              rw [strN_extract] at h2
              have e := extract_size s 1 p hps; have hp := unhide Hp
              have q := fin_good (f := 1) (B := 8) (by decide) (m := 3) (l := (strN s).drop 1) (u := u) (by omega) (by rw [hcnt, show j = p - 1 by omega]; exact h2)
              rw [hcnt, ← hp] at q
              exact q
            have Hbad : Hid ((s.extract 1 p).size = 0 ∨ nval 8 255 (strN (s.extract 1 p)) 0 = none → fin (drun 8 3 ((strN s).drop 1) 0 0) 1 = none) := fun h1 => by
              rw [strN_extract] at h1
              have e := extract_size s 1 p hps; have hp := unhide Hp
              refine fin_bad (by decide) ?_
              rcases h1 with h1 | h1
              · left; omega
              · right; rw [hcnt, show j = p - 1 by omega]; exact h1
            have hxz := extract_size s 1 p hps
            have f1 : (1 : Int) ≤ (p : Int) := by omega
            have f2 : (p : Int) ≤ (s.size : Int) := by omega
            clear hcnt Hd
            go_wp2_with fail
            refine ((spu8 hE _ (by omega)).2).mono ?_
            rintro e w1 ⟨hb1, ⟨u, rfl, hz, hu⟩ | ⟨u, q, rfl, hu⟩⟩
            · obtain ⟨hw, hle⟩ := unhide Hgood u hz hu
              have Hw := hide hw
              have Hb := hide hb1
              clear hw hu hz hb1 Hgood Hbad
              go_wp2
              go_ret2
              have e1 : IntKind.u8.wrap (u : Int) = (u : Int) := by simp [IntKind.wrap, IntKind.bits, IntKind.signed]; omega
              first
                | exact vnGood (unhide Hb) (unhide Hw)
                | (rw [e1]; exact vnGood (unhide Hb) (unhide Hw))
            · have hw := unhide Hbad hu
              have Hw := hide hw
              have Hb := hide hb1
              clear hw hu hb1 Hgood Hbad
              go_wp2
              go_ret2
              exact vnBad (unhide Hb) (unhide Hw)
      · have hcnt : dcnt 8 3 ((strN s).drop 1) = j := by
          rw [unhide Hd, dcnt_no (.inr (by omega))]; rfl
        have hmn : min (s.size : Int) 4 = 4 := by omega
        have d1 : decide ((p : Int) < (4 : Int)) = false := by simp; omega
        clear hp hjs hlt2
        clear Hdr gx
        have Hgood : Hid (∀ u, 0 < (s.extract 1 p).size → nval 8 255 (strN (s.extract 1 p)) 0 = some u → fin (drun 8 3 ((strN s).drop 1) 0 0) 1 = some (u, p) ∧ u ≤ 255) := fun u h1 h2 => by
          rw [strN_extract] at h2
          have e := extract_size s 1 p hps; have hp := unhide Hp
          have q := fin_good (f := 1) (B := 8) (by decide) (m := 3) (l := (strN s).drop 1) (u := u) (by omega) (by rw [hcnt, show j = p - 1 by omega]; exact h2)
          rw [hcnt, ← hp] at q
          exact q
        have Hbad : Hid ((s.extract 1 p).size = 0 ∨ nval 8 255 (strN (s.extract 1 p)) 0 = none → fin (drun 8 3 ((strN s).drop 1) 0 0) 1 = none) := fun h1 => by
          rw [strN_extract] at h1
          have e := extract_size s 1 p hps; have hp := unhide Hp
          refine fin_bad (by decide) ?_
          rcases h1 with h1 | h1
          · left; omega
          · right; rw [hcnt, show j = p - 1 by omega]; exact h1
        have hxz := extract_size s 1 p hps
        have f1 : (1 : Int) ≤ (p : Int) := by omega
        have f2 : (p : Int) ≤ (s.size : Int) := by omega
        clear hcnt Hd
        go_wp2_with fail
        refine ((spu8 hE _ (by omega)).2).mono ?_
        rintro e w1 ⟨hb1, ⟨u, rfl, hz, hu⟩ | ⟨u, q, rfl, hu⟩⟩
        · obtain ⟨hw, hle⟩ := unhide Hgood u hz hu
          have Hw := hide hw
          have Hb := hide hb1
          clear hw hu hz hb1 Hgood Hbad
          go_wp2
          go_ret2
          have e1 : IntKind.u8.wrap (u : Int) = (u : Int) := by simp [IntKind.wrap, IntKind.bits, IntKind.signed]; omega
          first
            | exact vnGood (unhide Hb) (unhide Hw)
            | (rw [e1]; exact vnGood (unhide Hb) (unhide Hw))
        · have hw := unhide Hbad hu
          have Hw := hide hw
          have Hb := hide hb1
          clear hw hu hb1 Hgood Hbad
          go_wp2
          go_ret2
          exact vnBad (unhide Hb) (unhide Hw)
    · have hcnt : dcnt 8 3 ((strN s).drop 1) = j := by
        rw [unhide Hd, dcnt_no (.inl (List.drop_eq_nil_of_le (by rw [strN_len]; omega)))]; rfl
      have hmn : min (s.size : Int) 4 = (s.size : Int) := by omega
      have d1 : decide ((p : Int) < (s.size : Int)) = false := by simp; omega
      clear hp hjs
      have Hgood : Hid (∀ u, 0 < (s.extract 1 p).size → nval 8 255 (strN (s.extract 1 p)) 0 = some u → fin (drun 8 3 ((strN s).drop 1) 0 0) 1 = some (u, p) ∧ u ≤ 255) := fun u h1 h2 => by
        rw [strN_extract] at h2
        have e := extract_size s 1 p hps; have hp := unhide Hp
        have q := fin_good (f := 1) (B := 8) (by decide) (m := 3) (l := (strN s).drop 1) (u := u) (by omega) (by rw [hcnt, show j = p - 1 by omega]; exact h2)
        rw [hcnt, ← hp] at q
        exact q
      have Hbad : Hid ((s.extract 1 p).size = 0 ∨ nval 8 255 (strN (s.extract 1 p)) 0 = none → fin (drun 8 3 ((strN s).drop 1) 0 0) 1 = none) := fun h1 => by
        rw [strN_extract] at h1
        have e := extract_size s 1 p hps; have hp := unhide Hp
        refine fin_bad (by decide) ?_
        rcases h1 with h1 | h1
        · left; omega
        · right; rw [hcnt, show j = p - 1 by omega]; exact h1
      have hxz := extract_size s 1 p hps
      have f1 : (1 : Int) ≤ (p : Int) := by omega
      have f2 : (p : Int) ≤ (s.size : Int) := by omega
      clear hcnt Hd
      go_wp2_with fail
      refine ((spu8 hE _ (by omega)).2).mono ?_
      rintro e w1 ⟨hb1, ⟨u, rfl, hz, hu⟩ | ⟨u, q, rfl, hu⟩⟩
      · obtain ⟨hw, hle⟩ := unhide Hgood u hz hu
        have Hw := hide hw
        have Hb := hide hb1
        clear hw hu hz hb1 Hgood Hbad
        go_wp2
        go_ret2
        have e1 : IntKind.u8.wrap (u : Int) = (u : Int) := by simp [IntKind.wrap, IntKind.bits, IntKind.signed]; omega
        first
          | exact vnGood (unhide Hb) (unhide Hw)
          | (rw [e1]; exact vnGood (unhide Hb) (unhide Hw))
      · have hw := unhide Hbad hu
        have Hw := hide hw
        have Hb := hide hb1
        clear hw hu hb1 Hgood Hbad
        go_wp2
        go_ret2
        exact vnBad (unhide Hb) (unhide Hw)
end Go.Proofs.YtaadpiimcaabkaaGreatDoor
