import Derived.Test.YtokiplfdhoealaaDoorSA
namespace Go.Proofs.YtokiplfdhoealaaDoor
open Go.RowKit Go.Lib
attribute [local go_sem ↓] Go.wp_at_zero Go.wp_at_succ

theorem byteAt_strN (s : ByteArray) (k : Nat) (hk : k < s.size) : (strN s)[k]? = some (byteAt s k) := by
  obtain ⟨x, h1, _, h3⟩ := strN_ex s k hk
  rw [h1, byteAt_eq s k hk, h3]
theorem frm_hi {x c d e : Nat} (h : frm x = some (c, d, e)) (hx : 128 ≤ x) : 1 ≤ c := by
  unfold frm at h
  rw [if_neg (by omega)] at h
  repeat' split at h
  all_goals first | (cases h; done) | (have := Option.some.inj h; simp at this; omega)
theorem byteAt_take (s : ByteArray) (n i : Nat) (hn : n ≤ s.size) (hi : i < n) : byteAt (s.extract 0 n) i = byteAt s i := by
  have := byteAt_extract s 0 n i hn (by omega)
  rw [this]
  congr 1
  omega
theorem lenOk_take {s : ByteArray} {n c d e : Nat} (hn : n ≤ s.size) : LenOkAt (s.extract 0 n) 0 c d e ↔ (1 + c ≤ n ∧ LenOkAt s 0 c d e) := by
  have hz := extract_size s 0 n hn
  unfold LenOkAt
  rw [hz]
  constructor
  · rintro ⟨h1, h2⟩
    refine ⟨by omega, by omega, fun j j1 j2 => ?_⟩
    have := h2 j j1 j2
    rw [Nat.zero_add, byteAt_take s n j hn (by omega)] at this
    rw [Nat.zero_add]
    exact this
  · rintro ⟨h0, h1, h2⟩
    refine ⟨by omega, fun j j1 j2 => ?_⟩
    have := h2 j j1 j2
    rw [Nat.zero_add] at this
    rw [Nat.zero_add, byteAt_take s n j hn (by omega)]
    exact this
/-- The first n bytes are one character just where one of n bytes begins in front (n from 2 on, the first byte from 128 on, none of fewer bytes). -/
theorem utf_take {s : ByteArray} {n : Nat} (hn : n ≤ s.size) (h2 : 2 ≤ n) (h4 : n ≤ 4) (hx : 128 ≤ byteAt s 0) (hno : ∀ m, 2 ≤ m → m < n → ¬ chAt s 0 = m) :
    (chAt s 0 = n → utfAt (s.extract 0 n) 0 = -1) ∧ (¬ chAt s 0 = n → utfAt (s.extract 0 n) 0 = 0) := by
  have hz := extract_size s 0 n hn
  have hb := byteAt_take s n 0 hn (by omega)
  have key : chAt (s.extract 0 n) 0 = if chAt s 0 = n then n else 0 := by
    cases hf : frm (byteAt s 0) with
    | none => rw [chAt_none (by rw [hb]; exact hf), chAt_none hf, if_neg (by omega)]
    | some t =>
      obtain ⟨c, d, e⟩ := t
      have hc := frm_hi hf hx
      have hc3 := frm_le hf
      by_cases hok : LenOkAt s 0 c d e
      · have hs := chAt_ok hf hok
        by_cases hcn : 1 + c = n
        · rw [if_pos (by omega), chAt_ok (by rw [hb]; exact hf) ((lenOk_take hn).2 ⟨by omega, hok⟩)]; exact hcn
        · have h1 : n < 1 + c := by
            rcases Nat.lt_or_ge n (1 + c) with q | q
            · exact q
            · exact absurd hs (hno (1 + c) (by omega) (by omega))
          rw [if_neg (by omega), chAt_no (by rw [hb]; exact hf) (fun q => by have := ((lenOk_take hn).1 q).1; omega)]
      · rw [if_neg (by rw [chAt_no hf hok]; omega), chAt_no (by rw [hb]; exact hf) (fun q => hok ((lenOk_take hn).1 q).2)]
  constructor
  · intro h
    rw [if_pos h] at key
    rw [utf_step (by omega) (by omega), key, utf_end (by omega)]
  · intro h
    rw [if_neg h] at key
    rw [utf_bad (by omega) key]
    rfl
set_option maxRecDepth 100000 in
set_option maxHeartbeats 1000000 in
theorem character_any {W : World} (h : HasF W) (s : ByteArray) (hs0 : 0 < s.size) (hs : s.size ≤ 140737488351232) (hx : 128 ≤ byteAt s 0) :
    Calls Tryd.prog 32 #[.string s] W fun e w => e = .returned (.int .i64 (chAt s 0 : Int)) ∧ Below W.heap.size W w := by
  have hb0 := Below.refl W.heap.size W
  have Hx := hide hx
  obtain ⟨ch, hch⟩ : ∃ ch, ch = chAt s 0 := ⟨_, rfl⟩
  have hle := chAt_le s 0 (by omega)
  rw [← hch] at hle ⊢
  have hne1 : ¬ ch = 1 := by
    rw [hch]
    cases hf : frm (byteAt s 0) with
    | none => rw [chAt_none hf]; omega
    | some t =>
      obtain ⟨c, d, e⟩ := t
      have hc := frm_hi hf hx
      by_cases hok : LenOkAt s 0 c d e
      · rw [chAt_ok hf hok]; omega
      · rw [chAt_no hf hok]; omega
  have Hch := hide hch
  have Hle := hide hle
  have Hne := hide hne1
  clear hx hch hle hne1
  go_enter Tryd.func32, Tryd.ntmps32
  go_wp2
  go_loopg [3] 5 (fun gk v3 wr => ∃ (n : Nat), v3 = .int .i64 (n : Int) ∧ gk = 7 - n ∧ 2 ≤ n ∧ n ≤ 5 ∧ Hid (Below W.heap.size W wr) ∧ Hid (∀ m, 2 ≤ m → m < n → ¬ ch = m))
  case atStart => exact ⟨2, rfl, rfl, by omega, by omega, hb0, fun m m1 m2 => by omega⟩
  case round =>
    obtain ⟨n, rfl, hgk, n2, n5, HB, Hno⟩ := hrel
    have Hgk := hide hgk
    clear hgk
    by_cases hn4 : n ≤ 4
    · by_cases hns : n ≤ s.size
      · have b1 : decide ((n : Int) ≤ 4) = true := by simp; omega
        have b2 : decide ((n : Int) ≤ (s.size : Int)) = true := by simp; omega
        have hz := extract_size s 0 n hns
        have hut := utf_take hns n2 hn4 (unhide Hx) (fun m m1 m2 => by rw [← unhide Hch]; exact unhide Hno m m1 m2)
        rw [← unhide Hch] at hut
        have Hut := hide hut
        clear hut
        go_wp2_with fail
        refine (utf8_any (h.up (unhide HB)) (s.extract 0 n) (by omega)).mono ?_
        rintro e w2 ⟨rfl, hb2⟩
        have HB2 : Hid (Below W.heap.size W w2) := (unhide HB).trans (hb2.mono (unhide HB).size)
        clear hb2 HB hz
        by_cases hc : ch = n
        · rw [(unhide Hut).1 hc]
          have Hc := hide hc
          clear hc Hut
          go_wp2
          go_ret
          exact ⟨by rw [unhide Hc]; rfl, unhide HB2⟩
        · rw [(unhide Hut).2 hc]
          have Hno2 : Hid (∀ m, 2 ≤ m → m < n + 1 → ¬ ch = m) := fun m m1 m2 q => by
            rcases Nat.lt_or_ge m n with h1 | h1
            · exact unhide Hno m m1 h1 q
            · exact hc (by omega)
          clear hc Hut
          go_wp2
          go_roundg (7 - (n + 1))
          case measure => have := unhide Hgk; omega
          case rel => exact ⟨n + 1, by go_num, rfl, by omega, by omega, HB2, Hno2⟩
      · have b1 : decide ((n : Int) ≤ 4) = true := by simp; omega
        have b2 : decide ((n : Int) ≤ (s.size : Int)) = false := by simp; omega
        have Hc : Hid (ch = 0) := by
          have h1 := unhide Hle
          have h2 := unhide Hne
          have h3 := unhide Hno ch
          show ch = 0
          omega
        go_wp2
        go_ret
        exact ⟨by rw [unhide Hc]; rfl, unhide HB⟩
    · have b1 : decide ((n : Int) ≤ 4) = false := by simp; omega
      have Hc : Hid (ch = 0) := by
        have h1 := unhide Hle
        have h2 := unhide Hne
        have h3 := unhide Hno ch
        show ch = 0
        omega
      go_wp2
      go_ret
      exact ⟨by rw [unhide Hc]; rfl, unhide HB⟩
end Go.Proofs.YtokiplfdhoealaaDoor
