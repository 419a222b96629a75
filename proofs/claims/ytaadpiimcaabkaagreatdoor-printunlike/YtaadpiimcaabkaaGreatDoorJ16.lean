import Derived.Test.YtaadpiimcaabkaaGreatDoorJ15

namespace Go.Proofs.YtaadpiimcaabkaaGreatDoor
open Go.RowKit Go.Lib
attribute [local go_sem ↓] Go.wp_at_zero Go.wp_at_succ

theorem byteAt_strN (s : ByteArray) (k : Nat) (hk : k < s.size) : (strN s)[k]? = some (byteAt s k) := by
  obtain ⟨x, h1, _, h3⟩ := strN_ex s k hk
  rw [h1, byteAt_eq s k hk, h3]
theorem frm_hi {x c d e : Nat} (h : frm x = some (c, d, e)) (hx : 128 ≤ x) : 1 ≤ c := by
  unfold frm at h
  rw [if_neg (by omega)] at h
  repeat' split at h
  all_goals first | (cases h; done) | (have := Option.some.inj h; simp at this; omega)
theorem byteAt_take (s : ByteArray) (n i : Nat) (hn : n ≤ s.size) (hi : i < n) : byteAt (s.extract 0 n) i = byteAt s i := by
  have := byteAt_extract s 0 n i hn (by omega)
  rw [this]
  congr 1
  omega
theorem lenOk_take {s : ByteArray} {n c d e : Nat} (hn : n ≤ s.size) : LenOkAt (s.extract 0 n) 0 c d e ↔ (1 + c ≤ n ∧ LenOkAt s 0 c d e) := by
  have hz := extract_size s 0 n hn
  unfold LenOkAt
  rw [hz]
  constructor
  · rintro ⟨h1, h2⟩
    refine ⟨by omega, by omega, fun j j1 j2 => ?_⟩
    have := h2 j j1 j2
    rw [Nat.zero_add, byteAt_take s n j hn (by omega)] at this
    rw [Nat.zero_add]
    exact this
  · rintro ⟨h0, h1, h2⟩
    refine ⟨by omega, fun j j1 j2 => ?_⟩
    have := h2 j j1 j2
    rw [Nat.zero_add] at this
    rw [Nat.zero_add, byteAt_take s n j hn (by omega)]
    exact this
/-- The first n bytes are one character just where one of n bytes begins in front (n from 2 on, the first byte from 128 on, none of fewer bytes). -/
theorem utf_take {s : ByteArray} {n : Nat} (hn : n ≤ s.size) (h2 : 2 ≤ n) (h4 : n ≤ 4) (hx : 128 ≤ byteAt s 0) (hno : ∀ m, 2 ≤ m → m < n → ¬ chAt s 0 = m) :
    (chAt s 0 = n → utfAt (s.extract 0 n) 0 = -1) ∧ (¬ chAt s 0 = n → utfAt (s.extract 0 n) 0 = 0) := by
  have hz := extract_size s 0 n hn
  have hb := byteAt_take s n 0 hn (by omega)
  have key : chAt (s.extract 0 n) 0 = if chAt s 0 = n then n else 0 := by
    cases hf : frm (byteAt s 0) with
    | none => rw [chAt_none (by rw [hb]; exact hf), chAt_none hf, if_neg (by omega)]
    | some t =>
      obtain ⟨c, d, e⟩ := t
      have hc := frm_hi hf hx
      have hc3 := frm_le hf
      by_cases hok : LenOkAt s 0 c d e
      · have hs := chAt_ok hf hok
        by_cases hcn : 1 + c = n
        · rw [if_pos (by omega), chAt_ok (by rw [hb]; exact hf) ((lenOk_take hn).2 ⟨by omega, hok⟩)]; exact hcn
        · have h1 : n < 1 + c := by
            rcases Nat.lt_or_ge n (1 + c) with q | q
            · exact q
            · exact absurd hs (hno (1 + c) (by omega) (by omega))
          rw [if_neg (by omega), chAt_no (by rw [hb]; exact hf) (fun q => by have := ((lenOk_take hn).1 q).1; omega)]
      · rw [if_neg (by rw [chAt_no hf hok]; omega), chAt_no (by rw [hb]; exact hf) (fun q => hok ((lenOk_take hn).1 q).2)]
  constructor
  · intro h
    rw [if_pos h] at key
    rw [utf_step (by omega) (by omega), key, utf_end (by omega)]
  · intro h
    rw [if_neg h] at key
    rw [utf_bad (by omega) key]
    rfl
set_option maxRecDepth 100000 in
set_option maxHeartbeats 1000000 in
theorem character_any {W : World} (h : HasF W) (s : ByteArray) (hs0 : 0 < s.size) (hs : s.size ≤ 140737488351232) (hx : 128 ≤ byteAt s 0) :
    Calls Tryz.prog 129 #[.string s] W fun e w => e = .returned (.int .i64 (chAt s 0 : Int)) ∧ Below W.heap.size W w := by
  have hb0 := Below.refl W.heap.size W
  have Hx := hide hx
  obtain ⟨ch, hch⟩ : ∃ ch, ch = chAt s 0 := ⟨_, rfl⟩
  have hle := chAt_le s 0 (by omega)
  rw [← hch] at hle ⊢
  have hne1 : ¬ ch = 1 := by
    rw [hch]
    cases hf : frm (byteAt s 0) with
    | none => rw [chAt_none hf]; omega
    | some t =>
      obtain ⟨c, d, e⟩ := t
      have hc := frm_hi hf hx
      by_cases hok : LenOkAt s 0 c d e
      · rw [chAt_ok hf hok]; omega
      · rw [chAt_no hf hok]; omega
  have Hch := hide hch
  have Hle := hide hle
  have Hne := hide hne1
  clear hx hch hle hne1
  go_enter Tryz.func129, Tryz.ntmps129
  go_wp2
  go_loopg [3] 5 (fun gk v3 wr => ∃ (n : Nat), v3 = .int .i64 (n : Int) ∧ gk = 7 - n ∧ 2 ≤ n ∧ n ≤ 5 ∧ Hid (Below W.heap.size W wr) ∧ Hid (∀ m, 2 ≤ m → m < n → ¬ ch = m))
  case atStart => exact ⟨2, rfl, rfl, by omega, by omega, hb0, fun m m1 m2 => by omega⟩
  case round =>
    obtain ⟨n, rfl, hgk, n2, n5, HB, Hno⟩ := hrel
    have Hgk := hide hgk
    clear hgk
    by_cases hn4 : n ≤ 4
    · by_cases hns : n ≤ s.size
      · have b1 : decide ((n : Int) ≤ 4) = true := by simp; omega
        have b2 : decide ((n : Int) ≤ (s.size : Int)) = true := by simp; omega
        have hz := extract_size s 0 n hns
        have hut := utf_take hns n2 hn4 (unhide Hx) (fun m m1 m2 => by rw [← unhide Hch]; exact unhide Hno m m1 m2)
        rw [← unhide Hch] at hut
        have Hut := hide hut
        clear hut
        go_wp2_with fail
        refine (utf8_any (h.up (unhide HB)) (s.extract 0 n) (by omega)).mono ?_
        rintro e w2 ⟨rfl, hb2⟩
        have HB2 : Hid (Below W.heap.size W w2) := (unhide HB).trans (hb2.mono (unhide HB).size)
        clear hb2 HB hz
        by_cases hc : ch = n
        · rw [(unhide Hut).1 hc]
          have Hc := hide hc
          clear hc Hut
          go_wp2
          go_ret
          exact ⟨by rw [unhide Hc]; rfl, unhide HB2⟩
        · rw [(unhide Hut).2 hc]
          have Hno2 : Hid (∀ m, 2 ≤ m → m < n + 1 → ¬ ch = m) := fun m m1 m2 q => by
            rcases Nat.lt_or_ge m n with h1 | h1
            · exact unhide Hno m m1 h1 q
            · exact hc (by omega)
          clear hc Hut
          go_wp2
          go_roundg (7 - (n + 1))
          case measure => have := unhide Hgk; omega
          case rel => exact ⟨n + 1, by go_num, rfl, by omega, by omega, HB2, Hno2⟩
      · have b1 : decide ((n : Int) ≤ 4) = true := by simp; omega
        have b2 : decide ((n : Int) ≤ (s.size : Int)) = false := by simp; omega
        have Hc : Hid (ch = 0) := by
          have h1 := unhide Hle
          have h2 := unhide Hne
          have h3 := unhide Hno ch
          show ch = 0
          omega
        go_wp2
        go_ret
        exact ⟨by rw [unhide Hc]; rfl, unhide HB⟩
    · have b1 : decide ((n : Int) ≤ 4) = false := by simp; omega
      have Hc : Hid (ch = 0) := by
        have h1 := unhide Hle
        have h2 := unhide Hne
        have h3 := unhide Hno ch
        show ch = 0
        omega
      go_wp2
      go_ret
      exact ⟨by rw [unhide Hc]; rfl, unhide HB⟩
end Go.Proofs.YtaadpiimcaabkaaGreatDoor

namespace Go.Proofs.YtaadpiimcaabkaaGreatDoor
open Go.RowKit Go.Lib
attribute [local go_sem ↓] Go.wp_at_zero Go.wp_at_succ

theorem lenOk_drop {s : ByteArray} {k c d e : Nat} (hk : k < s.size) : LenOkAt (s.extract k s.size) 0 c d e ↔ LenOkAt s k c d e := by
  have hz := extract_size s k s.size (Nat.le_refl _)
  unfold LenOkAt
  rw [hz]
  constructor
  · rintro ⟨h1, h2⟩
    refine ⟨by omega, fun j j1 j2 => ?_⟩
    have := h2 j j1 j2
    rw [Nat.zero_add, byteAt_extract s k s.size j (Nat.le_refl _) (by omega)] at this
    exact this
  · rintro ⟨h1, h2⟩
    refine ⟨by omega, fun j j1 j2 => ?_⟩
    rw [Nat.zero_add, byteAt_extract s k s.size j (Nat.le_refl _) (by omega)]
    exact h2 j j1 j2
theorem byteAt_drop {s : ByteArray} {k : Nat} (hk : k < s.size) : byteAt (s.extract k s.size) 0 = byteAt s k := by rw [byteAt_extract s k s.size 0 (Nat.le_refl _) (by omega)]; rfl
theorem chAt_drop {s : ByteArray} {k : Nat} (hk : k < s.size) : chAt (s.extract k s.size) 0 = chAt s k := by
  have hb := byteAt_drop hk
  cases hf : frm (byteAt s k) with
  | none => rw [chAt_none (by rw [hb]; exact hf), chAt_none hf]
  | some t =>
    obtain ⟨c, d, e⟩ := t
    by_cases hok : LenOkAt s k c d e
    · rw [chAt_ok hf hok, chAt_ok (by rw [hb]; exact hf) ((lenOk_drop hk).2 hok)]
    · rw [chAt_no hf hok, chAt_no (by rw [hb]; exact hf) (fun q => hok ((lenOk_drop hk).1 q))]
theorem chAt_low {s : ByteArray} {k : Nat} (hk : k < s.size) (hx : byteAt s k < 128) : chAt s k = 1 :=
  chAt_ok (c := 0) (d := 0) (e := 0) (by unfold frm; rw [if_pos hx]) ⟨by omega, fun j j1 j2 => by omega⟩
/-- How many bytes stand for themselves at that place, 0 if an escape is needed. -/
noncomputable def plainK (s : ByteArray) (k : Nat) : Nat := if 128 ≤ byteAt s k then chAt s k else if byteAt s k < 32 ∨ byteAt s k = 127 ∨ byteAt s k = 34 ∨ byteAt s k = 92 then 0 else 1
theorem plainK_le {s : ByteArray} {k : Nat} (hk : k < s.size) : k + plainK s k ≤ s.size ∧ plainK s k ≤ 4 := by
  have := chAt_le s k (by omega)
  unfold plainK
  split
  · exact this
  · split <;> omega
def sub (s : ByteArray) (k n : Nat) : List Nat := ((strN s).drop k).take n
/-- What is written for what stands at that place, and how many bytes that is. -/
noncomputable def qs (s : ByteArray) (k : Nat) : List Nat := if plainK s k = 0 then esc (byteAt s k) else sub s k (plainK s k)
noncomputable def qn (s : ByteArray) (k : Nat) : Nat := if plainK s k = 0 then 1 else plainK s k
theorem qn_pos (s : ByteArray) (k : Nat) : 1 ≤ qn s k := by unfold qn; split <;> omega
theorem qn_le {s : ByteArray} {k : Nat} (hk : k < s.size) : k + qn s k ≤ s.size := by
  have := plainK_le hk
  unfold qn
  split <;> omega
theorem qs_len {s : ByteArray} {k : Nat} : (qs s k).length ≤ 4 * qn s k := by
  unfold qs qn
  split
  · have := esc_len (byteAt s k); omega
  · have : (sub s k (plainK s k)).length ≤ plainK s k := by unfold sub; rw [List.length_take]; omega
    omega
theorem qs_byt (s : ByteArray) (k : Nat) : Byt (qs s k) := by
  unfold qs
  split
  · exact esc_byt (byteAt_lt s k)
  · intro x hx
    unfold sub at hx
    exact strN_byt s x (List.mem_of_mem_drop (List.mem_of_mem_take hx))
/-- All that is written from that place on. -/
noncomputable def qAll (s : ByteArray) (k : Nat) : List Nat := if _h : k < s.size then qs s k ++ qAll s (k + qn s k) else []
termination_by s.size - k
decreasing_by have := qn_pos s k; omega
theorem qAll_end {s : ByteArray} {k : Nat} (h : ¬ k < s.size) : qAll s k = [] := by rw [qAll, dif_neg h]
theorem qAll_step {s : ByteArray} {k : Nat} (h : k < s.size) : qAll s k = qs s k ++ qAll s (k + qn s k) := by rw [qAll, dif_pos h]
theorem sub_extract (s : ByteArray) (k n : Nat) : strN (s.extract k (k + n)) = sub s k n := by
  unfold strN sub strN
  rw [Lib.extract_data]
  simp [List.map_take, List.map_drop]
theorem sub_len {s : ByteArray} {k n : Nat} (h : k + n ≤ s.size) : (sub s k n).length = n := by
  unfold sub
  rw [List.length_take, List.length_drop, strN_len]
  omega

set_option maxRecDepth 100000 in
set_option maxHeartbeats 1000000 in
theorem plain_any {W : World} (h : HasF W) (s : ByteArray) (hs0 : 0 < s.size) (hs : s.size ≤ 140737488351232) :
    Calls Tryz.prog 86 #[.string s] W fun e w => e = .returned (.int .i64 (plainK s 0 : Int)) ∧ Below W.heap.size W w := by
  have hb0 := Below.refl W.heap.size W
  obtain ⟨x, hx⟩ : ∃ x : Nat, s[0].toNat = x := ⟨_, rfl⟩
  have hbx : byteAt s 0 = x := (byteAt_eq s 0 hs0).trans hx
  have hx2 : x < 256 := by rw [← hbx]; exact byteAt_lt s 0
  have hp : plainK s 0 = if 128 ≤ x then chAt s 0 else if x < 32 ∨ x = 127 ∨ x = 34 ∨ x = 92 then 0 else 1 := by unfold plainK; rw [hbx]
  rw [hp]
  have Hbx := hide hbx
  clear hbx hp
  by_cases h1 : 128 ≤ x
  · rw [if_pos h1]
    have b1 := geT (c := x) (k := 128) (by omega)
    go_enter Tryz.func86, Tryz.ntmps86
    go_wp2_with fail
    refine (character_any h s hs0 hs (by rw [unhide Hbx]; exact h1)).mono ?_
    rintro e w2 ⟨rfl, hb2⟩
    have Hb := hide hb2
    clear hb2
    go_wp2
    go_ret
    exact ⟨rfl, unhide Hb⟩
  · rw [if_neg h1]
    have b1 := geF (c := x) (k := 128) (by omega)
    clear h1
    by_cases h2 : x < 32
    · rw [if_pos (.inl h2)]
      have b2 := ltiT (c := x) (k := 32) (by omega)
      go_enter Tryz.func86, Tryz.ntmps86
      go_wp2
      go_ret
      exact ⟨rfl, hb0⟩
    · have b2 := ltiF (c := x) (k := 32) (by omega)
      by_cases h3 : x = 127
      · rw [if_pos (.inr (.inl h3))]
        have b3 := eqT (c := x) (k := 127) (by omega)
        clear h2 h3
        go_enter Tryz.func86, Tryz.ntmps86
        go_wp2
        go_ret
        exact ⟨rfl, hb0⟩
      · have b3 := eqF (c := x) (k := 127) (by omega)
        by_cases h4 : x = 34
        · rw [if_pos (.inr (.inr (.inl h4)))]
          have b4 := eqT (c := x) (k := 34) (by omega)
          clear h2 h3 h4
          go_enter Tryz.func86, Tryz.ntmps86
          go_wp2
          go_ret
          exact ⟨rfl, hb0⟩
        · have b4 := eqF (c := x) (k := 34) (by omega)
          by_cases h5 : x = 92
          · rw [if_pos (.inr (.inr (.inr h5)))]
            have b5 := eqT (c := x) (k := 92) (by omega)
            clear h2 h3 h4 h5
            go_enter Tryz.func86, Tryz.ntmps86
            go_wp2
            go_ret
            exact ⟨rfl, hb0⟩
          · have b5 := eqF (c := x) (k := 92) (by omega)
            rw [if_neg (by omega)]
            clear h2 h3 h4 h5
            go_enter Tryz.func86, Tryz.ntmps86
            go_wp2
            go_ret
            exact ⟨rfl, hb0⟩
theorem plainK_drop {s : ByteArray} {k : Nat} (hk : k < s.size) : plainK (s.extract k s.size) 0 = plainK s k := by
  unfold plainK
  rw [byteAt_drop hk, chAt_drop hk]
theorem bytes_one (W : World) (x : Nat) : Bytes W.heap.size (W.alloc (.cells #[.int .u8 (x : Int)] 5)) (.slice (some ⟨W.heap.size, 0, none⟩) 1 1) [x] :=
  ⟨rfl, .inr ⟨W.heap.size, 1, #[.int .u8 (x : Int)], rfl, Nat.le_refl _, heap_new _ _, Nat.le_refl _, by unfold maxLen; omega, rfl, rfl⟩⟩
end Go.Proofs.YtaadpiimcaabkaaGreatDoor

namespace Go.Proofs.YtaadpiimcaabkaaGreatDoor
open Go.RowKit Go.Lib
attribute [local go_sem ↓] Go.wp_at_zero Go.wp_at_succ

theorem Bytes.up {base : Nat} {W w : World} {v : Value} {l : List Nat} (h : Bytes base W v l) (hb : Below W.heap.size W w) : Bytes base w v l := by
  unfold Bytes at h ⊢
  obtain ⟨h1, ⟨rfl, h0⟩ | ⟨g, c, cur, rfl, h2, h3, h4⟩⟩ := h
  · exact ⟨h1, .inl ⟨rfl, h0⟩⟩
  · exact ⟨h1, .inr ⟨g, c, cur, rfl, h2, (hb.block g (Array.getElem?_eq_some_iff.1 h3).1).trans h3, h4⟩⟩
theorem byt_34 : Byt [34] := fun x hx => by rw [List.mem_singleton.1 hx]; decide
theorem Bytes.base_le {base : Nat} {W : World} {v : Value} {l : List Nat} (h : Bytes base W v l) : ∀ b, v.ownBlock = some b → base ≤ b := fun b hb => by
  unfold Bytes at h
  exact (h.lt b hb).1
theorem Bytes.shape {base : Nat} {W : World} {v : Value} {l : List Nat} (h : Bytes base W v l) : ∃ a n c, v = .slice a n c := by
  obtain ⟨a, c, rfl, _⟩ := h.has
  exact ⟨_, _, _, rfl⟩
end Go.Proofs.YtaadpiimcaabkaaGreatDoor
