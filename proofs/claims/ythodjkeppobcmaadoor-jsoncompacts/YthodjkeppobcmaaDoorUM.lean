import Derived.Test.YthodjkeppobcmaaDoorJ03
import Derived.Lib.Strings

namespace Go.Proofs.YthodjkeppobcmaaDoor
open Go.RowKit
attribute [local go_sem ↓] Go.wp_at_zero Go.wp_at_succ

/-- How many bytes follow a first byte, and the bounds of the second. -/
def frm (x : Nat) : Option (Nat × Nat × Nat) :=
  if x < 128 then some (0, 0, 0) else if x < 194 then none else if x < 224 then some (1, 128, 191) else if x = 224 then some (2, 160, 191) else if x < 237 then some (2, 128, 191)
  else if x = 237 then some (2, 128, 159) else if x < 240 then some (2, 128, 191) else if x = 240 then some (3, 144, 191) else if x < 244 then some (3, 128, 191) else if x = 244 then some (3, 128, 143) else none
theorem byteAt_lt (s : ByteArray) (i : Nat) : byteAt s i < 256 := by
  unfold byteAt
  split
  · exact UInt8.toNat_lt _
  · decide
theorem byteAt_eq (s : ByteArray) (i : Nat) (h : i < s.size) : byteAt s i = (s[i]'h).toNat := by unfold byteAt; rw [dif_pos h]
theorem extract_size (s : ByteArray) (k n : Nat) (hn : n ≤ s.size) : (s.extract k n).size = n - k := by
  simp [ByteArray.size_extract]
  omega
theorem byteAt_extract (s : ByteArray) (k n i : Nat) (hn : n ≤ s.size) (hi : k + i < n) : byteAt (s.extract k n) i = byteAt s (k + i) := by
  rw [byteAt_eq _ _ (by rw [extract_size s k n hn]; omega), byteAt_eq _ _ (by omega)]
  rw [ByteArray.getElem_extract]
def LenOkAt (s : ByteArray) (k c d e : Nat) : Prop := k + 1 + c ≤ s.size ∧ ∀ j, 1 ≤ j → j < 1 + c → (if j = 1 then d else 128) ≤ byteAt s (k + j) ∧ byteAt s (k + j) ≤ (if j = 1 then e else 191)
instance (s : ByteArray) (k c d e : Nat) : Decidable (LenOkAt s k c d e) := decidable_of_iff (k + 1 + c ≤ s.size ∧ ∀ j, j < 1 + c → 1 ≤ j → (if j = 1 then d else 128) ≤ byteAt s (k + j) ∧ byteAt s (k + j) ≤ (if j = 1 then e else 191)) ⟨fun h => ⟨h.1, fun j h1 h2 => h.2 j h2 h1⟩, fun h => ⟨h.1, fun j h1 h2 => h.2 j h2 h1⟩⟩
/-- How many bytes the character has that begins there, 0 if none does. -/
noncomputable def chAt (s : ByteArray) (k : Nat) : Nat := match frm (byteAt s k) with
  | none => 0
  | some (c, d, e) => if LenOkAt s k c d e then 1 + c else 0
theorem chAt_none {s : ByteArray} {k : Nat} (h : frm (byteAt s k) = none) : chAt s k = 0 := by unfold chAt; rw [h]
theorem chAt_ok {s : ByteArray} {k c d e : Nat} (h : frm (byteAt s k) = some (c, d, e)) (h2 : LenOkAt s k c d e) : chAt s k = 1 + c := by unfold chAt; rw [h]; simp [h2]
theorem chAt_no {s : ByteArray} {k c d e : Nat} (h : frm (byteAt s k) = some (c, d, e)) (h2 : ¬ LenOkAt s k c d e) : chAt s k = 0 := by unfold chAt; rw [h]; simp [h2]
theorem frm_le {x c d e : Nat} (h : frm x = some (c, d, e)) : c ≤ 3 := by
  unfold frm at h
  repeat' split at h
  all_goals first | (cases h; done) | (have := Option.some.inj h; simp at this; omega)
theorem chAt_le (s : ByteArray) (k : Nat) (hk : k ≤ s.size) : k + chAt s k ≤ s.size ∧ chAt s k ≤ 4 := by
  cases hf : frm (byteAt s k) with
  | none => rw [chAt_none hf]; omega
  | some t =>
    obtain ⟨c, d, e⟩ := t
    have := frm_le hf
    by_cases h : LenOkAt s k c d e
    · rw [chAt_ok hf h]; have := h.1; omega
    · rw [chAt_no hf h]; omega
theorem frm_forms : ∀ (i : Fin 9) (x : Fin 256), (forms[i.val]?.any fun f => decide (f.1 ≤ (x.val : Int)) && decide ((x.val : Int) ≤ f.2.1)) = true → (forms[i.val]?.any fun f => decide ((frm x.val).map (fun (t : Nat × Nat × Nat) => ((t.1 : Int), (t.2.1 : Int), (t.2.2 : Int))) = some (f.2.2.1, f.2.2.2.1, f.2.2.2.2))) = true := by decide +kernel
theorem frm_noform : ∀ (x : Fin 256), (forms.all fun f => !(decide (f.1 ≤ (x.val : Int)) && decide ((x.val : Int) ≤ f.2.1))) = true → frm x.val = none := by decide +kernel
theorem lenSays_at {s : ByteArray} {k c d e : Nat} {n : Int} (hk : k < s.size) (h : LenSays (s.extract k s.size) c (d : Int) (e : Int) n) : (n = 1 + (c : Int) ∧ LenOkAt s k c d e) ∨ (n = 0 ∧ ¬ LenOkAt s k c d e) := by
  have hz := extract_size s k s.size (Nat.le_refl _)
  have key : LenOk (s.extract k s.size) c (d : Int) (e : Int) ↔ LenOkAt s k c d e := by
    unfold LenOk LenOkAt
    constructor
    · rintro ⟨h1, h2⟩
      rw [hz] at h1
      refine ⟨by omega, fun j j1 j2 => ?_⟩
      have := h2 j j1 j2
      rw [byteAt_extract s k s.size j (Nat.le_refl _) (by omega)] at this
      split at this <;> split <;> omega
    · rintro ⟨h1, h2⟩
      refine ⟨by rw [hz]; omega, fun j j1 j2 => ?_⟩
      have := h2 j j1 j2
      rw [byteAt_extract s k s.size j (Nat.le_refl _) (by omega)]
      split at this <;> split <;> omega
  rcases h with ⟨h1, h2⟩ | ⟨h1, h2⟩
  · exact .inl ⟨h1, key.1 h2⟩
  · exact .inr ⟨h1, mt key.2 h2⟩
theorem charSays_at {s : ByteArray} {k : Nat} {n : Int} (hk : k < s.size) (h : CharSays (s.extract k s.size) n) : n = (chAt s k : Int) := by
  have hb0 : byteAt (s.extract k s.size) 0 = byteAt s k := by rw [byteAt_extract s k s.size 0 (Nat.le_refl _) (by omega)]; rfl
  have hlt := byteAt_lt s k
  rcases h with ⟨i, a, b, c, d, e, hf, h1, h2, h3⟩ | ⟨hno, rfl⟩
  · rw [hb0] at h1 h2
    have hi : i < 9 := by have := (List.getElem?_eq_some_iff.1 hf).1; rw [forms_len] at this; exact this
    have q := frm_forms ⟨i, hi⟩ ⟨byteAt s k, hlt⟩ (by simp only [hf, Option.any_some]; simp [h1, h2])
    simp only [hf, Option.any_some, decide_eq_true_eq] at q
    obtain ⟨⟨c', d', e'⟩, hfr, hq⟩ := Option.map_eq_some_iff.1 q
    simp only [Prod.mk.injEq] at hq
    obtain ⟨q1, q2, q3⟩ := hq
    obtain rfl : c' = c := by omega
    rw [← q2, ← q3] at h3
    rcases lenSays_at hk h3 with ⟨rfl, h4⟩ | ⟨rfl, h4⟩
    · rw [chAt_ok hfr h4]; omega
    · rw [chAt_no hfr h4]; rfl
  · have : frm (byteAt s k) = none := frm_noform ⟨byteAt s k, hlt⟩ (by
      rw [List.all_eq_true]
      intro f hf
      obtain ⟨j, hj⟩ := List.getElem?_of_mem hf
      have := hno j f.1 f.2.1 f.2.2.1 f.2.2.2.1 f.2.2.2.2 hj
      rw [hb0] at this
      simp only [Bool.not_eq_true', Bool.and_eq_false_iff, decide_eq_false_iff_not]
      by_cases q : f.1 ≤ (byteAt s k : Int)
      · exact .inr (fun q2 => this ⟨q, q2⟩)
      · exact .inl q)
    rw [chAt_none this]
    rfl

/-- The first place from k on at which no character begins, or -1. -/
noncomputable def utfAt (s : ByteArray) (k : Nat) : Int :=
  if _h : k < s.size then if _h2 : chAt s k = 0 then (k : Int) else utfAt s (k + chAt s k) else -1
termination_by s.size - k
decreasing_by omega
theorem utf_end {s : ByteArray} {k : Nat} (h : ¬ k < s.size) : utfAt s k = -1 := by rw [utfAt, dif_neg h]
theorem utf_bad {s : ByteArray} {k : Nat} (h : k < s.size) (h2 : chAt s k = 0) : utfAt s k = (k : Int) := by rw [utfAt, dif_pos h, dif_pos h2]
theorem utf_step {s : ByteArray} {k : Nat} (h : k < s.size) (h2 : ¬ chAt s k = 0) : utfAt s k = utfAt s (k + chAt s k) := by rw [utfAt, dif_pos h, dif_neg h2]

set_option maxRecDepth 100000 in
set_option maxHeartbeats 1000000 in
theorem utf8_any {W : World} (h : HasF W) (s : ByteArray) (hs : s.size ≤ 140737488351232) :
    Calls Tryd.prog 12 #[.string s] W fun e w => e = .returned (.int .i64 (utfAt s 0)) ∧ Below W.heap.size W w := by
  have hb0 := Below.refl W.heap.size W
  go_enter Tryd.func12, Tryd.ntmps12
  go_wp2
  go_loopg [3, 4] s.size (fun gk v3 _ wr => ∃ (k : Nat), v3 = .int .i64 (k : Int) ∧ gk = s.size - k ∧ k ≤ s.size ∧ Hid (Below W.heap.size W wr) ∧ Hid (utfAt s 0 = utfAt s k))
  case atStart => exact ⟨0, rfl, rfl, by omega, hb0, rfl⟩
  case round =>
    obtain ⟨k, rfl, hgk, hk, HB, Hu⟩ := hrel
    have Hgk := hide hgk
    clear hgk
    by_cases hlt : k < s.size
    · have hx := extract_size s k s.size (Nat.le_refl _)
      go_wp2_with fail
      refine (char_any (h.up (unhide HB)) (s.extract k s.size) (by omega) (by omega)).mono ?_
      rintro e w2 ⟨hb2, n, rfl, hn⟩
      obtain rfl := charSays_at hlt hn
      have HB2 : Hid (Below W.heap.size W w2) := (unhide HB).trans (hb2.mono (unhide HB).size)
      obtain ⟨q1, q2⟩ := chAt_le s k hk
      clear hn hb2 hx HB
      by_cases h0 : chAt s k = 0
      · have Hr : Hid (utfAt s 0 = (k : Int)) := (unhide Hu).trans (utf_bad hlt h0)
        rw [h0]
        clear h0 q1 q2
        go_wp2
        go_ret
        exact ⟨by rw [unhide Hr]; rfl, unhide HB2⟩
      · have Hr : Hid (utfAt s 0 = utfAt s (k + chAt s k)) := (unhide Hu).trans (utf_step hlt h0)
        obtain ⟨n, hn⟩ : ∃ n, n = chAt s k := ⟨_, rfl⟩
        rw [← hn] at h0 q1 q2 Hr ⊢
        have n0 : ((n : Int) == 0) = false := by simp; omega
        clear hn
        go_wp2
        go_roundg (s.size - (k + n))
        case measure => have := unhide Hgk; omega
        case rel => exact ⟨k + n, by go_num, rfl, by omega, HB2, Hr⟩
    · have Hr : Hid (utfAt s 0 = -1) := (unhide Hu).trans (utf_end hlt)
      obtain rfl : k = s.size := by omega
      go_wp2
      go_ret
      exact ⟨by rw [unhide Hr]; rfl, unhide HB⟩
end Go.Proofs.YthodjkeppobcmaaDoor
