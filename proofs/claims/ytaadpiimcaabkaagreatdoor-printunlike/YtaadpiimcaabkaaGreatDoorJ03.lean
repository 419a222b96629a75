import Derived.Test.YtaadpiimcaabkaaGreatDoorJ00
import Derived.Lib.Strings

namespace Go.Proofs.YtaadpiimcaabkaaGreatDoor
open Go.RowKit
attribute [local go_sem ↓] Go.wp_at_zero Go.wp_at_succ

/-- The forms of the characters. -/
def forms : List (Int × Int × Int × Int × Int) := [(0, 127, 0, 0, 0), (194, 223, 1, 128, 191), (224, 224, 2, 160, 191), (225, 236, 2, 128, 191), (237, 237, 2, 128, 159), (238, 239, 2, 128, 191), (240, 240, 3, 144, 191), (241, 243, 3, 128, 191), (244, 244, 3, 128, 143)]
/-- The package's table lies in its block. -/
def HasF (W : World) : Prop := 0 < W.heap.size ∧ ∀ i a b c d e, forms[i]? = some (a, b, c, d, e) → W.cell? ⟨0, i * 5, none⟩ = some (.int .u8 a) ∧ W.cell? ⟨0, i * 5 + 1, none⟩ = some (.int .u8 b) ∧ W.cell? ⟨0, i * 5 + 2, none⟩ = some (.int .u8 c) ∧ W.cell? ⟨0, i * 5 + 3, none⟩ = some (.int .u8 d) ∧ W.cell? ⟨0, i * 5 + 4, none⟩ = some (.int .u8 e)
theorem HasF.up {W w : World} (h : HasF W) (hb : Below W.heap.size W w) : HasF w :=
  ⟨Nat.lt_of_lt_of_le h.1 hb.size, fun i a b c d e hf => by
    obtain ⟨q0, q1, q2, q3, q4⟩ := h.2 i a b c d e hf
    exact ⟨(hb.cell (p := ⟨0, i * 5, none⟩) h.1).trans q0, (hb.cell (p := ⟨0, i * 5 + 1, none⟩) h.1).trans q1, (hb.cell (p := ⟨0, i * 5 + 2, none⟩) h.1).trans q2, (hb.cell (p := ⟨0, i * 5 + 3, none⟩) h.1).trans q3, (hb.cell (p := ⟨0, i * 5 + 4, none⟩) h.1).trans q4⟩⟩
theorem forms_len : forms.length = 9 := rfl
end Go.Proofs.YtaadpiimcaabkaaGreatDoor

namespace Go.Proofs.YtaadpiimcaabkaaGreatDoor
open Go.RowKit
attribute [local go_sem ↓] Go.wp_at_zero Go.wp_at_succ

/-- The byte at a place, 0 behind the end. -/
def byteAt (s : ByteArray) (i : Nat) : Nat := if h : i < s.size then s[i].toNat else 0

def LenOk (s : ByteArray) (c : Nat) (d e : Int) : Prop := 1 + c ≤ s.size ∧ ∀ k, 1 ≤ k → k < 1 + c → (if k = 1 then d else 128) ≤ (byteAt s k : Int) ∧ (byteAt s k : Int) ≤ (if k = 1 then e else 191)
def LenSays (s : ByteArray) (c : Nat) (d e n : Int) : Prop := n = 1 + (c : Int) ∧ LenOk s c d e ∨ n = 0 ∧ ¬ LenOk s c d e

set_option maxRecDepth 100000 in
set_option maxHeartbeats 4000000 in
theorem length_any (W : World) (s : ByteArray) (hs : s.size ≤ 140737488351232) (a b d e : Int) (c : Nat) (hc : c ≤ 3) :
    Calls Tryz.prog 135 #[.agg #[.int .u8 a, .int .u8 b, .int .u8 (c : Int), .int .u8 d, .int .u8 e], .string s] W fun o W' => Below W.heap.size W W' ∧ ∃ n : Int, o = .returned (.int .i64 n) ∧ LenSays s c d e n := by
  have hw : wrap64 (1 + (c : Int)) = 1 + (c : Int) := by rw [wrap64_eq]; omega
  by_cases h : 1 + c ≤ s.size
  · have hd : decide ((s.size : Int) < 1 + (c : Int)) = false := by simp; omega
    go_enter Tryz.func135, Tryz.ntmps135
    go_wp2_with fail
    go_quiet (fail)
    go_wp2
    have hB0 : ∀ n, Below W.heap.size W ((W.alloc (.cells #[.int .u8 a, .int .u8 b, .int .u8 (c : Int), .int .u8 d, .int .u8 e] 167)).drewN n) := fun n => by
      have hB : Below W.heap.size W (W.alloc (.cells #[.int .u8 a, .int .u8 b, .int .u8 (c : Int), .int .u8 d, .int .u8 e] 167)) := (Below.refl _ _).alloc (Nat.le_refl _) _
      exact ⟨hB.os, hB.tape, hB.output, hB.size, hB.block⟩
    go_loopg [6, 7, 8] c (fun gk v6 v7 v8 wr => ∃ (i : Nat) (L H : Int), v8 = .int .i64 (i : Int) ∧ v6 = .int .u8 L ∧ v7 = .int .u8 H ∧ L = (if i = 1 then d else 128) ∧ H = (if i = 1 then e else 191) ∧ 1 ≤ i ∧ i ≤ 1 + c ∧ gk = 1 + c - i ∧ (∀ k, 1 ≤ k → k < i → (if k = 1 then d else 128) ≤ (byteAt s k : Int) ∧ (byteAt s k : Int) ≤ (if k = 1 then e else 191)) ∧ Below W.heap.size W wr)
    case atStart => exact ⟨1, d, e, rfl, rfl, rfl, rfl, rfl, Nat.le_refl _, by omega, by omega, fun k h1 h2 => by omega, hB0 _⟩
    case round =>
      obtain ⟨i, L, H, rfl, rfl, rfl, hL, hH, h1, hi, hgk, hall, hB⟩ := hrel
      clear hB0
      have Hgk := hide hgk
      have Hall := hide hall
      clear hgk hall
      by_cases hlt : i < 1 + c
      · have hsi : i < s.size := by omega
        obtain ⟨x, hx⟩ : ∃ x : Nat, s[i].toNat = x := ⟨_, rfl⟩
        have hbx : byteAt s i = x := by unfold byteAt; rw [dif_pos hsi]; exact hx
        have i0 : (0 : Int) ≤ (i : Int) := Int.natCast_nonneg _
        have i1 : (i : Int) < (s.size : Int) := by clear hw; omega
        have i2 : (i : Int) < 1 + (c : Int) := by clear hw; omega
        have HL := hide hL
        have HH := hide hH
        have Hb := hide hbx
        clear hL hH hbx
        by_cases c1 : (x : Int) < L
        · go_wp2
          go_ret
          clear hw
          exact ⟨hB, 0, rfl, .inr ⟨rfl, fun q => by have q1 := q.2 i h1 hlt; rw [unhide Hb, ← unhide HL, ← unhide HH] at q1; omega⟩⟩
        · have c1' : decide ((x : Int) < L) = false := by simp; omega
          by_cases c2 : H < (x : Int)
          · have C1 := hide c1
            clear c1
            go_wp2
            go_ret
            clear hw
            exact ⟨hB, 0, rfl, .inr ⟨rfl, fun q => by have q1 := q.2 i h1 hlt; rw [unhide Hb, ← unhide HL, ← unhide HH] at q1; omega⟩⟩
          · have c2' : decide (H < (x : Int)) = false := by simp; omega
            have C1 := hide c1
            have C2 := hide c2
            clear c1 c2
            go_wp2
            go_roundg (c - i)
            case measure => have := unhide Hgk; clear hw; omega
            case rel =>
              clear hw
              refine ⟨i + 1, 128, 191, by go_num, rfl, rfl, by rw [if_neg (by omega)], by rw [if_neg (by omega)], by omega, by omega, by omega, fun k k1 k2 => ?_, hB⟩
              by_cases hk : k = i
              · subst hk
                have q1 := unhide C1
                have q2 := unhide C2
                rw [unhide Hb, ← unhide HL, ← unhide HH]
                omega
              · exact unhide Hall k k1 (by omega)
      · obtain rfl : i = 1 + c := by omega
        have hnl : decide ((((1 + c : Nat) : Int)) < 1 + (c : Int)) = false := by simp
        go_wp2
        go_ret
        exact ⟨hB, _, rfl, .inl ⟨rfl, h, unhide Hall⟩⟩
  · have hd : (s.size : Int) < 1 + (c : Int) := by omega
    go_enter Tryz.func135, Tryz.ntmps135
    go_wp2
    go_ret
    exact ⟨(Below.refl _ _).alloc (Nat.le_refl _) _, 0, rfl, .inr ⟨rfl, fun q => h q.1⟩⟩

def CharSays (s : ByteArray) (n : Int) : Prop := (∃ (i : Nat) (a b : Int) (c : Nat) (d e : Int), forms[i]? = some (a, b, (c : Int), d, e) ∧ a ≤ (byteAt s 0 : Int) ∧ (byteAt s 0 : Int) ≤ b ∧ LenSays s c d e n) ∨ ((∀ (i : Nat) (a b c d e : Int), forms[i]? = some (a, b, c, d, e) → ¬ (a ≤ (byteAt s 0 : Int) ∧ (byteAt s 0 : Int) ≤ b)) ∧ n = 0)
theorem forms_more : ∀ (i : Nat) (a b c d e : Int), forms[i]? = some (a, b, c, d, e) → 0 ≤ c ∧ c ≤ 3 := by
  intro i a b c d e h
  have key : ∀ x ∈ forms, 0 ≤ x.2.2.1 ∧ x.2.2.1 ≤ 3 := by decide
  exact key _ (List.mem_of_getElem? h)

set_option maxRecDepth 100000 in
set_option maxHeartbeats 4000000 in
theorem char_any {W : World} (h : HasF W) (s : ByteArray) (hs0 : 0 < s.size) (hs : s.size ≤ 140737488351232) :
    Calls Tryz.prog 92 #[.string s] W fun o W' => Below W.heap.size W W' ∧ ∃ n : Int, o = .returned (.int .i64 n) ∧ CharSays s n := by
  obtain ⟨x, hx⟩ : ∃ x : Nat, s[0].toNat = x := ⟨_, rfl⟩
  have hbx : byteAt s 0 = x := by unfold byteAt; rw [dif_pos hs0]; exact hx
  have Hb := hide hbx
  have hs' : (0 : Int) < (s.size : Int) := by omega
  clear hbx
  go_enter Tryz.func92, Tryz.ntmps92
  go_wp2
  go_loopg [5] 9 (fun gk v5 wr => ∃ (i : Nat), v5 = .int .i64 (i : Int) ∧ gk = 9 - i ∧ i ≤ 9 ∧ (∀ (j : Nat) (a b c d e : Int), j < i → forms[j]? = some (a, b, c, d, e) → ¬ (a ≤ (x : Int) ∧ (x : Int) ≤ b)) ∧ Below W.heap.size W wr)
  case atStart => exact ⟨0, rfl, rfl, by decide, fun j _ _ _ _ _ hj => by omega, Below.refl _ _⟩
  case round =>
    obtain ⟨i, rfl, hgk, hin, hall, hB⟩ := hrel
    have Hgk := hide hgk
    have Hall := hide hall
    clear hgk hall
    by_cases hlt : i < 9
    · obtain ⟨⟨a, b, c', d, e⟩, hf⟩ : ∃ x, forms[i]? = some x := ⟨_, List.getElem?_eq_getElem (by rw [forms_len]; exact hlt)⟩
      obtain ⟨m1, m2⟩ := forms_more i a b c' d e hf
      obtain ⟨c, rfl⟩ : ∃ c : Nat, c' = (c : Int) := ⟨c'.toNat, by omega⟩
      obtain ⟨q0, q1, q2, q3, q4⟩ := (h.up hB).2 i a b c d e hf
      have hi0 : (0 : Int) ≤ (i : Int) := Int.natCast_nonneg _
      have hi1 : (i : Int) < 9 := by omega
      have hc3 : c ≤ 3 := by omega
      have Hf := hide hf
      have hBa : ∀ n, Below W.heap.size W ((wr.alloc (.cells #[.int .u8 a, .int .u8 b, .int .u8 (c : Int), .int .u8 d, .int .u8 e] 167)).drewN n) := fun n => by
        have hB2 := hB.alloc hB.size (.cells #[.int .u8 a, .int .u8 b, .int .u8 (c : Int), .int .u8 d, .int .u8 e] 167)
        exact ⟨hB2.os, hB2.tape, hB2.output, hB2.size, hB2.block⟩
      clear hf m1 m2
      by_cases c1 : a ≤ (x : Int)
      · by_cases c2 : (x : Int) ≤ b
        · go_wp2_with fail
          go_quiet (fail)
          go_wp2_with fail
          refine (length_any _ s hs a b d e c hc3).mono ?_
          rintro o w2 ⟨hb2, n, rfl, hn⟩
          have hB3 := (hBa _).trans (hb2.mono (hBa _).size)
          have Hn := hide hn
          clear hn hBa
          go_wp2
          go_ret
          exact ⟨hB3, n, rfl, .inl ⟨i, a, b, c, d, e, unhide Hf, by rw [unhide Hb]; exact c1, by rw [unhide Hb]; exact c2, unhide Hn⟩⟩
        · have c2' : decide ((x : Int) ≤ b) = false := by simp; omega
          have C2 := hide c2
          clear c2
          go_wp2_with fail
          go_quiet (fail)
          go_wp2
          go_roundg (9 - (i + 1))
          case measure => have := unhide Hgk; omega
          case rel =>
            refine ⟨i + 1, by go_num, rfl, by omega, fun j a' b' c'' d' e' hj hf' => ?_, hBa _⟩
            by_cases hji : j = i
            · subst hji
              obtain ⟨rfl, rfl, _⟩ : a = a' ∧ b = b' ∧ _ := by have := (unhide Hf).symm.trans hf'; simpa using this
              exact fun q => by have := unhide C2; omega
            · exact unhide Hall j a' b' c'' d' e' (by omega) hf'
      · have c1' : decide (a ≤ (x : Int)) = false := by simp; omega
        have C1 := hide c1
        clear c1
        go_wp2_with fail
        go_quiet (fail)
        go_wp2
        go_roundg (9 - (i + 1))
        case measure => have := unhide Hgk; omega
        case rel =>
          refine ⟨i + 1, by go_num, rfl, by omega, fun j a' b' c'' d' e' hj hf' => ?_, hBa _⟩
          by_cases hji : j = i
          · subst hji
            obtain ⟨rfl, rfl, _⟩ : a = a' ∧ b = b' ∧ _ := by have := (unhide Hf).symm.trans hf'; simpa using this
            exact fun q => by have := unhide C1; omega
          · exact unhide Hall j a' b' c'' d' e' (by omega) hf'
    · obtain rfl : i = 9 := by omega
      go_wp2
      go_ret
      refine ⟨hB, 0, rfl, .inr ⟨fun j a b c d e hf => ?_, rfl⟩⟩
      have hj : j < 9 := by have := (List.getElem?_eq_some_iff.1 hf).1; rw [forms_len] at this; exact this
      rw [unhide Hb]
      exact unhide Hall j a b c d e hj hf
end Go.Proofs.YtaadpiimcaabkaaGreatDoor

namespace Go.Proofs.YtaadpiimcaabkaaGreatDoor
open Go.RowKit
attribute [local go_sem ↓] Go.wp_at_zero Go.wp_at_succ

/-- How many bytes follow a first byte, and the bounds of the second. -/
def frm (x : Nat) : Option (Nat × Nat × Nat) :=
  if x < 128 then some (0, 0, 0) else if x < 194 then none else if x < 224 then some (1, 128, 191) else if x = 224 then some (2, 160, 191) else if x < 237 then some (2, 128, 191)
  else if x = 237 then some (2, 128, 159) else if x < 240 then some (2, 128, 191) else if x = 240 then some (3, 144, 191) else if x < 244 then some (3, 128, 191) else if x = 244 then some (3, 128, 143) else none
theorem byteAt_lt (s : ByteArray) (i : Nat) : byteAt s i < 256 := by
  unfold byteAt
  split
  · exact UInt8.toNat_lt _
  · decide
theorem byteAt_eq (s : ByteArray) (i : Nat) (h : i < s.size) : byteAt s i = (s[i]'h).toNat := by unfold byteAt; rw [dif_pos h]
theorem extract_size (s : ByteArray) (k n : Nat) (hn : n ≤ s.size) : (s.extract k n).size = n - k := by
  simp [ByteArray.size_extract]
  omega
theorem byteAt_extract (s : ByteArray) (k n i : Nat) (hn : n ≤ s.size) (hi : k + i < n) : byteAt (s.extract k n) i = byteAt s (k + i) := by
  rw [byteAt_eq _ _ (by rw [extract_size s k n hn]; omega), byteAt_eq _ _ (by omega)]
  rw [ByteArray.getElem_extract]
def LenOkAt (s : ByteArray) (k c d e : Nat) : Prop := k + 1 + c ≤ s.size ∧ ∀ j, 1 ≤ j → j < 1 + c → (if j = 1 then d else 128) ≤ byteAt s (k + j) ∧ byteAt s (k + j) ≤ (if j = 1 then e else 191)
instance (s : ByteArray) (k c d e : Nat) : Decidable (LenOkAt s k c d e) := decidable_of_iff (k + 1 + c ≤ s.size ∧ ∀ j, j < 1 + c → 1 ≤ j → (if j = 1 then d else 128) ≤ byteAt s (k + j) ∧ byteAt s (k + j) ≤ (if j = 1 then e else 191)) ⟨fun h => ⟨h.1, fun j h1 h2 => h.2 j h2 h1⟩, fun h => ⟨h.1, fun j h1 h2 => h.2 j h2 h1⟩⟩
/-- How many bytes the character has that begins there, 0 if none does. -/
noncomputable def chAt (s : ByteArray) (k : Nat) : Nat := match frm (byteAt s k) with
  | none => 0
  | some (c, d, e) => if LenOkAt s k c d e then 1 + c else 0
theorem chAt_none {s : ByteArray} {k : Nat} (h : frm (byteAt s k) = none) : chAt s k = 0 := by unfold chAt; rw [h]
theorem chAt_ok {s : ByteArray} {k c d e : Nat} (h : frm (byteAt s k) = some (c, d, e)) (h2 : LenOkAt s k c d e) : chAt s k = 1 + c := by unfold chAt; rw [h]; simp [h2]
theorem chAt_no {s : ByteArray} {k c d e : Nat} (h : frm (byteAt s k) = some (c, d, e)) (h2 : ¬ LenOkAt s k c d e) : chAt s k = 0 := by unfold chAt; rw [h]; simp [h2]
theorem frm_le {x c d e : Nat} (h : frm x = some (c, d, e)) : c ≤ 3 := by
  unfold frm at h
  repeat' split at h
  all_goals first | (cases h; done) | (have := Option.some.inj h; simp at this; omega)
theorem chAt_le (s : ByteArray) (k : Nat) (hk : k ≤ s.size) : k + chAt s k ≤ s.size ∧ chAt s k ≤ 4 := by
  cases hf : frm (byteAt s k) with
  | none => rw [chAt_none hf]; omega
  | some t =>
    obtain ⟨c, d, e⟩ := t
    have := frm_le hf
    by_cases h : LenOkAt s k c d e
    · rw [chAt_ok hf h]; have := h.1; omega
    · rw [chAt_no hf h]; omega
theorem frm_forms : ∀ (i : Fin 9) (x : Fin 256), (forms[i.val]?.any fun f => decide (f.1 ≤ (x.val : Int)) && decide ((x.val : Int) ≤ f.2.1)) = true → (forms[i.val]?.any fun f => decide ((frm x.val).map (fun (t : Nat × Nat × Nat) => ((t.1 : Int), (t.2.1 : Int), (t.2.2 : Int))) = some (f.2.2.1, f.2.2.2.1, f.2.2.2.2))) = true := by decide +kernel
theorem frm_noform : ∀ (x : Fin 256), (forms.all fun f => !(decide (f.1 ≤ (x.val : Int)) && decide ((x.val : Int) ≤ f.2.1))) = true → frm x.val = none := by decide +kernel
theorem lenSays_at {s : ByteArray} {k c d e : Nat} {n : Int} (hk : k < s.size) (h : LenSays (s.extract k s.size) c (d : Int) (e : Int) n) : (n = 1 + (c : Int) ∧ LenOkAt s k c d e) ∨ (n = 0 ∧ ¬ LenOkAt s k c d e) := by
  have hz := extract_size s k s.size (Nat.le_refl _)
  have key : LenOk (s.extract k s.size) c (d : Int) (e : Int) ↔ LenOkAt s k c d e := by
    unfold LenOk LenOkAt
    constructor
    · rintro ⟨h1, h2⟩
      rw [hz] at h1
      refine ⟨by omega, fun j j1 j2 => ?_⟩
      have := h2 j j1 j2
      rw [byteAt_extract s k s.size j (Nat.le_refl _) (by omega)] at this
      split at this <;> split <;> omega
    · rintro ⟨h1, h2⟩
      refine ⟨by rw [hz]; omega, fun j j1 j2 => ?_⟩
      have := h2 j j1 j2
      rw [byteAt_extract s k s.size j (Nat.le_refl _) (by omega)]
      split at this <;> split <;> omega
  rcases h with ⟨h1, h2⟩ | ⟨h1, h2⟩
  · exact .inl ⟨h1, key.1 h2⟩
  · exact .inr ⟨h1, mt key.2 h2⟩
theorem charSays_at {s : ByteArray} {k : Nat} {n : Int} (hk : k < s.size) (h : CharSays (s.extract k s.size) n) : n = (chAt s k : Int) := by
  have hb0 : byteAt (s.extract k s.size) 0 = byteAt s k := by rw [byteAt_extract s k s.size 0 (Nat.le_refl _) (by omega)]; rfl
  have hlt := byteAt_lt s k
  rcases h with ⟨i, a, b, c, d, e, hf, h1, h2, h3⟩ | ⟨hno, rfl⟩
  · rw [hb0] at h1 h2
    have hi : i < 9 := by have := (List.getElem?_eq_some_iff.1 hf).1; rw [forms_len] at this; exact this
    have q := frm_forms ⟨i, hi⟩ ⟨byteAt s k, hlt⟩ (by simp only [hf, Option.any_some]; simp [h1, h2])
    simp only [hf, Option.any_some, decide_eq_true_eq] at q
    obtain ⟨⟨c', d', e'⟩, hfr, hq⟩ := Option.map_eq_some_iff.1 q
    simp only [Prod.mk.injEq] at hq
    obtain ⟨q1, q2, q3⟩ := hq
    obtain rfl : c' = c := by omega
    rw [← q2, ← q3] at h3
    rcases lenSays_at hk h3 with ⟨rfl, h4⟩ | ⟨rfl, h4⟩
    · rw [chAt_ok hfr h4]; omega
    · rw [chAt_no hfr h4]; rfl
  · have : frm (byteAt s k) = none := frm_noform ⟨byteAt s k, hlt⟩ (by
      rw [List.all_eq_true]
      intro f hf
      obtain ⟨j, hj⟩ := List.getElem?_of_mem hf
      have := hno j f.1 f.2.1 f.2.2.1 f.2.2.2.1 f.2.2.2.2 hj
      rw [hb0] at this
      simp only [Bool.not_eq_true', Bool.and_eq_false_iff, decide_eq_false_iff_not]
      by_cases q : f.1 ≤ (byteAt s k : Int)
      · exact .inr (fun q2 => this ⟨q, q2⟩)
      · exact .inl q)
    rw [chAt_none this]
    rfl

/-- The first place from k on at which no character begins, or -1. -/
noncomputable def utfAt (s : ByteArray) (k : Nat) : Int :=
  if _h : k < s.size then if _h2 : chAt s k = 0 then (k : Int) else utfAt s (k + chAt s k) else -1
termination_by s.size - k
decreasing_by omega
theorem utf_end {s : ByteArray} {k : Nat} (h : ¬ k < s.size) : utfAt s k = -1 := by rw [utfAt, dif_neg h]
theorem utf_bad {s : ByteArray} {k : Nat} (h : k < s.size) (h2 : chAt s k = 0) : utfAt s k = (k : Int) := by rw [utfAt, dif_pos h, dif_pos h2]
theorem utf_step {s : ByteArray} {k : Nat} (h : k < s.size) (h2 : ¬ chAt s k = 0) : utfAt s k = utfAt s (k + chAt s k) := by rw [utfAt, dif_pos h, dif_neg h2]

set_option maxRecDepth 100000 in
set_option maxHeartbeats 1000000 in
theorem utf8_any {W : World} (h : HasF W) (s : ByteArray) (hs : s.size ≤ 140737488351232) :
    Calls Tryz.prog 46 #[.string s] W fun e w => e = .returned (.int .i64 (utfAt s 0)) ∧ Below W.heap.size W w := by
  have hb0 := Below.refl W.heap.size W
  go_enter Tryz.func46, Tryz.ntmps46
  go_wp2
  go_loopg [3, 4] s.size (fun gk v3 _ wr => ∃ (k : Nat), v3 = .int .i64 (k : Int) ∧ gk = s.size - k ∧ k ≤ s.size ∧ Hid (Below W.heap.size W wr) ∧ Hid (utfAt s 0 = utfAt s k))
  case atStart => exact ⟨0, rfl, rfl, by omega, hb0, rfl⟩
  case round =>
    obtain ⟨k, rfl, hgk, hk, HB, Hu⟩ := hrel
    have Hgk := hide hgk
    clear hgk
    by_cases hlt : k < s.size
    · have hx := extract_size s k s.size (Nat.le_refl _)
      go_wp2_with fail
      refine (char_any (h.up (unhide HB)) (s.extract k s.size) (by omega) (by omega)).mono ?_
      rintro e w2 ⟨hb2, n, rfl, hn⟩
      obtain rfl := charSays_at hlt hn
      have HB2 : Hid (Below W.heap.size W w2) := (unhide HB).trans (hb2.mono (unhide HB).size)
      obtain ⟨q1, q2⟩ := chAt_le s k hk
      clear hn hb2 hx HB
      by_cases h0 : chAt s k = 0
      · have Hr : Hid (utfAt s 0 = (k : Int)) := (unhide Hu).trans (utf_bad hlt h0)
        rw [h0]
        clear h0 q1 q2
        go_wp2
        go_ret
        exact ⟨by rw [unhide Hr]; rfl, unhide HB2⟩
      · have Hr : Hid (utfAt s 0 = utfAt s (k + chAt s k)) := (unhide Hu).trans (utf_step hlt h0)
        obtain ⟨n, hn⟩ : ∃ n, n = chAt s k := ⟨_, rfl⟩
        rw [← hn] at h0 q1 q2 Hr ⊢
        have n0 : ((n : Int) == 0) = false := by simp; omega
        clear hn
        go_wp2
        go_roundg (s.size - (k + n))
        case measure => have := unhide Hgk; omega
        case rel => exact ⟨k + n, by go_num, rfl, by omega, HB2, Hr⟩
    · have Hr : Hid (utfAt s 0 = -1) := (unhide Hu).trans (utf_end hlt)
      obtain rfl : k = s.size := by omega
      go_wp2
      go_ret
      exact ⟨by rw [unhide Hr]; rfl, unhide HB⟩
end Go.Proofs.YtaadpiimcaabkaaGreatDoor
