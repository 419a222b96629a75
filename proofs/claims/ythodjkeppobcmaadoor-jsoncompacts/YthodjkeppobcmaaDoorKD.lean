import Derived.Test.YthodjkeppobcmaaDoorKC
import Derived.Test.YthodjkeppobcmaaDoorJ18
import Derived.Outline

namespace Go.Proofs.YthodjkeppobcmaaDoor
open Go.RowKit Go.Lib
attribute [local go_sem ↓] Go.wp_at_zero Go.wp_at_succ

def hf (L : List Nat) : Option Nat := if L.length < 6 ∨ ¬ (bt L 0 = 92 ∧ bt L 1 = 117) then none else nval 16 65535 ((L.drop 2).take 4) 0
def numO (r r2 : Option Nat) : Nat := match r with
  | none => 0
  | some a => if 56320 ≤ a ∧ a ≤ 57343 then 0 else if a < 55296 ∨ 56319 < a then 6 else match r2 with
    | none => 0
    | some b => if 56320 ≤ b ∧ b ≤ 57343 then 12 else 0
def numS (L : List Nat) : Nat := numO (hf L) (hf (L.drop 6))
def escN (L : List Nat) : Nat := if L.length < 2 then 0 else if isPl (bt L 1) = true then 2 else numS L
theorem bt_drop (L : List Nat) (i k : Nat) : bt (L.drop i) k = bt L (i + k) := by
  unfold bt
  rw [List.getD_eq_getElem?_getD, List.getD_eq_getElem?_getD, List.getElem?_drop]
theorem hf_drop (L : List Nat) (i : Nat) : hf (L.drop i) = if bt L i = 92 ∧ bt L (i + 1) = 117 then hx4 L (i + 2) else none := by
  unfold hf hx4
  rw [bt_drop, bt_drop, List.length_drop, List.drop_drop, Nat.add_zero]
  by_cases h : bt L i = 92 ∧ bt L (i + 1) = 117
  · rw [if_pos h]
    by_cases h2 : L.length - i < 6
    · rw [if_pos (.inl h2), if_neg (by omega)]
    · rw [if_neg (fun q => q.elim h2 (fun k => k h)), if_pos (by omega)]
  · rw [if_neg h, if_pos (.inr h)]
theorem escN_drop {L : List Nat} {i : Nat} (h : bt L i = 92) : escN (L.drop i) = escS L i := by
  unfold escN escS numS escT numO
  rw [hf_drop, bt_drop, List.length_drop, List.drop_drop, hf_drop, show i + 6 + 1 = i + 7 by omega, show i + 6 + 2 = i + 8 by omega]
  by_cases h1 : L.length - i < 2
  · rw [if_pos h1, if_pos (show L.length < i + 2 by omega)]
  · rw [if_neg h1, if_neg (show ¬ L.length < i + 2 by omega)]
    by_cases h2 : isPl (bt L (i + 1)) = true
    · rw [if_pos h2, if_pos h2]
    · rw [if_neg h2, if_neg h2]
      by_cases h3 : bt L (i + 1) = 117
      · rw [if_pos ⟨h, h3⟩, if_pos h3]
        cases hx4 L (i + 2) with
        | none => rfl
        | some a =>
          simp only
          split
          · rfl
          · split
            · rfl
            · by_cases h5 : bt L (i + 6) = 92 ∧ bt L (i + 7) = 117
              · rw [if_pos h5, if_pos h5]
                cases hx4 L (i + 8) <;> rfl
              · rw [if_neg h5, if_neg h5]
      · rw [if_neg (fun q => h3 q.2), if_neg h3]
theorem nval_le {B M : Nat} : ∀ (l : List Nat) (n u : Nat), n ≤ M → nval B M l n = some u → u ≤ M := by
  intro l
  induction l with
  | nil => intro n u h e; cases e; exact h
  | cons c r ih =>
    intro n u h e
    unfold nval at e
    split at e
    · cases e
    · split at e
      · rename_i q
        exact ih _ _ q.2 e
      · cases e
theorem hf_le {L : List Nat} {u : Nat} (h : hf L = some u) : u ≤ 65535 := by
  unfold hf at h
  split at h
  · cases h
  · exact nval_le _ _ _ (by omega) h
/-- What half answers. -/
def HfR (W : World) (r : Option Nat) (e : Ending) (w : World) : Prop := (∃ (n : Int) (ok : Bool), e = .returned (.tuple #[.int .i32 n, .bool ok]) ∧ (match r with
  | some u => n = (u : Int) ∧ ok = true
  | none => ok = false)) ∧ Below W.heap.size W w
theorem two_list {s : ByteArray} (h : 2 ≤ s.size) : (s.extract 0 2).toList = [(bt (strN s) 0).toUInt8, (bt (strN s) 1).toUInt8] := by
  obtain ⟨d⟩ := s
  obtain ⟨l⟩ := d
  match l, h with
  | a :: b :: r, _ =>
    rw [ByteArray.toList_eq]
    simp [bt, strN, ByteArray.extract, ByteArray.copySlice]
theorem strN_ext (s : ByteArray) (a b : Nat) : strN (s.extract a b) = ((strN s).drop a).take (b - a) := by
  unfold strN
  rw [Lib.extract_data]
  simp [List.map_take, List.map_drop]
theorem u8_ne {x k : Nat} (hx : x < 256) (hk : k < 256) (h : x ≠ k) : (UInt8.ofNat x == UInt8.ofNat k) = false := by
  rw [beq_eq_false_iff_ne]
  intro e
  exact h (by rw [← u8_back hx, ← u8_back hk, e])
set_option maxRecDepth 100000 in
set_option maxHeartbeats 1000000 in
theorem half_any {W : World} (hE : HasE W) (s : ByteArray) (hs : s.size ≤ 67108864) : Calls Tryd.prog 62 #[.string s] W (HfR W (hf (strN s))) := by
  have hb0 := hide (Below.refl W.heap.size W)
  by_cases h6 : s.size < 6
  · have hr : hf (strN s) = none := by unfold hf; rw [if_pos (.inl (by rw [strN_len]; exact h6))]
    rw [hr]
    go_enter Tryd.func62, Tryd.ntmps62
    go_wp2
    go_ret2
    exact ⟨⟨_, _, rfl, rfl⟩, unhide hb0⟩
  · have h2 := two_list (s := s) (by omega)
    have h6b : decide ((s.size : Int) < 6) = false := by simp; omega
    by_cases hk : bt (strN s) 0 = 92 ∧ bt (strN s) 1 = 117
    · have q0 : (UInt8.ofNat (bt (strN s) 0) == 92) = true := by rw [hk.1]; rfl
      have q1 : (UInt8.ofNat (bt (strN s) 1) == 117) = true := by rw [hk.2]; rfl
      have hr : hf (strN s) = nval 16 65535 (strN (s.extract 2 6)) 0 := by
        rw [strN_ext]
        unfold hf
        rw [if_neg (fun q => q.elim (fun k => h6 (by rw [strN_len] at k; exact k)) (fun k => k hk))]
      have hle : ∀ u, hf (strN s) = some u → u ≤ 65535 := fun u h => hf_le h
      rw [hr] at hle ⊢
      have hsz : (s.extract 2 6).size = 4 := by rw [extract_size _ _ _ (by omega)]
      have HC := hide (sparse_any hE (s.extract 2 6) (by rw [hsz]; omega) 16 65535 16 16 (parse16_16_full W _ (by rw [hsz]; omega) (by rw [hsz]; omega)))
      obtain ⟨x, hx⟩ : ∃ x, s.extract 2 6 = x := ⟨_, rfl⟩
      rw [hx] at HC hle hsz ⊢
      have Hx := hide hx
      have Hle := hide hle
      have Hsz := hide hsz
      clear hr hk hE hsz hle
      go_enter Tryd.func62, Tryd.ntmps62
      go_wp2_with fail
      refine (unhide HC).mono ?_
      rintro e w ⟨hb, ⟨u, rfl, _, hu⟩ | ⟨u, p, rfl, hu⟩⟩
      · have hl := unhide Hle u hu
        have Hu := hide hu
        have Hb := hide hb
        have hw : IntKind.i32.wrap (u : Int) = (u : Int) := by rw [IntKind.wrap_i32]; omega
        clear hu hb
        go_wp2_with fail
        go_region
        all_goals (
          go_wp2_with fail
          go_ret2
          refine ⟨⟨_, _, rfl, ?_⟩, (unhide Hb).os, (unhide Hb).tape, (unhide Hb).output, (unhide Hb).size, (unhide Hb).block⟩
          rw [unhide Hu]
          exact ⟨rfl, rfl⟩)
      · have Hu : Hid (nval 16 65535 (strN x) 0 = none) := hu.resolve_left (by rw [unhide Hsz]; omega)
        have Hb := hide hb
        clear hu hb
        go_wp2_with fail
        go_region
        all_goals (
          go_wp2_with fail
          go_ret2
          refine ⟨⟨_, _, rfl, ?_⟩, (unhide Hb).os, (unhide Hb).tape, (unhide Hb).output, (unhide Hb).size, (unhide Hb).block⟩
          rw [unhide Hu])
    · have hr : hf (strN s) = none := by unfold hf; rw [if_pos (.inr hk)]
      rw [hr]
      have q : ((UInt8.ofNat (bt (strN s) 0) == 92) = false) ∨ ((UInt8.ofNat (bt (strN s) 0) == 92) = true ∧ (UInt8.ofNat (bt (strN s) 1) == 117) = false) := by
        by_cases k : bt (strN s) 0 = 92
        · refine .inr ⟨by rw [k]; rfl, ?_⟩
          exact u8_ne (k := 117) (bt_256 s 1) (by omega) (fun e => hk ⟨k, e⟩)
        · exact .inl (u8_ne (k := 92) (bt_256 s 0) (by omega) k)
      clear hr hk hE
      rcases q with q0 | ⟨q0, q1⟩
      all_goals (
        go_enter Tryd.func62, Tryd.ntmps62
        go_wp2_with fail
        go_ret2
        exact ⟨⟨_, _, rfl, rfl⟩, unhide hb0⟩)
def NmR (W : World) (n : Nat) (e : Ending) (w : World) : Prop := (∃ k : Int, e = .returned (.tuple #[.int .i32 k, .int .i64 (n : Int)])) ∧ Below W.heap.size W w
set_option maxRecDepth 100000 in
set_option maxHeartbeats 1000000 in
theorem numbered_any {W : World} (hE : HasE W) (s : ByteArray) (hs : s.size ≤ 67108864) : Calls Tryd.prog 60 #[.string s] W (NmR W (numS (strN s))) := by
  have HC := hide (half_any hE s hs)
  have HS : Hid (∀ w, Below W.heap.size W w → 6 ≤ s.size → Calls Tryd.prog 62 #[.string (s.extract 6 s.size)] w (HfR w (hf ((strN s).drop 6)))) := fun w hb h6 => by
    have := half_any (hE.up hb) (s.extract 6 s.size) (by rw [extract_size _ _ _ (Nat.le_refl _)]; omega)
    rw [strN_ext] at this
    rw [List.take_of_length_le (by rw [List.length_drop, strN_len]; omega)] at this
    exact this
  obtain ⟨r, hr⟩ : ∃ r, hf (strN s) = r := ⟨_, rfl⟩
  have hl6 : ∀ a, r = some a → a ≤ 65535 ∧ 6 ≤ s.size := fun a e => by
    rw [e] at hr
    refine ⟨hf_le hr, ?_⟩
    rw [← strN_len]
    unfold hf at hr
    split at hr
    · cases hr
    · omega
  rw [hr] at HC
  rw [show numS (strN s) = numO (hf (strN s)) (hf ((strN s).drop 6)) from rfl, hr]
  clear hr hE
  have Hl6 := hide hl6
  clear hl6
  cases r with
  | none =>
    go_enter Tryd.func60, Tryd.ntmps60
    go_wp2_with fail
    refine (unhide HC).mono ?_
    rintro e w ⟨⟨n, ok, rfl, rfl⟩, hb⟩
    have Hb := hide hb
    clear hb
    go_wp2_with fail
    go_ret2
    exact ⟨⟨_, rfl⟩, unhide Hb⟩
  | some a =>
    obtain ⟨a1, a2⟩ := unhide Hl6 a rfl
    have A1 := hide a1
    clear a1
    simp only [numO]
    by_cases h1 : 56320 ≤ a ∧ a ≤ 57343
    · rw [if_pos h1]
      obtain ⟨h1a, h1b⟩ := h1
      have i1 : (56320 : Int) ≤ (a : Int) := by omega
      have i2 : (a : Int) ≤ 57343 := by omega
      go_enter Tryd.func60, Tryd.ntmps60
      go_wp2_with fail
      refine (unhide HC).mono ?_
      rintro e w ⟨⟨n, ok, rfl, rfl, rfl⟩, hb⟩
      have Hb := hide hb
      clear hb
      go_wp2_with fail
      go_ret2
      exact ⟨⟨_, rfl⟩, unhide Hb⟩
    · rw [if_neg h1]
      by_cases h2 : a < 55296 ∨ 56319 < a
      · rw [if_pos h2]
        have q : (decide ((a : Int) < 55296) = true ∧ decide (56320 ≤ (a : Int)) = false) ∨ (decide ((a : Int) < 55296) = false ∧ decide (56320 ≤ (a : Int)) = true ∧ decide ((a : Int) ≤ 57343) = false ∧ decide (56319 < (a : Int)) = true) := by simp; omega
        clear h1 h2
        rcases q with ⟨q1, q2⟩ | ⟨q1, q2, q3, q4⟩
        all_goals (
          go_enter Tryd.func60, Tryd.ntmps60
          go_wp2_with fail
          refine (unhide HC).mono ?_
          rintro e w ⟨⟨n, ok, rfl, rfl, rfl⟩, hb⟩
          have Hb := hide hb
          clear hb
          go_wp2_with fail
          go_ret2
          exact ⟨⟨_, rfl⟩, unhide Hb⟩)
      · rw [if_neg h2]
        have q1 : decide ((a : Int) < 55296) = false := by simp; omega
        have q2 : decide (56319 < (a : Int)) = false := by simp; omega
        have q3 : decide (56320 ≤ (a : Int)) = false := by simp; omega
        have hle : ∀ b, hf ((strN s).drop 6) = some b → b ≤ 65535 := fun b h => hf_le h
        obtain ⟨r2, hr2⟩ : ∃ r, hf ((strN s).drop 6) = r := ⟨_, rfl⟩
        rw [hr2] at HS hle ⊢
        clear h1 h2 hr2 hle
        cases r2 with
        | none =>
          simp only
          go_enter Tryd.func60, Tryd.ntmps60
          go_wp2_with fail
          refine (unhide HC).mono ?_
          rintro e w ⟨⟨n, ok, rfl, rfl, rfl⟩, hb⟩
          have Hb := hide hb
          have HC2 := hide (unhide HS w hb a2)
          clear hb HS HC
          go_wp2_with fail
          refine (unhide HC2).mono ?_
          clear q1 q2 q3 a2 HC2 Hl6
          rintro e w2 ⟨⟨n, ok, rfl, rfl⟩, hb⟩
          have Hb2 := hide ((unhide Hb).trans (hb.mono (unhide Hb).size))
          clear hb
          go_wp2_with fail
          go_ret2
          exact ⟨⟨_, rfl⟩, unhide Hb2⟩
        | some b =>
          simp only
          by_cases h3 : 56320 ≤ b ∧ b ≤ 57343
          · rw [if_pos h3]
            have k1 : decide ((b : Int) < 56320) = false := by simp; omega
            have k2 : decide (57343 < (b : Int)) = false := by simp; omega
            clear h3
            go_enter Tryd.func60, Tryd.ntmps60
            go_wp2_with fail
            refine (unhide HC).mono ?_
            rintro e w ⟨⟨n, ok, rfl, rfl, rfl⟩, hb⟩
            have Hb := hide hb
            have HC2 := hide (unhide HS w hb a2)
            clear hb HS HC
            go_wp2_with fail
            refine (unhide HC2).mono ?_
            clear q1 q2 q3 a2 HC2 Hl6
            rintro e w2 ⟨⟨n, ok, rfl, rfl, rfl⟩, hb⟩
            have Hb2 := hide ((unhide Hb).trans (hb.mono (unhide Hb).size))
            clear hb
            go_wp2_with fail
            go_ret2
            exact ⟨⟨_, rfl⟩, unhide Hb2⟩
          · rw [if_neg h3]
            have q : (decide ((b : Int) < 56320) = true) ∨ (decide ((b : Int) < 56320) = false ∧ decide (57343 < (b : Int)) = true) := by simp; omega
            clear h3
            rcases q with k1 | ⟨k1, k2⟩
            all_goals (
              go_enter Tryd.func60, Tryd.ntmps60
              go_wp2_with fail
              refine (unhide HC).mono ?_
              rintro e w ⟨⟨n, ok, rfl, rfl, rfl⟩, hb⟩
              have Hb := hide hb
              have HC2 := hide (unhide HS w hb a2)
              clear hb HS HC
              go_wp2_with fail
              refine (unhide HC2).mono ?_
              clear q1 q2 q3 a2 HC2 Hl6
              rintro e w2 ⟨⟨n, ok, rfl, rfl, rfl⟩, hb⟩
              have Hb2 := hide ((unhide Hb).trans (hb.mono (unhide Hb).size))
              clear hb
              go_wp2_with fail
              go_ret2
              exact ⟨⟨_, rfl⟩, unhide Hb2⟩)
end Go.Proofs.YthodjkeppobcmaaDoor
