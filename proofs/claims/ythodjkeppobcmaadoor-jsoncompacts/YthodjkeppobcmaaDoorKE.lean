import Derived.Test.YthodjkeppobcmaaDoorKD
import Derived.Outline

namespace Go.Proofs.YthodjkeppobcmaaDoor
open Go.RowKit Go.Lib
attribute [local go_sem ↓] Go.wp_at_zero Go.wp_at_succ

theorem str_at (w : World) (s : ByteArray) (k : IntKind) (n x : Nat) (h : (strN s)[n]? = some x) : (Instr.index 9 (.string s) (.int k (n : Int))).run Tryd.prog w = .ok (.int .u8 (x : Int)) w := by
  have hn : n < s.size := by rw [← strN_len]; exact (List.getElem?_eq_some_iff.1 h).1
  rw [run_index_string (P := Tryd.prog) (h := Tryd.underlying9), dif_pos (by omega)]
  congr 3
  unfold strN at h
  rw [List.getElem?_map] at h
  obtain ⟨b, hb, rfl⟩ := Option.map_eq_some_iff.1 h
  have hd : n < s.data.toList.length := by simpa using hn
  rw [List.getElem?_eq_getElem hd] at hb
  rw [← Option.some.inj hb]
  simp
  rfl
def mean8 : ByteArray := ⟨#[34, 92, 47, 8, 12, 10, 13, 9]⟩
def lett8 : ByteArray := ⟨#[34, 92, 47, 98, 102, 110, 114, 116]⟩
theorem pl_idx {c : Nat} (hc : c < 256) : (isPl c = true ∧ ∃ n x : Nat, firstIdx lett8 (Nat.toUInt8 c) = (n : Int) ∧ (strN mean8)[n]? = some x) ∨ (isPl c = false ∧ firstIdx lett8 (Nat.toUInt8 c) < 0) := by
  have key : ∀ k : Fin 256, (isPl k.val = true ∧ firstIdx lett8 (Nat.toUInt8 k.val) = ((firstIdx lett8 (Nat.toUInt8 k.val)).toNat : Int) ∧ ((strN mean8)[(firstIdx lett8 (Nat.toUInt8 k.val)).toNat]?).isSome = true) ∨ (isPl k.val = false ∧ firstIdx lett8 (Nat.toUInt8 k.val) < 0) := by decide +kernel
  rcases key ⟨c, hc⟩ with ⟨h1, h2, h3⟩ | h1
  · obtain ⟨y, hy⟩ := Option.isSome_iff_exists.1 h3
    exact .inl ⟨h1, _, y, h2, hy⟩
  · exact .inr h1
set_option maxRecDepth 100000 in
set_option maxHeartbeats 1000000 in
theorem escape_any {W : World} (hE : HasE W) (s : ByteArray) (hs : s.size ≤ 67108864) : Calls Tryd.prog 57 #[.string s] W (NmR W (escN (strN s))) := by
  have HN := hide (numbered_any hE s hs)
  have HB := hide (Below.refl W.heap.size W)
  unfold escN
  rw [strN_len]
  clear hE
  by_cases h2 : s.size < 2
  · rw [if_pos h2]
    go_enter Tryd.func57, Tryd.ntmps57
    go_wp2_with fail
    go_ret2
    exact ⟨⟨_, rfl⟩, unhide HB⟩
  · rw [if_neg h2]
    obtain ⟨gx, hx⟩ := bt_str s 1 (by omega)
    have HI : Hid (Calls Tryd.prog 59 #[.string ⟨#[34, 92, 47, 98, 102, 110, 114, 116]⟩, .int .u8 ((bt (strN s) 1 : Nat) : Int)] W fun e w => e = .returned (.int .i64 (firstIdx lett8 (Nat.toUInt8 (bt (strN s) 1)))) ∧ w = W) := idx_nat W lett8 _
    have i1 : (1 : Int) < (s.size : Int) := by omega
    have h2b : decide ((s.size : Int) < 2) = false := by simp; omega
    rcases pl_idx hx with ⟨h1, n, y, h3, h4⟩ | ⟨h1, h3⟩
    · rw [if_pos h1]
      rw [h3] at HI
      have hn0 : (0 : Int) ≤ (n : Int) := Int.natCast_nonneg _
      have ix : ∀ w, (Instr.index 9 (.string ⟨#[34, 92, 47, 8, 12, 10, 13, 9]⟩) (.int .i64 (n : Int))).run Tryd.prog w = .ok (.int .u8 (y : Int)) w := fun w => str_at w mean8 .i64 n y h4
      obtain ⟨x, hxe⟩ : ∃ x, bt (strN s) 1 = x := ⟨_, rfl⟩
      rw [hxe] at HI gx
      clear h1 h3 h4 hx hxe
      go_enter Tryd.func57, Tryd.ntmps57
      go_wp2_with fail
      refine (unhide HI).mono ?_
      rintro e w ⟨rfl, rfl⟩
      go_wp2_with fail
      go_ret2
      exact ⟨⟨_, rfl⟩, unhide HB⟩
    · rw [if_neg (by rw [h1]; decide)]
      obtain ⟨z, hz⟩ : ∃ z, firstIdx lett8 (Nat.toUInt8 (bt (strN s) 1)) = z := ⟨_, rfl⟩
      rw [hz] at HI h3
      have e1 : decide (0 ≤ z) = false := by simp; omega
      obtain ⟨x, hxe⟩ : ∃ x, bt (strN s) 1 = x := ⟨_, rfl⟩
      rw [hxe] at HI gx
      clear h1 h3 hx hxe hz
      go_enter Tryd.func57, Tryd.ntmps57
      go_wp2_with fail
      refine (unhide HI).mono ?_
      rintro e w ⟨rfl, rfl⟩
      go_wp2_with fail
      refine (unhide HN).mono ?_
      rintro e w2 ⟨⟨k, rfl⟩, hb⟩
      have Hb := hide hb
      clear hb
      go_wp2_with fail
      go_ret2
      exact ⟨⟨_, rfl⟩, unhide Hb⟩
set_option maxRecDepth 100000 in
theorem lprefix_any (W : World) (s p : ByteArray) : Calls Tryd.prog 58 #[.string s, .string p] W fun e w => e = .returned (.bool ((s.extract 0 p.size).toList == p.toList)) ∧ w = W := by
  by_cases h : p.size ≤ s.size
  · have i1 : (p.size : Int) ≤ (s.size : Int) := by omega
    go_enter Tryd.func58, Tryd.ntmps58
    go_wp2
    go_ret
    exact ⟨rfl, rfl⟩
  · have i1 : decide ((p.size : Int) ≤ (s.size : Int)) = false := by simp; omega
    have h0 : ((s.extract 0 p.size).toList == p.toList) = false := by
      rw [beq_eq_false_iff_ne]
      intro e
      rw [ByteArray.toList_eq, ByteArray.toList_eq] at e
      have := congrArg List.length e
      simp only [Array.length_toList] at this
      have e2 : (s.extract 0 p.size).size = p.size := this
      rw [ByteArray.size_extract] at e2
      omega
    rw [h0]
    go_enter Tryd.func58, Tryd.ntmps58
    go_wp2
    go_ret
    exact ⟨rfl, rfl⟩
theorem pre_list (s p : ByteArray) (a : Nat) : (((s.extract a s.size).extract 0 p.size).toList == p.toList) = decide (((strN s).drop a).take p.size = strN p) := by
  have e1 : strN ((s.extract a s.size).extract 0 p.size) = ((strN s).drop a).take p.size := by
    rw [strN_ext, strN_ext]
    simp only [List.drop_zero, Nat.sub_zero]
    congr 1
    exact List.take_of_length_le (by rw [List.length_drop, strN_len]; omega)
  rw [← e1, ByteArray.toList_eq, ByteArray.toList_eq, Bool.eq_iff_iff, beq_iff_eq, decide_eq_true_iff]
  unfold strN
  constructor
  · intro e; rw [e]
  · intro e
    exact List.map_inj_right (fun x y h => UInt8.toNat_inj.1 h) |>.1 e
set_option maxRecDepth 100000 in
theorem prefix_any (W : World) (s p : ByteArray) (a : Nat) : Calls Tryd.prog 53 #[.string (s.extract a s.size), .string p] W fun e w => e = .returned (.bool (decide (((strN s).drop a).take p.size = strN p))) ∧ w = W := by
  have h := hide (lprefix_any W (s.extract a s.size) p)
  rw [← pre_list]
  go_enter Tryd.func53, Tryd.ntmps53
  go_wp2_with fail
  refine (unhide h).mono ?_
  rintro e w ⟨rfl, rfl⟩
  go_wp2
  go_ret
  exact ⟨rfl, rfl⟩
theorem idx3 (w : World) (a b c : Value) : (Instr.index 81 (.agg #[a, b, c]) (.int .i64 0)).run Tryd.prog w = .ok a w ∧ (Instr.index 81 (.agg #[a, b, c]) (.int .i64 1)).run Tryd.prog w = .ok b w ∧ (Instr.index 81 (.agg #[a, b, c]) (.int .i64 2)).run Tryd.prog w = .ok c w := by
  refine ⟨?_, ?_, ?_⟩ <;> simp [Instr.index, asIntOf, run_underlying Tryd.underlying81, part, isAgg, run_underlying Tryd.underlying9]
def wr2 (L : List Nat) (a : Nat) : Nat := if (L.drop a).take 4 = [110, 117, 108, 108] then a + 4 else a
def wr1 (L : List Nat) (a : Nat) : Nat := if (L.drop a).take 5 = [102, 97, 108, 115, 101] then a + 5 else wr2 L a
theorem wr0 (L : List Nat) (a : Nat) : wrE L a = if (L.drop a).take 4 = [116, 114, 117, 101] then a + 4 else wr1 L a := rfl
def wrK (L : List Nat) (a : Nat) : Nat → Nat
  | 0 => wrE L a
  | 1 => wr1 L a
  | 2 => wr2 L a
  | _ => a
set_option maxRecDepth 100000 in
set_option maxHeartbeats 1000000 in
theorem word_any (W : World) (s : ByteArray) (a : Nat) (ha : a ≤ s.size) (hs : s.size ≤ 67108864) : Calls Tryd.prog 46 #[.string s, .int .i64 (a : Int)] W fun e w => e = .returned (.int .i64 (wrE (strN s) a : Int)) ∧ w = W := by
  have HP : Hid (∀ p : ByteArray, Calls Tryd.prog 53 #[.string (s.extract a s.size), .string p] W fun e w => e = .returned (.bool (decide (((strN s).drop a).take p.size = strN p))) ∧ w = W) := fun p => prefix_any W s p a
  have a0 : (0 : Int) ≤ (a : Int) := Int.natCast_nonneg _
  have a1 : (a : Int) ≤ (s.size : Int) := by omega
  have p0 := unhide HP ⟨#[116, 114, 117, 101]⟩
  have p1 := unhide HP ⟨#[102, 97, 108, 115, 101]⟩
  have p2 := unhide HP ⟨#[110, 117, 108, 108]⟩
  simp only [show (ByteArray.mk #[116, 114, 117, 101]).size = 4 from rfl, show strN ⟨#[116, 114, 117, 101]⟩ = [116, 114, 117, 101] from rfl] at p0
  simp only [show (ByteArray.mk #[102, 97, 108, 115, 101]).size = 5 from rfl, show strN ⟨#[102, 97, 108, 115, 101]⟩ = [102, 97, 108, 115, 101] from rfl] at p1
  simp only [show (ByteArray.mk #[110, 117, 108, 108]).size = 4 from rfl, show strN ⟨#[110, 117, 108, 108]⟩ = [110, 117, 108, 108] from rfl] at p2
  have P0 := hide p0
  have P1 := hide p1
  have P2 := hide p2
  clear p0 p1 p2 HP
  go_enter Tryd.func46, Tryd.ntmps46
  go_wp2
  go_loopg [6, 8] 3 (fun gk v6 v8 wr => ∃ k : Nat, v8 = .int .i64 (k : Int) ∧ gk = 3 - k ∧ k ≤ 3 ∧ wr = W ∧ Hid (wrE (strN s) a = wrK (strN s) a k))
  case atStart => exact ⟨0, rfl, rfl, by omega, rfl, rfl⟩
  case round =>
    obtain ⟨k, rfl, hgk, hk, rfl, Hu⟩ := hrel
    have Hgk := hide hgk
    clear hgk
    match k, hk with
    | 0, _ =>
      have ix := fun w => (idx3 w (.string ⟨#[116, 114, 117, 101]⟩) (.string ⟨#[102, 97, 108, 115, 101]⟩) (.string ⟨#[110, 117, 108, 108]⟩)).1
      go_wp2_with fail
      refine (unhide P0).mono ?_
      rintro e w2 ⟨rfl, he⟩
      obtain rfl : wr = w2 := he.symm
      by_cases hd : ((strN s).drop a).take 4 = [116, 114, 117, 101]
      · have Hr : Hid (wrE (strN s) a = a + 4) := (wr0 _ _).trans (if_pos hd)
        rw [decide_eq_true hd]
        clear hd
        go_wp2
        go_ret
        exact ⟨by rw [unhide Hr]; rfl, rfl⟩
      · have Hr : Hid (wrE (strN s) a = wr1 (strN s) a) := (wr0 _ _).trans (if_neg hd)
        rw [decide_eq_false hd]
        clear hd
        go_wp2
        go_roundg 2
        case measure => have := unhide Hgk; omega
        case rel => exact ⟨1, rfl, rfl, by omega, rfl, Hr⟩
    | 1, _ =>
      have ix := fun w => (idx3 w (.string ⟨#[116, 114, 117, 101]⟩) (.string ⟨#[102, 97, 108, 115, 101]⟩) (.string ⟨#[110, 117, 108, 108]⟩)).2.1
      go_wp2_with fail
      refine (unhide P1).mono ?_
      rintro e w2 ⟨rfl, he⟩
      obtain rfl : wr = w2 := he.symm
      by_cases hd : ((strN s).drop a).take 5 = [102, 97, 108, 115, 101]
      · have Hr : Hid (wrE (strN s) a = a + 5) := (unhide Hu).trans (if_pos hd)
        rw [decide_eq_true hd]
        clear hd
        go_wp2
        go_ret
        exact ⟨by rw [unhide Hr]; rfl, rfl⟩
      · have Hr : Hid (wrE (strN s) a = wr2 (strN s) a) := (unhide Hu).trans (if_neg hd)
        rw [decide_eq_false hd]
        clear hd
        go_wp2
        go_roundg 1
        case measure => have := unhide Hgk; omega
        case rel => exact ⟨2, rfl, rfl, by omega, rfl, Hr⟩
    | 2, _ =>
      have ix := fun w => (idx3 w (.string ⟨#[116, 114, 117, 101]⟩) (.string ⟨#[102, 97, 108, 115, 101]⟩) (.string ⟨#[110, 117, 108, 108]⟩)).2.2
      go_wp2_with fail
      refine (unhide P2).mono ?_
      rintro e w2 ⟨rfl, he⟩
      obtain rfl : wr = w2 := he.symm
      by_cases hd : ((strN s).drop a).take 4 = [110, 117, 108, 108]
      · have Hr : Hid (wrE (strN s) a = a + 4) := (unhide Hu).trans (if_pos hd)
        rw [decide_eq_true hd]
        clear hd
        go_wp2
        go_ret
        exact ⟨by rw [unhide Hr]; rfl, rfl⟩
      · have Hr : Hid (wrE (strN s) a = a) := (unhide Hu).trans (if_neg hd)
        rw [decide_eq_false hd]
        clear hd
        go_wp2
        go_roundg 0
        case measure => have := unhide Hgk; omega
        case rel => exact ⟨3, rfl, rfl, by omega, rfl, Hr⟩
    | 3, _ =>
      have Hr : Hid (wrE (strN s) a = a) := Hu
      go_wp2
      go_ret
      exact ⟨by rw [unhide Hr]; rfl, rfl⟩
    | k + 4, h => exact absurd h (by omega)
theorem escT_le (L : List Nat) (i : Nat) : escT L i ≤ 12 := by
  unfold escT
  split
  · split
    · omega
    · split <;> omega
  · omega
theorem escS_le (L : List Nat) (i : Nat) : escS L i ≤ 12 := by
  unfold escS
  split
  · omega
  · split
    · omega
    · split
      · split
        · omega
        · split
          · omega
          · split
            · omega
            · exact escT_le L i
      · omega
set_option maxRecDepth 100000 in
set_option maxHeartbeats 1000000 in
theorem string_any {W : World} (hE : HasE W) (s : ByteArray) (a : Nat) (ha : a < s.size) (hs : s.size ≤ 67108864) : Calls Tryd.prog 48 #[.string s, .int .i64 (a : Int)] W fun e w => e = .returned (.int .i64 ((strE (strN s) a).getD a : Int)) ∧ Below W.heap.size W w := by
  have hl := hide (strN_len s)
  have HX : Hid (∀ (i : Nat) (w : World), bt (strN s) i = 92 → Below W.heap.size W w → i ≤ s.size → Calls Tryd.prog 57 #[.string (s.extract i s.size)] w (NmR w (escS (strN s) i))) := fun i w hi hb hle => by
    have := escape_any (hE.up hb) (s.extract i s.size) (by rw [extract_size _ _ _ (Nat.le_refl _)]; omega)
    rw [strN_ext, List.take_of_length_le (by rw [List.length_drop, strN_len]; omega), escN_drop hi] at this
    exact this
  clear hE
  go_enter Tryd.func48, Tryd.ntmps48
  go_wp2
  go_loopg [5, 6, 7] (s.size - a) (fun gk v5 _ _ wr => ∃ k : Nat, v5 = .int .i64 (k : Int) ∧ gk = s.size + 1 - k ∧ 1 ≤ k ∧ k ≤ s.size + 12 ∧ Hid (Below W.heap.size W wr) ∧ Hid (strE (strN s) a = strS (strN s) k))
  case atStart => exact ⟨a + 1, by go_num, by omega, by omega, by omega, Below.refl _ _, rfl⟩
  case round =>
    obtain ⟨k, rfl, hgk, hk1, hk, HB, Hu⟩ := hrel
    have Hgk := hide hgk
    have k0 : (0 : Int) ≤ (k : Int) := Int.natCast_nonneg _
    clear hgk
    by_cases hlt : k < s.size
    · obtain ⟨gx, hx⟩ := bt_str s k hlt
      have i1 : (k : Int) < (s.size : Int) := by omega
      have hll : k < (strN s).length := by rw [unhide hl]; exact hlt
      obtain ⟨x, hxe⟩ : ∃ x, bt (strN s) k = x := ⟨_, rfl⟩
      by_cases h1 : x < 32
      · have Hr : Hid (strE (strN s) a = none) := (unhide Hu).trans (strS_low hll (by omega))
        rw [hxe] at gx
        have d1 : decide (32 ≤ (x : Int)) = false := by simp; omega
        clear hx hxe h1 hll
        go_wp2
        go_ret
        exact ⟨by rw [unhide Hr]; rfl, unhide HB⟩
      · have d1 : decide (32 ≤ (x : Int)) = true := by simp; omega
        by_cases h2 : x = 34
        · have Hr : Hid (strE (strN s) a = some (k + 1)) := (unhide Hu).trans (strS_fin hll (by omega))
          rw [hxe] at gx
          have d2 : ((x : Int) == 34) = true := by simp; omega
          clear hx hxe h1 hll h2
          go_wp2
          go_ret
          exact ⟨by rw [unhide Hr]; go_num, unhide HB⟩
        · have d2 : ((x : Int) == 34) = false := by simp; omega
          by_cases h3 : x = 92
          · have hs3 := strS_esc hll (hxe.trans h3)
            have HC := hide (unhide HX k wr (hxe.trans h3) (unhide HB) (by omega))
            have d3 : ((x : Int) == 92) = true := by simp; omega
            have Hle : Hid (escS (strN s) k ≤ 12) := escS_le _ _
            obtain ⟨z, hz⟩ : ∃ z, escS (strN s) k = z := ⟨_, rfl⟩
            rw [hz] at HC hs3 Hle
            rw [hxe] at gx
            have Hs3 := hide ((unhide Hu).trans hs3)
            clear hx hxe h1 hll h2 h3 hz hs3 HX
            go_wp2_with fail
            refine (unhide HC).mono ?_
            rintro e w2 ⟨⟨m, rfl⟩, hb2⟩
            have HB2 := hide ((unhide HB).trans (hb2.mono (unhide HB).size))
            clear hb2 HC
            by_cases h4 : z = 0
            · subst h4
              have Hr : Hid (strE (strN s) a = none) := unhide Hs3
              go_wp2
              go_ret
              exact ⟨by rw [unhide Hr]; rfl, unhide HB2⟩
            · have Hr : Hid (strE (strN s) a = strS (strN s) (k + z)) := (unhide Hs3).trans (if_neg h4)
              have d4 : ((z : Int) == 0) = false := by simp; omega
              have hle := unhide Hle
              go_wp2
              go_roundg (s.size + 1 - (k + z))
              case measure => have := unhide Hgk; omega
              case rel => exact ⟨k + z, by go_num, rfl, by omega, by omega, HB2, Hr⟩
          · have Hr : Hid (strE (strN s) a = strS (strN s) (k + 1)) := (unhide Hu).trans (strS_more hll (by omega) (by omega) (by omega))
            have d3 : ((x : Int) == 92) = false := by simp; omega
            rw [hxe] at gx
            clear hx hxe h1 hll h2 h3
            go_wp2
            go_roundg (s.size + 1 - (k + 1))
            case measure => have := unhide Hgk; omega
            case rel => exact ⟨k + 1, by go_num, rfl, by omega, by omega, HB, Hr⟩
    · have Hr : Hid (strE (strN s) a = none) := (unhide Hu).trans (strS_end (by rw [unhide hl]; exact hlt))
      have i1 : decide ((k : Int) < (s.size : Int)) = false := by simp; omega
      go_wp2
      go_ret
      exact ⟨by rw [unhide Hr]; rfl, unhide HB⟩
end Go.Proofs.YthodjkeppobcmaaDoor
