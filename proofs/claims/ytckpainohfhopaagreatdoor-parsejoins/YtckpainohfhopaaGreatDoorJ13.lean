import Derived.Test.YtckpainohfhopaaGreatDoorJ02
import Derived.Test.YtckpainohfhopaaGreatDoorJ12
import Derived.Test.YtckpainohfhopaaGreatDoorJ03

namespace Go.Proofs.YtckpainohfhopaaGreatDoor
open Go.RowKit
attribute [local go_sem ↓] Go.wp_at_zero Go.wp_at_succ

set_option maxRecDepth 100000 in
theorem xblank_any (W : World) (c : Nat) (hc : c < 256) :
    Calls Tryz.prog 51 #[.int .u8 (c : Int)] W (SaysB W (isBlk c)) := by
  go_enter Tryz.func51, Tryz.ntmps51
  go_wp2
  all_goals (go_ret; refine saysB _ ?_; simp [isBlk]; omega)
theorem two_beq {s : ByteArray} {k : Nat} (h : k + 2 ≤ s.size) (a b : UInt8) : ((s.extract k (k + 2)).toList == [a, b]) = decide (byteAt s k = a.toNat ∧ byteAt s (k + 1) = b.toNat) := by
  rw [ByteArray.toList_eq]
  have := two_eq h a b
  by_cases e : (s.extract k (k + 2)).data.toList = [a, b]
  · rw [decide_eq_true (this.1 e), e]; simp
  · rw [decide_eq_false (fun q => e (this.2 q))]
    exact beq_eq_false_iff_ne.2 e
theorem byte_get {s : ByteArray} {k : Nat} (h : k < s.size) : s[k].toNat = byteAt s k := by unfold byteAt; rw [dif_pos h]
set_option maxRecDepth 100000 in
set_option maxHeartbeats 4000000 in
theorem xpass_any (W : World) (s : ByteArray) (hs : s.size ≤ 65536) (a : Nat) (ha : a ≤ s.size) :
    Calls Tryz.prog 28 #[.string s, .int .i64 (a : Int)] W fun e w => e = .returned (.tuple #[.int .i64 ((passF s s.size a).1 : Int), .bool (passF s s.size a).2]) ∧ w = W := by
  obtain ⟨R, hR⟩ : ∃ R, passF s s.size a = R := ⟨_, rfl⟩
  have HR0 := hide hR
  rw [hR]
  clear hR
  go_enter Tryz.func28, Tryz.ntmps28
  go_wp2
  go_loopg [1, 6, 7] (s.size - a) (fun gk v1 _ _ wr => ∃ (k : Nat), v1 = .int .i64 (k : Int) ∧ gk = s.size - k ∧ k ≤ s.size ∧ wr = W ∧ Hid (passF s s.size k = R))
  case atStart => exact ⟨a, rfl, rfl, ha, rfl, HR0⟩
  case round =>
    clear HR0
    obtain ⟨k, rfl, hgk, hk, hwr, HR⟩ := hrel
    obtain rfl : W = wr := hwr.symm
    have Hgk := hide hgk
    clear hgk hwr
    by_cases hlt : k < s.size
    · obtain ⟨x, hx⟩ : ∃ x : Nat, s[k].toNat = x := ⟨_, rfl⟩
      have hbx : byteAt s k = x := (byte_get hlt).symm.trans hx
      have hx2 : x < 256 := by rw [← hx]; exact s[k].toNat_lt
      have k0 : (0 : Int) ≤ (k : Int) := Int.natCast_nonneg _
      have k1 : (k : Int) < (s.size : Int) := by omega
      have hpk : passF s s.size k = passF s (s.size - k - 1 + 1) k := passF_fuel s _ _ k (by omega) (by omega)
      have hRk := unhide HR
      rw [hpk, passF, if_pos hlt, hbx] at hRk
      have hblk := xblank_any W x hx2
      by_cases h2 : k + 2 ≤ s.size
      · have e2 : decide ((k : Int) + 2 ≤ (s.size : Int)) = true := decide_eq_true (by omega)
        have k2 : (k : Int) + 2 ≤ (s.size : Int) := by omega
        have l2 := two_list h2
        go_wp2_with fail
        refine hblk.mono ?_
        rintro e w' ⟨b, rfl, he, hbb⟩
        obtain rfl : W = w' := he.symm
        clear he hblk
        cases b with
        | true =>
          rw [if_pos (hbb.1 rfl)] at hRk
          have HR2 : Hid (passF s s.size (k + 1) = R) := (passF_fuel s _ _ _ (by omega) (by omega)).trans hRk
          go_wp2
          go_roundg (s.size - (k + 1))
          case measure => have := unhide Hgk; omega
          case rel => exact ⟨k + 1, by go_num, rfl, by omega, rfl, HR2⟩
        | false =>
          rw [if_neg (fun q => by have := hbb.2 q; cases this)] at hRk
          have hb1 := two_beq h2 47 47
          have hb2 := two_beq h2 47 42
          obtain ⟨y, hy⟩ : ∃ y, byteAt s (k + 1) = y := ⟨_, rfl⟩
          rw [hbx, hy] at hb1 hb2
          rw [hy] at hRk
          have n47 : (47 : UInt8).toNat = 47 := rfl
          have n42 : (42 : UInt8).toNat = 42 := rfl
          rw [n47] at hb1 hb2
          rw [n42] at hb2
          clear n47 n42 l2
          by_cases c1 : x = 47 ∧ y = 47
          · rw [decide_eq_true c1] at hb1
            rw [if_pos ⟨h2, c1⟩] at hRk
            have hnl := nlAt_lt hlt (hbx.trans c1.1)
            have hnle := nlAt_le s k hk
            obtain ⟨N, hN⟩ : ∃ N, nlAt s k = N := ⟨_, rfl⟩
            rw [hN] at hRk hnl hnle
            have HN := hide hN
            have HR2 : Hid (passF s s.size N = R) := (passF_fuel s _ _ _ (by omega) (by omega)).trans hRk
            clear hRk hN hb2 hbb hpk c1
            go_wp2
            go_loopg [1] (s.size - k) (fun gk v1 wq => ∃ (m : Nat), v1 = .int .i64 (m : Int) ∧ gk = s.size - m ∧ k ≤ m ∧ m ≤ s.size ∧ wq = W ∧ Hid (nlAt s m = N))
            case atStart => exact ⟨k, rfl, rfl, by omega, hk, rfl, HN⟩
            case round =>
              clear HN
              obtain ⟨m, rfl, hgk2, hkm, hms, hwq, HN⟩ := hrel
              obtain rfl : W = wr := hwq.symm
              have Hgk2 := hide hgk2
              clear hgk2 hwq
              by_cases hml : m < s.size
              · obtain ⟨z, hz⟩ : ∃ z : Nat, s[m].toNat = z := ⟨_, rfl⟩
                have hbz : byteAt s m = z := (byte_get hml).symm.trans hz
                have m0 : (0 : Int) ≤ (m : Int) := Int.natCast_nonneg _
                have m1 : (m : Int) < (s.size : Int) := by omega
                have qm : decide ((m : Int) < (s.size : Int)) = true := decide_eq_true m1
                have hN := unhide HN
                by_cases hz10 : z = 10
                · have qz : ((z : Int) != 10) = false := by rw [hz10]; rfl
                  rw [nlAt, dif_neg (fun q => q.2 (hbz.trans hz10))] at hN
                  subst hN
                  clear hbz
                  go_wp2
                  go_roundg (s.size - m)
                  case measure => have := unhide Hgk; omega
                  case rel => exact ⟨m, rfl, rfl, hms, rfl, HR2⟩
                · have qz : ((z : Int) != 10) = true := by simp; omega
                  rw [nlAt, dif_pos ⟨hml, by rw [hbz]; exact hz10⟩] at hN
                  have HN2 := hide hN
                  clear hN hbz hz10
                  go_wp2
                  go_roundg (s.size - (m + 1))
                  case measure => have := unhide Hgk2; omega
                  case rel => exact ⟨m + 1, by go_num, rfl, by omega, by omega, rfl, HN2⟩
              · have qm : decide ((m : Int) < (s.size : Int)) = false := decide_eq_false (by omega)
                have hN := unhide HN
                rw [nlAt, dif_neg (fun q => hml q.1)] at hN
                subst hN
                go_wp2
                go_roundg (s.size - m)
                case measure => have := unhide Hgk; omega
                case rel => exact ⟨m, rfl, rfl, hms, rfl, HR2⟩
          · rw [decide_eq_false c1] at hb1
            rw [if_neg (fun q => c1 q.2)] at hRk
            by_cases c2 : x = 47 ∧ y = 42
            · rw [decide_eq_true c2] at hb2
              rw [if_pos ⟨h2, c2⟩] at hRk
              have hge := starAt_ge s (k + 2)
              obtain ⟨N, hN⟩ : ∃ N, starAt s (k + 2) = N := ⟨_, rfl⟩
              rw [hN] at hRk hge
              have HN := hide hN
              have HRk := hide hRk
              clear hRk hN hbb hpk c1 c2
              go_wp2
              go_loopg [7] (s.size - k) (fun gk v7 wq => ∃ (m : Nat), v7 = .int .i64 (m : Int) ∧ gk = s.size - m + 2 ∧ k + 2 ≤ m ∧ m ≤ s.size ∧ wq = W ∧ Hid (starAt s m = N))
              case atStart => exact ⟨k + 2, by go_num, by omega, by omega, h2, rfl, HN⟩
              case round =>
                clear HN
                obtain ⟨m, rfl, hgk2, hkm, hms, hwq, HN⟩ := hrel
                obtain rfl : W = wr := hwq.symm
                have Hgk2 := hide hgk2
                clear hgk2 hwq
                by_cases hml : m + 2 ≤ s.size
                · have m0 : (0 : Int) ≤ (m : Int) := Int.natCast_nonneg _
                  have m1 : (m : Int) + 2 ≤ (s.size : Int) := by omega
                  have qm : decide ((m : Int) + 2 ≤ (s.size : Int)) = true := decide_eq_true m1
                  have hst := two_beq hml 42 47
                  have n47 : (47 : UInt8).toNat = 47 := rfl
                  have n42 : (42 : UInt8).toNat = 42 := rfl
                  rw [n47, n42] at hst
                  clear n47 n42
                  have hN := unhide HN
                  by_cases cs : byteAt s m = 42 ∧ byteAt s (m + 1) = 47
                  · rw [decide_eq_true cs] at hst
                    have hst2 : ((s.extract m (m + 2)).toList != [42, 47]) = false := by rw [bne, hst]; rfl
                    rw [starAt, dif_neg (fun q => q.2 cs)] at hN
                    subst hN
                    have hRk := unhide HRk
                    rw [if_pos hml] at hRk
                    have HR2 : Hid (passF s s.size (m + 2) = R) := (passF_fuel s _ _ _ (by omega) (by omega)).trans hRk
                    have qg : decide ((s.size : Int) < (m : Int) + 2) = false := decide_eq_false (by omega)
                    clear hRk HRk cs
                    go_wp2
                    go_roundg (s.size - (m + 2))
                    case measure => have := unhide Hgk; omega
                    case rel => exact ⟨m + 2, by go_num, rfl, by omega, rfl, HR2⟩
                  · rw [decide_eq_false cs] at hst
                    have hst2 : ((s.extract m (m + 2)).toList != [42, 47]) = true := by rw [bne, hst]; rfl
                    rw [starAt, dif_pos ⟨hml, cs⟩] at hN
                    have HN2 := hide hN
                    clear hN cs
                    go_wp2
                    go_roundg (s.size - (m + 1) + 2)
                    case measure => have := unhide Hgk2; omega
                    case rel => exact ⟨m + 1, by go_num, rfl, by omega, by omega, rfl, HN2⟩
                · have qm : decide ((m : Int) + 2 ≤ (s.size : Int)) = false := decide_eq_false (by omega)
                  have qg : decide ((s.size : Int) < (m : Int) + 2) = true := decide_eq_true (by omega)
                  have hN := unhide HN
                  rw [starAt, dif_neg (fun q => hml q.1)] at hN
                  subst hN
                  have hRk := unhide HRk
                  rw [if_neg hml] at hRk
                  subst hRk
                  clear HRk HR
                  go_wp2
                  go_ret2
                  exact ⟨rfl, rfl⟩
            · rw [decide_eq_false c2] at hb2
              rw [if_neg (fun q => c2 q.2)] at hRk
              subst hRk
              clear HR c1 c2 hbb
              go_wp2
              go_ret2
              exact ⟨rfl, rfl⟩
      · have e2 : decide ((k : Int) + 2 ≤ (s.size : Int)) = false := decide_eq_false (by omega)
        go_wp2_with fail
        refine hblk.mono ?_
        rintro e w' ⟨b, rfl, he, hbb⟩
        obtain rfl : W = w' := he.symm
        clear he hblk
        cases b with
        | true =>
          rw [if_pos (hbb.1 rfl)] at hRk
          have HR2 : Hid (passF s s.size (k + 1) = R) := (passF_fuel s _ _ _ (by omega) (by omega)).trans hRk
          go_wp2
          go_roundg (s.size - (k + 1))
          case measure => have := unhide Hgk; omega
          case rel => exact ⟨k + 1, by go_num, rfl, by omega, rfl, HR2⟩
        | false =>
          rw [if_neg (fun q => by have := hbb.2 q; cases this), if_neg (fun q => h2 q.1), if_neg (fun q => h2 q.1)] at hRk
          subst hRk
          clear HR hbb
          go_wp2
          go_ret2
          exact ⟨rfl, rfl⟩
    · obtain rfl : k = s.size := by omega
      have hRk := unhide HR
      have hpk : passF s s.size s.size = (s.size, true) := by
        cases hz : s.size with
        | zero => rfl
        | succ n => rw [passF, if_neg (by omega)]
      rw [hpk] at hRk
      subst hRk
      clear HR
      have qk : decide ((s.size : Int) < (s.size : Int)) = false := decide_eq_false (by omega)
      go_wp2
      go_ret2
      exact ⟨rfl, rfl⟩
end Go.Proofs.YtckpainohfhopaaGreatDoor

namespace Go.Proofs.YtckpainohfhopaaGreatDoor
open Go.RowKit
attribute [local go_sem ↓] Go.wp_at_zero Go.wp_at_succ

set_option maxRecDepth 100000 in
set_option maxHeartbeats 2000000 in
theorem xsign_any (W : World) (c : Nat) :
    Calls Tryz.prog 54 #[.int .u8 (c : Int)] W (SaysB W (isSgn c)) := by
  have hstr : strN (⟨#[123, 125, 91, 93, 40, 41, 60, 62, 59, 44, 61, 46, 45]⟩ : ByteArray) = [123, 125, 91, 93, 40, 41, 60, 62, 59, 44, 61, 46, 45] := rfl
  go_enter Tryz.func54, Tryz.ntmps54
  go_wp2
  go_loopg [4] 13 (fun gk v4 wr => ∃ (i : Nat), v4 = .int .i64 (i : Int) ∧ gk = 13 - i ∧ i ≤ 13 ∧ wr = W ∧ Hid (∀ x ∈ [123, 125, 91, 93, 40, 41, 60, 62, 59, 44, 61, 46, 45].take i, x ≠ c))
  case atStart => exact ⟨0, rfl, rfl, by omega, rfl, fun x hx => by simp at hx⟩
  case round =>
    obtain ⟨i, rfl, hgk, hi, hwr, HA⟩ := hrel
    obtain rfl : W = wr := hwr.symm
    have Hgk := hide hgk
    clear hgk hwr
    by_cases hlt : i < 13
    · have hsz : i < (⟨#[123, 125, 91, 93, 40, 41, 60, 62, 59, 44, 61, 46, 45]⟩ : ByteArray).size := hlt
      obtain ⟨x, hx⟩ : ∃ x : Nat, (⟨#[123, 125, 91, 93, 40, 41, 60, 62, 59, 44, 61, 46, 45]⟩ : ByteArray)[i].toNat = x := ⟨_, rfl⟩
      have hxl : [123, 125, 91, 93, 40, 41, 60, 62, 59, 44, 61, 46, 45][i]? = some x := by rw [← hstr, strN_at _ i hsz]; unfold byteAt; rw [dif_pos hsz, hx]
      have i0 : (0 : Int) ≤ (i : Int) := Int.natCast_nonneg _
      have i1 : (i : Int) < 13 := by omega
      have Hxl := hide hxl
      clear hxl hstr
      by_cases e : x = c
      · have q : ((x : Int) == (c : Int)) = true := by rw [e]; simp
        go_wp2
        go_ret
        refine saysB true ⟨fun _ => ?_, fun _ => rfl⟩
        rw [← e]
        exact List.mem_of_getElem? (unhide Hxl)
      · have q : ((x : Int) == (c : Int)) = false := beq_eq_false_iff_ne.2 (by omega)
        have HA2 : Hid (∀ y ∈ [123, 125, 91, 93, 40, 41, 60, 62, 59, 44, 61, 46, 45].take (i + 1), y ≠ c) := fun y hy => by
          rw [List.take_add_one, unhide Hxl] at hy
          rcases List.mem_append.1 hy with hy | hy
          · exact unhide HA y hy
          · simp at hy; rw [hy]; exact e
        clear e
        go_wp2
        go_roundg (13 - (i + 1))
        case measure => have := unhide Hgk; omega
        case rel => exact ⟨i + 1, by go_num, rfl, by omega, rfl, HA2⟩
    · obtain rfl : i = 13 := by omega
      have hA := unhide HA
      have Hn : Hid (¬ isSgn c) := fun h => hA c h rfl
      clear hA HA
      go_wp2
      go_ret
      exact saysB false ⟨fun h => (by cases h), fun h => absurd h (unhide Hn)⟩
end Go.Proofs.YtckpainohfhopaaGreatDoor
