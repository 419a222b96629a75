import Derived.Test.YtadmamfekodkaaaDoorSN
import Derived.Deep.CutBlock

namespace Go.Proofs.YtadmamfekodkaaaDoor
open Go.RowKit
attribute [local go_sem ↓] Go.wp_at_zero Go.wp_at_succ

/-- The bases and widths that are asked: the base, the bits, the least number that may not be taken again, the greatest. -/
def PBx (Bi bi Ci Mi : Int) (B M : Nat) : Prop := (Bi = 16 ∧ bi = 63 ∧ Ci = 1152921504606846976 ∧ Mi = 9223372036854775807 ∧ B = 16 ∧ M = 9223372036854775807) ∨ (Bi = 10 ∧ bi = 63 ∧ Ci = 1844674407370955162 ∧ Mi = 9223372036854775807 ∧ B = 10 ∧ M = 9223372036854775807) ∨ (Bi = 8 ∧ bi = 63 ∧ Ci = 2305843009213693952 ∧ Mi = 9223372036854775807 ∧ B = 8 ∧ M = 9223372036854775807) ∨ (Bi = 16 ∧ bi = 8 ∧ Ci = 1152921504606846976 ∧ Mi = 255 ∧ B = 16 ∧ M = 255) ∨ (Bi = 8 ∧ bi = 8 ∧ Ci = 2305843009213693952 ∧ Mi = 255 ∧ B = 8 ∧ M = 255)
/-- What they give. -/
structure PKx (Bi Ci Mi : Int) (B M : Nat) : Prop where
  k1 : ∀ d : Nat, d < B → (d : Int) < Bi ∧ decide (Bi ≤ (d : Int)) = false
  k2 : ∀ d : Nat, ¬ d < B → Bi ≤ (d : Int) ∧ decide (Bi ≤ (d : Int)) = true
  k3 : ∀ (a : Int) (acc d : Nat), a = (acc : Int) → Ci ≤ a ∧ ¬ acc * B + d ≤ M ∨ a < Ci
  k5 : ∀ (a : Int) (acc d : Nat), a = (acc : Int) → a < Ci → d < 36 → (18446744073709551616 ≤ a * Bi + (d : Int) ∧ IntKind.u64.wrap (a * Bi + (d : Int)) = a * Bi + (d : Int) - 18446744073709551616 ∧ ¬ acc * B + d ≤ M) ∨ a * Bi + (d : Int) < 18446744073709551616
  k6 : ∀ (a : Int) (acc d : Nat), a = (acc : Int) → a * Bi + (d : Int) = ((acc * B + d : Nat) : Int)
  k7 : ∀ (a : Int) (acc d : Nat), a = (acc : Int) → (a * Bi + (d : Int) ≤ Mi ∧ acc * B + d ≤ M) ∨ (Mi < a * Bi + (d : Int) ∧ ¬ acc * B + d ≤ M)
  k8 : ∀ (a : Int) (acc : Nat), a = (acc : Int) → acc ≤ M → a ≤ Mi
theorem PBx.pk {Bi bi Ci Mi : Int} {B M : Nat} (h : PBx Bi bi Ci Mi B M) : PKx Bi Ci Mi B M := by
  rcases h with ⟨rfl, rfl, rfl, rfl, rfl, rfl⟩ | ⟨rfl, rfl, rfl, rfl, rfl, rfl⟩ | ⟨rfl, rfl, rfl, rfl, rfl, rfl⟩ | ⟨rfl, rfl, rfl, rfl, rfl, rfl⟩ | ⟨rfl, rfl, rfl, rfl, rfl, rfl⟩
  all_goals
    refine ⟨fun d h => ⟨by omega, by simp; omega⟩, fun d h => ⟨by omega, by simp; omega⟩, fun a acc d h => by omega, fun a acc d h h2 h3 => ?_, fun a acc d h => by omega, fun a acc d h => ?_, fun a acc h h2 => by omega⟩
    · rw [IntKind.wrap_u64]
      by_cases q : 18446744073709551616 ≤ acc * 16 + d
      · omega
      · omega
    · omega
set_option maxRecDepth 100000 in
set_option maxHeartbeats 40000000 in
theorem parseU {Bi bi Ci Mi : Int} {B M : Nat} (hb : PBx Bi bi Ci Mi B M) (W : World) (s : ByteArray) (hs : s.size ≤ 65536) : Calls Tryd.prog 42 #[.string s, .int .i64 Bi, .int .i64 bi] W (PU W B M s) := by
  by_cases h0 : s.size = 0
  · obtain rfl := isEmptyT h0
    rcases hb with ⟨rfl, rfl, rfl, rfl, -, -⟩ | ⟨rfl, rfl, rfl, rfl, -, -⟩ | ⟨rfl, rfl, rfl, rfl, -, -⟩ | ⟨rfl, rfl, rfl, rfl, -, -⟩ | ⟨rfl, rfl, rfl, rfl, -, -⟩
    all_goals
      go_enter Tryd.func42, Tryd.ntmps42
      go_wp2
      go_ret2
      exact PU.bad _ 2 (Below.refl _ _) (.inr rfl) (.inl h0)
  have HK := hide hb.pk
  have e0 := isEmptyF h0
  have hcv := Lib.run_convert_string_bytes (P := Tryd.prog) W 9 30 5 s (u := .string) Tryd.underlying9 Tryd.underlying30 Tryd.underlying5
  have hB : ∀ (j x : Nat), (strN s)[j]? = some x → (Lib.bytesWorld W 5 s).cell? ⟨W.heap.size, j, none⟩ = some (.int .u8 (x : Int)) := fun j x hx => by
    rw [Lib.bytesWorld_cell W 5 s j (by have := (List.getElem?_eq_some_iff.1 hx).1; rwa [strN_len] at this), strN_getD s j x hx]
  have hbel : Below W.heap.size W (Lib.bytesWorld W 5 s) := Lib.bytesWorld_below W 5 s
  obtain ⟨W1, hW1⟩ : ∃ W1, W1 = Lib.bytesWorld W 5 s := ⟨_, rfl⟩
  rw [← hW1] at hcv hB hbel
  have Hbel := hide hbel
  have HB := hide hB
  clear hW1 hbel hB
  rcases hb with ⟨rfl, rfl, rfl, rfl, -, -⟩ | ⟨rfl, rfl, rfl, rfl, -, -⟩ | ⟨rfl, rfl, rfl, rfl, -, -⟩ | ⟨rfl, rfl, rfl, rfl, -, -⟩ | ⟨rfl, rfl, rfl, rfl, -, -⟩
  all_goals
    go_enter Tryd.func42, Tryd.ntmps42
    go_wp2
    clear hcv
    go_loopg [12, 13, 15, 16, 17, 101] s.size (fun gk v12 v13 _ _ _ v101 wr => ∃ (k acc : Nat) (a : Int), v12 = .bool false ∧ v13 = .int .u64 a ∧ v101 = .int .i64 (k : Int) ∧ k ≤ s.size ∧ gk = s.size - k ∧ wr = W1 ∧ Hid (a = (acc : Int) ∧ acc ≤ M ∧ nval B M (strN s) 0 = nval B M ((strN s).drop k) acc))
    case atStart => exact ⟨0, 0, 0, rfl, rfl, rfl, by omega, rfl, rfl, rfl, by omega, rfl⟩
    case round =>
      obtain ⟨k, acc, a, rfl, rfl, rfl, hk, hgk, rfl, hh⟩ := hrel
      obtain ⟨ha, hacc, hdec⟩ := unhide hh
      have Hgk := hide hgk
      clear hh hgk
      have a0 : 0 ≤ a := by omega
      have a1 := (unhide HK).k8 a acc ha hacc
      by_cases hkn : k < s.size
      · obtain ⟨x, hx, hx2, gx⟩ := strN_ex s k hkn
        have hcell := unhide HB k x hx
        have hdrop : (strN s).drop k = x :: (strN s).drop (k + 1) := by
          obtain ⟨hl, hx'⟩ := List.getElem?_eq_some_iff.1 hx
          rw [List.drop_eq_getElem_cons hl, hx']
        rw [hdrop] at hdec
        clear hdrop hx gx
        have Hdec := hide hdec
        clear hdec
        go_upto_block 5 with fail
        go_cut [12, 16, 101] from 101 to 163 (fun v12 v16 v101 wc => ∃ dn : Nat, v12 = .bool false ∧ v16 = .int .u8 (dn : Int) ∧ v101 = .int .i64 (k : Int) ∧ wc = wr ∧ dn < 36 ∧ Hid (dgv x = some dn))
        case first =>
          clear ha hacc a0 a1
          by_cases hd : 48 ≤ x ∧ x ≤ 57
          · have Hv : Hid (dgv x = some (x - 48)) := by unfold dgv; rw [if_pos hd]; rfl
            obtain ⟨d1, d2⟩ := hd
            have n95 := eqF (c := x) (k := 95) (by omega); have b1 := geT (c := x) (k := 48) (by omega); have b2 := leT (c := x) (k := 57) (by omega)
            go_wp2
            go_meet
            case rel => exact ⟨x - 48, rfl, by go_num, rfl, rfl, by omega, Hv⟩
          · obtain ⟨lx, hlx0⟩ : ∃ lx, lx = low x := ⟨_, rfl⟩
            have hlow := fun w => lower_any w x hx2
            simp only [← hlx0] at hlow
            by_cases hu : 65 ≤ x ∧ x ≤ 90
            · have Hv : Hid (dgv x = some (x - 55)) := by unfold dgv; rw [if_neg hd, if_pos hu]; rfl
              have hlo := low_up hu.1 hu.2
              rw [← hlx0] at hlo
              obtain ⟨u1, u2⟩ := hu
              have n95 := eqF (c := x) (k := 95) (by omega); have b1 := geT (c := x) (k := 48) (by omega); have b2 := leF (c := x) (k := 57) (by omega)
              have l1 := geT (c := lx) (k := 97) (by omega); have l2 := leT (c := lx) (k := 122) (by omega)
              have l3 : 97 ≤ lx := by omega
              have l4 : lx ≤ 122 := by omega
              clear hlx0 hd
              go_wp2_with (go_at_call 44; refine (hlow _).mono ?_; rintro e w' ⟨rfl, rfl⟩)
              go_meet
              case rel => exact ⟨x - 55, rfl, by congr 1; omega, rfl, rfl, by omega, Hv⟩
            · by_cases hl : 97 ≤ x ∧ x ≤ 122
              · have Hv : Hid (dgv x = some (x - 87)) := by unfold dgv; rw [if_neg hd, if_neg hu, if_pos hl]; rfl
                have hlo := low_down hl.1 hl.2
                rw [← hlx0] at hlo
                obtain ⟨u1, u2⟩ := hl
                have n95 := eqF (c := x) (k := 95) (by omega); have b1 := geT (c := x) (k := 48) (by omega); have b2 := leF (c := x) (k := 57) (by omega)
                have l1 := geT (c := lx) (k := 97) (by omega); have l2 := leT (c := lx) (k := 122) (by omega)
                have l3 : 97 ≤ lx := by omega
                have l4 : lx ≤ 122 := by omega
                clear hlx0 hd hu
                go_wp2_with (go_at_call 44; refine (hlow _).mono ?_; rintro e w' ⟨rfl, rfl⟩)
                go_meet
                case rel => exact ⟨x - 87, rfl, by congr 1; omega, rfl, rfl, by omega, Hv⟩
              · have hv : dgv x = none := by unfold dgv; rw [if_neg hd, if_neg hu, if_neg hl]
                have hlo := low_none hx2 hu hl
                rw [← hlx0] at hlo
                have hn : nval B M (strN s) 0 = none := by rw [unhide Hdec]; simp only [nval, hv]
                have Hn := hide hn
                clear hn
                have hdd : x < 48 ∨ 57 < x := by omega
                clear hlx0 hd hu hl hv
                by_cases x95 : x = 95
                · have n95 : ((x : Int) == 95) = true := by simp; omega
                  have b1 := geT (c := x) (k := 48) (by omega); have b2 := leF (c := x) (k := 57) (by omega)
                  clear hdd x95
                  rcases hlo with hlo | hlo
                  · have l1 := geF (c := lx) (k := 97) (by omega)
                    go_wp2_with (go_at_call 44; refine (hlow _).mono ?_; rintro e w' ⟨rfl, rfl⟩)
                    go_ret2
                    exact PU.bad _ 2 (unhide Hbel) (.inr rfl) (.inr (unhide Hn))
                  · have l1 := geT (c := lx) (k := 97) (by omega); have l2 := leF (c := lx) (k := 122) (by omega)
                    go_wp2_with (go_at_call 44; refine (hlow _).mono ?_; rintro e w' ⟨rfl, rfl⟩)
                    go_ret2
                    exact PU.bad _ 2 (unhide Hbel) (.inr rfl) (.inr (unhide Hn))
                · have n95 := eqF (c := x) (k := 95) (by omega)
                  rcases hdd with hdd | hdd
                  · have b1 := geF (c := x) (k := 48) (by omega)
                    rcases hlo with hlo | hlo
                    · have l1 := geF (c := lx) (k := 97) (by omega)
                      go_wp2_with (go_at_call 44; refine (hlow _).mono ?_; rintro e w' ⟨rfl, rfl⟩)
                      go_ret2
                      exact PU.bad _ 2 (unhide Hbel) (.inr rfl) (.inr (unhide Hn))
                    · have l1 := geT (c := lx) (k := 97) (by omega); have l2 := leF (c := lx) (k := 122) (by omega)
                      go_wp2_with (go_at_call 44; refine (hlow _).mono ?_; rintro e w' ⟨rfl, rfl⟩)
                      go_ret2
                      exact PU.bad _ 2 (unhide Hbel) (.inr rfl) (.inr (unhide Hn))
                  · have b1 := geT (c := x) (k := 48) (by omega); have b2 := leF (c := x) (k := 57) (by omega)
                    rcases hlo with hlo | hlo
                    · have l1 := geF (c := lx) (k := 97) (by omega)
                      go_wp2_with (go_at_call 44; refine (hlow _).mono ?_; rintro e w' ⟨rfl, rfl⟩)
                      go_ret2
                      exact PU.bad _ 2 (unhide Hbel) (.inr rfl) (.inr (unhide Hn))
                    · have l1 := geT (c := lx) (k := 97) (by omega); have l2 := leF (c := lx) (k := 122) (by omega)
                      go_wp2_with (go_at_call 44; refine (hlow _).mono ?_; rintro e w' ⟨rfl, rfl⟩)
                      go_ret2
                      exact PU.bad _ 2 (unhide Hbel) (.inr rfl) (.inr (unhide Hn))
        case rest =>
          obtain ⟨dn, rfl, rfl, rfl, rfl, hdn, Hv⟩ := hcut
          have hdec := unhide Hdec
          have hv := unhide Hv
          simp only [nval, hv] at hdec
          clear Hdec Hv
          by_cases h8 : dn < B
          · obtain ⟨i8, i9⟩ := (unhide HK).k1 dn h8
            rcases (unhide HK).k3 a acc dn ha with ⟨icut, hno⟩ | icut
            · first
              | (exfalso; omega)
              | (rw [if_neg (fun q => hno q.2)] at hdec
                 have Hn := hide hdec
                 clear hdec ha hacc hv hno h8
                 go_wp2
                 go_ret2
                 exact PU.bad _ 1 (unhide Hbel) (.inl rfl) (.inr (unhide Hn)))
            rcases (unhide HK).k5 a acc dn ha icut hdn with ⟨iov, hwr, hno⟩ | iov
            · first
              | (exfalso; omega)
              | (rw [if_neg (fun q => hno q.2)] at hdec
                 have Hn := hide hdec
                 clear hdec ha hacc hv hno h8
                 go_wp2
                 go_ret2
                 exact PU.bad _ 1 (unhide Hbel) (.inl rfl) (.inr (unhide Hn)))
            rcases (unhide HK).k7 a acc dn ha with ⟨imx, hmx⟩ | ⟨imx, hno⟩
            · have HN := hide (show _ ∧ _ ∧ nval B M (strN s) 0 = nval B M ((strN s).drop (k + 1)) (acc * B + dn) from ⟨(unhide HK).k6 a acc dn ha, hmx, by rw [hdec, if_pos ⟨h8, hmx⟩]⟩)
              clear hdec ha hacc hv hmx h8
              go_wp2
              go_roundg (s.size - (k + 1))
              case measure => have := unhide Hgk; omega
              case rel => exact ⟨k + 1, acc * B + dn, _, rfl, by go_num, by go_num, by omega, rfl, rfl, HN⟩
            · rw [if_neg (fun q => hno q.2)] at hdec
              have Hn := hide hdec
              clear hdec ha hacc hv hno h8
              go_wp2
              go_ret2
              exact PU.bad _ 1 (unhide Hbel) (.inl rfl) (.inr (unhide Hn))
          · obtain ⟨i8, i9⟩ := (unhide HK).k2 dn h8
            rw [if_neg (fun q => h8 q.1)] at hdec
            have Hn := hide hdec
            clear hdec ha hacc hv h8
            go_wp2
            go_ret2
            exact PU.bad _ 2 (unhide Hbel) (.inr rfl) (.inr (unhide Hn))
      · obtain rfl : k = s.size := by omega
        have hd0 : (strN s).drop s.size = [] := List.drop_eq_nil_of_le (by rw [strN_len]; omega)
        rw [hd0] at hdec
        have Hd : Hid (nval B M (strN s) 0 = some acc) := hdec
        have Ha := hide ha
        clear hdec hd0 ha hacc
        go_wp2
        go_ret2
        rw [unhide Ha]
        exact PU.good acc (unhide Hbel) (by omega) (unhide Hd)
end Go.Proofs.YtadmamfekodkaaaDoor
