import Derived.Test.YtaadpiimcaabkaaGreatDoorJ07
import Derived.Shelf.Strings.Split
import Derived.Test.YtaadpiimcaabkaaGreatDoorChecked
import Derived.Shelf.Strings.Prefix

namespace Go.Proofs.YtaadpiimcaabkaaGreatDoor
open Go.RowKit
attribute [local go_sem ↓] Go.wp_at_zero Go.wp_at_succ

theorem eqNatF {a b : Nat} (h : ¬ a = b) : ((a : Int) == (b : Int)) = false := by simp; omega
theorem eqNatT (a : Nat) : ((a : Int) == (a : Int)) = true := by simp
/-- May the text be a name? -/
def IdentP (s : ByteArray) : Prop := (1 ≤ s.size ∧ s.size ≤ 255) ∧ (∀ x, (strN s)[0]? = some x → isLet x) ∧ ∀ (j x : Nat), (strN s)[j]? = some x → isLet x ∨ isDig x
set_option maxRecDepth 100000 in
set_option maxHeartbeats 1000000 in
theorem ident_any (W : World) (s : ByteArray) :
    Calls Tryz.prog 108 #[.string s] W fun e w => ∃ b : Bool, e = .returned (.bool b) ∧ w = W ∧ (b = true ↔ IdentP s) := by
  by_cases h0 : s.size = 0
  · obtain rfl : s = ⟨#[]⟩ := by cases s with | mk d => cases d with | mk l => cases l with | nil => rfl | cons a r => simp [ByteArray.size] at h0
    go_enter Tryz.func108, Tryz.ntmps108
    go_wp2
    go_ret
    exact ⟨_, rfl, rfl, by simp [IdentP, ByteArray.size]⟩
  · have e0 := isEmptyF h0
    by_cases h1 : s.size ≤ 255
    · obtain ⟨x, hx, hx2, gx⟩ := strN_ex s 0 (by omega)
      have e1 := ltF (a := s.size) (k := 255) (by omega)
      have Hx := hide hx
      clear hx
      go_enter Tryz.func108, Tryz.ntmps108
      go_wp2_with fail
      refine (classOf_any W x hx2).mono ?_
      rintro e w' ⟨rfl, he⟩
      obtain rfl : W = w' := he.symm
      by_cases h2 : isLet x
      · rw [cls_let.2 h2]
        go_wp2_with fail
        refine (row_any W s (by omega)).mono ?_
        rintro e w' ⟨n, rfl, he, hn, hall, hend⟩
        obtain rfl : W = w' := he.symm
        have Hall := hide hall
        have Hend := hide hend
        clear hall hend gx
        by_cases hnn : n = s.size
        · subst hnn
          have e2 := eqNatT s.size
          go_wp2
          go_ret
          refine ⟨_, rfl, rfl, fun _ => ⟨⟨by omega, h1⟩, fun y hy => ?_, fun j y hy => ?_⟩, fun _ => rfl⟩
          · rw [unhide Hx] at hy; obtain rfl := Option.some.inj hy; exact h2
          · exact unhide Hall j y (by have := (List.getElem?_eq_some_iff.1 hy).1; rwa [strN_len] at this) hy
        · have e2 := eqNatF hnn
          go_wp2
          go_ret
          refine ⟨_, rfl, rfl, fun h => by simp at h, fun h => ?_⟩
          obtain ⟨y, hy, _, _⟩ := strN_ex s n (by omega)
          exact absurd (h.2.2 n y hy) (unhide Hend y hy)
      · have h3 : ¬ cls x = 2 := mt cls_let.1 h2
        have e2 : ((cls x : Int) == 2) = false := by simp; omega
        have H2 := hide h2
        clear h2 gx
        generalize cls x = kx at *
        go_wp2
        go_ret
        refine ⟨_, rfl, rfl, fun h => by simp at h, fun h => absurd (h.2.1 x (unhide Hx)) (unhide H2)⟩
    · have e1 := ltT (a := s.size) (k := 255) (by omega)
      go_enter Tryz.func108, Tryz.ntmps108
      go_wp2
      go_ret
      exact ⟨_, rfl, rfl, fun h => by simp at h, fun h => absurd h.1.2 h1⟩
end Go.Proofs.YtaadpiimcaabkaaGreatDoor

namespace Go.Proofs.YtaadpiimcaabkaaGreatDoor
open Go.RowKit
attribute [local go_sem ↓] Go.wp_at_zero Go.wp_at_succ

/-- The call answers a bool that says p. -/
def SaysB (W : World) (p : Prop) (e : Ending) (w : World) : Prop := ∃ b : Bool, e = .returned (.bool b) ∧ w = W ∧ (b = true ↔ p)
theorem saysB {W : World} {p : Prop} (b : Bool) (h : b = true ↔ p) : SaysB W p (.returned (.bool b)) W := ⟨b, rfl, rfl, h⟩
set_option maxRecDepth 100000 in
theorem xletter_any (W : World) (c : Nat) (hc : c < 256) :
    Calls Tryz.prog 102 #[.int .u8 (c : Int)] W (SaysB W (isLet c)) := by
  go_enter Tryz.func102, Tryz.ntmps102
  go_wp2
  all_goals (go_ret; refine saysB _ ?_; simp [isLet]; omega)
set_option maxRecDepth 100000 in
theorem xdigit_any (W : World) (c : Nat) (hc : c < 256) :
    Calls Tryz.prog 103 #[.int .u8 (c : Int), .int .u8 10] W (SaysB W (isDig c)) := by
  go_enter Tryz.func103, Tryz.ntmps103
  go_wp2
  all_goals (go_ret; refine saysB _ ?_; simp [isDig]; omega)
end Go.Proofs.YtaadpiimcaabkaaGreatDoor

namespace Go.Proofs.YtaadpiimcaabkaaGreatDoor
open Go.RowKit
attribute [local go_sem ↓] Go.wp_at_zero Go.wp_at_succ

set_option maxRecDepth 100000 in
set_option maxHeartbeats 1000000 in
theorem xident_any (W : World) (s : ByteArray) :
    Calls Tryz.prog 149 #[.string s] W (SaysB W (IdentP s)) := by
  by_cases h0 : s.size = 0
  · have e0 : decide ((s.size : Int) < 1) = true := by simp; omega
    go_enter Tryz.func149, Tryz.ntmps149
    go_wp2
    go_ret
    exact saysB _ (by simp [IdentP]; omega)
  · have e0 : decide ((s.size : Int) < 1) = false := by simp; omega
    by_cases h1 : s.size ≤ 255
    · obtain ⟨x, hx, hx2, gx⟩ := strN_ex s 0 (by omega)
      have e1 := ltF (a := s.size) (k := 255) (by omega)
      have Hx := hide hx
      clear hx
      go_enter Tryz.func149, Tryz.ntmps149
      go_wp2_with fail
      refine (xletter_any W x hx2).mono ?_
      rintro e w' ⟨b, rfl, he, hb⟩
      obtain rfl : W = w' := he.symm
      have Hb := hide hb
      clear hb gx
      cases b with
      | false =>
        go_wp2
        go_ret
        exact saysB _ ⟨fun h => by simp at h, fun h => by have := (unhide Hb).2 (h.2.1 x (unhide Hx)); simp at this⟩
      | true =>
        go_wp2
        go_loopg [3] s.size (fun gk v3 wr => ∃ (k : Nat), v3 = .int .i64 (k : Int) ∧ gk = s.size - k ∧ k ≤ s.size ∧ wr = W ∧ ∀ j x, j < k → (strN s)[j]? = some x → isLet x ∨ isDig x)
        case atStart => exact ⟨0, rfl, rfl, by omega, rfl, fun j x hj => by omega⟩
        case round =>
          obtain ⟨k, rfl, hgk, hk, rfl, hall⟩ := hrel
          have Hgk := hide hgk
          have Hall := hide hall
          clear hgk hall
          by_cases hlt : k < s.size
          · obtain ⟨y, hy, hy2, gy⟩ := strN_ex s k hlt
            have Hy := hide hy
            clear hy
            go_wp2_with fail
            refine (xletter_any wr y hy2).mono ?_
            rintro e w' ⟨b, rfl, he, hb⟩
            obtain rfl : wr = w' := he.symm
            have Hb2 := hide hb
            clear hb
            cases b with
            | true =>
              go_wp2
              go_roundg (s.size - (k + 1))
              case measure => have := unhide Hgk; omega
              case rel =>
                refine ⟨k + 1, by go_num, rfl, by omega, rfl, fun j z hj hz => ?_⟩
                by_cases hjk : j < k
                · exact unhide Hall j z hjk hz
                · obtain rfl : j = k := by omega
                  rw [unhide Hy] at hz
                  obtain rfl := Option.some.inj hz
                  exact .inl (by simpa using unhide Hb2)
            | false =>
              go_wp2_with fail
              refine (xdigit_any wr y hy2).mono ?_
              rintro e w' ⟨b, rfl, he, hb⟩
              obtain rfl : wr = w' := he.symm
              have Hb3 := hide hb
              clear hb
              cases b with
              | true =>
                go_wp2
                go_roundg (s.size - (k + 1))
                case measure => have := unhide Hgk; omega
                case rel =>
                  refine ⟨k + 1, by go_num, rfl, by omega, rfl, fun j z hj hz => ?_⟩
                  by_cases hjk : j < k
                  · exact unhide Hall j z hjk hz
                  · obtain rfl : j = k := by omega
                    rw [unhide Hy] at hz
                    obtain rfl := Option.some.inj hz
                    exact .inr (by simpa using unhide Hb3)
              | false =>
                go_wp2
                go_ret
                refine saysB _ ⟨fun h => by simp at h, fun h => ?_⟩
                rcases h.2.2 k y (unhide Hy) with q | q
                · have := (unhide Hb2).2 q; simp at this
                · have := (unhide Hb3).2 q; simp at this
          · obtain rfl : k = s.size := by omega
            go_wp2
            go_ret
            refine saysB _ ⟨fun _ => ⟨⟨by omega, h1⟩, fun y hy => ?_, fun j y hy => ?_⟩, fun _ => rfl⟩
            · rw [unhide Hx] at hy; obtain rfl := Option.some.inj hy; exact (by simpa using unhide Hb)
            · exact unhide Hall j y (by have := (List.getElem?_eq_some_iff.1 hy).1; rwa [strN_len] at this) hy
    · have e1 := ltT (a := s.size) (k := 255) (by omega)
      go_enter Tryz.func149, Tryz.ntmps149
      go_wp2
      go_ret
      exact saysB _ ⟨fun h => by simp at h, fun h => absurd h.1.2 h1⟩
end Go.Proofs.YtaadpiimcaabkaaGreatDoor
namespace Go.Proofs
open Go.Shelf
def Tryz.laysNSp146_ren : Go.Shelf.Ren := ⟨fun | 146 => 63 | 221 => 107 | 268 => 154 | 138 => 155 | 143 => 156 | 195 => 184 | 197 => 185 | 218 => 186 | 219 => 187 | 260 => 195 | 217 => 181 | 225 => 196 | 224 => 197 | 267 => 198 | 266 => 194 | 314 => 210 | n => n, fun | 9 => 9 | 31 => 22 | 3 => 3 | 4 => 4 | 0 => 0 | 105 => 204 | 21 => 21 | 5 => 5 | 46 => 156 | 119 => 222 | 139 => 225 | 138 => 224 | 146 => 187 | 51 => 186 | n => n, fun | 1 => 1 | 3 => 2 | 4 => 3 | n => n⟩
theorem Tryz.laysNSp146 : Go.Proofs.Lays.n146 Tryz.prog Tryz.laysNSp146_ren := {
  mixed := by kernel_rfl
  f138 := Tryz.func155.trans (congrArg some (by kernel_rfl))
  f143 := Tryz.func156.trans (congrArg some (by kernel_rfl))
  f146 := Tryz.func63.trans (congrArg some (by kernel_rfl))
  f195 := Tryz.func184.trans (congrArg some (by kernel_rfl))
  f197 := Tryz.func185.trans (congrArg some (by kernel_rfl))
  f217 := Tryz.func181.trans (congrArg some (by kernel_rfl))
  f218 := Tryz.func186.trans (congrArg some (by kernel_rfl))
  f219 := Tryz.func187.trans (congrArg some (by kernel_rfl))
  f221 := Tryz.func107.trans (congrArg some (by kernel_rfl))
  f224 := Tryz.func197.trans (congrArg some (by kernel_rfl))
  f225 := Tryz.func196.trans (congrArg some (by kernel_rfl))
  f260 := Tryz.func195.trans (congrArg some (by kernel_rfl))
  f266 := Tryz.func194.trans (congrArg some (by kernel_rfl))
  f267 := Tryz.func198.trans (congrArg some (by kernel_rfl))
  f268 := Tryz.func154.trans (congrArg some (by kernel_rfl))
  f314 := Tryz.func210.trans (congrArg some (by kernel_rfl))
  t0 := Tryz.underlying0
  a0 := Tryz.isAgg0
  z0 := Tryz.sizeOf0
  v0 := Tryz.zeroValue0
  t3 := Tryz.underlying3
  a3 := Tryz.isAgg3
  z3 := Tryz.sizeOf3
  v3 := Tryz.zeroValue3
  t4 := Tryz.underlying4
  a4 := Tryz.isAgg4
  z4 := Tryz.sizeOf4
  v4 := Tryz.zeroValue4
  t5 := Tryz.underlying5
  a5 := Tryz.isAgg5
  z5 := Tryz.sizeOf5
  v5 := Tryz.zeroValue5
  t9 := Tryz.underlying9
  a9 := Tryz.isAgg9
  z9 := Tryz.sizeOf9
  v9 := Tryz.zeroValue9
  t21 := Tryz.underlying21
  a21 := Tryz.isAgg21
  z21 := Tryz.sizeOf21
  v21 := Tryz.zeroValue21
  t31 := Tryz.underlying22
  a31 := Tryz.isAgg22
  z31 := Tryz.sizeOf22
  v31 := Tryz.zeroValue22
  t46 := Tryz.underlying156
  a46 := Tryz.isAgg156
  z46 := Tryz.sizeOf156
  v46 := Tryz.zeroValue156
  t51 := Tryz.underlying186
  a51 := Tryz.isAgg186
  z51 := Tryz.sizeOf186
  v51 := Tryz.zeroValue186
  t105 := Tryz.underlying204
  a105 := Tryz.isAgg204
  z105 := Tryz.sizeOf204
  v105 := Tryz.zeroValue204
  t119 := Tryz.underlying222
  a119 := Tryz.isAgg222
  z119 := Tryz.sizeOf222
  t138 := Tryz.underlying224
  a138 := Tryz.isAgg224
  z138 := Tryz.sizeOf224
  v138 := Tryz.zeroValue224
  t139 := Tryz.underlying225
  a139 := Tryz.isAgg225
  z139 := Tryz.sizeOf225
  v139 := Tryz.zeroValue225
  t146 := Tryz.underlying187
  a146 := Tryz.isAgg187
  z146 := Tryz.sizeOf187
  v146 := Tryz.zeroValue187
  g1 := by kernel_rfl
  g3 := by kernel_rfl
  g4 := by kernel_rfl }
end Go.Proofs
namespace Go.Proofs
open Go.Shelf
def Tryz.laysNP101_ren : Go.Shelf.Ren := ⟨fun | 101 => 159 | 208 => 188 | 206 => 166 | n => n, fun | 9 => 9 | 4 => 4 | 3 => 3 | n => n, fun | n => n⟩
theorem Tryz.laysNP101 : Go.Proofs.Lays.n101 Tryz.prog Tryz.laysNP101_ren := {
  mixed := by kernel_rfl
  f101 := Tryz.func159.trans (congrArg some (by kernel_rfl))
  f206 := Tryz.func166.trans (congrArg some (by kernel_rfl))
  f208 := Tryz.func188.trans (congrArg some (by kernel_rfl))
  t3 := Tryz.underlying3
  a3 := Tryz.isAgg3
  z3 := Tryz.sizeOf3
  v3 := Tryz.zeroValue3
  t4 := Tryz.underlying4
  a4 := Tryz.isAgg4
  z4 := Tryz.sizeOf4
  v4 := Tryz.zeroValue4
  t9 := Tryz.underlying9
  a9 := Tryz.isAgg9
  z9 := Tryz.sizeOf9
  v9 := Tryz.zeroValue9 }
end Go.Proofs
