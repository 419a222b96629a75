import Derived.Test.YtokiplfdhoealaaSC
namespace Go.Proofs.Ytokiplfdhoealaa
open Go.RowKit
attribute [local go_sem ↓] Go.wp_at_zero Go.wp_at_succ

/-- The call answers a bool that says p. -/
def SaysB (W : World) (p : Prop) (e : Ending) (w : World) : Prop := ∃ b : Bool, e = .returned (.bool b) ∧ w = W ∧ (b = true ↔ p)
theorem saysB {W : World} {p : Prop} (b : Bool) (h : b = true ↔ p) : SaysB W p (.returned (.bool b)) W := ⟨b, rfl, rfl, h⟩
set_option maxRecDepth 100000 in
theorem xletter_any (W : World) (c : Nat) (hc : c < 256) :
    Calls Try.prog 11 #[.int .u8 (c : Int)] W (SaysB W (isLet c)) := by
  go_enter Try.func11, Try.ntmps11
  go_wp2
  all_goals (go_ret; refine saysB _ ?_; simp [isLet]; omega)
set_option maxRecDepth 100000 in
theorem xdigit_any (W : World) (c : Nat) (hc : c < 256) :
    Calls Try.prog 12 #[.int .u8 (c : Int), .int .u8 10] W (SaysB W (isDig c)) := by
  go_enter Try.func12, Try.ntmps12
  go_wp2
  all_goals (go_ret; refine saysB _ ?_; simp [isDig]; omega)
set_option maxRecDepth 100000 in
set_option maxHeartbeats 1000000 in
theorem xident_any (W : World) (s : ByteArray) :
    Calls Try.prog 6 #[.string s] W (SaysB W (IdentP s)) := by
  by_cases h0 : s.size = 0
  · have e0 : decide ((s.size : Int) < 1) = true := by simp; omega
    go_enter Try.func6, Try.ntmps6
    go_wp2
    go_ret
    exact saysB _ (by simp [IdentP]; omega)
  · have e0 : decide ((s.size : Int) < 1) = false := by simp; omega
    by_cases h1 : s.size ≤ 255
    · obtain ⟨x, hx, hx2, gx⟩ := strN_ex s 0 (by omega)
      have e1 := ltF (a := s.size) (k := 255) (by omega)
      have Hx := hide hx
      clear hx
      go_enter Try.func6, Try.ntmps6
      go_wp2_with fail
      refine (xletter_any W x hx2).mono ?_
      rintro e w' ⟨b, rfl, he, hb⟩
      obtain rfl : W = w' := he.symm
      have Hb := hide hb
      clear hb gx
      cases b with
      | false =>
        go_wp2
        go_ret
        exact saysB _ ⟨fun h => by simp at h, fun h => by have := (unhide Hb).2 (h.2.1 x (unhide Hx)); simp at this⟩
      | true =>
        go_wp2
        go_loopg [3] s.size (fun gk v3 wr => ∃ (k : Nat), v3 = .int .i64 (k : Int) ∧ gk = s.size - k ∧ k ≤ s.size ∧ wr = W ∧ ∀ j x, j < k → (strN s)[j]? = some x → isLet x ∨ isDig x)
        case atStart => exact ⟨0, rfl, rfl, by omega, rfl, fun j x hj => by omega⟩
        case round =>
          obtain ⟨k, rfl, hgk, hk, rfl, hall⟩ := hrel
          have Hgk := hide hgk
          have Hall := hide hall
          clear hgk hall
          by_cases hlt : k < s.size
          · obtain ⟨y, hy, hy2, gy⟩ := strN_ex s k hlt
            have Hy := hide hy
            clear hy
            go_wp2_with fail
            refine (xletter_any wr y hy2).mono ?_
            rintro e w' ⟨b, rfl, he, hb⟩
            obtain rfl : wr = w' := he.symm
            have Hb2 := hide hb
            clear hb
            cases b with
            | true =>
              go_wp2
              go_roundg (s.size - (k + 1))
              case measure => have := unhide Hgk; omega
              case rel =>
                refine ⟨k + 1, by go_num, rfl, by omega, rfl, fun j z hj hz => ?_⟩
                by_cases hjk : j < k
                · exact unhide Hall j z hjk hz
                · obtain rfl : j = k := by omega
                  rw [unhide Hy] at hz
                  obtain rfl := Option.some.inj hz
                  exact .inl (by simpa using unhide Hb2)
            | false =>
              go_wp2_with fail
              refine (xdigit_any wr y hy2).mono ?_
              rintro e w' ⟨b, rfl, he, hb⟩
              obtain rfl : wr = w' := he.symm
              have Hb3 := hide hb
              clear hb
              cases b with
              | true =>
                go_wp2
                go_roundg (s.size - (k + 1))
                case measure => have := unhide Hgk; omega
                case rel =>
                  refine ⟨k + 1, by go_num, rfl, by omega, rfl, fun j z hj hz => ?_⟩
                  by_cases hjk : j < k
                  · exact unhide Hall j z hjk hz
                  · obtain rfl : j = k := by omega
                    rw [unhide Hy] at hz
                    obtain rfl := Option.some.inj hz
                    exact .inr (by simpa using unhide Hb3)
              | false =>
                go_wp2
                go_ret
                refine saysB _ ⟨fun h => by simp at h, fun h => ?_⟩
                rcases h.2.2 k y (unhide Hy) with q | q
                · have := (unhide Hb2).2 q; simp at this
                · have := (unhide Hb3).2 q; simp at this
          · obtain rfl : k = s.size := by omega
            go_wp2
            go_ret
            refine saysB _ ⟨fun _ => ⟨⟨by omega, h1⟩, fun y hy => ?_, fun j y hy => ?_⟩, fun _ => rfl⟩
            · rw [unhide Hx] at hy; obtain rfl := Option.some.inj hy; exact (by simpa using unhide Hb)
            · exact unhide Hall j y (by have := (List.getElem?_eq_some_iff.1 hy).1; rwa [strN_len] at this) hy
    · have e1 := ltT (a := s.size) (k := 255) (by omega)
      go_enter Try.func6, Try.ntmps6
      go_wp2
      go_ret
      exact saysB _ ⟨fun h => by simp at h, fun h => absurd h.1.2 h1⟩
end Go.Proofs.Ytokiplfdhoealaa
