import Derived.Test.YtphccijiniolcaaDoorWMR
import Derived.Test.YtphccijiniolcaaDoorWMo
namespace Go.Proofs.YtphccijiniolcaaDoor
open Go.RowKit
attribute [local go_sem ↓] Go.wp_at_zero Go.wp_at_succ

/-- The machine of groups against the recursion, for Skip. -/
theorem skipM_eq {s : ByteArray} {st : Bool} {depth : Int} {k n kd : Nat} (hk : k ≤ s.size) (h1 : 1 ≤ n) (h2 : n ≤ 536870911) (hkd : kd ≤ 5) :
    skipM s st depth k (n : Int) (kd : Int) = if kd = 4 then .inr (25, k) else if kd = 3 ∧ depth < 1 then .inr (4, k) else if kd = 3 then recM s st depth (s.size + 2) n 1 k else plcE k (bodyR s st k kd) := by
  unfold skipM
  rw [if_neg (by omega), if_neg (by omega), Int.toNat_natCast, Int.toNat_natCast]
  by_cases h4 : kd = 4
  · rw [if_pos h4]
    have ht : tkM s st depth k k 0 [] n kd = .inr (25, k) := by
      unfold tkM
      rw [if_neg (by omega), if_pos h4, if_pos (by omega)]
    rw [ht]
    exact runM_err _ _ _ _ _
  · rw [if_neg h4]
    by_cases h3 : kd = 3
    · by_cases hd : depth < 1
      · rw [if_pos ⟨h3, hd⟩]
        have ht : tkM s st depth k k 0 [] n kd = .inr (4, k) := by
          unfold tkM
          rw [if_pos h3, if_pos (by simp; omega)]
        rw [ht]
        exact runM_err _ _ _ _ _
      · rw [if_neg (fun q => hd q.2), if_pos h3]
        have ht : tkM s st depth k k 0 [] n kd = .inl (k, n, [] ++ [0]) := by
          unfold tkM
          rw [if_pos h3, if_neg (by simp; omega)]
        rw [ht, rec_run s st depth (s.size + 2) n 0 k (s.size + 2) (s.size + 2) [] ⟨hk, by simp, fun e => by simp at e, fun _ => rfl⟩ (by omega) (by simp; omega) (by omega) (by omega) (by omega)]
        show goOn s st depth (s.size + 2) 0 [] (recM s st depth (s.size + 2) n 1 k) = _
        generalize recM s st depth (s.size + 2) n 1 k = r
        match r with
        | .inr x => rfl
        | .inl k2 => exact runM_nil _ _ _ _ _ _
    · rw [if_neg (fun q => h3 q.1), if_neg h3]
      have ht : tkM s st depth k k 0 [] n kd = plcM 0 [] k (bodyR s st k kd) := by
        unfold tkM
        rw [if_neg h3, if_neg h4]
        rfl
      rw [ht]
      generalize bodyR s st k kd = r
      match r with
      | .inr x => exact runM_err _ _ _ _ _
      | .inl k2 => exact runM_nil _ _ _ _ _ _
def CsA (W : World) (c : Nat) (v : Value) (s : ByteArray) (st : Bool) (e : Ending) (w : World) (R : Nat ⊕ (Nat × Nat)) : Prop :=
  ∃ q k2 : Nat, e = .returned (.int .i64 (q : Int)) ∧ Upd W c (.cells #[v, .int .i64 (k2 : Int), .int .i64 (s.size : Int), .bool st] 89 (0, 0)) w ∧ RelC q k2 R
set_option maxRecDepth 100000 in
set_option maxHeartbeats 4000000 in
/-- The reference's Skip. -/
theorem cSkip_any {W : World} {c : Nat} {v : Value} {s : ByteArray} {k : Nat} {st : Bool} {x y depth : Int} (h : CuAt W c v s k st) (hB : Bs W v s) (hk : k ≤ s.size) (hs : s.size ≤ 1048576) (hne : ∀ a l cp, v = .slice (some a) l cp → 0 < s.size → a.block ≠ c ∧ cp ≤ 9223372036854775807) :
    Calls Tryd.prog 66 #[.pointer (some ⟨c, 0, none⟩), .int .i64 x, .int .i64 y, .int .i64 depth] W fun e w => CsA W c v s st e w (skipM s st depth k x y) := by
  have hU0 : Upd W c _ W := ⟨rfl, rfl, rfl, Nat.le_refl _, h, fun _ _ _ => rfl⟩
  by_cases h24 : x < 1 ∨ 536870911 < x
  · have hd : decide (x < 1) = true ∨ (decide (x < 1) = false ∧ decide (536870911 < x) = true) := by
      by_cases q : x < 1
      · exact .inl (decide_eq_true q)
      · exact .inr ⟨decide_eq_false q, decide_eq_true (by omega)⟩
    have Hend : Hid (CsA W c v s st (.returned (.int .i64 24)) W (skipM s st depth k x y)) := by
      unfold skipM
      rw [if_pos h24]
      exact ⟨24, k, rfl, hU0, rfl, by decide, rfl⟩
    clear hU0 h hB hne h24
    rcases hd with d1 | ⟨d1, d2⟩
    all_goals (
      go_enter Tryd.func66, Tryd.ntmps66
      go_wp2
      go_ret
      exact unhide Hend)
  · have d1 : decide (x < 1) = false := decide_eq_false (by omega)
    have d2 : decide (536870911 < x) = false := decide_eq_false (by omega)
    by_cases h23 : y < 0 ∨ 5 < y
    · have hd : decide (y < 0) = true ∨ (decide (y < 0) = false ∧ decide (5 < y) = true) := by
        by_cases q : y < 0
        · exact .inl (decide_eq_true q)
        · exact .inr ⟨decide_eq_false q, decide_eq_true (by omega)⟩
      have Hend : Hid (CsA W c v s st (.returned (.int .i64 23)) W (skipM s st depth k x y)) := by
        unfold skipM
        rw [if_neg h24, if_pos h23]
        exact ⟨23, k, rfl, hU0, rfl, by decide, rfl⟩
      clear hU0 h hB hne h24 h23
      rcases hd with d3 | ⟨d3, d4⟩
      all_goals (
        go_enter Tryd.func66, Tryd.ntmps66
        go_wp2
        go_ret
        exact unhide Hend)
    · have d3 : decide (y < 0) = false := decide_eq_false (by omega)
      have d4 : decide (5 < y) = false := decide_eq_false (by omega)
      obtain ⟨n, rfl⟩ : ∃ n : Nat, x = (n : Int) := ⟨x.toNat, by omega⟩
      obtain ⟨kd, rfl⟩ : ∃ n : Nat, y = (n : Int) := ⟨y.toNat, by omega⟩
      have hkd : kd ≤ 5 := by omega
      rw [skipM_eq hk (by omega) (by omega) hkd]
      by_cases h4 : kd = 4
      · rw [if_pos h4]
        have e4 : ((kd : Int) == 4) = true := by rw [h4]; rfl
        have Hend : Hid (CsA W c v s st (.returned (.int .i64 25)) W (.inr (25, k))) := ⟨25, k, rfl, hU0, rfl, by decide, rfl⟩
        clear hU0 h hB hne h24 h23 h4
        go_enter Tryd.func66, Tryd.ntmps66
        go_wp2
        go_ret
        exact unhide Hend
      · rw [if_neg h4]
        have e4 : ((kd : Int) == 4) = false := beq_eq_false_iff_ne.2 (by omega)
        by_cases h3 : kd = 3 ∧ depth < 1
        · rw [if_pos h3]
          have e5 : ((kd : Int) == 3) = true := by rw [h3.1]; rfl
          have e6 : decide (depth < 1) = true := decide_eq_true h3.2
          have Hend : Hid (CsA W c v s st (.returned (.int .i64 4)) W (.inr (4, k))) := ⟨4, k, rfl, hU0, rfl, by decide, rfl⟩
          clear hU0 h hB hne h24 h23 h4 h3
          go_enter Tryd.func66, Tryd.ntmps66
          go_wp2
          go_ret
          exact unhide Hend
        · rw [if_neg h3]
          have h3' : ((kd : Int) == 3) = false ∨ (((kd : Int) == 3) = true ∧ decide (depth < 1) = false) := by
            by_cases q3 : kd = 3
            · exact .inr ⟨by rw [q3]; rfl, decide_eq_false (fun q => h3 ⟨q3, q⟩)⟩
            · exact .inl (beq_eq_false_iff_ne.2 (by omega))
          have hbeh := behind_any (W := W) (n := n) (o := 0) (kd := kd) (most := depth) (R := recM s st depth (s.size + 2) n 1 k) h hB hk hs hne (by omega) hkd h4 (fun _ X hX hXc => records_any hs hne (s.size + 2) X n 1 k hXc (hB.lift hX) hk (by omega) (by omega))
          obtain ⟨Rb, hRb⟩ : ∃ Rb, (if kd = 3 then recM s st depth (s.size + 2) n 1 k else plcE k (bodyR s st k kd)) = Rb := ⟨_, rfl⟩
          rw [hRb] at hbeh ⊢
          have Hbeh := hide hbeh
          clear hRb hbeh hU0 h hB hne h24 h23 h4 h3
          rcases h3' with q3 | ⟨q3, q4⟩
          all_goals (
            go_enter Tryd.func66, Tryd.ntmps66
            go_wp2_with fail
            refine (unhide Hbeh).mono ?_
            intro e w2 hq
            obtain ⟨x, t, va, vn, vc, q, k2, rfl, hU2, hrel⟩ := hq
            have HU2 := hide hU2
            have Hrel := hide hrel
            clear hU2 hrel Hbeh
            go_wp2
            go_ret
            exact ⟨q, k2, rfl, (unhide HU2).below' ((Below.refl _ _).alloc (Nat.le_refl _) _), unhide Hrel⟩)
#print axioms cSkip_any
end Go.Proofs.YtphccijiniolcaaDoor
