import Derived.Test.YtkkbccdjbgjjaaaDoorSQ
import Derived.Test.YtkkbccdjbgjjaaaDoorSRa
import Derived.Test.YtkkbccdjbgjjaaaDoorSRw

namespace Go.Proofs.YtkkbccdjbgjjaaaDoor
open Go.RowKit

/-- What worth answers. -/
def NumU (l : List Nat) (n c : Int) : Prop := (∃ u : Nat, wv l = some u ∧ n = (u : Int) ∧ c = 0) ∨ (wv l = none ∧ n = 0 ∧ c = 41)
def WorthP (W : World) (l : List Nat) (e : Ending) (w : World) : Prop := Below W.heap.size W w ∧ ∃ n c : Int, e = .returned (.tuple #[.int .i64 n, .int .i64 c]) ∧ NumU l n c
end Go.Proofs.YtkkbccdjbgjjaaaDoor

namespace Go.Proofs.YtkkbccdjbgjjaaaDoor
open Go.RowKit
attribute [local go_sem ↓] Go.wp_at_zero Go.wp_at_succ

theorem spu63 {W : World} (h : HasE W) (s : ByteArray) (hs : s.size ≤ 65536) :
    Calls Tryd.prog 31 #[.string s, .int .i64 16, .int .i64 63] W (SPU W 16 9223372036854775807 s) ∧
    Calls Tryd.prog 31 #[.string s, .int .i64 10, .int .i64 63] W (SPU W 10 9223372036854775807 s) ∧
    Calls Tryd.prog 31 #[.string s, .int .i64 8, .int .i64 63] W (SPU W 8 9223372036854775807 s) := by
  by_cases h0 : s.size = 0
  · exact ⟨sparse_any h s hs _ _ _ _ (parse16_63_empty W s h0), sparse_any h s hs _ _ _ _ (parse10_63_empty W s h0), sparse_any h s hs _ _ _ _ (parse8_63_empty W s h0)⟩
  · exact ⟨sparse_any h s hs _ _ _ _ (parse16_63_full W s h0 hs), sparse_any h s hs _ _ _ _ (parse10_63_full W s h0 hs), sparse_any h s hs _ _ _ _ (parse8_63_full W s h0 hs)⟩
/-- From what ParseUint answers to what worth answers. -/
theorem worth_end {W w : World} {l : List Nat} (n c : Int) (hb : Below W.heap.size W w) (h : NumU l n c) : WorthP W l (.returned (.tuple #[.int .i64 n, .int .i64 c])) w := ⟨hb, n, c, rfl, h⟩
theorem preD (s p : ByteArray) {l : List Nat} (hp : strN p = l) (hn : p.size = l.length) : Pre s p ↔ (strN s).take l.length = l := by
  unfold Pre
  rw [hp, hn]
set_option maxRecDepth 100000 in
set_option maxHeartbeats 1000000 in
theorem worth_any {W : World} (h : HasE W) (s : ByteArray) (hs : s.size ≤ 65536) : Calls Tryd.prog 24 #[.string s] W (WorthP W (strN s)) := by
  have q1 : Pre s ⟨#[48, 120]⟩ ↔ (strN s).take 2 = [48, 120] := preD s ⟨#[48, 120]⟩ (l := [48, 120]) rfl rfl
  have q2 : Pre s ⟨#[48, 88]⟩ ↔ (strN s).take 2 = [48, 88] := preD s ⟨#[48, 88]⟩ (l := [48, 88]) rfl rfl
  have q3 : Pre s ⟨#[48]⟩ ↔ (strN s).take 1 = [48] := preD s ⟨#[48]⟩ (l := [48]) rfl rfl
  have Q1 := hide q1
  have Q2 := hide q2
  have Q3 := hide q3
  clear q1 q2 q3
  go_enter Tryd.func24, Tryd.ntmps24
  go_wp2_with fail
  refine (hasPrefix_any W s _).mono ?_
  rintro e w' ⟨rfl, he⟩
  obtain rfl : W = w' := he.symm
  by_cases c1 : Pre s ⟨#[48, 120]⟩
  · rw [preT c1]
    have l1 := (unhide Q1).1 c1
    have hl2 : 2 ≤ s.size := by have := congrArg List.length l1; rw [List.length_take, strN_len] at this; simp at this; omega
    have hwv : wv (strN s) = if s.size = 2 then none else nval 16 9223372036854775807 ((strN s).drop 2) 0 := by unfold wv; rw [if_pos (.inl l1), strN_len]
    have hx := strN_extract s 2 s.size
    have hxs : (s.extract 2 s.size).size = s.size - 2 := by rw [← strN_len, hx, List.length_take, List.length_drop, strN_len]; omega
    have hx2 : strN (s.extract 2 s.size) = (strN s).drop 2 := by rw [hx, List.take_of_length_le (by rw [List.length_drop, strN_len]; omega)]
    have hg : ∀ u, 0 < (s.extract 2 s.size).size → nval 16 9223372036854775807 (strN (s.extract 2 s.size)) 0 = some u → wv (strN s) = some u := fun u h1 h2 => by rw [hwv, if_neg (by omega), ← hx2, h2]
    have hbad : ((s.extract 2 s.size).size = 0 ∨ nval 16 9223372036854775807 (strN (s.extract 2 s.size)) 0 = none) → wv (strN s) = none := fun hh => by
      rw [hwv]
      split
      · rfl
      · rcases hh with hh | hh
        · omega
        · rw [← hx2, hh]
    clear hx hx2 hwv l1
    go_wp2_with fail
    refine ((spu63 h _ (by omega)).1).mono ?_
    rintro e w1 ⟨hb1, ⟨u, rfl, hz, hu⟩ | ⟨u, p, rfl, hu⟩⟩
    · have hw := hg u hz hu
      have hle := wv_le hw
      have Hw := hide hw
      have Hb := hide hb1
      clear hw hu hz hb1 hg hbad
      go_wp2
      go_ret2
      exact worth_end _ _ (unhide Hb) (.inl ⟨u, unhide Hw, by go_num, rfl⟩)
    · have hw := hbad hu
      have Hw := hide hw
      have Hb := hide hb1
      clear hw hu hb1 hg hbad
      go_wp2
      go_ret2
      exact worth_end _ _ (unhide Hb) (.inr ⟨unhide Hw, rfl, rfl⟩)
  · rw [preF c1]
    go_wp2_with fail
    refine (hasPrefix_any W s _).mono ?_
    rintro e w' ⟨rfl, he⟩
    obtain rfl : W = w' := he.symm
    by_cases c2 : Pre s ⟨#[48, 88]⟩
    · rw [preT c2]
      have l1 := (unhide Q2).1 c2
      have hl2 : 2 ≤ s.size := by have := congrArg List.length l1; rw [List.length_take, strN_len] at this; simp at this; omega
      have hwv : wv (strN s) = if s.size = 2 then none else nval 16 9223372036854775807 ((strN s).drop 2) 0 := by unfold wv; rw [if_pos (.inr l1), strN_len]
      have hx := strN_extract s 2 s.size
      have hxs : (s.extract 2 s.size).size = s.size - 2 := by rw [← strN_len, hx, List.length_take, List.length_drop, strN_len]; omega
      have hx2 : strN (s.extract 2 s.size) = (strN s).drop 2 := by rw [hx, List.take_of_length_le (by rw [List.length_drop, strN_len]; omega)]
      have hg : ∀ u, 0 < (s.extract 2 s.size).size → nval 16 9223372036854775807 (strN (s.extract 2 s.size)) 0 = some u → wv (strN s) = some u := fun u h1 h2 => by rw [hwv, if_neg (by omega), ← hx2, h2]
      have hbad : ((s.extract 2 s.size).size = 0 ∨ nval 16 9223372036854775807 (strN (s.extract 2 s.size)) 0 = none) → wv (strN s) = none := fun hh => by
        rw [hwv]
        split
        · rfl
        · rcases hh with hh | hh
          · omega
          · rw [← hx2, hh]
      clear hx hx2 hwv l1
      go_wp2_with fail
      refine ((spu63 h _ (by omega)).1).mono ?_
      rintro e w1 ⟨hb1, ⟨u, rfl, hz, hu⟩ | ⟨u, p, rfl, hu⟩⟩
      · have hw := hg u hz hu
        have hle := wv_le hw
        have Hw := hide hw
        have Hb := hide hb1
        clear hw hu hz hb1 hg hbad
        go_wp2
        go_ret2
        exact worth_end _ _ (unhide Hb) (.inl ⟨u, unhide Hw, by go_num, rfl⟩)
      · have hw := hbad hu
        have Hw := hide hw
        have Hb := hide hb1
        clear hw hu hb1 hg hbad
        go_wp2
        go_ret2
        exact worth_end _ _ (unhide Hb) (.inr ⟨unhide Hw, rfl, rfl⟩)
    · rw [preF c2]
      have n1 := mt (unhide Q1).2 c1
      have n2 := mt (unhide Q2).2 c2
      go_wp2_with fail
      refine (hasPrefix_any W s _).mono ?_
      rintro e w' ⟨rfl, he⟩
      obtain rfl : W = w' := he.symm
      by_cases c3 : Pre s ⟨#[48]⟩
      · rw [preT c3]
        have l3 := (unhide Q3).1 c3
        have hwv : wv (strN s) = nval 8 9223372036854775807 (strN s) 0 := by unfold wv; rw [if_neg (fun o => o.elim n1 n2), if_pos l3]
        have hl1 : 1 ≤ s.size := by have := congrArg List.length l3; rw [List.length_take, strN_len] at this; simp at this; omega
        have hg : ∀ u, 0 < s.size → nval 8 9223372036854775807 (strN s) 0 = some u → wv (strN s) = some u := fun u _ h2 => by rw [hwv, h2]
        have hbad : (s.size = 0 ∨ nval 8 9223372036854775807 (strN s) 0 = none) → wv (strN s) = none := fun hh => by
          rcases hh with hh | hh
          · omega
          · rw [hwv, hh]
        clear hwv n1 n2 l3
        go_wp2_with fail
        refine ((spu63 h s hs).2.2).mono ?_
        rintro e w1 ⟨hb1, ⟨u, rfl, hz, hu⟩ | ⟨u, p, rfl, hu⟩⟩
        · have hw := hg u hz hu
          have hle := wv_le hw
          have Hw := hide hw
          have Hb := hide hb1
          clear hw hu hz hb1 hg hbad
          go_wp2
          go_ret2
          exact worth_end _ _ (unhide Hb) (.inl ⟨u, unhide Hw, by go_num, rfl⟩)
        · have hw := hbad hu
          have Hw := hide hw
          have Hb := hide hb1
          clear hw hu hb1 hg hbad
          go_wp2
          go_ret2
          exact worth_end _ _ (unhide Hb) (.inr ⟨unhide Hw, rfl, rfl⟩)
      · rw [preF c3]
        have n3 := mt (unhide Q3).2 c3
        have hwv : wv (strN s) = if strN s = [] then none else nval 10 9223372036854775807 (strN s) 0 := by unfold wv; rw [if_neg (fun o => o.elim n1 n2), if_neg n3]
        have hg : ∀ u, 0 < s.size → nval 10 9223372036854775807 (strN s) 0 = some u → wv (strN s) = some u := fun u h1 h2 => by
          have hne : ¬ strN s = [] := fun e => by
            have h9 : (strN s).length = 0 := by rw [e]; rfl
            rw [strN_len] at h9
            omega
          rw [hwv, if_neg hne, h2]
        have hbad : (s.size = 0 ∨ nval 10 9223372036854775807 (strN s) 0 = none) → wv (strN s) = none := fun hh => by
          rw [hwv]
          split
          · rfl
          · rename_i hne
            rcases hh with hh | hh
            · exact absurd (List.eq_nil_of_length_eq_zero (by rw [strN_len]; exact hh)) hne
            · exact hh
        clear hwv n1 n2 n3
        go_wp2_with fail
        refine ((spu63 h s hs).2.1).mono ?_
        rintro e w1 ⟨hb1, ⟨u, rfl, hz, hu⟩ | ⟨u, p, rfl, hu⟩⟩
        · have hw := hg u hz hu
          have hle := wv_le hw
          have Hw := hide hw
          have Hb := hide hb1
          clear hw hu hz hb1 hg hbad
          go_wp2
          go_ret2
          exact worth_end _ _ (unhide Hb) (.inl ⟨u, unhide Hw, by go_num, rfl⟩)
        · have hw := hbad hu
          have Hw := hide hw
          have Hb := hide hb1
          clear hw hu hb1 hg hbad
          go_wp2
          go_ret2
          exact worth_end _ _ (unhide Hb) (.inr ⟨unhide Hw, rfl, rfl⟩)

theorem NumU.same {l : List Nat} {n c m d : Int} (h : NumU l n c) (k : NumU l m d) : n = m ∧ c = d := by
  rcases h with ⟨u, h1, rfl, rfl⟩ | ⟨h1, rfl, rfl⟩ <;> rcases k with ⟨v, k1, rfl, rfl⟩ | ⟨k1, rfl, rfl⟩
  · rw [h1] at k1; obtain rfl := Option.some.inj k1; exact ⟨rfl, rfl⟩
  · rw [h1] at k1; cases k1
  · rw [h1] at k1; cases k1
  · exact ⟨rfl, rfl⟩
end Go.Proofs.YtkkbccdjbgjjaaaDoor
