import Derived.Test.YtkkbccdjbgjjaaaDoorSZJ
import Derived.Test.YtkkbccdjbgjjaaaDoorSSJ
import Derived.Test.YtkkbccdjbgjjaaaDoorQG

namespace Go.Proofs.YtkkbccdjbgjjaaaDoor
open Go.RowKit
attribute [local go_sem ↓] Go.wp_at_zero Go.wp_at_succ

theorem cls_cases (c : Nat) : (cls c = 1 ∧ isBlk c) ∨ (¬ isBlk c ∧ ((cls c = 2 ∧ isLet c) ∨ (¬ isLet c ∧ ((cls c = 3 ∧ isDig c) ∨ (¬ isDig c ∧ ((cls c = 4 ∧ (c = 39 ∨ c = 34)) ∨ (¬ (c = 39 ∨ c = 34) ∧ ((cls c = 5 ∧ isSgn c) ∨ (¬ isSgn c ∧ ((cls c = 6 ∧ c = 47) ∨ (cls c = 0 ∧ ¬ c = 47)))))))))))  := by
  unfold cls isBlk
  by_cases h1 : (9 ≤ c ∧ c ≤ 13) ∨ c = 32
  · exact .inl ⟨by rw [if_pos h1], h1⟩
  · refine .inr ⟨h1, ?_⟩
    rw [if_neg h1]
    by_cases h2 : isLet c
    · exact .inl ⟨by rw [if_pos h2], h2⟩
    · refine .inr ⟨h2, ?_⟩
      rw [if_neg h2]
      by_cases h3 : isDig c
      · exact .inl ⟨by rw [if_pos h3], h3⟩
      · refine .inr ⟨h3, ?_⟩
        rw [if_neg h3]
        by_cases h4 : c = 39 ∨ c = 34
        · exact .inl ⟨by rw [if_pos h4], h4⟩
        · refine .inr ⟨h4, ?_⟩
          rw [if_neg h4]
          by_cases h5 : isSgn c
          · exact .inl ⟨by rw [if_pos h5], h5⟩
          · refine .inr ⟨h5, ?_⟩
            rw [if_neg h5]
            by_cases h6 : c = 47
            · exact .inl ⟨by rw [if_pos h6], h6⟩
            · exact .inr ⟨by rw [if_neg h6], h6⟩
theorem takeB {W : World} {B b : Nat} {s : ByteArray} {k n c : Nat} {v : Value} {xs : List Value} (I : ScanIn W B b s k n v xs) (hp : passF s s.size k = (k, true)) (ho : (oneF s k).2.2 = c) (hc : c ≠ 0) (kind m c' : Int) (hc' : c' = (c : Int)) :
    Calls Tryd.prog 18 #[.pointer (some ⟨b, 0, none⟩), .int .i64 kind, .int .i64 m, .int .i64 c'] W (StepP B b s k n xs W) := by
  subst hc'
  exact take_badP I hp ho hc kind m
theorem takeO {W : World} {B b : Nat} {s : ByteArray} {k n m t : Nat} {v : Value} {xs : List Value} (I : ScanIn W B b s k n v xs) (hp : passF s s.size k = (k, true)) (ho : oneF s k = (t, k + m, 0)) (t' m' : Int) (ht : t' = (t : Int)) (hm : m' = (m : Int)) :
    Calls Tryd.prog 18 #[.pointer (some ⟨b, 0, none⟩), .int .i64 t', .int .i64 m', .int .i64 0] W (StepP B b s k n xs W) := by
  subst ht hm
  exact take_okP I hp ho
set_option maxRecDepth 100000 in
theorem stepP_none {W : World} {B b : Nat} {s : ByteArray} {k n : Nat} {v : Value} {xs : List Value} (I : ScanIn W B b s k n v xs) (hp : passF s s.size k = (k, true)) (ho : (oneF s k).2.2 = 40) :
    Calls Tryd.prog 17 #[.pointer (some ⟨b, 0, none⟩)] W (StepP B b s k n xs W) := by
  have H := hide (takeB I hp ho (by decide) 0 0 40 rfl)
  clear I hp ho
  go_enter Tryd.func17, Tryd.ntmps17
  go_wp2_with fail
  refine (unhide H).mono ?_
  intro e w hq
  obtain ⟨c, rfl⟩ := hq.ret
  have Hq := hide hq
  clear hq
  go_wp2
  go_ret
  exact unhide Hq
set_option maxRecDepth 100000 in
theorem stepP_sign {W : World} {B b : Nat} {s : ByteArray} {k n : Nat} {v : Value} {xs : List Value} (I : ScanIn W B b s k n v xs) (hp : passF s s.size k = (k, true)) (ho : oneF s k = (4, k + 1, 0)) :
    Calls Tryd.prog 27 #[.pointer (some ⟨b, 0, none⟩)] W (StepP B b s k n xs W) := by
  have H := hide (takeO I hp ho 4 1 rfl rfl)
  clear I hp ho
  go_enter Tryd.func27, Tryd.ntmps27
  go_wp2_with fail
  refine (unhide H).mono ?_
  intro e w hq
  obtain ⟨c, rfl⟩ := hq.ret
  have Hq := hide hq
  clear hq
  go_wp2
  go_ret
  exact unhide Hq
theorem stepP_blank {W : World} {B b : Nat} {s : ByteArray} {k n : Nat} {v : Value} {xs : List Value} (I : ScanIn W B b s k n v xs) (h : isBlk (byteAt s k)) :
    Calls Tryd.prog 19 #[.pointer (some ⟨b, 0, none⟩)] W (StepP B b s k n xs W) := by
  refine (step_blank I.sc I.more I.size).mono ?_
  rintro e w ⟨rfl, rfl⟩
  have hmore := I.more
  refine ⟨(BX.refl _ _ _).set _ _, .inl ⟨rfl, k + 1, [], v, I.sc.at _, ?_, by omega, by omega, I.room, ?_⟩⟩
  · show World.ownsRow _ B 31 3 v n (xs ++ [])
    rw [List.append_nil]
    obtain ⟨h1, ⟨rfl, h0⟩ | ⟨g, c, cur, rfl, h2, h3, h4⟩⟩ := I.row
    · exact ⟨h1, .inl ⟨rfl, h0⟩⟩
    · refine ⟨h1, .inr ⟨g, c, cur, rfl, h2, (heap_setCell_other _ ⟨b, 1, none⟩ g _ ?_).trans h3, h4⟩⟩
      have := I.lo
      show ¬ g = b
      omega
  · rw [frontT_nil]
    exact tk_pass n (pass_blank I.more h)
set_option maxRecDepth 100000 in
theorem stepP_letter {W : World} {B b : Nat} {s : ByteArray} {k n : Nat} {v : Value} {xs : List Value} (I : ScanIn W B b s k n v xs) (hp : passF s s.size k = (k, true)) (ho : oneF s k = (1, endRow s k, 0)) :
    Calls Tryd.prog 20 #[.pointer (some ⟨b, 0, none⟩)] W (StepP B b s k n xs W) := by
  have hr := rest_any I.sc (Nat.le_of_lt I.more)
  have HI := hide I
  have hs := I.size
  have hk := I.more
  have Hp := hide hp
  have Ho := hide ho
  clear I hp ho
  go_enter Tryd.func20, Tryd.ntmps20
  go_wp2_with fail
  refine hr.mono ?_
  rintro e w1 ⟨rfl, n1, rfl⟩
  clear hr
  have hro := row_any (W.drewN n1) (s.extract k s.size) (by rw [ByteArray.size_extract]; omega)
  go_wp2_with fail
  refine hro.mono ?_
  rintro e w2 ⟨m, rfl, hw2, hn, h1, h2⟩
  obtain rfl : W.drewN n1 = w2 := hw2.symm
  clear hw2 hro
  obtain ⟨eE, hle⟩ := endRow_row (by omega) hn h1 h2
  have hb1 : Below W.heap.size W (W.drewN n1) := below_drewN (Below.refl _ _) n1
  have ht := takeO ((unhide HI).up hb1) (unhide Hp) (by rw [unhide Ho, eE]) 1 (m : Int) rfl rfl
  have Ht := hide ht
  have Hb1 := hide hb1
  clear ht hn h1 h2 hle eE hb1
  go_wp2_with fail
  refine (unhide Ht).mono ?_
  intro e w hq
  obtain ⟨c, rfl⟩ := hq.ret
  have Hq := hide (hq.from (unhide Hb1) (unhide HI).hi)
  clear hq
  go_wp2
  go_ret
  exact unhide Hq
set_option maxRecDepth 100000 in
theorem stepP_digit {W : World} {B b : Nat} {s : ByteArray} {k n : Nat} {v : Value} {xs : List Value} (hE : HasE W) (I : ScanIn W B b s k n v xs) (hp : passF s s.size k = (k, true)) (ho : oneF s k = if wv (strN (s.extract k (endRow s k))) = none then (0, 0, 41) else (2, endRow s k, 0)) :
    Calls Tryd.prog 23 #[.pointer (some ⟨b, 0, none⟩)] W (StepP B b s k n xs W) := by
  have hr := rest_any I.sc (Nat.le_of_lt I.more)
  have HI := hide I
  have HE := hide hE
  have hs := I.size
  have hk := I.more
  have Hp := hide hp
  have Ho := hide ho
  clear I hp ho hE
  go_enter Tryd.func23, Tryd.ntmps23
  go_wp2_with fail
  refine hr.mono ?_
  rintro e w1 ⟨rfl, n1, rfl⟩
  clear hr
  have hro := row_any (W.drewN n1) (s.extract k s.size) (by rw [ByteArray.size_extract]; omega)
  go_wp2_with fail
  refine hro.mono ?_
  rintro e w2 ⟨m, rfl, hw2, hn, h1, h2⟩
  obtain rfl : W.drewN n1 = w2 := hw2.symm
  clear hw2 hro
  obtain ⟨eE, hle⟩ := endRow_row (by omega) hn h1 h2
  have hb1 : Below W.heap.size W (W.drewN n1) := below_drewN (Below.refl _ _) n1
  have hr2 := rest_any ((unhide HI).up hb1).sc (Nat.le_of_lt hk)
  have hsz : (s.extract k s.size).size = s.size - k := by rw [ByteArray.size_extract]; omega
  have Hb1 := hide hb1
  have HeE := hide eE
  have hex := extract_two s k m hle
  have m0 : (0 : Int) ≤ (m : Int) := Int.natCast_nonneg _
  have m1 : (m : Int) ≤ ((s.size - k : Nat) : Int) := by omega
  clear hn h1 h2 hb1 eE
  go_wp2_with fail
  refine hr2.mono ?_
  rintro e w3 ⟨rfl, n2, rfl⟩
  clear hr2
  have hb2 : Below W.heap.size W (W.drewN (n1 + n2)) := below_drewN (Below.refl _ _) (n1 + n2)
  have hwo := worth_any ((unhide HE).up hb2) (s.extract k (k + m)) (by rw [ByteArray.size_extract]; omega)
  have Hb2 := hide hb2
  clear hb2
  go_wp2_with fail
  refine hwo.mono ?_
  rintro e w4 ⟨hb4, wn, wc, rfl, hu⟩
  have hb5 : Below W.heap.size W w4 := (unhide Hb2).trans hb4
  rcases hu with ⟨u, hu1, rfl, rfl⟩ | ⟨hu1, rfl, rfl⟩
  · have ht := takeO ((unhide HI).up hb5) (unhide Hp) (m := m) (t := 2) (by rw [unhide Ho, unhide HeE, hu1]; rfl) 2 (m : Int) rfl rfl
    have Ht := hide ht
    have Hb5 := hide hb5
    clear ht hb4 hb5 hu1 hwo
    go_wp2_with fail
    refine (unhide Ht).mono ?_
    intro e w hq
    obtain ⟨c, rfl⟩ := hq.ret
    have Hq := hide (hq.from (unhide Hb5) (unhide HI).hi)
    clear hq
    go_wp2
    go_ret
    exact unhide Hq
  · have ht := takeB ((unhide HI).up hb5) (unhide Hp) (c := 41) (by rw [unhide Ho, unhide HeE, hu1]; rfl) (by decide) 2 (m : Int) 41 rfl
    have Ht := hide ht
    have Hb5 := hide hb5
    clear ht hb4 hb5 hu1 hwo
    go_wp2_with fail
    refine (unhide Ht).mono ?_
    intro e w hq
    obtain ⟨c, rfl⟩ := hq.ret
    have Hq := hide (hq.from (unhide Hb5) (unhide HI).hi)
    clear hq
    go_wp2
    go_ret
    exact unhide Hq
end Go.Proofs.YtkkbccdjbgjjaaaDoor
