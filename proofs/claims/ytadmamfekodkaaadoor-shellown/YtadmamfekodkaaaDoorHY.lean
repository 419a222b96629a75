import Derived.Test.YtadmamfekodkaaaDoorHX
import Derived.Test.YtadmamfekodkaaaDoorYZ

namespace Go.Proofs.YtadmamfekodkaaaDoor
open Go.RowKit
attribute [local go_sem ↓] Go.wp_at_zero Go.wp_at_succ

/-- The text of a number. -/
def mkS (n : Nat) : ByteArray := if _h : n < 10 then ofN [48 + n] else mkS (n / 10) ++ ofN [48 + n % 10]
termination_by n
decreasing_by omega
theorem mkS_low {n : Nat} (h : n < 10) : mkS n = ofN [48 + n] := by rw [mkS, dif_pos h]
theorem mkS_high {n : Nat} (h : ¬ n < 10) : mkS n = mkS (n / 10) ++ ofN [48 + n % 10] := by rw [mkS, dif_neg h]
theorem mkS_size (n : Nat) : (mkS n).size ≤ n + 1 := by
  induction n using Nat.strongRecOn with
  | _ n ih =>
    by_cases h : n < 10
    · rw [mkS_low h, ofN_size]
      simp
    · have := ih (n / 10) (by omega)
      rw [mkS_high h, ByteArray.size_append, ofN_size]
      simp
      omega
theorem wrapi {a : Int} (h1 : -9223372036854775808 ≤ a) (h2 : a ≤ 9223372036854775807) : IntKind.i64.wrap a = a := by
  first
    | exact wrap64_small h1 h2
    | (simp [IntKind.wrap, IntKind.bits, IntKind.signed]; omega)
theorem conv_new (w : World) {x : Nat} (hx : x < 256) : (convert 30 9 (.slice (some ⟨w.heap.size, 0, none⟩) 1 1)).run Tryd.prog (w.alloc (.cells #[.int .u8 (x : Int)] 5)) = .ok (.string (ofN [x])) (w.alloc (.cells #[.int .u8 (x : Int)] 5)) :=
  conv_any (hasB_lit (l := [x]) (t := 5) (fr := (0, 0)) (by rw [heap_new]; simp [nb]) 1 1 rfl (by decide)) (fun y hy => by rw [List.mem_singleton.1 hy]; exact hx)
theorem conv_old {w w' : World} {x : Nat} (hx : x < 256) (hb : Below (w.alloc (.cells #[.int .u8 (x : Int)] 5)).heap.size (w.alloc (.cells #[.int .u8 (x : Int)] 5)) w') : (convert 30 9 (.slice (some ⟨w.heap.size, 0, none⟩) 1 1)).run Tryd.prog w' = .ok (.string (ofN [x])) w' :=
  conv_any (HasB.up (hasB_lit (W := w.alloc (.cells #[.int .u8 (x : Int)] 5)) (l := [x]) (t := 5) (fr := (0, 0)) (by rw [heap_new]; simp [nb]) 1 1 rfl (by decide)) hb) (fun y hy => by rw [List.mem_singleton.1 hy]; exact hx)
set_option maxRecDepth 100000 in
set_option maxHeartbeats 4000000 in
theorem marked_any (n : Nat) (hn : n ≤ 1000000) : ∀ W : World, Calls Tryd.prog 12 #[.int .i64 (n : Int)] W fun e w => e = .returned (.string (mkS n)) ∧ Below W.heap.size W w := by
  induction n using Nat.strongRecOn with
  | _ n ih =>
    intro W
    by_cases h : n < 10
    · have k1 : (n : Int) < 10 := by omega
      have cv := conv_new W (x := 48 + n) (by omega)
      have q1 : IntKind.u8.wrap (48 + (n : Int)) = ((48 + n : Nat) : Int) := by rw [show (48 + (n : Int)) = ((48 + n : Nat) : Int) by omega]; exact wrap8 (by omega)
      have hb : Below W.heap.size W (W.alloc (.cells #[.int .u8 ((48 + n : Nat) : Int)] 5)) := (Below.refl _ _).alloc (Nat.le_refl _) _
      have HB := hide hb
      obtain ⟨d, hd⟩ : ∃ d, 48 + n = d := ⟨_, rfl⟩
      rw [mkS_low h, hd]
      rw [hd] at cv q1 HB
      clear hb ih hd h
      go_enter Tryd.func12, Tryd.ntmps12
      go_wp2
      go_ret
      exact ⟨rfl, unhide HB⟩
    · have k1 : ¬ (n : Int) < 10 := by omega
      obtain ⟨q, hq⟩ : ∃ q, n / 10 = q := ⟨_, rfl⟩
      obtain ⟨r, hr⟩ : ∃ r, n % 10 = r := ⟨_, rfl⟩
      have hqn : q ≤ 100000 := by omega
      have hrn : r < 10 := by omega
      have HI := hide (ih q (by omega) (by omega))
      have q1 : (n : Int).tdiv 10 = (q : Int) := by rw [Int.tdiv_eq_ediv_of_nonneg (by omega)]; omega
      have q2 : (n : Int).tmod 10 = (r : Int) := by rw [Int.tmod_eq_emod_of_nonneg (by omega)]; omega
      obtain ⟨d, hd⟩ : ∃ d, 48 + r = d := ⟨_, rfl⟩
      have q3 : (48 : Int) + (r : Int) = (d : Int) := by omega
      have q4 : IntKind.u8.wrap (d : Int) = (d : Int) := wrap8 (by omega)
      have hd2 : d < 256 := by omega
      have q5 : IntKind.i64.wrap (q : Int) = (q : Int) := wrapi (by omega) (by omega)
      have q6 : IntKind.i64.wrap (d : Int) = (d : Int) := wrapi (by omega) (by omega)
      have HS : Hid (mkS n = mkS q ++ ofN [d]) := by show _ = _; rw [mkS_high h, hq, hr, hd]
      obtain ⟨mq, hmq⟩ : ∃ m, mkS q = m := ⟨_, rfl⟩
      have hms : mq.size ≤ 100001 := by rw [← hmq]; have := mkS_size q; omega
      obtain ⟨sd, hsd⟩ : ∃ s, ofN [d] = s := ⟨_, rfl⟩
      have hss : sd.size = 1 := by rw [← hsd, ofN_size]; rfl
      have n1 : ¬ 9223372036854775807 < mq.size + sd.size := by omega
      rw [hmq, hsd] at HS
      rw [hmq] at HI
      have Hsd := hide hsd
      have Hq3 := hide q3
      rw [unhide HS]
      clear ih h hq hr hd hmq hss hms hsd HS
      go_enter Tryd.func12, Tryd.ntmps12
      go_upto_region 3 with fail
      refine wp_region_any (by kernel_rfl) ?_
      try (change wpAny _ _ _ _ _ _ _ (World.drew _))
      have HBd : Hid (Below W.heap.size W W.drew) := below_drewN (Below.refl _ _) 1
      obtain ⟨wd, hwd⟩ : ∃ x, W.drew = x := ⟨_, rfl⟩
      rw [hwd] at HBd ⊢
      clear hwd
      refine wpAny_of_Z (z := 10) (T := fun _ => True) _ _ _ _ ?_
      have hT : (fun _ : World => True) wd := trivial
      refine wpAnyZ_tk 0 (.int .i64 (n : Int)) 10 rfl rfl (Or.inl ⟨by rfl, fun w' _ => by have q3 := unhide Hq3; go_simp⟩) hT ?_
      simp only [Act.put, List.setIfInBounds_toArray, List.set_cons_zero, List.set_cons_succ]
      refine wpAnyZ_tk 1 (.int .i64 (q : Int)) 11 rfl rfl (Or.inl ⟨by rfl, fun w' _ => by have q3 := unhide Hq3; go_simp⟩) hT ?_
      simp only [Act.put, List.setIfInBounds_toArray, List.set_cons_zero, List.set_cons_succ]
      refine wpAnyZ_tk 3 (.int .i64 (n : Int)) 13 rfl rfl (Or.inl ⟨by rfl, fun w' _ => by have q3 := unhide Hq3; go_simp⟩) hT ?_
      simp only [Act.put, List.setIfInBounds_toArray, List.set_cons_zero, List.set_cons_succ]
      refine wpAnyZ_tk 4 (.int .i64 (r : Int)) 14 rfl rfl (Or.inl ⟨by rfl, fun w' _ => by have q3 := unhide Hq3; go_simp⟩) hT ?_
      simp only [Act.put, List.setIfInBounds_toArray, List.set_cons_zero, List.set_cons_succ]
      refine wpAnyZ_tk 5 (.int .i64 (d : Int)) 15 rfl rfl (Or.inl ⟨by rfl, fun w' _ => by have q3 := unhide Hq3; go_simp⟩) hT ?_
      simp only [Act.put, List.setIfInBounds_toArray, List.set_cons_zero, List.set_cons_succ]
      refine wpAnyZ_tk 6 (.int .u8 (d : Int)) 16 rfl rfl (Or.inl ⟨by rfl, fun w' _ => by have q3 := unhide Hq3; go_simp⟩) hT ?_
      simp only [Act.put, List.setIfInBounds_toArray, List.set_cons_zero, List.set_cons_succ]
      refine wpAnyZ_two 2 7 (by kernel_rfl) rfl rfl (fun K hK => ?_) (fun K hK => ?_)
      · skip
        refine step_callD 12 rfl rfl 12 (fun vs => by kernel_rfl) #[.tmp 11] #[3] rfl #[.int .i64 (q : Int)] (by first | rfl | simp [Act.eval]) (unhide HI wd) ?_
        rintro e w1 ⟨rfl, hb⟩
        have HB1 := hide ((unhide HBd).trans (hb.mono (unhide HBd).size))
        refine ⟨_, rfl, ?_⟩
        refine hK _ _ ⟨fun _ => trivial, ?_⟩
        clear hK K
        clear hb
        simp only [Act.put, List.setIfInBounds_toArray, List.set_cons_zero, List.set_cons_succ]
        refine wpAnyZ_one 7 (by kernel_rfl) rfl (fun K hK => ?_)
        go_simp
        refine hK _ _ ⟨fun _ => trivial, ?_⟩
        clear hK K
        have cv := conv_new w1 hd2
        rw [unhide Hsd] at cv
        have HB2 := hide ((unhide HB1).alloc (unhide HB1).size (.cells #[.int .u8 (d : Int)] 5))
        refine wpAnyZ_one 8 (by kernel_rfl) rfl (fun K hK => ?_)
        go_simp
        refine hK _ _ ⟨fun _ => trivial, ?_⟩
        clear hK K
        refine wpAnyZ_one 9 (by kernel_rfl) rfl (fun K hK => ?_)
        go_simp
        refine hK _ _ ⟨fun _ => trivial, ?_⟩
        clear hK K
        refine wpAnyZ_one 10 (by kernel_rfl) rfl (fun K hK => ?_)
        go_simp
        refine hK _ _ ⟨fun q => absurd rfl q, ?_⟩
        clear hK K
        refine wpAnyZ_done (by kernel_rfl) ?_
        go_wp2
        go_ret
        exact ⟨rfl, unhide HB2⟩
      · go_simp
        refine hK _ _ ⟨fun _ => trivial, ?_⟩
        clear hK K
        have cv := conv_new wd hd2
        rw [unhide Hsd] at cv
        have HB1 := hide ((unhide HBd).alloc (unhide HBd).size (.cells #[.int .u8 (d : Int)] 5))
        refine wpAnyZ_two 2 8 (by kernel_rfl) rfl rfl (fun K hK => ?_) (fun K hK => ?_)
        · skip
          refine step_callD 12 rfl rfl 12 (fun vs => by kernel_rfl) #[.tmp 11] #[3] rfl #[.int .i64 (q : Int)] (by first | rfl | simp [Act.eval]) (unhide HI _) ?_
          rintro e w1 ⟨rfl, hb⟩
          have HB2 := hide ((unhide HB1).trans (hb.mono (unhide HB1).size))
          have cv2 := conv_old hd2 hb
          rw [unhide Hsd] at cv2
          refine ⟨_, rfl, ?_⟩
          refine hK _ _ ⟨fun _ => trivial, ?_⟩
          clear hK K
          clear hb cv
          simp only [Act.put, List.setIfInBounds_toArray, List.set_cons_zero, List.set_cons_succ]
          refine wpAnyZ_one 8 (by kernel_rfl) rfl (fun K hK => ?_)
          go_simp
          refine hK _ _ ⟨fun _ => trivial, ?_⟩
          clear hK K
          refine wpAnyZ_one 9 (by kernel_rfl) rfl (fun K hK => ?_)
          go_simp
          refine hK _ _ ⟨fun _ => trivial, ?_⟩
          clear hK K
          refine wpAnyZ_one 10 (by kernel_rfl) rfl (fun K hK => ?_)
          go_simp
          refine hK _ _ ⟨fun q => absurd rfl q, ?_⟩
          clear hK K
          refine wpAnyZ_done (by kernel_rfl) ?_
          go_wp2
          go_ret
          exact ⟨rfl, unhide HB2⟩
        · go_simp
          refine hK _ _ ⟨fun _ => trivial, ?_⟩
          clear hK K
          refine wpAnyZ_one 2 (by kernel_rfl) rfl (fun K hK => ?_)
          refine step_callD 12 rfl rfl 12 (fun vs => by kernel_rfl) #[.tmp 11] #[3] rfl #[.int .i64 (q : Int)] (by first | rfl | simp [Act.eval]) (unhide HI _) ?_
          rintro e w1 ⟨rfl, hb⟩
          have HB2 := hide ((unhide HB1).trans (hb.mono (unhide HB1).size))
          refine ⟨_, rfl, ?_⟩
          refine hK _ _ ⟨fun _ => trivial, ?_⟩
          clear hK K
          clear hb cv
          simp only [Act.put, List.setIfInBounds_toArray, List.set_cons_zero, List.set_cons_succ]
          refine wpAnyZ_one 9 (by kernel_rfl) rfl (fun K hK => ?_)
          go_simp
          refine hK _ _ ⟨fun _ => trivial, ?_⟩
          clear hK K
          refine wpAnyZ_one 10 (by kernel_rfl) rfl (fun K hK => ?_)
          go_simp
          refine hK _ _ ⟨fun q => absurd rfl q, ?_⟩
          clear hK K
          refine wpAnyZ_done (by kernel_rfl) ?_
          go_wp2
          go_ret
          exact ⟨rfl, unhide HB2⟩
end Go.Proofs.YtadmamfekodkaaaDoor
