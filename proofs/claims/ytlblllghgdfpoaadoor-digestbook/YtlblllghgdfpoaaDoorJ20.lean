import Derived.Test.YtlblllghgdfpoaaDoorJ19
import Derived.Test.YtlblllghgdfpoaaDoorJ17
import Derived.Test.YtlblllghgdfpoaaDoorJ15

namespace Go.Proofs.YtlblllghgdfpoaaDoor
open Go.RowKit
attribute [local go_sem ↓] Go.wp_at_zero Go.wp_at_succ

/-- What Domain tells. -/
def domainA (s : ByteArray) (ls : List (List Nat)) : Int × List Nat := if (sl s :: ls).length ≤ 65536 ∧ 4 + fsize (sl s :: ls) ≤ 67108864 then (0, sha (frameL (sl s :: ls))) else (2, [])
theorem frameA_ok {ls : List (List Nat)} (h : ls.length ≤ 65536 ∧ 4 + fsize ls ≤ 67108864) : frameA ls = (0, frameL ls) := by unfold frameA; rw [if_pos h]
theorem frameA_no {ls : List (List Nat)} (h : ¬ (ls.length ≤ 65536 ∧ 4 + fsize ls ≤ 67108864)) : frameA ls = (2, []) := by unfold frameA; rw [if_neg h]
theorem domainA_ok {s : ByteArray} {ls : List (List Nat)} (h : (sl s :: ls).length ≤ 65536 ∧ 4 + fsize (sl s :: ls) ≤ 67108864) : domainA s ls = (0, sha (frameL (sl s :: ls))) := by unfold domainA; rw [if_pos h]
theorem domainA_no {s : ByteArray} {ls : List (List Nat)} (h : ¬ ((sl s :: ls).length ≤ 65536 ∧ 4 + fsize (sl s :: ls) ≤ 67108864)) : domainA s ls = (2, []) := by unfold domainA; rw [if_neg h]
theorem all_lim {s : ByteArray} {ls : List (List Nat)} (hs : s.size ≤ 140737488351232) (hn : ∀ l ∈ ls, l.length ≤ 140737488351232) : (sl s :: ls).length ≤ 65536 → fsize (sl s :: ls) ≤ 9223372036854775000 := fun hh => fsize_few (fun l hl => by
  rcases List.mem_cons.1 hl with rfl | hl
  · rw [sl_len]; exact hs
  · exact hn l hl) hh
theorem all_byt {s : ByteArray} {ls : List (List Nat)} (hl : ∀ l ∈ ls, Byt l) : ∀ l ∈ (sl s :: ls), Byt l := fun l h => by
  rcases List.mem_cons.1 h with rfl | h
  · exact sl_byt s
  · exact hl l h
set_option maxRecDepth 100000 in
set_option maxHeartbeats 2000000 in
theorem domain_own {W : World} (hK : HasK W) (hS : HasS W) {s : ByteArray} {v : Value} {ls : List (List Nat)} (h : HasBB W v ls) (hl : ∀ l ∈ ls, Byt l) (hs : s.size ≤ 140737488351232) (hn : ls.length ≤ 5864062014634 ∧ ∀ l ∈ ls, l.length ≤ 140737488351232) :
    Calls Tryd.prog 9 #[.string s, v] W fun e W' => ∃ v', e = .returned (.tuple #[v', .int .i64 (domainA s ls).1]) ∧ (Bytes W.heap.size W' v' (domainA s ls).2 ∧ ∃ n c, v' = .slice n (domainA s ls).2.length c) ∧ Below W.heap.size W W' := by
  obtain ⟨c1, w1, cv, hB1, hb1, hs1⟩ := str_bytes W s (by omega)
  have n3 := all_lim (ls := ls) hs hn.2
  have hab := all_byt (s := s) hl
  have hbb := hasBB_one hB1 29
  have b2 : Below w1.heap.size w1 (w1.alloc (.cells #[.slice (some ⟨W.heap.size, 0, none⟩) s.size c1] 29)) := (Below.refl _ _).alloc (Nat.le_refl _) _
  obtain ⟨w2, hw2⟩ : ∃ w2, w2 = w1.alloc (.cells #[.slice (some ⟨W.heap.size, 0, none⟩) s.size c1] 29) := ⟨_, rfl⟩
  rw [← hw2] at hbb b2
  have hs2 : w2.heap.size = w1.heap.size + 1 := by rw [hw2, World.size_alloc]
  have b3 : Below w2.heap.size w2 (w2.alloc (.cells #[.slice (some ⟨w1.heap.size, 0, none⟩) 1 1, v] 22)) := (Below.refl _ _).alloc (Nat.le_refl _) _
  have k0 : (w2.alloc (.cells #[.slice (some ⟨w1.heap.size, 0, none⟩) 1 1, v] 22)).cell? ⟨w2.heap.size, 0, none⟩ = some (.slice (some ⟨w1.heap.size, 0, none⟩) 1 1) := by rw [cell_of_row _ _ _ _ _ _ (heap_new w2 _)]; rfl
  have k1 : (w2.alloc (.cells #[.slice (some ⟨w1.heap.size, 0, none⟩) 1 1, v] 22)).cell? ⟨w2.heap.size, 1, none⟩ = some v := by rw [cell_of_row _ _ _ _ _ _ (heap_new w2 _)]; rfl
  have b02 : Below W.heap.size W w2 := hb1.trans (b2.mono hb1.size)
  have hcat := concat_any k0 k1 (hbb.up b3) ((h.up b02).up b3) (by simp only [List.length_singleton]; omega) (by simp only [List.length_singleton]; omega)
  rw [hs2] at hcat
  have Hcat := hide hcat
  have B03 := hide (b02.trans (b3.mono b02.size))
  obtain ⟨w3, hw3⟩ : ∃ w3, w3 = w2.alloc (.cells #[.slice (some ⟨w1.heap.size, 0, none⟩) 1 1, v] 22) := ⟨_, rfl⟩
  rw [← hw3] at Hcat B03
  rw [hw2, hs1] at hw3
  rw [hs1] at Hcat
  have Hw3 := hide hw3
  obtain ⟨va, vc, rfl, _, _⟩ := h
  clear hcat b3 k0 k1 hbb hB1 b2 b02 hb1 hw2 hs2 hw3
  by_cases hok : (sl s :: ls).length ≤ 65536 ∧ 4 + fsize (sl s :: ls) ≤ 67108864
  · rw [domainA_ok hok]
    go_enter Tryd.func9, Tryd.ntmps9
    go_wp2_with fail
    rw [← unhide Hw3]
    refine (unhide Hcat).mono ?_
    rintro e w4 ⟨v4, us4, rfl, hO4, hb4⟩
    have b04 : Below W.heap.size W w4 := (unhide B03).trans (hb4.mono (unhide B03).size)
    have hH4 := hO4.has hb4
    have hvs : ∃ x y z, v4 = .slice x y z := by obtain ⟨x, y, e, _⟩ := id hH4; exact ⟨_, _, _, e⟩
    obtain ⟨x4, y4, z4, rfl⟩ := hvs
    clear hO4 hb4 Hcat B03 Hw3 cv
    have hfr := frame_any (ls := sl s :: ls) hH4 n3
    rw [frameA_ok hok] at hfr
    have Hfr := hide hfr
    clear hfr
    go_wp2_with fail
    refine (unhide Hfr).mono ?_
    rintro e w5 ⟨v5, a5, c5, rfl, hB5, hv5, hb5⟩
    have b05 : Below W.heap.size W w5 := b04.trans (hb5.mono b04.size)
    subst hv5
    clear hb5 Hfr
    have hsum := sum_any (hK.up b05) (hS.up b05) hB5 (frameL_byt hab) (by rw [frameL_len]; omega)
    have Hsum := hide hsum
    clear hsum hB5
    go_wp2_with fail
    refine (unhide Hsum).mono ?_
    rintro e w6 ⟨v6, rfl, hB6, hb6⟩
    have B06 : Hid (Below W.heap.size W w6) := b05.trans (hb6.mono b05.size)
    have HB6 := hide (hB6.lower b05.size)
    have hvs : ∃ x y, v6 = .slice x (sha (frameL (sl s :: ls))).length y := by obtain ⟨x, y, e, _⟩ := id hB6.has; exact ⟨_, _, e⟩
    obtain ⟨x6, z6, rfl⟩ := hvs
    clear hB6 hb6 Hsum
    go_wp2
    go_ret2
    exact ⟨_, rfl, ⟨unhide HB6, _, _, rfl⟩, unhide B06⟩
  · rw [domainA_no hok]
    go_enter Tryd.func9, Tryd.ntmps9
    go_wp2_with fail
    rw [← unhide Hw3]
    refine (unhide Hcat).mono ?_
    rintro e w4 ⟨v4, us4, rfl, hO4, hb4⟩
    have b04 : Below W.heap.size W w4 := (unhide B03).trans (hb4.mono (unhide B03).size)
    have hH4 := hO4.has hb4
    have hvs : ∃ x y z, v4 = .slice x y z := by obtain ⟨x, y, e, _⟩ := id hH4; exact ⟨_, _, _, e⟩
    obtain ⟨x4, y4, z4, rfl⟩ := hvs
    clear hO4 hb4 Hcat B03 Hw3 cv
    have hfr := frame_any (ls := sl s :: ls) hH4 n3
    rw [frameA_no hok] at hfr
    have Hfr := hide hfr
    clear hfr
    go_wp2_with fail
    refine (unhide Hfr).mono ?_
    rintro e w5 ⟨v5, a5, c5, rfl, hB5, hv5, hb5⟩
    have B05 : Hid (Below W.heap.size W w5) := b04.trans (hb5.mono b04.size)
    subst hv5
    clear hb5 Hfr hB5
    go_wp2
    go_ret2
    exact ⟨_, rfl, ⟨bytes_nil _ _, _, _, rfl⟩, unhide B05⟩
theorem domain_any {W : World} (hK : HasK W) (hS : HasS W) {s : ByteArray} {v : Value} {ls : List (List Nat)} (h : HasBB W v ls) (hl : ∀ l ∈ ls, Byt l) (hs : s.size ≤ 140737488351232) (hn : ls.length ≤ 5864062014634 ∧ ∀ l ∈ ls, l.length ≤ 140737488351232) :
    Calls Tryd.prog 9 #[.string s, v] W fun e W' => ∃ v', e = .returned (.tuple #[v', .int .i64 (domainA s ls).1]) ∧ (HasB W' v' (domainA s ls).2 ∧ ∃ n c, v' = .slice n (domainA s ls).2.length c) ∧ Below W.heap.size W W' := (domain_own hK hS h hl hs hn).mono fun _ _ ⟨v, h1, ⟨h2, h3⟩, h4⟩ => ⟨v, h1, ⟨h2.has, h3⟩, h4⟩
end Go.Proofs.YtlblllghgdfpoaaDoor

namespace Go.Proofs.YtlblllghgdfpoaaDoor
open Go.RowKit

section
variable {P : Program} {ops : Array Oper} {Q : Exit → Act → World → Prop} {md : Region.Mode}
theorem ready_lt {d : Array Bool} {i : Nat} (h : i ∈ Region.ready md ops d) : ∃ hi : i < d.size, d[i] = false := by
  have h1 := (mem_ready.1 h).1
  rcases Nat.lt_or_ge i d.size with hi | hi
  · refine ⟨hi, ?_⟩
    simpa [hi] using h1
  · simp [Array.getElem?_eq_none hi] at h1
/-- Every order, by what holds of the done ones. -/
theorem wpAny_inv (I : Array Bool → Act → World → Prop) (step : ∀ d a w i, I d a w → i ∈ Region.ready md ops d → wpOp P ops Q i (fun a' w' => I (d.setIfInBounds i true) a' w') a w) (fin : ∀ d a w, I d a w → Region.ready md ops d = [] → Q .normal a w) :
    ∀ (n : Nat) (d : Array Bool) (a : Act) (w : World), I d a w → d.count false ≤ n → wpAny P md ops Q n d a w
  | 0, d, a, w, hI, hn => by
    have hr : Region.ready md ops d = [] := by
      apply List.eq_nil_iff_forall_not_mem.2
      intro i hi
      obtain ⟨h1, h2⟩ := ready_lt hi
      have h3 : 0 < d.count false := Array.count_pos_iff.2 (by rw [← h2]; exact Array.getElem_mem h1)
      omega
    exact ⟨hr, fin d a w hI hr⟩
  | n + 1, d, a, w, hI, hn => by
    refine ⟨fun hr => fin d a w hI hr, fun i hi => ?_⟩
    refine wpOp_mono (fun a' w' h' => wpAny_inv I step fin n _ a' w' h' ?_) (step d a w i hI hi)
    obtain ⟨h1, h2⟩ := ready_lt hi
    have h3 : 0 < d.count false := Array.count_pos_iff.2 (by rw [← h2]; exact Array.getElem_mem h1)
    rw [Array.setIfInBounds_def, dif_pos h1, Array.count_set h1, h2]
    simp
    omega
theorem done_set {d : Array Bool} {i j : Nat} (h : (d.setIfInBounds i true).getD j false = true) : j = i ∨ d.getD j false = true := by
  by_cases e : j = i
  · exact .inl e
  · exact .inr (by rwa [getD_set_ne false (Ne.symm e)] at h)
theorem all_done {d : Array Bool} {i : Nat} {o : Oper} (h : i ∈ Region.ready md ops d) (ho : ops[i]? = some o) {k : Nat} (hk : ∃ e ∈ o.after, Region.binds md e = true ∧ e.on = k) : d.getD k false = true := by
  obtain ⟨_, o', ho', hall⟩ := mem_ready.1 h
  rw [ho] at ho'
  obtain rfl := Option.some.inj ho'
  obtain ⟨e, he, hb, rfl⟩ := hk
  exact hall e he hb
end
theorem done_keep {d : Array Bool} {i j : Nat} (h : d.getD j false = true) : (d.setIfInBounds i true).getD j false = true := by
  by_cases e : i = j
  · subst e
    by_cases hi : i < d.size
    · simp [hi]
    · simp [hi] at h
  · rwa [getD_set_ne false e]
theorem done_of {ops : Array Oper} {md : Region.Mode} {d : Array Bool} {i : Nat} {o : Oper} (hsz : i < d.size) (hr : Region.ready md ops d = []) (ho : ops[i]? = some o) (hdeps : ∀ e ∈ o.after, Region.binds md e = true → d.getD e.on false = true) : d.getD i false = true := by
  by_cases h : d.getD i true = false
  · have : i ∈ Region.ready md ops d := mem_ready.2 ⟨h, o, ho, hdeps⟩
    rw [hr] at this
    cases this
  · simp [hsz] at h ⊢
    exact h
theorem hasBB_list {W : World} {us : List Value} {ls : List (List Nat)} (hl : us.length = ls.length) (hn : ls.length ≤ 1000) (h : ∀ (j : Nat) (u : Value) (l : List Nat), us[j]? = some u → ls[j]? = some l → HasB W u l) (t : TypeId) : HasBB (W.alloc (.cells us.toArray t)) (.slice (some ⟨W.heap.size, 0, none⟩) ls.length ls.length) ls := by
  have hb : Below W.heap.size W (W.alloc (.cells us.toArray t)) := (Below.refl _ _).alloc (Nat.le_refl _) _
  refine ⟨_, _, rfl, ⟨Nat.le_refl _, by unfold maxLen; omega, nofun⟩, fun _ => ⟨W.heap.size, 0, rfl, by rw [World.size_alloc]; omega, fun i x hx => ?_⟩⟩
  have hi : i < us.length := by rw [hl]; exact (List.getElem?_eq_some_iff.1 hx).1
  refine ⟨us[i], ?_, (h i _ x (List.getElem?_eq_getElem hi) hx).up hb⟩
  rw [Nat.zero_add, cell_of_row _ _ _ _ _ _ (heap_new W _), List.getElem?_toArray, List.getElem?_eq_getElem hi]
end Go.Proofs.YtlblllghgdfpoaaDoor
