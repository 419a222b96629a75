import Derived.Test.YtcbcahnajabhfaaSDrop
namespace Go.Proofs.Ytcbcahnajabhfaa
open Go.RowKit
attribute [local go_sem] kless_eq keq_eq kne_eq kgeq_eq
attribute [local go_sem ↓] Go.wp_at_zero Go.wp_at_succ

/-- What lies below a key, what above. -/
def lo (k : KT) (l : List Ent) : List Ent := l.filter fun x => decide (x.1 < k)
def hi (k : KT) (l : List Ent) : List Ent := l.filter fun x => decide (k < x.1)
theorem mem_lo {k : KT} {l : List Ent} {x : Ent} : x ∈ lo k l ↔ x ∈ l ∧ x.1 < k := by simp [lo]
theorem mem_hi {k : KT} {l : List Ent} {x : Ent} : x ∈ hi k l ↔ x ∈ l ∧ k < x.1 := by simp [hi]
theorem lo_srt {k : KT} {l : List Ent} (h : Srt l) : Srt (lo k l) := List.Pairwise.sublist List.filter_sublist h
theorem hi_srt {k : KT} {l : List Ent} (h : Srt l) : Srt (hi k l) := List.Pairwise.sublist List.filter_sublist h
theorem lo_len (k : KT) (l : List Ent) : (lo k l).length ≤ l.length := List.length_filter_le _ _
theorem hi_len (k : KT) (l : List Ent) : (hi k l).length ≤ l.length := List.length_filter_le _ _
theorem lo_left {k : KT} {l r : List Ent} {x : Ent} (hs : Srt (l ++ x :: r)) (h : ¬ x.1 < k) : lo k (l ++ x :: r) = lo k l := by
  obtain ⟨h1, h2, h3, h4⟩ := srt_mid.1 hs
  unfold lo
  have e : r.filter (fun x => decide (x.1 < k)) = [] := List.filter_eq_nil_iff.2 fun y hy hy' => h (klt_trans (h4 y hy) (of_decide_eq_true hy'))
  rw [List.filter_append, List.filter_cons_of_neg (by simpa using h), e, List.append_nil]
theorem lo_right {k : KT} {l r : List Ent} {x : Ent} (hs : Srt (l ++ x :: r)) (h : x.1 < k) : lo k (l ++ x :: r) = l ++ x :: lo k r := by
  obtain ⟨h1, h2, h3, h4⟩ := srt_mid.1 hs
  unfold lo
  rw [List.filter_append, List.filter_cons_of_pos (by simpa using h), List.filter_eq_self.2]
  intro y hy
  exact decide_eq_true (klt_trans (h3 y hy) h)
theorem hi_left {k : KT} {l r : List Ent} {x : Ent} (hs : Srt (l ++ x :: r)) (h : k < x.1) : hi k (l ++ x :: r) = hi k l ++ x :: r := by
  obtain ⟨h1, h2, h3, h4⟩ := srt_mid.1 hs
  unfold hi
  have e : r.filter (fun x => decide (k < x.1)) = r := List.filter_eq_self.2 fun y hy => decide_eq_true (klt_trans h (h4 y hy))
  rw [List.filter_append, List.filter_cons_of_pos (by simpa using h), e]
theorem hi_right {k : KT} {l r : List Ent} {x : Ent} (hs : Srt (l ++ x :: r)) (h : ¬ k < x.1) : hi k (l ++ x :: r) = hi k r := by
  obtain ⟨h1, h2, h3, h4⟩ := srt_mid.1 hs
  unfold hi
  have e : l.filter (fun x => decide (k < x.1)) = [] := List.filter_eq_nil_iff.2 fun y hy hy' => h (klt_trans (of_decide_eq_true hy') (h3 y hy))
  rw [List.filter_append, List.filter_cons_of_neg (by simpa using h), e, List.nil_append]
theorem lo_here {k : KT} {l r : List Ent} {x : Ent} (hs : Srt (l ++ x :: r)) (h : x.1 = k) : lo k (l ++ x :: r) = l := by
  rw [lo_left hs (fun e => klt_irrefl (h ▸ e))]
  obtain ⟨h1, h2, h3, h4⟩ := srt_mid.1 hs
  unfold lo
  rw [List.filter_eq_self.2]
  intro y hy
  exact decide_eq_true (h ▸ h3 y hy)
theorem hi_here {k : KT} {l r : List Ent} {x : Ent} (hs : Srt (l ++ x :: r)) (h : x.1 = k) : hi k (l ++ x :: r) = r := by
  rw [hi_right hs (fun e => klt_irrefl (h ▸ e))]
  obtain ⟨h1, h2, h3, h4⟩ := srt_mid.1 hs
  unfold hi
  rw [List.filter_eq_self.2]
  intro y hy
  exact decide_eq_true (h ▸ h4 y hy)
theorem has_left {k : KT} {l r : List Ent} {x : Ent} (hs : Srt (l ++ x :: r)) (hlt : k < x.1) : HasKey (l ++ x :: r) k ↔ HasKey l k := by
  obtain ⟨h1, h2, h3, h4⟩ := srt_mid.1 hs
  constructor
  · rintro ⟨y, hy, e'⟩
    rcases List.mem_append.1 hy with h | h
    · exact ⟨y, h, e'⟩
    · rcases List.mem_cons.1 h with rfl | h
      · exact (klt_irrefl (e' ▸ hlt)).elim
      · exact (klt_irrefl (klt_trans (e' ▸ h4 y h) hlt)).elim
  · rintro ⟨y, hy, e'⟩; exact ⟨y, List.mem_append_left _ hy, e'⟩
theorem has_right {k : KT} {l r : List Ent} {x : Ent} (hs : Srt (l ++ x :: r)) (hgt : x.1 < k) : HasKey (l ++ x :: r) k ↔ HasKey r k := by
  obtain ⟨h1, h2, h3, h4⟩ := srt_mid.1 hs
  constructor
  · rintro ⟨y, hy, e'⟩
    rcases List.mem_append.1 hy with h | h
    · exact (klt_irrefl (klt_trans (e' ▸ h3 y h) hgt)).elim
    · rcases List.mem_cons.1 h with rfl | h
      · exact (klt_irrefl (e' ▸ hgt)).elim
      · exact ⟨y, h, e'⟩
  · rintro ⟨y, hy, e'⟩; exact ⟨y, List.mem_append_right _ (List.mem_cons_of_mem _ hy), e'⟩

/-- What 'split' answers. -/
def Splits (W : World) (k : KT) (l : List Ent) (o : Ending) (W' : World) : Prop := ∃ pb pa pc TB TC, o = .returned (.tuple #[.pointer pb, .pointer pa, .pointer pc]) ∧ IsT W'.heap.size W' pb TB ∧ IsT W'.heap.size W' pc TC ∧ TB.io = lo k l ∧ TC.io = hi k l ∧ (pa.isSome = true ↔ HasKey l k) ∧ Below W.heap.size W W'

set_option maxRecDepth 100000 in
set_option maxHeartbeats 4000000 in
theorem split_any (k : KT) (T : BT) : ∀ (W : World) (p : Option Addr), IsT W.heap.size W p T → Srt T.io → (T.io.length : Int) ≤ 1152921504606846976 →
    Calls Try.prog 51 #[.pointer p, .string k] W (Splits W k T.io) := by
  induction T with
  | leaf =>
    intro W p ht _ _
    obtain rfl : p = none := ht
    go_enter Try.func51, Try.ntmps51
    go_wp2
    go_ret3
    exact ⟨none, none, none, .leaf, .leaf, rfl, rfl, rfl, rfl, rfl, by simp [HasKey, BT.io], Below.refl _ _⟩
  | node l ne r ihl ihr =>
    intro W p ht hs hsz
    have hsr := srt_mid.1 (show Srt (l.io ++ ne :: r.io) from hs)
    have hsz' := hsz
    rw [BT.io_len] at hsz'
    obtain ⟨b, pl, pr, rfl, hb, h0, h1, h2, h3, h4, hl, hr⟩ := ht
    have HS : Hid (∀ w', Below W.heap.size W w' → (w'.cell? ⟨b, 0, none⟩ = some (.string ne.1) ∧ w'.cell? ⟨b, 1, none⟩ = some (.int .i64 ne.2) ∧ w'.cell? ⟨b, 2, none⟩ = some (.pointer pl) ∧ w'.cell? ⟨b, 3, none⟩ = some (.pointer pr)) ∧ Below W.heap.size W w') := fun w' h => ⟨⟨(h.cell (p := ⟨b, 0, none⟩) hb).trans h0, (h.cell (p := ⟨b, 1, none⟩) hb).trans h1, (h.cell (p := ⟨b, 2, none⟩) hb).trans h2, (h.cell (p := ⟨b, 3, none⟩) hb).trans h3⟩, h⟩
    have Hs := hide hs
    have Hsr := hide hsr
    by_cases hlt : k < ne.1
    · have Ih := hide ihl
      clear ihl ihr hs hsr h4
      go_enter Try.func51, Try.ntmps51
      go_wp2_with fail
      refine (unhide Ih W _ hl (unhide Hsr).1 (by omega)).mono ?_
      rintro o W1 ⟨pb, pa, pc, TB, TC, rfl, htB, htC, hiB, hiC, hpa, hB1⟩
      have hn1 : TC.io.length ≤ l.io.length := by rw [hiC]; exact hi_len _ _
      have Hq := hide hiB
      have Hq' := hide hiC
      have Hpa := hide hpa
      clear hiB hiC hpa
      go_wp2
      go_region_held3 (fun w' => (w'.cell? ⟨b, 0, none⟩ = some (.string ne.1) ∧ w'.cell? ⟨b, 1, none⟩ = some (.int .i64 ne.2) ∧ w'.cell? ⟨b, 2, none⟩ = some (.pointer pl) ∧ w'.cell? ⟨b, 3, none⟩ = some (.pointer pr)) ∧ Below W.heap.size W w') ((refine HS.out _ ?_; first | exact (Below.refl _ _).drew | exact hB1.drew | exact hB4 | exact hB3 | exact hB2 | exact hB1 | exact Below.refl _ _))
        (first
          | (go_at_call 52; refine (link_any _ TC r (Nat.le_refl _) _ _ _ ne (htC.up (Below.refl _ _).drew) (hr.up hB1.drew) (by omega)).mono ?_; rintro o W2 ⟨p2, T2, rfl, ht2, hi2, hb2⟩; have hb2' : Below W1.heap.size W1 W2 := ((Below.refl _ W1).drew).trans hb2; have hB2 : Below W.heap.size W W2 := hB1.trans (hb2'.mono hB1.size); have Hi2 := hide hi2; clear hi2 hb2))
      go_wp2
      go_ret3
      exact ⟨pb, pa, p2, TB, T2, rfl, htB.up hb2', ht2, by rw [unhide Hq]; exact (lo_left (unhide Hs) (fun e => klt_irrefl (klt_trans e hlt))).symm, by rw [unhide Hi2, unhide Hq']; exact (hi_left (unhide Hs) hlt).symm, (unhide Hpa).trans (has_left (unhide Hs) hlt).symm, hB2⟩
    · have hd1 : decide (k < ne.1) = false := decide_eq_false hlt
      by_cases hgt : ne.1 < k
      · have Ih := hide ihr
        clear ihl ihr hs hsr h4 hlt
        go_enter Try.func51, Try.ntmps51
        go_wp2_with fail
        refine (unhide Ih W _ hr (unhide Hsr).2.1 (by omega)).mono ?_
        rintro o W1 ⟨pb, pa, pc, TB, TC, rfl, htB, htC, hiB, hiC, hpa, hB1⟩
        have hn1 : TB.io.length ≤ r.io.length := by rw [hiB]; exact lo_len _ _
        have Hq := hide hiB
        have Hq' := hide hiC
        have Hpa := hide hpa
        clear hiB hiC hpa
        go_wp2
        go_region_held3 (fun w' => (w'.cell? ⟨b, 0, none⟩ = some (.string ne.1) ∧ w'.cell? ⟨b, 1, none⟩ = some (.int .i64 ne.2) ∧ w'.cell? ⟨b, 2, none⟩ = some (.pointer pl) ∧ w'.cell? ⟨b, 3, none⟩ = some (.pointer pr)) ∧ Below W.heap.size W w') ((refine HS.out _ ?_; first | exact (Below.refl _ _).drew | exact hB1.drew | exact hB4 | exact hB3 | exact hB2 | exact hB1 | exact Below.refl _ _))
          (first
            | (go_at_call 52; refine (link_any _ l TB (Nat.le_refl _) _ _ _ ne (hl.up hB1.drew) (htB.up (Below.refl _ _).drew) (by omega)).mono ?_; rintro o W2 ⟨p2, T2, rfl, ht2, hi2, hb2⟩; have hb2' : Below W1.heap.size W1 W2 := ((Below.refl _ W1).drew).trans hb2; have hB2 : Below W.heap.size W W2 := hB1.trans (hb2'.mono hB1.size); have Hi2 := hide hi2; clear hi2 hb2))
        go_wp2
        go_ret3
        exact ⟨p2, pa, pc, T2, TC, rfl, ht2, htC.up hb2', by rw [unhide Hi2, unhide Hq]; exact (lo_right (unhide Hs) hgt).symm, by rw [unhide Hq']; exact (hi_right (unhide Hs) (fun e => klt_irrefl (klt_trans e hgt))).symm, (unhide Hpa).trans (has_right (unhide Hs) hgt).symm, hB2⟩
      · have hd2 : decide (ne.1 < k) = false := decide_eq_false hgt
        have Heq := hide (keq_of hgt hlt)
        clear ihl ihr hs hsr h4 hlt hgt
        go_enter Try.func51, Try.ntmps51
        go_wp2
        go_region_held3 (fun w' => (w'.cell? ⟨b, 0, none⟩ = some (.string ne.1) ∧ w'.cell? ⟨b, 1, none⟩ = some (.int .i64 ne.2) ∧ w'.cell? ⟨b, 2, none⟩ = some (.pointer pl) ∧ w'.cell? ⟨b, 3, none⟩ = some (.pointer pr)) ∧ Below W.heap.size W w') ((refine HS.out _ ?_; first | exact (Below.refl _ _).drew | exact hB1.drew | exact hB4 | exact hB3 | exact hB2 | exact hB1 | exact Below.refl _ _)) (fail)
        go_wp2
        go_ret3
        have heq := unhide Heq
        exact ⟨pl, _, pr, l, r, rfl, hl.up (Below.refl _ _).drew, hr.up (Below.refl _ _).drew, (lo_here (unhide Hs) heq).symm, (hi_here (unhide Hs) heq).symm, ⟨fun _ => ⟨ne, List.mem_append_right _ List.mem_cons_self, heq⟩, fun _ => rfl⟩, (Below.refl _ _).drew⟩
end Go.Proofs.Ytcbcahnajabhfaa
