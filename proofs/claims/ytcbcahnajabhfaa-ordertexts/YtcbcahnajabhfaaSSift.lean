import Derived.Test.YtcbcahnajabhfaaSUnion
namespace Go.Proofs.Ytcbcahnajabhfaa
open Go.RowKit
attribute [local go_sem] kless_eq keq_eq kne_eq kgeq_eq
attribute [local go_sem ↓] Go.wp_at_zero Go.wp_at_succ

/-- What is kept of a: what b has a key for (sh), or what it has none for. -/
def InS (a b : List Ent) (sh : Bool) (x : Ent) : Prop := x ∈ a ∧ (HasKey b x.1 ↔ sh = true)
theorem sift_parts {b l r u v : List Ent} {e : Ent} {sh : Bool} (ha : Srt (l ++ e :: r))
    (mu : ∀ x, x ∈ u ↔ InS l (lo e.1 b) sh x) (mv : ∀ x, x ∈ v ↔ InS r (hi e.1 b) sh x) :
    (∀ x ∈ u, x.1 < e.1) ∧ (∀ x ∈ v, e.1 < x.1) ∧ (∀ x, x ∈ u ↔ x ∈ l ∧ (HasKey b x.1 ↔ sh = true)) ∧ (∀ x, x ∈ v ↔ x ∈ r ∧ (HasKey b x.1 ↔ sh = true)) := by
  obtain ⟨h1, h2, h3, h4⟩ := srt_mid.1 ha
  refine ⟨fun x hx => h3 x ((mu x).1 hx).1, fun x hx => h4 x ((mv x).1 hx).1, fun x => ?_, fun x => ?_⟩
  · rw [mu x]
    constructor
    · rintro ⟨hx, hk⟩; exact ⟨hx, (has_lo (h3 x hx)).symm.trans hk⟩
    · rintro ⟨hx, hk⟩; exact ⟨hx, (has_lo (h3 x hx)).trans hk⟩
  · rw [mv x]
    constructor
    · rintro ⟨hx, hk⟩; exact ⟨hx, (has_hi (h4 x hx)).symm.trans hk⟩
    · rintro ⟨hx, hk⟩; exact ⟨hx, (has_hi (h4 x hx)).trans hk⟩
theorem sift_with {b l r u v : List Ent} {e : Ent} {sh : Bool} (ha : Srt (l ++ e :: r)) (hu : Srt u) (hv : Srt v)
    (mu : ∀ x, x ∈ u ↔ InS l (lo e.1 b) sh x) (mv : ∀ x, x ∈ v ↔ InS r (hi e.1 b) sh x) (he : HasKey b e.1 ↔ sh = true) :
    Srt (u ++ e :: v) ∧ ∀ x, x ∈ u ++ e :: v ↔ InS (l ++ e :: r) b sh x := by
  obtain ⟨lu, gv, m1, m2⟩ := sift_parts ha mu mv
  refine ⟨srt_mid.2 ⟨hu, hv, lu, gv⟩, fun x => ?_⟩
  simp only [InS, List.mem_append, List.mem_cons, m1, m2]
  constructor
  · rintro (⟨hx, hk⟩ | rfl | ⟨hx, hk⟩)
    · exact ⟨.inl hx, hk⟩
    · exact ⟨.inr (.inl rfl), he⟩
    · exact ⟨.inr (.inr hx), hk⟩
  · rintro ⟨hx | rfl | hx, hk⟩
    · exact .inl ⟨hx, hk⟩
    · exact .inr (.inl rfl)
    · exact .inr (.inr ⟨hx, hk⟩)
theorem sift_less {b l r u v : List Ent} {e : Ent} {sh : Bool} (ha : Srt (l ++ e :: r)) (hu : Srt u) (hv : Srt v)
    (mu : ∀ x, x ∈ u ↔ InS l (lo e.1 b) sh x) (mv : ∀ x, x ∈ v ↔ InS r (hi e.1 b) sh x) (he : ¬ (HasKey b e.1 ↔ sh = true)) :
    Srt (u ++ v) ∧ ∀ x, x ∈ u ++ v ↔ InS (l ++ e :: r) b sh x := by
  obtain ⟨lu, gv, m1, m2⟩ := sift_parts ha mu mv
  refine ⟨srt_app.2 ⟨hu, hv, fun x hx y hy => klt_trans (lu x hx) (gv y hy)⟩, fun x => ?_⟩
  simp only [InS, List.mem_append, List.mem_cons, m1, m2]
  constructor
  · rintro (⟨hx, hk⟩ | ⟨hx, hk⟩)
    · exact ⟨.inl hx, hk⟩
    · exact ⟨.inr (.inr hx), hk⟩
  · rintro ⟨hx | rfl | hx, hk⟩
    · exact .inl ⟨hx, hk⟩
    · exact (he hk).elim
    · exact .inr ⟨hx, hk⟩
theorem sift_len {a b u : List Ent} {sh : Bool} (hu : Srt u) (mu : ∀ x, x ∈ u ↔ InS a b sh x) : u.length ≤ a.length := hu.len_le fun x hx => ((mu x).1 hx).1

set_option maxRecDepth 100000 in
set_option maxHeartbeats 4000000 in
theorem sift_any (sh : Bool) (A : BT) : ∀ (B : BT) (W : World) (pa pb : Option Addr), IsT W.heap.size W pa A → IsT W.heap.size W pb B → Srt A.io → Srt B.io → (A.io.length : Int) ≤ 1152921504606846976 → (B.io.length : Int) ≤ 1152921504606846976 →
    Calls Try.prog 47 #[.pointer pa, .pointer pb, .bool sh] W (GivesM W (InS A.io B.io sh)) := by
  induction A with
  | leaf =>
    intro B W pa pb ha _ _ _ _ _
    obtain rfl : pa = none := ha
    go_enter Try.func47, Try.ntmps47
    go_wp2
    go_ret
    exact ⟨none, .leaf, rfl, rfl, Srt.nil, by simp [BT.io, InS], Below.refl _ _⟩
  | node l ne r ihl ihr =>
    intro B W pa pb ha hb hsa hsb hza hzb
    have Ha := hide ha
    have Hsa := hide hsa
    have Hsb := hide hsb
    have Hsr := hide (srt_mid.1 (show Srt (l.io ++ ne :: r.io) from hsa))
    obtain ⟨b, pl, pr, rfl, hbb, h0, h1, h2, h3, h4, hl, hr⟩ := ha
    cases B with
    | leaf =>
      obtain rfl : pb = none := hb
      clear ihl ihr hsa hsb h4 h0 h1 h2 h3
      cases sh with
      | true =>
        go_enter Try.func47, Try.ntmps47
        go_wp2
        go_ret
        exact ⟨none, .leaf, rfl, rfl, Srt.nil, by simp [BT.io, InS, HasKey], Below.refl _ _⟩
      | false =>
        go_enter Try.func47, Try.ntmps47
        go_wp2
        go_ret
        exact ⟨_, _, rfl, unhide Ha, unhide Hsa, by simp [BT.io, InS, HasKey], Below.refl _ _⟩
    | node bl be br =>
      have Hb := hide hb
      obtain ⟨cb, _, _, rfl, _⟩ := hb
      have HS : Hid (∀ w', Below W.heap.size W w' → (w'.cell? ⟨b, 0, none⟩ = some (.string ne.1) ∧ w'.cell? ⟨b, 1, none⟩ = some (.int .i64 ne.2) ∧ w'.cell? ⟨b, 2, none⟩ = some (.pointer pl) ∧ w'.cell? ⟨b, 3, none⟩ = some (.pointer pr)) ∧ Below W.heap.size W w') := fun w' h => ⟨⟨(h.cell (p := ⟨b, 0, none⟩) hbb).trans h0, (h.cell (p := ⟨b, 1, none⟩) hbb).trans h1, (h.cell (p := ⟨b, 2, none⟩) hbb).trans h2, (h.cell (p := ⟨b, 3, none⟩) hbb).trans h3⟩, h⟩
      have hsz' := hza
      rw [BT.io_len l r ne] at hsz'
      have Ihl := hide ihl
      have Ihr := hide ihr
      clear ihl ihr hsa hsb h4
      go_enter Try.func47, Try.ntmps47
      go_wp2_with fail
      refine (split_any ne.1 (.node bl be br) W _ (unhide Hb) (unhide Hsb) (by omega)).mono ?_
      rintro o W1 ⟨qb, qa, qc, TB, TC, rfl, htB, htC, hiB, hiC, hqa, hB1⟩
      have hnB : TB.io.length ≤ (BT.node bl be br).io.length := by rw [hiB]; exact lo_len _ _
      have hnC : TC.io.length ≤ (BT.node bl be br).io.length := by rw [hiC]; exact hi_len _ _
      have HsB : Hid (Srt TB.io) := by show Srt _; rw [hiB]; exact lo_srt (unhide Hsb)
      have HsC : Hid (Srt TC.io) := by show Srt _; rw [hiC]; exact hi_srt (unhide Hsb)
      have HiB := hide hiB
      have HiC := hide hiC
      have Hqa := hide hqa
      clear hiB hiC hqa
      go_wp2
      go_region_held3 (fun w' => (w'.cell? ⟨b, 0, none⟩ = some (.string ne.1) ∧ w'.cell? ⟨b, 1, none⟩ = some (.int .i64 ne.2) ∧ w'.cell? ⟨b, 2, none⟩ = some (.pointer pl) ∧ w'.cell? ⟨b, 3, none⟩ = some (.pointer pr)) ∧ Below W.heap.size W w') ((refine HS.out _ ?_; first | exact (Below.refl _ _).drew | exact hB1.drew | exact hB4 | exact hB3 | exact hB2 | exact hB1 | exact Below.refl _ _))
        (first
          | (go_at_call_of 47 (Value.pointer qb); refine (unhide Ihl TB _ _ _ (hl.up hB1.drew) (htB.up (Below.refl _ _).drew) (unhide Hsr).1 (unhide HsB) (by omega) (by omega)).mono ?_; rintro o W2 ⟨p2, T2, rfl, ht2, hs2, hm2, hb2'⟩; have hb2 : Below W1.heap.size W1 W2 := ((Below.refl _ W1).drew).trans hb2'; clear hb2'; have hB2 : Below W.heap.size W W2 := hB1.trans (hb2.mono hB1.size); have hn2 := sift_len hs2 hm2; have Hs2 := hide hs2; have Hm2 : Hid (∀ x, x ∈ T2.io ↔ InS l.io (lo ne.1 (BT.node bl be br).io) sh x) := (fun x => (by rw [hm2 x, unhide HiB])); clear hs2 hm2)
          | (go_at_call_of 47 (Value.pointer qc); refine (unhide Ihr TC _ _ _ (hr.up hB2) (htC.up hb2) (unhide Hsr).2.1 (unhide HsC) (by omega) (by omega)).mono ?_; rintro o W3 ⟨p3, T3, rfl, ht3, hs3, hm3, hb3⟩; have hB3 : Below W.heap.size W W3 := hB2.trans (hb3.mono hB2.size); have hn3 := sift_len hs3 hm3; have Hs3 := hide hs3; have Hm3 : Hid (∀ x, x ∈ T3.io ↔ InS r.io (hi ne.1 (BT.node bl be br).io) sh x) := (fun x => (by rw [hm3 x, unhide HiC])); clear hs3 hm3))
      obtain ⟨⟨y0, y1, y2, y3⟩, _⟩ := HS.out W3 hB3
      clear h0 h1 h2 h3
      cases qa with
      | none =>
        have hno : ¬ HasKey (BT.node bl be br).io ne.1 := fun h => by simpa using (unhide Hqa).2 h
        cases sh with
        | true =>
          obtain ⟨q1, q2⟩ := sift_less (show Srt (l.io ++ ne :: r.io) from unhide Hsa) (unhide Hs2) (unhide Hs3) (unhide Hm2) (unhide Hm3) (fun h => hno (h.2 rfl))
          have Q1 := hide q1
          have Q2 := hide q2
          clear q1 q2 hno
          go_wp2_with (go_at_call 50; refine (glue_any (ht2.up hb3) ht3 (by omega)).mono ?_; rintro o W4 ⟨p4, T4, rfl, ht4, hi4, hb4⟩; have Hi4 := hide hi4; clear hi4)
          go_ret
          exact ⟨_, _, rfl, ht4, by rw [unhide Hi4]; exact unhide Q1, by rw [unhide Hi4]; exact unhide Q2, hB3.trans (hb4.mono hB3.size)⟩
        | false =>
          obtain ⟨q1, q2⟩ := sift_with (show Srt (l.io ++ ne :: r.io) from unhide Hsa) (unhide Hs2) (unhide Hs3) (unhide Hm2) (unhide Hm3) ⟨fun h => (hno h).elim, fun h => by cases h⟩
          have Q1 := hide q1
          have Q2 := hide q2
          clear q1 q2 hno
          go_wp2_with (go_at_call 52; refine (link_any _ T2 T3 (Nat.le_refl _) _ _ _ ne (ht2.up hb3) ht3 (by omega)).mono ?_; rintro o W4 ⟨p4, T4, rfl, ht4, hi4, hb4⟩; have Hi4 := hide hi4; clear hi4)
          go_ret
          exact ⟨_, _, rfl, ht4, by rw [unhide Hi4]; exact unhide Q1, by rw [unhide Hi4]; exact unhide Q2, hB3.trans (hb4.mono hB3.size)⟩
      | some at_ =>
        have hno : HasKey (BT.node bl be br).io ne.1 := (unhide Hqa).1 rfl
        cases sh with
        | false =>
          obtain ⟨q1, q2⟩ := sift_less (show Srt (l.io ++ ne :: r.io) from unhide Hsa) (unhide Hs2) (unhide Hs3) (unhide Hm2) (unhide Hm3) (fun h => by cases h.1 hno)
          have Q1 := hide q1
          have Q2 := hide q2
          clear q1 q2 hno
          go_wp2_with (go_at_call 50; refine (glue_any (ht2.up hb3) ht3 (by omega)).mono ?_; rintro o W4 ⟨p4, T4, rfl, ht4, hi4, hb4⟩; have Hi4 := hide hi4; clear hi4)
          go_ret
          exact ⟨_, _, rfl, ht4, by rw [unhide Hi4]; exact unhide Q1, by rw [unhide Hi4]; exact unhide Q2, hB3.trans (hb4.mono hB3.size)⟩
        | true =>
          obtain ⟨q1, q2⟩ := sift_with (show Srt (l.io ++ ne :: r.io) from unhide Hsa) (unhide Hs2) (unhide Hs3) (unhide Hm2) (unhide Hm3) ⟨fun _ => rfl, fun _ => hno⟩
          have Q1 := hide q1
          have Q2 := hide q2
          clear q1 q2 hno
          go_wp2_with (go_at_call 52; refine (link_any _ T2 T3 (Nat.le_refl _) _ _ _ ne (ht2.up hb3) ht3 (by omega)).mono ?_; rintro o W4 ⟨p4, T4, rfl, ht4, hi4, hb4⟩; have Hi4 := hide hi4; clear hi4)
          go_ret
          exact ⟨_, _, rfl, ht4, by rw [unhide Hi4]; exact unhide Q1, by rw [unhide Hi4]; exact unhide Q2, hB3.trans (hb4.mono hB3.size)⟩
end Go.Proofs.Ytcbcahnajabhfaa
