import Derived.Test.YtcbcahnajabhfaaSSplit
namespace Go.Proofs.Ytcbcahnajabhfaa
open Go.RowKit
attribute [local go_sem] kless_eq keq_eq kne_eq kgeq_eq
attribute [local go_sem ↓] Go.wp_at_zero Go.wp_at_succ

theorem has_lo {k j : KT} {l : List Ent} (h : j < k) : HasKey (lo k l) j ↔ HasKey l j := by
  constructor
  · rintro ⟨x, hx, e⟩; exact ⟨x, (mem_lo.1 hx).1, e⟩
  · rintro ⟨x, hx, e⟩; exact ⟨x, mem_lo.2 ⟨hx, e ▸ h⟩, e⟩
theorem has_hi {k j : KT} {l : List Ent} (h : k < j) : HasKey (hi k l) j ↔ HasKey l j := by
  constructor
  · rintro ⟨x, hx, e⟩; exact ⟨x, (mem_hi.1 hx).1, e⟩
  · rintro ⟨x, hx, e⟩; exact ⟨x, mem_hi.2 ⟨hx, e ▸ h⟩, e⟩

/-- What stands in the union: all of b, and of a what b has no key for. -/
def InU (a b : List Ent) (x : Ent) : Prop := x ∈ b ∨ x ∈ a ∧ ¬ HasKey b x.1
theorem union_mid {a l r u v : List Ent} {e : Ent} (hb : Srt (l ++ e :: r)) (hu : Srt u) (hv : Srt v)
    (mu : ∀ x, x ∈ u ↔ InU (lo e.1 a) l x) (mv : ∀ x, x ∈ v ↔ InU (hi e.1 a) r x) :
    Srt (u ++ e :: v) ∧ ∀ x, x ∈ u ++ e :: v ↔ InU a (l ++ e :: r) x := by
  obtain ⟨h1, h2, h3, h4⟩ := srt_mid.1 hb
  have lu : ∀ x ∈ u, x.1 < e.1 := fun x hx => by
    rcases (mu x).1 hx with h | h
    · exact h3 x h
    · exact (mem_lo.1 h.1).2
  have gv : ∀ x ∈ v, e.1 < x.1 := fun x hx => by
    rcases (mv x).1 hx with h | h
    · exact h4 x h
    · exact (mem_hi.1 h.1).2
  refine ⟨srt_mid.2 ⟨hu, hv, lu, gv⟩, fun x => ?_⟩
  constructor
  · intro hx
    rcases List.mem_append.1 hx with h | h
    · rcases (mu x).1 h with h' | ⟨h', hn⟩
      · exact .inl (List.mem_append_left _ h')
      · exact .inr ⟨(mem_lo.1 h').1, fun hk => hn ((has_left hb (mem_lo.1 h').2).1 hk)⟩
    · rcases List.mem_cons.1 h with rfl | h
      · exact .inl (List.mem_append_right _ List.mem_cons_self)
      · rcases (mv x).1 h with h' | ⟨h', hn⟩
        · exact .inl (List.mem_append_right _ (List.mem_cons_of_mem _ h'))
        · exact .inr ⟨(mem_hi.1 h').1, fun hk => hn ((has_right hb (mem_hi.1 h').2).1 hk)⟩
  · rintro (hx | ⟨hx, hn⟩)
    · rcases List.mem_append.1 hx with h | h
      · exact List.mem_append_left _ ((mu x).2 (.inl h))
      · rcases List.mem_cons.1 h with rfl | h
        · exact List.mem_append_right _ List.mem_cons_self
        · exact List.mem_append_right _ (List.mem_cons_of_mem _ ((mv x).2 (.inl h)))
    · by_cases hl : x.1 < e.1
      · exact List.mem_append_left _ ((mu x).2 (.inr ⟨mem_lo.2 ⟨hx, hl⟩, fun hk => hn ((has_left hb hl).2 hk)⟩))
      · by_cases hg : e.1 < x.1
        · exact List.mem_append_right _ (List.mem_cons_of_mem _ ((mv x).2 (.inr ⟨mem_hi.2 ⟨hx, hg⟩, fun hk => hn ((has_right hb hg).2 hk)⟩)))
        · exact (hn ⟨e, List.mem_append_right _ List.mem_cons_self, keq_of hg hl⟩).elim
theorem union_len {a b u : List Ent} (hu : Srt u) (mu : ∀ x, x ∈ u ↔ InU a b x) : u.length ≤ a.length + b.length := by
  have := hu.len_le (z := a ++ b) fun x hx => by
    rcases (mu x).1 hx with h | h
    · exact List.mem_append_right _ h
    · exact List.mem_append_left _ h.1
  simpa using this

set_option maxRecDepth 100000 in
set_option maxHeartbeats 4000000 in
theorem union_any (B : BT) : ∀ (A : BT) (W : World) (pa pb : Option Addr), IsT W.heap.size W pa A → IsT W.heap.size W pb B → Srt A.io → Srt B.io → (A.io.length : Int) + (B.io.length : Int) ≤ 1152921504606846976 →
    Calls Try.prog 46 #[.pointer pa, .pointer pb] W (GivesM W (InU A.io B.io)) := by
  induction B with
  | leaf =>
    intro A W pa pb ha hb hsa _ _
    obtain rfl : pb = none := hb
    have Ha := hide ha
    have Hs := hide hsa
    clear hsa
    cases A with
    | leaf =>
      obtain rfl : pa = none := ha
      go_enter Try.func46, Try.ntmps46
      go_wp2
      go_ret
      exact ⟨none, .leaf, rfl, rfl, Srt.nil, by simp [BT.io, InU], Below.refl _ _⟩
    | node l e r =>
      obtain ⟨b, _, _, rfl, _⟩ := ha
      go_enter Try.func46, Try.ntmps46
      go_wp2
      go_ret
      exact ⟨_, _, rfl, unhide Ha, unhide Hs, by simp [BT.io, InU, HasKey], Below.refl _ _⟩
  | node l ne r ihl ihr =>
    intro A W pa pb ha hb hsa hsb hsz
    have Ha := hide ha
    have Hsa := hide hsa
    have Hsb := hide hsb
    have hsr := srt_mid.1 (show Srt (l.io ++ ne :: r.io) from hsb)
    have Hsr := hide hsr
    have Hb := hide hb
    obtain ⟨b, pl, pr, rfl, hbb, h0, h1, h2, h3, h4, hl, hr⟩ := hb
    cases A with
    | leaf =>
      obtain rfl : pa = none := ha
      clear ihl ihr hsa hsb hsr h4 h0 h1 h2 h3
      go_enter Try.func46, Try.ntmps46
      go_wp2
      go_ret
      exact ⟨_, _, rfl, unhide Hb, unhide Hsb, by simp [BT.io, InU], Below.refl _ _⟩
    | node al ae ar =>
      obtain ⟨ab, _, _, rfl, _⟩ := ha
      have HS : Hid (∀ w', Below W.heap.size W w' → (w'.cell? ⟨b, 0, none⟩ = some (.string ne.1) ∧ w'.cell? ⟨b, 1, none⟩ = some (.int .i64 ne.2) ∧ w'.cell? ⟨b, 2, none⟩ = some (.pointer pl) ∧ w'.cell? ⟨b, 3, none⟩ = some (.pointer pr)) ∧ Below W.heap.size W w') := fun w' h => ⟨⟨(h.cell (p := ⟨b, 0, none⟩) hbb).trans h0, (h.cell (p := ⟨b, 1, none⟩) hbb).trans h1, (h.cell (p := ⟨b, 2, none⟩) hbb).trans h2, (h.cell (p := ⟨b, 3, none⟩) hbb).trans h3⟩, h⟩
      have hsz' := hsz
      rw [BT.io_len l r ne] at hsz'
      have Ihl := hide ihl
      have Ihr := hide ihr
      clear ihl ihr hsa hsb hsr h4
      go_enter Try.func46, Try.ntmps46
      go_wp2_with fail
      refine (split_any ne.1 (.node al ae ar) W _ (unhide Ha) (unhide Hsa) (by omega)).mono ?_
      rintro o W1 ⟨qb, qa, qc, TB, TC, rfl, htB, htC, hiB, hiC, _, hB1⟩
      have hnB : TB.io.length ≤ (BT.node al ae ar).io.length := by rw [hiB]; exact lo_len _ _
      have hnC : TC.io.length ≤ (BT.node al ae ar).io.length := by rw [hiC]; exact hi_len _ _
      have HsB : Hid (Srt TB.io) := by show Srt _; rw [hiB]; exact lo_srt (unhide Hsa)
      have HsC : Hid (Srt TC.io) := by show Srt _; rw [hiC]; exact hi_srt (unhide Hsa)
      have HiB := hide hiB
      have HiC := hide hiC
      clear hiB hiC
      go_wp2
      go_region_held3 (fun w' => (w'.cell? ⟨b, 0, none⟩ = some (.string ne.1) ∧ w'.cell? ⟨b, 1, none⟩ = some (.int .i64 ne.2) ∧ w'.cell? ⟨b, 2, none⟩ = some (.pointer pl) ∧ w'.cell? ⟨b, 3, none⟩ = some (.pointer pr)) ∧ Below W.heap.size W w') ((refine HS.out _ ?_; first | exact (Below.refl _ _).drew | exact hB1.drew | exact hB4 | exact hB3 | exact hB2 | exact hB1 | exact Below.refl _ _))
        (first
          | (go_at_call_of 46 (Value.pointer qb); refine (unhide Ihl TB _ _ _ (htB.up (Below.refl _ _).drew) (hl.up hB1.drew) (unhide HsB) (unhide Hsr).1 (by omega)).mono ?_; rintro o W2 ⟨p2, T2, rfl, ht2, hs2, hm2, hb2'⟩; have hb2 : Below W1.heap.size W1 W2 := ((Below.refl _ W1).drew).trans hb2'; clear hb2'; have hB2 : Below W.heap.size W W2 := hB1.trans (hb2.mono hB1.size); have Hs2 := hide hs2; have Hm2 := hide hm2; clear hs2 hm2)
          | (go_at_call_of 46 (Value.pointer qc); refine (unhide Ihr TC _ _ _ (htC.up hb2) (hr.up hB2) (unhide HsC) (unhide Hsr).2.1 (by omega)).mono ?_; rintro o W3 ⟨p3, T3, rfl, ht3, hs3, hm3, hb3⟩; have hB3 : Below W.heap.size W W3 := hB2.trans (hb3.mono hB2.size); obtain ⟨hu1, hu2⟩ := union_mid (a := (BT.node al ae ar).io) (show Srt (l.io ++ ne :: r.io) from unhide Hsb) (unhide Hs2) hs3 (fun x => (by rw [unhide Hm2 x, unhide HiB])) (fun x => (by rw [hm3 x, unhide HiC])); have hn3 := union_len hu1 hu2; have Hu1 := hide hu1; have Hu2 := hide hu2; clear hs3 hm3 hu1 hu2; rw [List.length_append, List.length_cons] at hn3; rw [List.length_append, List.length_cons] at hn3)
          | (go_at_call 52; refine (link_any _ T2 T3 (Nat.le_refl _) _ _ _ ne (ht2.up hb3) ht3 (by omega)).mono ?_; rintro o W4 ⟨p4, T4, rfl, ht4, hi4, hb4⟩; have hB4 : Below W.heap.size W W4 := hB3.trans (hb4.mono hB3.size); have Hi4 := hide hi4; clear hi4))
      go_wp2
      go_ret
      exact ⟨_, _, rfl, ht4, by rw [unhide Hi4]; exact unhide Hu1, by rw [unhide Hi4]; exact unhide Hu2, hB4⟩
end Go.Proofs.Ytcbcahnajabhfaa
