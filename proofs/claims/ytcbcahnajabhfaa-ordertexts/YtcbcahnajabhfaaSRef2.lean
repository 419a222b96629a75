import Derived.Test.YtcbcahnajabhfaaSRef
import Derived.Test.YtcbcahnajabhfaaSMapA
import Derived.Test.YtcbcahnajabhfaaSLaws0
namespace Go.Proofs.Ytcbcahnajabhfaa
open Go.RowKit
attribute [local go_sem] kless_eq keq_eq kne_eq kgeq_eq
attribute [local go_sem ↓] Go.wp_at_zero Go.wp_at_succ

theorem take_next {l : List Ent} {j : Nat} {x : Ent} (h : l[j]? = some x) : l.take (j + 1) = l.take j ++ [x] := by
  rw [List.take_add_one, h]; rfl
theorem rk_stop {l : List Ent} {k : KT} {j : Nat} (hs : Srt l) (hj : j ≤ l.length) (ha : ∀ x ∈ l.take j, x.1 < k) (hb : ∀ x, l[j]? = some x → ¬ x.1 < k) : rk k l = j := by
  have e : rk k l = rk k (l.take j) + rk k (l.drop j) := by rw [← rk_app, List.take_append_drop]
  rw [e, rk_all ha, List.length_take, Nat.min_eq_left hj]
  have hd : rk k (l.drop j) = 0 := by
    refine rk_none fun x hx hlt => ?_
    cases hd : l.drop j with
    | nil => rw [hd] at hx; simp at hx
    | cons y r =>
      have hy : l[j]? = some y := by rw [← List.head?_drop, hd]; rfl
      have hs' : Srt (l.drop j) := List.Pairwise.sublist (List.drop_sublist _ _) hs
      rw [hd] at hs' hx
      rcases List.mem_cons.1 hx with rfl | hx
      · exact hb x hy hlt
      · exact hb y hy (klt_trans ((srt_cons.1 hs').2 x hx) hlt)
  omega
theorem has_stop {l : List Ent} {k : KT} {j : Nat} (hs : Srt l) (ha : ∀ x ∈ l.take j, x.1 < k) (hb : ∀ x, l[j]? = some x → ¬ x.1 < k) : HasKey l k ↔ ∃ x, l[j]? = some x ∧ x.1 = k := by
  constructor
  · rintro ⟨y, hy, e⟩
    rw [← List.take_append_drop j l] at hy
    rcases List.mem_append.1 hy with h | h
    · exact (klt_irrefl (e ▸ ha y h)).elim
    · cases hd : l.drop j with
      | nil => rw [hd] at h; simp at h
      | cons z r =>
        have hz : l[j]? = some z := by rw [← List.head?_drop, hd]; rfl
        have hs' : Srt (l.drop j) := List.Pairwise.sublist (List.drop_sublist _ _) hs
        rw [hd] at hs' h
        rcases List.mem_cons.1 h with rfl | h
        · exact ⟨y, hz, e⟩
        · exact (hb z hz (e ▸ (srt_cons.1 hs').2 y h)).elim
  · rintro ⟨x, hx, e⟩; exact ⟨x, List.mem_of_getElem? hx, e⟩

set_option maxRecDepth 100000 in
set_option maxHeartbeats 2000000 in
theorem rfind_any {W : World} {v : Value} {l : List Ent} (k : KT) (h : IsR W v l) (hs : Srt l) :
    Calls Try.prog 19 #[v, .string k] W fun o W' => ∃ f : Bool, o = .returned (.tuple #[.int .i64 (rk k l : Int), .bool f]) ∧ (f = true ↔ HasKey l k) ∧ Below W.heap.size W W' := by
  obtain ⟨a, c, rfl, h1, h2, h3⟩ := h
  unfold maxLen at h2
  have H3 := hide h3
  have Hs := hide hs
  clear h3 hs
  go_enter Try.func19, Try.ntmps19
  go_wp2
  go_loopg [6] l.length (fun gk v6 wr => ∃ (j : Nat), v6 = .int .i64 (j : Int) ∧ gk = l.length - j ∧ j ≤ l.length ∧ wr = W ∧ ∀ x ∈ l.take j, x.1 < k)
  case atStart => exact ⟨0, rfl, rfl, Nat.zero_le _, rfl, by simp⟩
  case round =>
    obtain ⟨j, rfl, hgk, hj, rfl, ha⟩ := hrel
    have Hgk := hide hgk
    have Ha := hide ha
    clear hgk ha
    by_cases hlt : j < l.length
    · obtain ⟨g, o, rfl, hg, hc⟩ := unhide H3 (by omega)
      obtain ⟨x, hx⟩ : ∃ x, l[j]? = some x := ⟨_, List.getElem?_eq_getElem hlt⟩
      have c0 : wr.cell? ⟨g, o + j * 2, none⟩ = some (.string x.1) := (hc j x hx).1
      have hj0 : (0 : Int) ≤ (j : Int) := Int.natCast_nonneg _
      have hj1 : (j : Int) < (l.length : Int) := by omega
      have Hx := hide hx
      clear hx hc
      by_cases hk : x.1 < k
      · go_wp2
        go_roundg (l.length - (j + 1))
        case measure => have := unhide Hgk; omega
        case rel => exact ⟨j + 1, by go_num, rfl, by omega, rfl, fun y hy => by
          rw [take_next (unhide Hx)] at hy
          rcases List.mem_append.1 hy with h | h
          · exact unhide Ha y h
          · obtain rfl : y = x := by simpa using h
            exact hk⟩
      · have hd1 : decide (x.1 < k) = false := decide_eq_false hk
        have hb : ∀ y, l[j]? = some y → ¬ y.1 < k := fun y hy => by rw [unhide Hx] at hy; cases hy; exact hk
        have Hrk : Hid (rk k l = j) := rk_stop (unhide Hs) hj (unhide Ha) hb
        have Hhas : Hid (HasKey l k ↔ ∃ y, l[j]? = some y ∧ y.1 = k) := has_stop (unhide Hs) (unhide Ha) hb
        clear hk hb
        by_cases he : x.1 = k
        · have hbe : (x.1 == k) = true := by simp [he]
          clear he
          go_wp2
          go_quiet (fail)
          go_wp2
          go_ret2
          refine ⟨true, by rw [unhide Hrk]; rfl, ?_, below_drewN (Below.refl _ _) _⟩
          rw [unhide Hhas]
          exact ⟨fun _ => ⟨x, unhide Hx, by simpa using hbe⟩, fun _ => rfl⟩
        · have hbe : (x.1 == k) = false := by simp [he]
          clear he
          go_wp2
          go_quiet (fail)
          go_wp2
          go_ret2
          refine ⟨false, by rw [unhide Hrk]; rfl, ?_, below_drewN (Below.refl _ _) _⟩
          rw [unhide Hhas]
          refine ⟨fun h => (by cases h), fun ⟨y, hy, e⟩ => ?_⟩
          rw [unhide Hx] at hy
          cases hy
          simp [e] at hbe
    · obtain rfl : j = l.length := by omega
      have hb : ∀ y, l[l.length]? = some y → ¬ y.1 < k := fun y hy => by simp at hy
      have Hrk : Hid (rk k l = l.length) := rk_stop (unhide Hs) hj (unhide Ha) hb
      have Hhas : Hid (HasKey l k ↔ ∃ y, l[l.length]? = some y ∧ y.1 = k) := has_stop (unhide Hs) (unhide Ha) hb
      clear hb
      have hlf : decide ((l.length : Int) < (l.length : Int)) = false := by simp
      go_wp2
      go_quiet (fail)
      go_wp2
      go_ret2
      refine ⟨false, by rw [unhide Hrk]; rfl, ?_, below_drewN (Below.refl _ _) _⟩
      rw [unhide Hhas]
      exact ⟨fun h => (by cases h), fun ⟨y, hy, e⟩ => by simp at hy⟩

set_option maxRecDepth 100000 in
set_option maxHeartbeats 2000000 in
theorem rget_any {W : World} {v : Value} {l : List Ent} (k : KT) (h : IsR W v l) (hs : Srt l) :
    Calls Try.prog 15 #[v, .string k] W fun o W' => ∃ u f, o = .returned (.tuple #[.int .i64 u, .bool f]) ∧ GetSays l k u f ∧ Below W.heap.size W W' := by
  have h' := h
  obtain ⟨a, c, rfl, h1, h2, h3⟩ := h'
  unfold maxLen at h2
  have H3 := hide h3
  have Hs := hide hs
  clear h3 hs
  go_enter Try.func15, Try.ntmps15
  go_wp2_with fail
  refine (rfind_any k h (unhide Hs)).mono ?_
  rintro o w1 ⟨f, rfl, hf, hb1⟩
  cases f with
  | false =>
    have Hf : Hid (¬ HasKey l k) := fun hk => by cases hf.2 hk
    clear hf
    go_wp2
    go_ret2
    exact ⟨0, false, rfl, .inr ⟨rfl, rfl, unhide Hf⟩, hb1⟩
  | true =>
    obtain ⟨x, hx, e⟩ := hf.1 rfl
    obtain ⟨i, hi⟩ := List.getElem?_of_mem hx
    have hrk : rk k l = i := by rw [← e]; exact rk_at (unhide Hs) hi
    have hil : i < l.length := (List.getElem?_eq_some_iff.1 hi).1
    obtain ⟨g, o, rfl, hg, hc⟩ := unhide H3 (by omega)
    have c1 : w1.cell? ⟨g, o + i * 2 + 1, none⟩ = some (.int .i64 x.2) := (hb1.cell (p := ⟨g, o + i * 2 + 1, none⟩) hg).trans (hc i x hi).2
    have Hx : Hid ((k, x.2) ∈ l) := by show _ ∈ _; rw [← e]; exact hx
    rw [hrk]
    have hi0 : (0 : Int) ≤ (i : Int) := Int.natCast_nonneg _
    have hi1 : (i : Int) < (l.length : Int) := by omega
    clear hf hx e hi hrk hc
    go_wp2
    go_ret2
    exact ⟨x.2, true, rfl, .inl ⟨rfl, unhide Hx⟩, hb1⟩

def AtTells (W : World) (l : List Ent) (i : Int) (o : Ending) (W' : World) : Prop := ∃ x f, o = .returned (.tuple #[.string x.1, .int .i64 x.2, .bool f]) ∧ AtSays l i x f ∧ Below W.heap.size W W'
set_option maxRecDepth 100000 in
set_option maxHeartbeats 2000000 in
theorem rat_any {W : World} {v : Value} {l : List Ent} (i : Int) (h : IsR W v l) :
    Calls Try.prog 17 #[v, .int .i64 i] W (AtTells W l i) := by
  obtain ⟨a, c, rfl, h1, h2, h3⟩ := h
  unfold maxLen at h2
  have H3 := hide h3
  clear h3
  by_cases hi : 0 ≤ i ∧ i < (l.length : Int)
  · obtain ⟨hi0, hi1⟩ := hi
    obtain ⟨n, rfl⟩ := Int.eq_ofNat_of_zero_le hi0
    have hn : n < l.length := by omega
    obtain ⟨x, hx⟩ : ∃ x, l[n]? = some x := ⟨_, List.getElem?_eq_getElem hn⟩
    obtain ⟨g, o, rfl, hg, hc⟩ := unhide H3 (by omega)
    obtain ⟨c0, c1⟩ := hc n x hx
    have Hx := hide hx
    clear hc hx
    have d1 : decide ((n : Int) < 0) = false := by simp
    have d2 : decide ((l.length : Int) ≤ (n : Int)) = false := by simp; omega
    go_enter Try.func17, Try.ntmps17
    go_wp2
    go_quiet (fail)
    go_wp2
    go_ret3
    exact ⟨x, true, rfl, .inl ⟨rfl, hi0, by simpa using unhide Hx⟩, below_drewN (Below.refl _ _) _⟩
  · have Hi := hide hi
    by_cases hneg : i < 0
    · have d1 : decide (i < 0) = true := by simp [hneg]
      clear hi
      go_enter Try.func17, Try.ntmps17
      go_wp2
      go_ret3
      exact ⟨((⟨#[]⟩ : ByteArray), 0), false, rfl, .inr ⟨rfl, rfl, unhide Hi⟩, Below.refl _ _⟩
    · have d1 : decide (i < 0) = false := by simp; omega
      have d2 : decide ((l.length : Int) ≤ i) = true := by simp; omega
      clear hi
      go_enter Try.func17, Try.ntmps17
      go_wp2
      go_ret3
      exact ⟨((⟨#[]⟩ : ByteArray), 0), false, rfl, .inr ⟨rfl, rfl, unhide Hi⟩, Below.refl _ _⟩

theorem drop_ge {l : List Ent} {k : KT} (hs : Srt l) : l.drop (rk k l) = ge k l := by
  induction l with
  | nil => rfl
  | cons x r ih =>
    obtain ⟨hr, hx⟩ := srt_cons.1 hs
    by_cases h : x.1 < k
    · rw [rk_cons_lt h, List.drop_succ_cons, ih hr]
      simp [ge, h]
    · have hall : ∀ y ∈ x :: r, ¬ y.1 < k := fun y hy => by
        rcases List.mem_cons.1 hy with rfl | hy
        · exact h
        · exact fun h' => h (klt_trans (hx y hy) h')
      rw [rk_none hall, List.drop_zero]
      symm
      unfold ge
      exact List.filter_eq_self.2 fun y hy => by simpa using hall y hy

set_option maxRecDepth 100000 in
set_option maxHeartbeats 2000000 in
theorem rfrom_any {W : World} {v : Value} {l : List Ent} (k : KT) (h : IsR W v l) (hs : Srt l) :
    Calls Try.prog 42 #[v, .string k] W fun o W' => ∃ u, o = .returned u ∧ IsR W' u (ge k l) ∧ Below W.heap.size W W' := by
  have h' := h
  obtain ⟨a, c, rfl, h1, h2, h3⟩ := h'
  have hcm := h2
  unfold maxLen at h2
  have H3 := hide h3
  have Hs := hide hs
  clear h3 hs
  have hrk := rk_le k l
  go_enter Try.func42, Try.ntmps42
  go_wp2_with fail
  refine (rfind_any k h (unhide Hs)).mono ?_
  rintro o w1 ⟨f, rfl, hf, hb1⟩
  have Hd : Hid (l.drop (rk k l) = ge k l) := drop_ge (unhide Hs)
  obtain ⟨n, hn⟩ : ∃ n, rk k l = n := ⟨_, rfl⟩
  rw [hn] at hrk ⊢
  have Hn := hide hn
  clear hn hf
  have hn0 : (0 : Int) ≤ (n : Int) := Int.natCast_nonneg _
  have hn1 : (n : Int) ≤ (l.length : Int) := by omega
  have hn2 : (l.length : Int) ≤ (c : Int) := by omega
  have hfin : ∀ a' : Option Addr, (∀ g o, a = some ⟨g, o, none⟩ → c ≠ n → a' = some ⟨g, o + n * 2, none⟩) → IsR w1 (.slice a' (l.length - n) (c - n)) (ge k l) := by
    intro a' ha'
    rw [← unhide Hd, unhide Hn]
    refine ⟨a', c - n, by rw [List.length_drop], by rw [List.length_drop]; omega, by omega, fun hp => ?_⟩
    rw [List.length_drop] at hp
    obtain ⟨g, o, rfl, hg, hc⟩ := unhide H3 (by omega)
    refine ⟨g, o + n * 2, ha' g o rfl (by omega), by have := hb1.size; omega, fun i x hx => ?_⟩
    rw [List.getElem?_drop] at hx
    have e : o + n * 2 + i * 2 = o + (n + i) * 2 := by omega
    rw [e]
    exact ⟨(hb1.cell (p := ⟨g, o + (n + i) * 2, none⟩) hg).trans (hc _ x hx).1, (hb1.cell (p := ⟨g, o + (n + i) * 2 + 1, none⟩) hg).trans (hc _ x hx).2⟩
  have Hfin := hide hfin
  clear hfin
  by_cases hcn : c = n
  · subst hcn
    go_wp2
    go_ret
    refine ⟨_, rfl, ?_, hb1⟩
    first
      | exact unhide Hfin _ (fun _ _ _ h => (h rfl).elim)
      | (have := unhide Hfin a (fun _ _ _ h => (h rfl).elim); simpa [show l.length - c = 0 by omega] using this)
  · go_wp2
    go_ret
    refine ⟨_, rfl, ?_, hb1⟩
    exact unhide Hfin _ (fun g o e _ => by rw [e]; simp [Addr.add])
end Go.Proofs.Ytcbcahnajabhfaa
