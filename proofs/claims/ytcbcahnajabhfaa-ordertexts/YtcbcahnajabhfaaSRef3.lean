import Derived.Test.YtcbcahnajabhfaaSRef2
import Derived.Test.YtcbcahnajabhfaaSUnion
namespace Go.Proofs.Ytcbcahnajabhfaa
open Go.RowKit
attribute [local go_sem] kless_eq keq_eq kne_eq kgeq_eq
attribute [local go_sem ↓] Go.wp_at_zero Go.wp_at_succ

/-- The entries with one put in its place. -/
def ins (e : Ent) (l : List Ent) : List Ent := lo e.1 l ++ e :: hi e.1 l
theorem ins_srt {e : Ent} {l : List Ent} (hs : Srt l) : Srt (ins e l) := srt_mid.2 ⟨lo_srt hs, hi_srt hs, fun _ hx => (mem_lo.1 hx).2, fun _ hx => (mem_hi.1 hx).2⟩
theorem mem_ins {e : Ent} {l : List Ent} (x : Ent) : x ∈ ins e l ↔ x = e ∨ x ∈ l ∧ x.1 ≠ e.1 := by
  unfold ins
  simp only [List.mem_append, List.mem_cons, mem_lo, mem_hi]
  constructor
  · rintro (⟨h, hl⟩ | h | ⟨h, hl⟩)
    · exact .inr ⟨h, fun e' => klt_irrefl (e' ▸ hl)⟩
    · exact .inl h
    · exact .inr ⟨h, fun e' => klt_irrefl (e' ▸ hl)⟩
  · rintro (h | ⟨h, hne⟩)
    · exact .inr (.inl h)
    · by_cases h1 : x.1 < e.1
      · exact .inl ⟨h, h1⟩
      · by_cases h2 : e.1 < x.1
        · exact .inr (.inr ⟨h, h2⟩)
        · exact (hne (keq_of h1 h2)).elim
theorem ins_len (e : Ent) (l : List Ent) (hs : Srt l) : (ins e l).length ≤ l.length + 1 := put_len (ins_srt hs) mem_ins
theorem lo_app (k : KT) (l r : List Ent) : lo k (l ++ r) = lo k l ++ lo k r := by simp [lo]
theorem hi_app (k : KT) (l r : List Ent) : hi k (l ++ r) = hi k l ++ hi k r := by simp [hi]
theorem lo_all {k : KT} {l : List Ent} (h : ∀ x ∈ l, x.1 < k) : lo k l = l := List.filter_eq_self.2 fun x hx => decide_eq_true (h x hx)
theorem hi_none {k : KT} {l : List Ent} (h : ∀ x ∈ l, x.1 < k) : hi k l = [] := List.filter_eq_nil_iff.2 fun x hx hx' => klt_irrefl (klt_trans (h x hx) (of_decide_eq_true hx'))

/-- 'out' and 'done' when j entries have been passed. -/
def PutAt (e : Ent) (p : List Ent) (done : Bool) (out : List Ent) : Prop :=
  (done = false ∧ (∀ x ∈ p, x.1 < e.1) ∧ out = p) ∨ (done = true ∧ (∃ x ∈ p, ¬ x.1 < e.1) ∧ out = ins e p)
theorem putAt_lt {e x : Ent} {p out : List Ent} (h : PutAt e p false out) (hx : x.1 < e.1) : PutAt e (p ++ [x]) false (out ++ [x]) := by
  rcases h with ⟨_, h1, rfl⟩ | ⟨h, _⟩
  · refine .inl ⟨rfl, fun y hy => ?_, rfl⟩
    rcases List.mem_append.1 hy with h | h
    · exact h1 y h
    · obtain rfl : y = x := by simpa using h
      exact hx
  · cases h
theorem putAt_eq {e x : Ent} {p out : List Ent} (h : PutAt e p false out) (hx : x.1 = e.1) : PutAt e (p ++ [x]) true (out ++ [e]) := by
  rcases h with ⟨_, h1, rfl⟩ | ⟨h, _⟩
  · refine .inr ⟨rfl, ⟨x, by simp, fun h => klt_irrefl (hx ▸ h)⟩, ?_⟩
    have e1 : ¬ x.1 < e.1 := fun h => klt_irrefl (hx ▸ h)
    have e2 : ¬ e.1 < x.1 := fun h => klt_irrefl (hx ▸ h)
    unfold ins
    rw [lo_app, hi_app, lo_all h1, hi_none h1]
    simp [lo, hi, e1, e2]
  · cases h
theorem putAt_gt {e x : Ent} {p out : List Ent} (h : PutAt e p false out) (hx : e.1 < x.1) : PutAt e (p ++ [x]) true (out ++ [e] ++ [x]) := by
  rcases h with ⟨_, h1, rfl⟩ | ⟨h, _⟩
  · have e1 : ¬ x.1 < e.1 := fun h => klt_irrefl (klt_trans h hx)
    refine .inr ⟨rfl, ⟨x, by simp, e1⟩, ?_⟩
    unfold ins
    rw [lo_app, hi_app, lo_all h1, hi_none h1]
    simp [lo, hi, e1, hx]
  · cases h
theorem putAt_done {e x : Ent} {p out : List Ent} (h : PutAt e p true out) (hs : Srt (p ++ [x])) : e.1 < x.1 ∧ PutAt e (p ++ [x]) true (out ++ [x]) := by
  rcases h with ⟨h, _⟩ | ⟨_, ⟨y, hy, hny⟩, rfl⟩
  · cases h
  · have hyx : y.1 < x.1 := (srt_app.1 hs).2.2 y hy x (by simp)
    have hx : e.1 < x.1 := by
      by_cases h1 : e.1 < y.1
      · exact klt_trans h1 hyx
      · rw [keq_of h1 hny]; exact hyx
    have e1 : ¬ x.1 < e.1 := fun h => klt_irrefl (klt_trans h hx)
    refine ⟨hx, .inr ⟨rfl, ⟨y, by simp [hy], hny⟩, ?_⟩⟩
    unfold ins
    rw [lo_app, hi_app]
    simp [lo, hi, e1, hx]
theorem putAt_len {e : Ent} {p out : List Ent} {d : Bool} (h : PutAt e p d out) (hs : Srt p) : out.length ≤ p.length + 1 := by
  rcases h with ⟨_, _, rfl⟩ | ⟨_, _, rfl⟩
  · omega
  · exact ins_len e p hs
theorem putAt_len0 {e : Ent} {p out : List Ent} (h : PutAt e p false out) : out.length = p.length := by
  rcases h with ⟨_, _, rfl⟩ | ⟨h, _⟩
  · rfl
  · cases h
theorem putAt_end {e : Ent} {p out : List Ent} (h : PutAt e p false out) : out ++ [e] = ins e p := by
  rcases h with ⟨_, h1, rfl⟩ | ⟨h, _⟩
  · unfold ins; rw [lo_all h1, hi_none h1]
  · cases h

set_option maxRecDepth 100000 in
set_option maxHeartbeats 4000000 in
theorem rput_any {W : World} {v : Value} {l : List Ent} (e : Ent) (h : IsR W v l) (hs : Srt l) (hsz : (l.length + 1) ≤ 5864062014805) :
    Calls Try.prog 31 #[v, .string e.1, .int .i64 e.2] W fun o W' => ∃ u, o = .returned u ∧ IsR0 W' u (ins e l) ∧ Below W.heap.size W W' := by
  obtain ⟨i0, hi, hz0, hz1, hz2⟩ := info_parts Try.infoPair
  obtain ⟨a, c, rfl, h1, h2, h3⟩ := h
  unfold maxLen at h2
  have H3 := hide h3
  have Hs := hide hs
  clear h3 hs
  go_enter Try.func31, Try.ntmps31
  go_wp2
  go_loopg [7, 8, 9] l.length (fun gk v7 v8 v9 wr => ∃ (j : Nat) (done : Bool) (out : List Ent), v8 = .bool done ∧ v9 = .int .i64 (j : Int) ∧ gk = l.length - j ∧ j ≤ l.length ∧ Below W.heap.size W wr ∧ wr.ownsRow W.heap.size 73 2 v7 out.length (flat out) ∧ PutAt e (l.take j) done out)
  case atStart => exact ⟨0, false, [], rfl, rfl, rfl, Nat.zero_le _, Below.refl _ _, World.ownsRow_nil _ _ _ _, .inl ⟨rfl, by simp, by simp⟩⟩
  case round =>
    obtain ⟨j, done, out, rfl, rfl, hgk, hj, hB, hown, hput⟩ := hrel
    have Hgk := hide hgk
    have hol : out.length ≤ j + 1 := by
      have := putAt_len hput (List.Pairwise.sublist (List.take_sublist _ _) (unhide Hs))
      rw [List.length_take] at this
      omega
    clear hgk
    by_cases hlt : j < l.length
    · obtain ⟨g, o, rfl, hg, hc⟩ := unhide H3 (by omega)
      obtain ⟨x, hx⟩ : ∃ x, l[j]? = some x := ⟨_, List.getElem?_eq_getElem hlt⟩
      have c0 : wr.cell? ⟨g, o + j * 2, none⟩ = some (.string x.1) := (hB.cell (p := ⟨g, o + j * 2, none⟩) hg).trans (hc j x hx).1
      have c1 : wr.cell? ⟨g, o + j * 2 + 1, none⟩ = some (.int .i64 x.2) := (hB.cell (p := ⟨g, o + j * 2 + 1, none⟩) hg).trans (hc j x hx).2
      have hj0 : (0 : Int) ≤ (j : Int) := Int.natCast_nonneg _
      have hj1 : (j : Int) < (l.length : Int) := by omega
      have hnext := take_next hx
      have Hnext := hide hnext
      have hsj : Srt (l.take j ++ [x]) := by rw [← hnext]; exact List.Pairwise.sublist (List.take_sublist _ _) (unhide Hs)
      have Hc := hide hc
      have Hx := hide hx
      clear hx hc hnext
      cases done with
      | true =>
        obtain ⟨hgt, hput'⟩ := putAt_done hput hsj
        have hne : (x.1 != e.1) = true := by simp; exact fun e' => klt_irrefl (e' ▸ hgt)
        have Hput := hide hput'
        clear hput hput' hsj
        go_wp2_with (at_builtin; refine wpList_append_own _ rfl _ _ 44 rfl W.heap.size 73 i0 (.agg #[.string ⟨#[]⟩, .int .i64 0]) 2 24 Try.underlying44 hi hz0 hz1 hz2 rfl (by decide) _ _ _ rfl (hown.alloc _) ⟨wr.heap.size, 0, none⟩ 1 1 [.string x.1, .int .i64 x.2] rfl rfl (cell_two_new _ _ _ _) (by simp [Value.oneCell']) (by unfold maxLen; omega) (szb (by omega)) (by have := hB.size; simp; omega) ?_; intro v' w1 hown1 hgrow hdrop; clear hdrop; have hb1 : Below W.heap.size W w1 := (hB.alloc hB.size _).grown hgrow (hB.alloc hB.size _).size (fun k e => (hown.lt k e).1); clear hgrow)
        go_roundg (l.length - (j + 1))
        case measure => have := unhide Hgk; omega
        case rel => exact ⟨j + 1, true, out ++ [x], rfl, by go_num, rfl, by omega, hb1, by rw [flat_app, flat_one, List.length_append]; exact hown1, by rw [unhide Hnext]; exact unhide Hput⟩
      | false =>
        clear hsj
        have hol0 : out.length ≤ j := by have := putAt_len0 hput; rw [List.length_take] at this; omega
        by_cases hl : x.1 < e.1
        · have hge : decide (e.1 ≤ x.1) = false := decide_eq_false (fun h => klt_irrefl (kle_lt h hl))
          have hne : (x.1 != e.1) = true := by simp; exact fun e' => klt_irrefl (e' ▸ hl)
          have Hput := hide (putAt_lt hput hl)
          clear hput hl
          go_wp2_with (at_builtin; refine wpList_append_own _ rfl _ _ 44 rfl W.heap.size 73 i0 (.agg #[.string ⟨#[]⟩, .int .i64 0]) 2 24 Try.underlying44 hi hz0 hz1 hz2 rfl (by decide) _ _ _ rfl (hown.alloc _) ⟨wr.heap.size, 0, none⟩ 1 1 [.string x.1, .int .i64 x.2] rfl rfl (cell_two_new _ _ _ _) (by simp [Value.oneCell']) (by unfold maxLen; omega) (szb (by omega)) (by have := hB.size; simp; omega) ?_; intro v' w1 hown1 hgrow hdrop; clear hdrop; have hb1 : Below W.heap.size W w1 := (hB.alloc hB.size _).grown hgrow (hB.alloc hB.size _).size (fun k e => (hown.lt k e).1); clear hgrow)
          go_roundg (l.length - (j + 1))
          case measure => have := unhide Hgk; omega
          case rel => exact ⟨j + 1, false, out ++ [x], rfl, by go_num, rfl, by omega, hb1, by rw [flat_app, flat_one, List.length_append]; exact hown1, by rw [unhide Hnext]; exact unhide Hput⟩
        · have hge : decide (e.1 ≤ x.1) = true := decide_eq_true (kle_of hl)
          by_cases hgt : e.1 < x.1
          · have hne : (x.1 != e.1) = true := by simp; exact fun e' => klt_irrefl (e' ▸ hgt)
            have Hput := hide (putAt_gt hput hgt)
            clear hput hl hgt
            have tok : True := trivial
            go_wp2_with (first
              | (have _t := tok; (at_builtin; refine wpList_append_own _ rfl _ _ 44 rfl W.heap.size 73 i0 (.agg #[.string ⟨#[]⟩, .int .i64 0]) 2 24 Try.underlying44 hi hz0 hz1 hz2 rfl (by decide) _ _ _ rfl (hown.alloc _) ⟨wr.heap.size, 0, none⟩ 1 1 [.string e.1, .int .i64 e.2] rfl rfl (cell_two_new _ _ _ _) (by simp [Value.oneCell']) (by unfold maxLen; omega) (szb (by omega)) (by have := hB.size; simp; omega) ?_; intro v' w1 hown1 hgrow hdrop; clear hdrop; have hb1 : Below W.heap.size W w1 := (hB.alloc hB.size _).grown hgrow (hB.alloc hB.size _).size (fun k e => (hown.lt k e).1); clear hgrow); clear tok; have c2 : w1.cell? ⟨g, o + j * 2, none⟩ = some (.string x.1) := (hb1.cell (p := ⟨g, o + j * 2, none⟩) hg).trans (unhide Hc j x (unhide Hx)).1; have c3 : w1.cell? ⟨g, o + j * 2 + 1, none⟩ = some (.int .i64 x.2) := (hb1.cell (p := ⟨g, o + j * 2 + 1, none⟩) hg).trans (unhide Hc j x (unhide Hx)).2)
              | (at_builtin; refine wpList_append_own _ rfl _ _ 44 rfl W.heap.size 73 i0 (.agg #[.string ⟨#[]⟩, .int .i64 0]) 2 24 Try.underlying44 hi hz0 hz1 hz2 rfl (by decide) _ _ _ rfl (hown1.alloc _) ⟨w1.heap.size, 0, none⟩ 1 1 [.string x.1, .int .i64 x.2] rfl rfl (cell_two_new _ _ _ _) (by simp [Value.oneCell']) (by unfold maxLen; omega) (szb (by omega)) (by have := hb1.size; simp; omega) ?_; intro v' w2 hown2 hgrow hdrop; clear hdrop; have hb2 : Below W.heap.size W w2 := (hb1.alloc hb1.size _).grown hgrow (hb1.alloc hb1.size _).size (fun k e => (hown1.lt k e).1); clear hgrow))
            go_roundg (l.length - (j + 1))
            case measure => have := unhide Hgk; omega
            case rel => exact ⟨j + 1, true, out ++ [e] ++ [x], rfl, by go_num, rfl, by omega, hb2, by rw [flat_app, flat_app, flat_one, flat_one, List.length_append, List.length_append]; exact hown2, by rw [unhide Hnext]; exact unhide Hput⟩
          · have heq := keq_of hgt hl
            have hne : (x.1 != e.1) = false := by simp [heq]
            have Hput := hide (putAt_eq hput heq.symm)
            clear hput hl hgt heq
            go_wp2_with (first
              | ((at_builtin; refine wpList_append_own _ rfl _ _ 44 rfl W.heap.size 73 i0 (.agg #[.string ⟨#[]⟩, .int .i64 0]) 2 24 Try.underlying44 hi hz0 hz1 hz2 rfl (by decide) _ _ _ rfl (hown.alloc _) ⟨wr.heap.size, 0, none⟩ 1 1 [.string e.1, .int .i64 e.2] rfl rfl (cell_two_new _ _ _ _) (by simp [Value.oneCell']) (by unfold maxLen; omega) (szb (by omega)) (by have := hB.size; simp; omega) ?_; intro v' w1 hown1 hgrow hdrop; clear hdrop; have hb1 : Below W.heap.size W w1 := (hB.alloc hB.size _).grown hgrow (hB.alloc hB.size _).size (fun k e => (hown.lt k e).1); clear hgrow); have c2 : w1.cell? ⟨g, o + j * 2, none⟩ = some (.string x.1) := (hb1.cell (p := ⟨g, o + j * 2, none⟩) hg).trans (unhide Hc j x (unhide Hx)).1))
            go_roundg (l.length - (j + 1))
            case measure => have := unhide Hgk; omega
            case rel => exact ⟨j + 1, true, out ++ [e], rfl, by go_num, rfl, by omega, hb1, by rw [flat_app, flat_one, List.length_append]; exact hown1, by rw [unhide Hnext]; exact unhide Hput⟩
    · obtain rfl : j = l.length := by omega
      rw [List.take_length] at hput
      cases done with
      | true =>
        have Hput : Hid (out = ins e l) := by
          rcases hput with ⟨h, _⟩ | ⟨_, _, h⟩
          · cases h
          · exact h
        clear hput
        go_wp2
        go_ret
        refine ⟨_, rfl, ?_, hB⟩
        rw [← unhide Hput]
        exact isR_own hown
      | false =>
        have hol0 : out.length ≤ l.length := by have := putAt_len0 hput; omega
        have Hput : Hid (out ++ [e] = ins e l) := putAt_end hput
        clear hput
        go_wp2_with (at_builtin; refine wpList_append_own _ rfl _ _ 44 rfl W.heap.size 73 i0 (.agg #[.string ⟨#[]⟩, .int .i64 0]) 2 24 Try.underlying44 hi hz0 hz1 hz2 rfl (by decide) _ _ _ rfl (hown.alloc _) ⟨wr.heap.size, 0, none⟩ 1 1 [.string e.1, .int .i64 e.2] rfl rfl (cell_two_new _ _ _ _) (by simp [Value.oneCell']) (by unfold maxLen; omega) (szb (by omega)) (by have := hB.size; simp; omega) ?_; intro v' w1 hown1 hgrow hdrop; clear hdrop; have hb1 : Below W.heap.size W w1 := (hB.alloc hB.size _).grown hgrow (hB.alloc hB.size _).size (fun k e => (hown.lt k e).1); clear hgrow)
        go_ret
        refine ⟨_, rfl, ?_, hb1⟩
        rw [← unhide Hput]
        refine isR_own (base := W.heap.size) ?_
        rw [flat_app, flat_one, List.length_append]
        exact hown1
end Go.Proofs.Ytcbcahnajabhfaa
