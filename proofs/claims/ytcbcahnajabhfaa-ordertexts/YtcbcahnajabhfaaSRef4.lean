import Derived.Test.YtcbcahnajabhfaaSRef3
import Derived.Test.YtcbcahnajabhfaaSSift
namespace Go.Proofs.Ytcbcahnajabhfaa
open Go.RowKit
attribute [local go_sem] kless_eq keq_eq kne_eq kgeq_eq
attribute [local go_sem ↓] Go.wp_at_zero Go.wp_at_succ

theorem inU_nil (l : List Ent) (x : Ent) : x ∈ l ↔ InU l [] x := by simp [InU, HasKey]
theorem inU_step {l p out : List Ent} {e : Ent} (h : ∀ x, x ∈ out ↔ InU l p x) (hp : Srt (p ++ [e])) : ∀ x, x ∈ ins e out ↔ InU l (p ++ [e]) x := by
  intro x
  have hlt : ∀ y ∈ p, y.1 < e.1 := fun y hy => (srt_app.1 hp).2.2 y hy e (by simp)
  rw [mem_ins, h]
  unfold InU HasKey
  constructor
  · rintro (rfl | ⟨hx | ⟨hx, hn⟩, hne⟩)
    · exact .inl (by simp)
    · exact .inl (by simp [hx])
    · refine .inr ⟨hx, fun ⟨y, hy, e'⟩ => ?_⟩
      rcases List.mem_append.1 hy with h1 | h1
      · exact hn ⟨y, h1, e'⟩
      · obtain rfl : y = e := by simpa using h1
        exact hne e'.symm
  · rintro (hx | ⟨hx, hn⟩)
    · rcases List.mem_append.1 hx with h1 | h1
      · exact .inr ⟨.inl h1, fun e' => klt_irrefl (e' ▸ hlt x h1)⟩
      · exact .inl (by simpa using h1)
    · refine .inr ⟨.inr ⟨hx, fun ⟨y, hy, e'⟩ => hn ⟨y, by simp [hy], e'⟩⟩, fun e' => hn ⟨e, by simp, e'.symm⟩⟩

set_option maxRecDepth 100000 in
set_option maxHeartbeats 2000000 in
theorem rjoin_any {W : World} {v u : Value} {l o : List Ent} (h : IsR0 W v l) (ho : IsR0 W u o) (hs : Srt l) (hso : Srt o) (hsz : (l.length + o.length + 1) ≤ 5864062014805) :
    Calls Try.prog 35 #[v, u] W fun e W' => ∃ r out, e = .returned r ∧ IsR0 W' r out ∧ Srt out ∧ (∀ x, x ∈ out ↔ InU l o x) ∧ Below W.heap.size W W' := by
  have hv : ∃ a0 n0 c0, v = .slice a0 n0 c0 := by obtain ⟨a, c, rfl, _⟩ := h; exact ⟨_, _, _, rfl⟩
  obtain ⟨a0, n0, c0, rfl⟩ := hv
  obtain ⟨a, c, rfl, h1, h2, h3⟩ := ho
  unfold maxLen at h2
  have H3 := hide h3
  have Hs := hide hs
  have Hso := hide hso
  have H := hide h
  clear h3 hs hso h
  go_enter Try.func35, Try.ntmps35
  go_wp2
  go_loopg [5, 6] o.length (fun gk v5 v6 wr => ∃ (j : Nat) (out : List Ent), v6 = .int .i64 (j : Int) ∧ gk = o.length - j ∧ j ≤ o.length ∧ Below W.heap.size W wr ∧ IsR0 wr v5 out ∧ Srt out ∧ (∀ x, x ∈ out ↔ InU l (o.take j) x))
  case atStart => exact ⟨0, l, rfl, rfl, Nat.zero_le _, Below.refl _ _, unhide H, unhide Hs, inU_nil l⟩
  case round =>
    obtain ⟨j, out, rfl, hgk, hj, hB, hr, hsout, hm⟩ := hrel
    have Hgk := hide hgk
    have hol : out.length ≤ l.length + j := by
      have := union_len hsout hm
      rw [List.length_take] at this
      omega
    have hv : ∃ a1 n1 c1, u5 = .slice a1 n1 c1 := by obtain ⟨a, c, rfl, _⟩ := hr; exact ⟨_, _, _, rfl⟩
    obtain ⟨a1, n1, c1, rfl⟩ := hv
    have Hr := hide hr
    have Hsout := hide hsout
    have Hm := hide hm
    clear hgk hr hsout hm
    by_cases hlt : j < o.length
    · obtain ⟨g, rfl, hg, hc⟩ := unhide H3 (by omega)
      obtain ⟨x, hx⟩ : ∃ x, o[j]? = some x := ⟨_, List.getElem?_eq_getElem hlt⟩
      have hk0 : wr.cell? ⟨g, 0 + j * 2, none⟩ = some (.string x.1) := (hB.cell (p := ⟨g, 0 + j * 2, none⟩) hg).trans (hc j x hx).1
      have hk1 : wr.cell? ⟨g, 0 + j * 2 + 1, none⟩ = some (.int .i64 x.2) := (hB.cell (p := ⟨g, 0 + j * 2 + 1, none⟩) hg).trans (hc j x hx).2
      rw [Nat.zero_add] at hk0 hk1
      have hj0 : (0 : Int) ≤ (j : Int) := Int.natCast_nonneg _
      have hj1 : (j : Int) < (o.length : Int) := by omega
      have hgw : g < wr.heap.size := by have := hB.size; omega
      have Hnext := hide (take_next hx)
      clear hx hc
      go_wp2
      go_region_held3 (fun w' => w'.cell? ⟨g, j * 2, none⟩ = some (.string x.1) ∧ w'.cell? ⟨g, j * 2 + 1, none⟩ = some (.int .i64 x.2)) (first | go_keep | exact ⟨d0, d1⟩)
        (first
          | (go_at_call 31; refine (rput_any x ((unhide Hr).up (Below.refl _ _).drew).r (unhide Hsout) (by omega)).mono ?_; rintro e w1 ⟨r1, rfl, hr1, hb1⟩; have d0 := (hb1.cell (p := ⟨g, j * 2, none⟩) hgw).trans hk0; have d1 := (hb1.cell (p := ⟨g, j * 2 + 1, none⟩) hgw).trans hk1; have Hr1 := hide hr1; clear hr1))
      go_wp2
      go_roundg (o.length - (j + 1))
      case measure => have := unhide Hgk; omega
      case rel => exact ⟨j + 1, ins x out, by go_num, rfl, by omega, hB.drew.trans (hb1.mono hB.size), unhide Hr1, ins_srt (unhide Hsout), by
          rw [unhide Hnext]
          exact inU_step (unhide Hm) (by rw [← unhide Hnext]; exact List.Pairwise.sublist (List.take_sublist _ _) (unhide Hso))⟩
    · obtain rfl : j = o.length := by omega
      go_wp2
      go_ret
      exact ⟨_, out, rfl, unhide Hr, unhide Hsout, by have := unhide Hm; rwa [List.take_length] at this, hB⟩

/-- Has the list the key? -/
def hasB (o : List Ent) (k : KT) : Bool := o.any fun x => decide (x.1 = k)
theorem hasB_iff {o : List Ent} {k : KT} : hasB o k = true ↔ HasKey o k := by simp [hasB, HasKey]
def siftL (l o : List Ent) (sh : Bool) : List Ent := l.filter fun x => hasB o x.1 == sh
theorem mem_siftL {l o : List Ent} {sh : Bool} (x : Ent) : x ∈ siftL l o sh ↔ InS l o sh x := by
  unfold siftL InS
  rw [List.mem_filter, ← hasB_iff]
  cases hasB o x.1 <;> cases sh <;> simp

set_option maxRecDepth 100000 in
set_option maxHeartbeats 2000000 in
theorem rsift_any {W : World} {v u : Value} {l o : List Ent} (sh : Bool) (h : IsR0 W v l) (ho : IsR0 W u o) (hso : Srt o) (hsz : (l.length + 1) ≤ 5864062014805) :
    Calls Try.prog 37 #[v, u, .bool sh] W fun e W' => ∃ r, e = .returned r ∧ IsR0 W' r (siftL l o sh) ∧ Below W.heap.size W W' := by
  obtain ⟨i0, hi, hz0, hz1, hz2⟩ := info_parts Try.infoPair
  have hv : ∃ a0 n0 c0, u = .slice a0 n0 c0 := by obtain ⟨a, c, rfl, _⟩ := ho; exact ⟨_, _, _, rfl⟩
  obtain ⟨a0, n0, c0, rfl⟩ := hv
  obtain ⟨a, c, rfl, h1, h2, h3⟩ := h
  unfold maxLen at h2
  have H3 := hide h3
  have Hso := hide hso
  have Ho := hide ho
  clear h3 hso ho
  go_enter Try.func37, Try.ntmps37
  go_wp2
  go_loopg [7, 8] l.length (fun gk v7 v8 wr => ∃ (j : Nat), v8 = .int .i64 (j : Int) ∧ gk = l.length - j ∧ j ≤ l.length ∧ Below W.heap.size W wr ∧ wr.ownsRow W.heap.size 73 2 v7 (siftL (l.take j) o sh).length (flat (siftL (l.take j) o sh)))
  case atStart => exact ⟨0, rfl, rfl, Nat.zero_le _, Below.refl _ _, World.ownsRow_nil _ _ _ _⟩
  case round =>
    obtain ⟨j, rfl, hgk, hj, hB, hown⟩ := hrel
    have Hgk := hide hgk
    have hfl : (siftL (l.take j) o sh).length ≤ j := Nat.le_trans (List.length_filter_le _ _) (List.length_take_le _ _)
    clear hgk
    by_cases hlt : j < l.length
    · obtain ⟨g, rfl, hg, hc⟩ := unhide H3 (by omega)
      obtain ⟨x, hx⟩ : ∃ x, l[j]? = some x := ⟨_, List.getElem?_eq_getElem hlt⟩
      have hk0 : wr.cell? ⟨g, 0 + j * 2, none⟩ = some (.string x.1) := (hB.cell (p := ⟨g, 0 + j * 2, none⟩) hg).trans (hc j x hx).1
      have hk1 : wr.cell? ⟨g, 0 + j * 2 + 1, none⟩ = some (.int .i64 x.2) := (hB.cell (p := ⟨g, 0 + j * 2 + 1, none⟩) hg).trans (hc j x hx).2
      rw [Nat.zero_add] at hk0 hk1
      have hj0 : (0 : Int) ≤ (j : Int) := Int.natCast_nonneg _
      have hj1 : (j : Int) < (l.length : Int) := by omega
      have hgw : g < wr.heap.size := by have := hB.size; omega
      have Hnext := hide (take_next hx)
      clear hx hc
      go_wp2_with fail
      refine (rfind_any x.1 ((unhide Ho).up (hB.mono (Nat.le_refl _))).r (unhide Hso)).mono ?_
      rintro e w1 ⟨f, rfl, hf, hb1⟩
      have hB1 : Below W.heap.size W w1 := hB.trans (hb1.mono hB.size)
      have hown1 : w1.ownsRow W.heap.size 73 2 u7 (siftL (l.take j) o sh).length (flat (siftL (l.take j) o sh)) := ownsRow_below hown hb1
      have d0 := (hb1.cell (p := ⟨g, j * 2, none⟩) hgw).trans hk0
      have d1 := (hb1.cell (p := ⟨g, j * 2 + 1, none⟩) hgw).trans hk1
      have hfb : hasB o x.1 = f := by rw [Bool.eq_iff_iff, hasB_iff]; exact hf.symm
      clear hf hk0 hk1
      by_cases hfs : f = sh
      · have hbe : (f == sh) = true := by simp [hfs]
        have He : Hid (siftL (l.take (j + 1)) o sh = siftL (l.take j) o sh ++ [x]) := by
          show _ = _
          rw [unhide Hnext]; simp [siftL, List.filter_append, hfb, hbe]
        clear hfs hfb
        go_wp2_with (at_builtin; refine wpList_append_own _ rfl _ _ 44 rfl W.heap.size 73 i0 (.agg #[.string ⟨#[]⟩, .int .i64 0]) 2 24 Try.underlying44 hi hz0 hz1 hz2 rfl (by decide) _ _ _ rfl (hown1.alloc _) ⟨w1.heap.size, 0, none⟩ 1 1 [.string x.1, .int .i64 x.2] rfl rfl (cell_two_new _ _ _ _) (by simp [Value.oneCell']) (by unfold maxLen; omega) (szb (by omega)) (by have := hB1.size; simp; omega) ?_; intro v' w2 hown2 hgrow hdrop; clear hdrop; have hb2 : Below W.heap.size W w2 := (hB1.alloc hB1.size _).grown hgrow (hB1.alloc hB1.size _).size (fun k e => (hown1.lt k e).1); clear hgrow)
        go_roundg (l.length - (j + 1))
        case measure => have := unhide Hgk; omega
        case rel => exact ⟨j + 1, by go_num, rfl, by omega, hb2, by rw [unhide He, flat_app, flat_one, List.length_append]; exact hown2⟩
      · have hbe : (f == sh) = false := by simp [hfs]
        have He : Hid (siftL (l.take (j + 1)) o sh = siftL (l.take j) o sh) := by
          show _ = _
          rw [unhide Hnext]; simp [siftL, List.filter_append, hfb, hbe]
        clear hfs hfb
        go_wp2
        go_roundg (l.length - (j + 1))
        case measure => have := unhide Hgk; omega
        case rel => exact ⟨j + 1, by go_num, rfl, by omega, hB1, by rw [unhide He]; exact hown1⟩
    · obtain rfl : j = l.length := by omega
      go_wp2
      go_ret
      rw [List.take_length] at hown
      exact ⟨_, rfl, isR_own hown, hB⟩
end Go.Proofs.Ytcbcahnajabhfaa
