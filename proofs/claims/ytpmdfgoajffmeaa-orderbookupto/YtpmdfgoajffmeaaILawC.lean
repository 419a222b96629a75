import Derived.Test.YtpmdfgoajffmeaaIIter
import Derived.Test.YtpmdfgoajffmeaaIKeys
import Derived.Test.YtpmdfgoajffmeaaILaws0
import Derived.OwnWalk
import Derived.Deep.LoopGhost
import Derived.WalkSmall
import Derived.BigQuiet
import Derived.Deep.QuietTactic

namespace Go.Proofs.Ytpmdfgoajffmeaa
open Go.RowKit Go.Shelf
attribute [local go_sem ↓] Go.wp_at_zero Go.wp_at_succ

/-- A slice of keys. -/
def IsKs (W : World) (v : Value) (ks : List KT) : Prop := ∃ a c, v = .slice a ks.length c ∧ ks.length ≤ c ∧ c ≤ maxLen ∧
  (0 < ks.length → ∃ g, a = some ⟨g, 0, none⟩ ∧ g < W.heap.size ∧ ∀ i k, ks[i]? = some k → W.cell? ⟨g, i, none⟩ = some (.int .i64 k))
theorem IsKs.up {W w : World} (hb : Below W.heap.size W w) {v : Value} {l : List KT} (h : IsKs W v l) : IsKs w v l := by
  obtain ⟨a, c, rfl, h1, h2, h3⟩ := h
  refine ⟨a, c, rfl, h1, h2, fun hp => ?_⟩
  obtain ⟨g, rfl, hg, hc⟩ := h3 hp
  exact ⟨g, rfl, by have := hb.size; omega, fun i x hx => (hb.cell (p := ⟨g, i, none⟩) hg).trans (hc i x hx)⟩
theorem isKs_own {W : World} {base : Nat} {v : Value} {l : List KT} (h : W.ownsRow base 3 1 v l.length (l.map fun k => .int .i64 k)) : IsKs W v l := by
  obtain ⟨h1, ⟨rfl, h2⟩ | ⟨g, c, cur, rfl, h2, h3, h4, h5, h6, h7⟩⟩ := h
  · exact ⟨none, 0, by rw [h2], by omega, Nat.zero_le _, fun hp => by omega⟩
  · refine ⟨_, c, rfl, h4, h5, fun _ => ⟨g, rfl, (Array.getElem?_eq_some_iff.1 h3).1, fun i k hk => ?_⟩⟩
    have e : (l.map fun k => (.int .i64 k : Value))[i]? = some (.int .i64 k) := by simp [hk]
    rw [← h7, List.getElem?_take] at e
    split at e
    · unfold World.cell?
      rw [h3]
      simpa using e
    · cases e

set_option maxRecDepth 100000 in
set_option maxHeartbeats 2000000 in
theorem same_any {W : World} {v u : Value} {l : List KT} (h : IsKs W v l) (h' : IsKs W u l) :
    Calls Try.prog 11 #[v, u] W fun o W' => o = .returned (.bool true) ∧ Below W.heap.size W W' := by
  obtain ⟨a, c, rfl, h1, h2, h3⟩ := h
  obtain ⟨a', c', rfl, h1', h2', h3'⟩ := h'
  unfold maxLen at h2 h2'
  have H3 := hide h3
  have H3' := hide h3'
  clear h3 h3'
  go_enter Try.func11, Try.ntmps11
  go_wp2
  go_loopg [5] l.length (fun gk v5 wr => ∃ (j : Nat), v5 = .int .i64 (j : Int) ∧ gk = l.length - j ∧ j ≤ l.length ∧ Below W.heap.size W wr)
  case atStart => exact ⟨0, rfl, rfl, Nat.zero_le _, Below.refl _ _⟩
  case round =>
    obtain ⟨j, rfl, hgk, hj, hB⟩ := hrel
    have Hgk := hide hgk
    clear hgk
    by_cases hlt : j < l.length
    · obtain ⟨g, rfl, hg, hc⟩ := unhide H3 (by omega)
      obtain ⟨g', rfl, hg', hc'⟩ := unhide H3' (by omega)
      obtain ⟨x, hx⟩ : ∃ x, l[j]? = some x := ⟨_, List.getElem?_eq_getElem hlt⟩
      have k0 : wr.cell? ⟨g, j, none⟩ = some (.int .i64 x) := (hB.cell (p := ⟨g, j, none⟩) hg).trans (hc j x hx)
      have k1 : wr.cell? ⟨g', j, none⟩ = some (.int .i64 x) := (hB.cell (p := ⟨g', j, none⟩) hg').trans (hc' j x hx)
      have hj0 : (0 : Int) ≤ (j : Int) := Int.natCast_nonneg _
      have hj1 : (j : Int) < (l.length : Int) := by omega
      have hbn : (x != x) = false := by simp
      clear hx hc hc'
      go_wp2
      go_quiet (fail)
      go_wp2
      go_roundg (l.length - (j + 1))
      case measure => have := unhide Hgk; omega
      case rel => exact ⟨j + 1, by go_num, rfl, by omega, below_drewN hB _⟩
    · obtain rfl : j = l.length := by omega
      go_wp2
      go_ret
      exact ⟨rfl, hB⟩

theorem equalIn_func_nil {P : Program} (w : World) (d : Nat) (t : TypeId) (ps rs : Array TypeId) (vr : Bool) (g : Fn) (pa lb : Array Value) (h : P.underlying t = some (.func ps rs vr)) : (Op.equalIn (d + 1) t (.func g pa lb) .nilFunc).run P w = .ok false w := by
  simp [Op.equalIn, run_underlying h]
theorem equal_func_nil {P : Program} (w : World) (t : TypeId) (ps rs : Array TypeId) (vr : Bool) (g : Fn) (pa lb : Array Value) (h : P.underlying t = some (.func ps rs vr)) : (Op.equal t (.func g pa lb) .nilFunc).run P w = .ok false w := equalIn_func_nil w 9999 t ps rs vr g pa lb h
theorem func_not_nil (g : Fn) (lb : Array Value) (w : World) : Sem.run Try.prog (binOp BinOp.eql 39 (.func g #[] lb) .nilFunc) w = .ok (.bool false) w := by
  simp only [binOp]
  simp [equal_func_nil w 39 _ _ _ g #[] lb Try.underlying39]
theorem func_is_not_nil (g : Fn) (lb : Array Value) (w : World) : Sem.run Try.prog (binOp BinOp.neq 39 (.func g #[] lb) .nilFunc) w = .ok (.bool true) w := by
  simp only [binOp]
  simp [equal_func_nil w 39 _ _ _ g #[] lb Try.underlying39]

theorem all_any {W : World} {m : Option Addr} {T : BT} (h : IsM W m T) : Calls Try.prog 14 #[.pointer m] W fun o W' => ∃ lb, o = .returned (.func (.func 23) #[] lb) ∧ Below W.heap.size W W' := by
  obtain ⟨bm, p, rfl, h1, h2, h3, h4⟩ := h
  refine (callsIn_wide (n := 4)).1 ((all_in Fence.wide 4 trivial rfl bm p W h2).mono ?_)
  rintro e w' ⟨rfl, rfl⟩
  exact ⟨_, rfl, (Below.refl _ _).alloc (Nat.le_refl _) _⟩
theorem from_any {W : World} {m : Option Addr} {T : BT} (k : KT) (h : IsM W m T) : Calls Try.prog 15 #[.pointer m, .int .i64 k] W fun o W' => ∃ lb, o = .returned (.func (.func 25) #[] lb) ∧ Below W.heap.size W W' := by
  obtain ⟨bm, p, rfl, h1, h2, h3, h4⟩ := h
  refine (callsIn_wide (n := 4)).1 ((from_in Fence.wide 4 trivial rfl bm p k W h2 h1).mono ?_)
  rintro e w' ⟨rfl, rfl⟩
  exact ⟨_, rfl, ((Below.refl _ W).alloc (Nat.le_refl _) _).alloc (by simp) _⟩

set_option maxHeartbeats 1000000 in
theorem goes_any {W : World} {m : Option Addr} {T : BT} (h : IsM W m T) : Calls Try.prog 8 #[.pointer m] W fun o W' => o = .returned (.bool true) ∧ Below W.heap.size W W' := by
  have hnf := func_is_not_nil
  go_enter Try.func8, Try.ntmps8
  go_wp2_with fail
  refine (all_any h).mono ?_
  rintro o w1 ⟨lb, rfl, hb1⟩
  go_wp2_with fail
  refine (from_any 0 (h.up hb1)).mono ?_
  rintro o w2 ⟨lb2, rfl, hb2⟩
  go_wp2
  go_ret
  exact ⟨rfl, hb1.trans (hb2.mono hb1.size)⟩

end Go.Proofs.Ytpmdfgoajffmeaa
