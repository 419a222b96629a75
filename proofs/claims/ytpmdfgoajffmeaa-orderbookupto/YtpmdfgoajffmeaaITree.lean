import Derived.Test.YtpmdfgoajffmeaaProg
import Derived.Test.YtpmdfgoajffmeaaIMath
import Derived.WalkKit
import Derived.Below
import Derived.Deep.RegionHeld3
import Derived.Deep.DrawnRows
import Derived.BigQuiet
import Derived.Deep.QuietTactic
import Derived.RangeFuncLeaves
import Derived.RangeFuncBox

namespace Go.Proofs.Ytpmdfgoajffmeaa
open Go.RowKit
attribute [local go_sem ↓] Go.wp_at_zero Go.wp_at_succ

/-- A tree, and its entries from left to right. -/
inductive BT where
  | leaf
  | node (l : BT) (e : Ent) (r : BT)
def BT.io : BT → List Ent
  | .leaf => []
  | .node l e r => l.io ++ e :: r.io

/-- The heap holds the tree at p, in blocks below n₀; every size is right. -/
def IsT (n₀ : Nat) (W : World) : Option Addr → BT → Prop
  | p, .leaf => p = none
  | p, .node l e r => ∃ (b : Nat) (pl pr : Option Addr), p = some ⟨b, 0, none⟩ ∧ b < n₀ ∧ W.cell? ⟨b, 0, none⟩ = some (.int .i64 e.1) ∧ W.cell? ⟨b, 1, none⟩ = some (.int .i64 e.2) ∧ W.cell? ⟨b, 2, none⟩ = some (.pointer pl) ∧ W.cell? ⟨b, 3, none⟩ = some (.pointer pr) ∧ W.cell? ⟨b, 4, none⟩ = some (.int .i64 ((l.io.length : Int) + 1 + (r.io.length : Int))) ∧ IsT n₀ W pl l ∧ IsT n₀ W pr r

theorem IsT.below {n₀ : Nat} {A B : World} (h : Below n₀ A B) : ∀ {p : Option Addr} {T : BT}, IsT n₀ A p T → IsT n₀ B p T
  | _, .leaf, ht => ht
  | _, .node _ _ _, ⟨b, pl, pr, hp, hb, h0, h1, h2, h3, h4, hl, hr⟩ => ⟨b, pl, pr, hp, hb, (h.cell (p := ⟨b, 0, none⟩) hb).trans h0, (h.cell (p := ⟨b, 1, none⟩) hb).trans h1, (h.cell (p := ⟨b, 2, none⟩) hb).trans h2, (h.cell (p := ⟨b, 3, none⟩) hb).trans h3, (h.cell (p := ⟨b, 4, none⟩) hb).trans h4, IsT.below h hl, IsT.below h hr⟩
theorem IsT.mono {n₀ n₁ : Nat} {W : World} (h : n₀ ≤ n₁) : ∀ {p : Option Addr} {T : BT}, IsT n₀ W p T → IsT n₁ W p T
  | _, .leaf, ht => ht
  | _, .node _ _ _, ⟨b, pl, pr, hp, hb, h0, h1, h2, h3, h4, hl, hr⟩ => ⟨b, pl, pr, hp, by omega, h0, h1, h2, h3, h4, IsT.mono h hl, IsT.mono h hr⟩

theorem hide {p : Prop} (h : p) : Hid p := h
theorem unhide {p : Prop} (h : Hid p) : p := h
theorem ret_int {k : IntKind} {a b : Int} (h : a = b) : Ending.returned (.int k a) = .returned (.int k b) := by rw [h]
theorem BT.io_len (l r : BT) (e : Ent) : ((BT.node l e r).io.length : Int) = (l.io.length : Int) + 1 + (r.io.length : Int) := by simp [BT.io]; omega

set_option maxHeartbeats 400000 in
theorem count_any {n₀ : Nat} {W : World} {p : Option Addr} {T : BT} (h : IsT n₀ W p T) :
    Calls Try.prog 20 #[.pointer p] W fun e W' => e = .returned (.int .i64 (T.io.length : Int)) ∧ W' = W := by
  cases T with
  | leaf =>
    obtain rfl : p = none := h
    go_enter Try.func20, Try.ntmps20
    go_wp2
    go_ret
    exact ⟨rfl, rfl⟩
  | node l e r =>
    obtain ⟨b, pl, pr, rfl, hb, h0, h1, h2, h3, h4, hl, hr⟩ := h
    clear hl hr
    go_enter Try.func20, Try.ntmps20
    go_wp2
    go_ret
    exact ⟨ret_int (BT.io_len l r e).symm, rfl⟩

theorem cell2_new (W : World) (x y : Value) (t : TypeId) : (W.alloc (.cells #[x, y] t)).cell? ⟨W.heap.size, 0, none⟩ = some x ∧ (W.alloc (.cells #[x, y] t)).cell? ⟨W.heap.size, 1, none⟩ = some y := by
  have h := World.alloc_heap_new W (.cells #[x, y] t)
  unfold World.cell?
  rw [h]
  exact ⟨rfl, rfl⟩

theorem cell5_new (W : World) (a b c d f : Value) (t : TypeId) : (W.alloc (.cells #[a, b, c, d, f] t)).cell? ⟨W.heap.size, 0, none⟩ = some a ∧ (W.alloc (.cells #[a, b, c, d, f] t)).cell? ⟨W.heap.size, 1, none⟩ = some b ∧ (W.alloc (.cells #[a, b, c, d, f] t)).cell? ⟨W.heap.size, 2, none⟩ = some c ∧ (W.alloc (.cells #[a, b, c, d, f] t)).cell? ⟨W.heap.size, 3, none⟩ = some d ∧ (W.alloc (.cells #[a, b, c, d, f] t)).cell? ⟨W.heap.size, 4, none⟩ = some f := by
  have h := World.alloc_heap_new W (.cells #[a, b, c, d, f] t)
  unfold World.cell?
  rw [h]
  exact ⟨rfl, rfl, rfl, rfl, rfl⟩
theorem IsT.up {W w : World} (hb : Below W.heap.size W w) {p : Option Addr} {T : BT} (h : IsT W.heap.size W p T) : IsT w.heap.size w p T := (h.below hb).mono hb.size
theorem wrapId {x : Int} (h1 : -9223372036854775808 ≤ x) (h2 : x ≤ 9223372036854775807) : IntKind.i64.wrap x = x := by
  rw [IntKind.wrap_i64]; omega
/-- A tree with these entries is handed back, in new memory; what lay lies. -/
def Gives (W : World) (xs : List Ent) (o : Ending) (W' : World) : Prop := ∃ p' T', o = .returned (.pointer p') ∧ IsT W'.heap.size W' p' T' ∧ T'.io = xs ∧ Below W.heap.size W W'

theorem isT_new {W W0 : World} (hb : Below W.heap.size W W0) {pl pr : Option Addr} {L R : BT} (e : Ent) (hl : IsT W.heap.size W pl L) (hr : IsT W.heap.size W pr R) (t : TypeId) :
    IsT (W0.alloc (.cells #[.int .i64 e.1, .int .i64 e.2, .pointer pl, .pointer pr, .int .i64 ((L.io.length : Int) + 1 + (R.io.length : Int))] t)).drew.heap.size (W0.alloc (.cells #[.int .i64 e.1, .int .i64 e.2, .pointer pl, .pointer pr, .int .i64 ((L.io.length : Int) + 1 + (R.io.length : Int))] t)).drew (some ⟨W0.heap.size, 0, none⟩) (.node L e R) := by
  have hc := cell5_new W0 (.int .i64 e.1) (.int .i64 e.2) (.pointer pl) (.pointer pr) (.int .i64 ((L.io.length : Int) + 1 + (R.io.length : Int))) t
  have hB : Below W.heap.size W (W0.alloc (.cells #[.int .i64 e.1, .int .i64 e.2, .pointer pl, .pointer pr, .int .i64 ((L.io.length : Int) + 1 + (R.io.length : Int))] t)).drew := (hb.alloc hb.size _).drew
  exact ⟨W0.heap.size, pl, pr, rfl, by show _ < (W0.alloc _).heap.size; rw [World.size_alloc]; omega, hc.1, hc.2.1, hc.2.2.1, hc.2.2.2.1, hc.2.2.2.2, hl.up hB, hr.up hB⟩

set_option maxHeartbeats 1000000 in
theorem fork_node {W : World} {pl pr : Option Addr} {L R : BT} (e : Ent) (hl : IsT W.heap.size W pl L) (hr : IsT W.heap.size W pr R) (hsz : (L.io.length : Int) + 1 + (R.io.length : Int) ≤ 1152921504606846976) :
    Calls Try.prog 30 #[.pointer pl, .agg #[.int .i64 e.1, .int .i64 e.2], .pointer pr] W fun o W' => ∃ p', o = .returned (.pointer p') ∧ IsT W'.heap.size W' p' (.node L e R) ∧ Below W.heap.size W W' := by
  have hB0 : Below W.heap.size W (W.alloc (.cells #[.int .i64 e.1, .int .i64 e.2] 54)) := (Below.refl _ W).alloc (Nat.le_refl _) _
  have hc := cell2_new W (.int .i64 e.1) (.int .i64 e.2) 54
  have hs0 : (W.alloc (.cells #[.int .i64 e.1, .int .i64 e.2] 54)).heap.size = W.heap.size + 1 := World.size_alloc _ _
  have w1 : IntKind.i64.wrap ((L.io.length : Int) + 1) = (L.io.length : Int) + 1 := wrapId (by omega) (by omega)
  have w2 : IntKind.i64.wrap ((L.io.length : Int) + 1 + (R.io.length : Int)) = (L.io.length : Int) + 1 + (R.io.length : Int) := wrapId (by omega) (by omega)
  go_enter Try.func30, Try.ntmps30
  go_wp2
  generalize W.alloc (.cells #[.int .i64 e.1, .int .i64 e.2] 54) = W0 at *
  obtain ⟨hc0, hc1⟩ := hc
  have HS : Hid (∀ w', Below W0.heap.size W0 w' → (w'.cell? ⟨W.heap.size, 0, none⟩ = some (.int .i64 e.1) ∧ w'.cell? ⟨W.heap.size, 1, none⟩ = some (.int .i64 e.2)) ∧ Below W0.heap.size W0 w') := fun w' h => ⟨⟨(h.cell (p := ⟨W.heap.size, 0, none⟩) (by show W.heap.size < _; omega)).trans hc0, (h.cell (p := ⟨W.heap.size, 1, none⟩) (by show W.heap.size < _; omega)).trans hc1⟩, h⟩
  go_region_held3 (fun w' => (w'.cell? ⟨W.heap.size, 0, none⟩ = some (.int .i64 e.1) ∧ w'.cell? ⟨W.heap.size, 1, none⟩ = some (.int .i64 e.2)) ∧ Below W0.heap.size W0 w')
    ((refine HS.out _ ?_; first | exact (Below.refl _ _).drew | exact ((Below.refl _ _).alloc (Nat.le_refl _) _).drew | exact Below.refl _ _))
    (first | (go_at_call_of 20 (Value.pointer pl); refine (count_any (n₀ := W.heap.size) (T := L) ?_).mono ?_; (exact hl.below hB0.drew); rintro e w' ⟨rfl, rfl⟩) | (go_at_call_of 20 (Value.pointer pr); refine (count_any (n₀ := W.heap.size) (T := R) ?_).mono ?_; (exact hr.below hB0.drew); rintro e w' ⟨rfl, rfl⟩))
  go_wp2
  go_ret
  refine ⟨_, rfl, ?_, (hB0.alloc hB0.size _).drew⟩
  rw [← hs0]
  exact isT_new hB0 e hl hr 65
end Go.Proofs.Ytpmdfgoajffmeaa
