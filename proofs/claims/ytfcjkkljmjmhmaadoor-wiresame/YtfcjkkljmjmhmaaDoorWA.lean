import Derived.Test.YtfcjkkljmjmhmaaDoorWF
import Derived.Deep.MidRow
import Derived.Laws.Rows
namespace Go.Proofs.YtfcjkkljmjmhmaaDoor
open Go.RowKit
attribute [local go_sem ↓] Go.wp_at_zero Go.wp_at_succ

/-- A block that is written from a place on. -/
def written : Array Value → Nat → List Value → Array Value
  | cs, _, [] => cs
  | cs, o, v :: vs => written (cs.setIfInBounds o v) (o + 1) vs
theorem heap_setCells {t : TypeId} {g : Nat} : ∀ (vs : List Value) (o : Nat) (w : World) (cs : Array Value), w.heap[g]? = some (.cells cs t (0, 0)) → (w.setCells g o vs).heap[g]? = some (.cells (written cs o vs) t (0, 0)) ∧ (∀ b, b ≠ g → (w.setCells g o vs).heap[b]? = w.heap[b]?)
  | [], _, _, _, h => ⟨h, fun _ _ => rfl⟩
  | v :: vs, o, w, cs, h => by
    obtain ⟨h1, h2⟩ := heap_setCells vs (o + 1) (w.setCell ⟨g, o, none⟩ v) (cs.setIfInBounds o v) (heap_setCell_same w g o cs t v h)
    exact ⟨h1, fun b hb => (h2 b hb).trans (heap_setCell_other w _ b v hb)⟩

theorem below_setCells {n g : Nat} {A : World} (hg : n ≤ g) : ∀ (vs : List Value) (o : Nat) (w : World), Below n A w → Below n A (w.setCells g o vs)
  | [], _, _, h => h
  | v :: vs, o, _, h => below_setCells hg vs (o + 1) _ (h.setCell (p := ⟨g, o, none⟩) hg v)

/-- The table of what is done, by wire kind. -/
def actCells : List Value := [.func (.func 78) #[] #[], .func (.func 79) #[] #[], .func (.func 80) #[] #[], .func (.func 81) #[] #[], .func (.func 83) #[] #[], .func (.func 84) #[] #[], .func (.func 85) #[] #[], .func (.func 86) #[] #[], .func (.func 87) #[] #[], .func (.func 88) #[] #[], .func (.func 89) #[] #[], .func (.func 90) #[] #[], .func (.func 91) #[] #[], .func (.func 92) #[] #[], .func (.func 93) #[] #[], .func (.func 94) #[] #[], .nilFunc, .nilFunc, .nilFunc, .func (.func 95) #[] #[], .func (.func 96) #[] #[], .func (.func 97) #[] #[], .func (.func 98) #[] #[], .func (.func 99) #[] #[]]
theorem Tryd.infoActs : (Tryd.prog.info? 116).map (·.size) = some actCells.toArray.size := by kernel_rfl

theorem actOne : actCells.toArray.all (·.oneCell') = true := by decide +kernel

set_option maxRecDepth 100000 in
set_option maxHeartbeats 2000000 in
theorem acts_any (W : World) : Calls Tryd.prog 71 #[] W fun e W' => e = .returned (.agg actCells.toArray) ∧ Below W.heap.size W W' := by
  have hth : (W.alloc (.cells #[.nilFunc, .nilFunc, .nilFunc, .nilFunc, .nilFunc, .nilFunc, .nilFunc, .nilFunc, .nilFunc, .nilFunc, .nilFunc, .nilFunc, .nilFunc, .nilFunc, .nilFunc, .nilFunc, .nilFunc, .nilFunc, .nilFunc, .nilFunc, .nilFunc, .nilFunc, .nilFunc, .nilFunc] 116)).there W.heap.size 0 actCells.toArray.size := by
    intro j hj
    have hb := heap_alloc_new W (.cells #[.nilFunc, .nilFunc, .nilFunc, .nilFunc, .nilFunc, .nilFunc, .nilFunc, .nilFunc, .nilFunc, .nilFunc, .nilFunc, .nilFunc, .nilFunc, .nilFunc, .nilFunc, .nilFunc, .nilFunc, .nilFunc, .nilFunc, .nilFunc, .nilFunc, .nilFunc, .nilFunc, .nilFunc] 116)
    refine ⟨?_, frozen_of_row _ _ _ _ _ hb⟩
    rw [Nat.zero_add, cell_of_row _ _ _ _ _ _ hb]
    have hj' : j < 24 := hj
    simp
    omega
  go_enter Tryd.func71, Tryd.ntmps71
  go_wp2_with (refine wpList_store_mid rfl 116 (.tmp 0) (.tmp 7) rfl W.heap.size 0 actCells.toArray rfl rfl hth Tryd.infoActs actOne ?_)
  obtain ⟨hw1, hw2⟩ := heap_setCells (t := 116) (g := W.heap.size) actCells 0 (W.alloc (.cells #[.nilFunc, .nilFunc, .nilFunc, .nilFunc, .nilFunc, .nilFunc, .nilFunc, .nilFunc, .nilFunc, .nilFunc, .nilFunc, .nilFunc, .nilFunc, .nilFunc, .nilFunc, .nilFunc, .nilFunc, .nilFunc, .nilFunc, .nilFunc, .nilFunc, .nilFunc, .nilFunc, .nilFunc] 116)) #[.nilFunc, .nilFunc, .nilFunc, .nilFunc, .nilFunc, .nilFunc, .nilFunc, .nilFunc, .nilFunc, .nilFunc, .nilFunc, .nilFunc, .nilFunc, .nilFunc, .nilFunc, .nilFunc, .nilFunc, .nilFunc, .nilFunc, .nilFunc, .nilFunc, .nilFunc, .nilFunc, .nilFunc] (heap_alloc_new W _)
  have hw3 : written #[.nilFunc, .nilFunc, .nilFunc, .nilFunc, .nilFunc, .nilFunc, .nilFunc, .nilFunc, .nilFunc, .nilFunc, .nilFunc, .nilFunc, .nilFunc, .nilFunc, .nilFunc, .nilFunc, .nilFunc, .nilFunc, .nilFunc, .nilFunc, .nilFunc, .nilFunc, .nilFunc, .nilFunc] 0 actCells = actCells.toArray := by rfl
  rw [hw3] at hw1
  have hB : Below W.heap.size W ((W.alloc (.cells #[.nilFunc, .nilFunc, .nilFunc, .nilFunc, .nilFunc, .nilFunc, .nilFunc, .nilFunc, .nilFunc, .nilFunc, .nilFunc, .nilFunc, .nilFunc, .nilFunc, .nilFunc, .nilFunc, .nilFunc, .nilFunc, .nilFunc, .nilFunc, .nilFunc, .nilFunc, .nilFunc, .nilFunc] 116)).setCells W.heap.size 0 actCells) := by
    exact below_setCells (Nat.le_refl _) _ _ _ ((Below.refl _ W).alloc (Nat.le_refl _) _)
  refine bodyPost_ret (v := .agg actCells.toArray) (results_cell_row rfl _ _ W.heap.size 116 actCells.toArray (0, 0) _ rfl hw1 Tryd.underlying116 rfl Tryd.infoActs) rfl ⟨rfl, hB⟩
end Go.Proofs.YtfcjkkljmjmhmaaDoor
