import Derived.Test.YtkkbccdjbgjjaaaDoorSZd
import Derived.Deep.MidRow
import Derived.Laws.Rows

namespace Go.Proofs.YtkkbccdjbgjjaaaDoor
open Go.RowKit
attribute [local go_sem ↓] Go.wp_at_zero Go.wp_at_succ

/-- A block that is written from a place on. -/
def written : Array Value → Nat → List Value → Array Value
  | cs, _, [] => cs
  | cs, o, v :: vs => written (cs.setIfInBounds o v) (o + 1) vs
theorem heap_setCells {t : TypeId} {g : Nat} : ∀ (vs : List Value) (o : Nat) (w : World) (cs : Array Value), w.heap[g]? = some (.cells cs t (0, 0)) → (w.setCells g o vs).heap[g]? = some (.cells (written cs o vs) t (0, 0)) ∧ (∀ b, b ≠ g → (w.setCells g o vs).heap[b]? = w.heap[b]?)
  | [], _, _, _, h => ⟨h, fun _ _ => rfl⟩
  | v :: vs, o, w, cs, h => by
    obtain ⟨h1, h2⟩ := heap_setCells vs (o + 1) (w.setCell ⟨g, o, none⟩ v) (cs.setIfInBounds o v) (heap_setCell_same w g o cs t v h)
    exact ⟨h1, fun b hb => (h2 b hb).trans (heap_setCell_other w _ b v hb)⟩
theorem below_setCells {n g : Nat} {A : World} (hg : n ≤ g) : ∀ (vs : List Value) (o : Nat) (w : World), Below n A w → Below n A (w.setCells g o vs)
  | [], _, _, h => h
  | v :: vs, o, _, h => below_setCells hg vs (o + 1) _ (h.setCell (p := ⟨g, o, none⟩) hg v)
theorem size_setCells {g : Nat} : ∀ (vs : List Value) (o : Nat) (w : World), (w.setCells g o vs).heap.size = w.heap.size
  | [], _, _ => rfl
  | _ :: vs, o, w => (size_setCells vs (o + 1) _).trans (World.size_setCell w _ _)
/-- The table of what is done, by class. -/
def stepCells : List Value := [.func (.func 17) #[] #[], .func (.func 19) #[] #[], .func (.func 20) #[] #[], .func (.func 23) #[] #[], .func (.func 25) #[] #[], .func (.func 27) #[] #[], .func (.func 28) #[] #[]]
theorem Tryd.infoSteps : (Tryd.prog.info? 44).map (·.size) = some stepCells.toArray.size := by kernel_rfl
theorem stepOne : stepCells.toArray.all (·.oneCell') = true := by decide +kernel
/-- The function of a class. -/
def tabF : Nat → Nat
  | 0 => 17 | 1 => 19 | 2 => 20 | 3 => 23 | 4 => 25 | 5 => 27 | _ => 28
theorem tab_cells : ∀ c, c < 7 → stepCells[c]? = some (.func (.func (tabF c)) #[] #[])
  | 0, _ => rfl | 1, _ => rfl | 2, _ => rfl | 3, _ => rfl | 4, _ => rfl | 5, _ => rfl | 6, _ => rfl
  | _ + 7, h => by omega
def nils : Array Value := #[.nilFunc, .nilFunc, .nilFunc, .nilFunc, .nilFunc, .nilFunc, .nilFunc]
theorem there7 (W : World) : (W.alloc (.cells #[.nilFunc, .nilFunc, .nilFunc, .nilFunc, .nilFunc, .nilFunc, .nilFunc] 44)).there W.heap.size 0 stepCells.toArray.size := by
  intro j hj
  have hb := heap_alloc_new W (.cells #[.nilFunc, .nilFunc, .nilFunc, .nilFunc, .nilFunc, .nilFunc, .nilFunc] 44)
  refine ⟨?_, frozen_of_row _ _ _ _ _ hb⟩
  rw [Nat.zero_add, cell_of_row _ _ _ _ _ _ hb]
  have hj' : j < 7 := hj
  simp
  omega
set_option maxRecDepth 100000 in
set_option maxHeartbeats 2000000 in
theorem steps_any (W : World) : Calls Tryd.prog 14 #[] W fun e W' => e = .returned (.agg stepCells.toArray) ∧ Below W.heap.size W W' := by
  have hth := there7 W
  go_enter Tryd.func14, Tryd.ntmps14
  go_wp2_with (refine wpList_store_mid rfl 44 (.tmp 0) (.tmp 1) rfl W.heap.size 0 stepCells.toArray rfl rfl hth Tryd.infoSteps stepOne ?_)
  obtain ⟨hw1, hw2⟩ := heap_setCells (t := 44) (g := W.heap.size) stepCells 0 (W.alloc (.cells #[.nilFunc, .nilFunc, .nilFunc, .nilFunc, .nilFunc, .nilFunc, .nilFunc] 44)) #[.nilFunc, .nilFunc, .nilFunc, .nilFunc, .nilFunc, .nilFunc, .nilFunc] (heap_alloc_new W _)
  have hw3 : written #[.nilFunc, .nilFunc, .nilFunc, .nilFunc, .nilFunc, .nilFunc, .nilFunc] 0 stepCells = stepCells.toArray := by rfl
  rw [hw3] at hw1
  have hB : Below W.heap.size W ((W.alloc (.cells #[.nilFunc, .nilFunc, .nilFunc, .nilFunc, .nilFunc, .nilFunc, .nilFunc] 44)).setCells W.heap.size 0 stepCells) := below_setCells (Nat.le_refl _) _ _ _ ((Below.refl _ W).alloc (Nat.le_refl _) _)
  refine bodyPost_ret (v := .agg stepCells.toArray) (results_cell_row rfl _ _ W.heap.size 44 stepCells.toArray (0, 0) _ rfl hw1 Tryd.underlying44 rfl Tryd.infoSteps) rfl ⟨rfl, hB⟩
/-- The table lies there. -/
def HasT (W : World) (tb : Nat) : Prop := W.heap[tb]? = some (.cells stepCells.toArray 44 (0, 0))
theorem HasT.cell {W : World} {tb : Nat} (h : HasT W tb) (c : Nat) (hc : c < 7) : W.cell? ⟨tb, c, none⟩ = some (.func (.func (tabF c)) #[] #[]) := by
  rw [cell_of_row _ _ _ _ _ _ h, ← tab_cells c hc]
  simp
theorem hasT_new (W : World) : HasT ((W.alloc (.cells #[.nilFunc, .nilFunc, .nilFunc, .nilFunc, .nilFunc, .nilFunc, .nilFunc] 44)).setCells W.heap.size 0 stepCells) W.heap.size := by
  have := (heap_setCells (t := 44) (g := W.heap.size) stepCells 0 _ _ (heap_alloc_new W (.cells #[.nilFunc, .nilFunc, .nilFunc, .nilFunc, .nilFunc, .nilFunc, .nilFunc] 44))).1
  rw [show written #[.nilFunc, .nilFunc, .nilFunc, .nilFunc, .nilFunc, .nilFunc, .nilFunc] 0 stepCells = stepCells.toArray from rfl] at this
  exact this
/-- The table, as a letter. -/
structure Tab (A : Array Value) : Prop where
  eq : A = stepCells.toArray
  info : (Tryd.prog.info? 44).map (·.size) = some A.size
  one : A.all (·.oneCell') = true
theorem tab_any : Tab stepCells.toArray := ⟨rfl, Tryd.infoSteps, stepOne⟩
theorem cls_lt (c : Nat) : cls c < 7 := by
  unfold cls
  repeat' split
  all_goals decide
theorem enters_any {f : FuncId} {F : Func} (h : Tryd.prog.funcs[f]? = some F) (hn : ¬ F.name = "runtime.NumGoroutine") (hb : F.body.isSome = true) (w : World) (vs : Array Value) : (callFunc f vs).run Tryd.prog w = .ok (.enter f vs) w := by
  obtain ⟨c, hc⟩ := Option.isSome_iff_exists.1 hb
  simp [callFunc, h, hn, hc]
theorem callV_any (w : World) (vs : Array Value) : ∀ c, c < 7 → (callFunc (tabF c) vs).run Tryd.prog w = .ok (.enter (tabF c) vs) w
  | 0, _ => by exact enters_any Tryd.func17 (by decide +kernel) (by kernel_rfl) w vs
  | 1, _ => by exact enters_any Tryd.func19 (by decide +kernel) (by kernel_rfl) w vs
  | 2, _ => by exact enters_any Tryd.func20 (by decide +kernel) (by kernel_rfl) w vs
  | 3, _ => by exact enters_any Tryd.func23 (by decide +kernel) (by kernel_rfl) w vs
  | 4, _ => by exact enters_any Tryd.func25 (by decide +kernel) (by kernel_rfl) w vs
  | 5, _ => by exact enters_any Tryd.func27 (by decide +kernel) (by kernel_rfl) w vs
  | 6, _ => by exact enters_any Tryd.func28 (by decide +kernel) (by kernel_rfl) w vs
  | _ + 7, h => by omega
theorem callC_any (w : World) (vs : Array Value) : (callFunc 15 vs).run Tryd.prog w = .ok (.enter 15 vs) w := by exact enters_any Tryd.func15 (by decide +kernel) (by kernel_rfl) w vs
/-- The step of a class. -/
theorem stepP_any {W : World} {B b : Nat} {s : ByteArray} {k n : Nat} {v : Value} {xs : List Value} (hE : HasE W) (hM : HasM W) (I : ScanIn W B b s k n v xs) :
    Calls Tryd.prog (tabF (cls (byteAt s k))) #[.pointer (some ⟨b, 0, none⟩)] W (StepP B b s k n xs W) := by
  have hm := I.more
  have hone : oneF s k = oneF s k := rfl
  conv at hone => rhs; unfold oneF
  rcases cls_cases (byteAt s k) with ⟨e, h1⟩ | ⟨n1, ⟨e, h2⟩ | ⟨n2, ⟨e, h3⟩ | ⟨n3, ⟨e, h4⟩ | ⟨n4, ⟨e, h5⟩ | ⟨n5, ⟨e, h6⟩ | ⟨e, n6⟩⟩⟩⟩⟩⟩
  · rw [e]
    exact stepP_blank I h1
  · rw [e]
    rw [if_pos h2] at hone
    exact stepP_letter I (pass_other hm n1 (fun q => by rw [q] at h2; exact absurd h2 (by decide))) hone
  · rw [e]
    rw [if_neg n2, if_pos h3] at hone
    exact stepP_digit hE I (pass_other hm n1 (fun q => by rw [q] at h3; exact absurd h3 (by decide))) hone
  · rw [e]
    rw [if_neg n2, if_neg n3, if_pos h4] at hone
    exact stepP_quote hE I (pass_other hm n1 (fun q => by omega)) h4 hone
  · rw [e]
    rw [if_neg n2, if_neg n3, if_neg n4, if_pos h5] at hone
    exact stepP_sign I (pass_other hm n1 (fun q => by rw [q] at h5; exact absurd h5 (by decide))) hone
  · rw [e]
    rw [if_neg n2, if_neg n3, if_neg n4, if_neg n5] at hone
    exact stepP_comment hM I h6 (by rw [hone])
  · rw [e]
    rw [if_neg n2, if_neg n3, if_neg n4, if_neg n5] at hone
    exact stepP_none I (pass_other hm n1 n6) (by rw [hone])
end Go.Proofs.YtkkbccdjbgjjaaaDoor
