import Derived.Test.YtoojchjfmnbdpaaDoorDL1
import Derived.Test.YtoojchjfmnbdpaaDoorDCa
import Derived.Test.YtoojchjfmnbdpaaDoorDSz
namespace Go.Proofs.YtoojchjfmnbdpaaDoor
open Go.RowKit
attribute [local go_sem ↓] Go.wp_at_zero Go.wp_at_succ

section
variable {P : Program} {ops : Array Oper} {Q : Exit → Act → World → Prop} {md : Region.Mode}
theorem ready_lt {d : Array Bool} {i : Nat} (h : i ∈ Region.ready md ops d) : ∃ hi : i < d.size, d[i] = false := by
  have h1 := (mem_ready.1 h).1
  rcases Nat.lt_or_ge i d.size with hi | hi
  · refine ⟨hi, ?_⟩
    simpa [hi] using h1
  · simp [Array.getElem?_eq_none hi] at h1
/-- Every order, by what holds of the done ones. -/
theorem wpAny_inv (I : Array Bool → Act → World → Prop) (step : ∀ d a w i, I d a w → i ∈ Region.ready md ops d → wpOp P ops Q i (fun a' w' => I (d.setIfInBounds i true) a' w') a w) (fin : ∀ d a w, I d a w → Region.ready md ops d = [] → Q .normal a w) :
    ∀ (n : Nat) (d : Array Bool) (a : Act) (w : World), I d a w → d.count false ≤ n → wpAny P md ops Q n d a w
  | 0, d, a, w, hI, hn => by
    have hr : Region.ready md ops d = [] := by
      apply List.eq_nil_iff_forall_not_mem.2
      intro i hi
      obtain ⟨h1, h2⟩ := ready_lt hi
      have h3 : 0 < d.count false := Array.count_pos_iff.2 (by rw [← h2]; exact Array.getElem_mem h1)
      omega
    exact ⟨hr, fin d a w hI hr⟩
  | n + 1, d, a, w, hI, hn => by
    refine ⟨fun hr => fin d a w hI hr, fun i hi => ?_⟩
    refine wpOp_mono (fun a' w' h' => wpAny_inv I step fin n _ a' w' h' ?_) (step d a w i hI hi)
    obtain ⟨h1, h2⟩ := ready_lt hi
    have h3 : 0 < d.count false := Array.count_pos_iff.2 (by rw [← h2]; exact Array.getElem_mem h1)
    rw [Array.setIfInBounds_def, dif_pos h1, Array.count_set h1, h2]
    simp
    omega
theorem done_set {d : Array Bool} {i j : Nat} (h : (d.setIfInBounds i true).getD j false = true) : j = i ∨ d.getD j false = true := by
  by_cases e : j = i
  · exact .inl e
  · exact .inr (by rwa [getD_set_ne false (Ne.symm e)] at h)
theorem all_done {d : Array Bool} {i : Nat} {o : Oper} (h : i ∈ Region.ready md ops d) (ho : ops[i]? = some o) {k : Nat} (hk : ∃ e ∈ o.after, Region.binds md e = true ∧ e.on = k) : d.getD k false = true := by
  obtain ⟨_, o', ho', hall⟩ := mem_ready.1 h
  rw [ho] at ho'
  obtain rfl := Option.some.inj ho'
  obtain ⟨e, he, hb, rfl⟩ := hk
  exact hall e he hb
end
/-- A row of bytes from S on, whatever is marked in it. -/
def LitB (S : Nat) (w : World) (x : Value) (l : List Nat) : Prop := ∃ b fr, x = .slice (some ⟨b, 0, none⟩) l.length l.length ∧ S ≤ b ∧ w.heap[b]? = some (.cells (nb l).toArray 5 fr)
theorem LitB.lt {S : Nat} {w : World} {x : Value} {l : List Nat} (h : LitB S w x l) : ∃ b, x.ownBlock = some b ∧ S ≤ b ∧ b < w.heap.size := by
  obtain ⟨b, fr, rfl, h1, h2⟩ := h
  exact ⟨b, rfl, h1, (Array.getElem?_eq_some_iff.1 h2).1⟩
theorem LitB.has {S : Nat} {w : World} {x : Value} {l : List Nat} (h : LitB S w x l) (hn : l.length ≤ 1000) : HasB w x l := by
  obtain ⟨b, fr, rfl, _, h2⟩ := h
  exact hasB_lit h2 _ _ rfl ⟨Nat.le_refl _, hn⟩
theorem LitB.alloc {S : Nat} {w : World} {x : Value} {l : List Nat} (h : LitB S w x l) (o : Obj) : LitB S (w.alloc o) x l := by
  obtain ⟨b, fr, rfl, h1, h2⟩ := h
  exact ⟨b, fr, rfl, h1, (Below.heap_alloc w o b (Array.getElem?_eq_some_iff.1 h2).1).trans h2⟩
theorem lit_new {S : Nat} {w : World} (l : List Nat) (hS : S ≤ w.heap.size) : LitB S (w.alloc (.cells (nb l).toArray 5)) (.slice (some ⟨w.heap.size, 0, none⟩) l.length l.length) l :=
  ⟨w.heap.size, (0, 0), rfl, hS, heap_new _ _⟩
/-- The marked world. -/
def marked (w : World) (b n : Nat) : World := w.freeze ⟨b, n, none⟩ 1
theorem marked_heap (w : World) (b n k : Nat) {C : Array Value} {t : TypeId} {fr : Nat × Nat} (h : w.heap[k]? = some (.cells C t fr)) : ∃ fr', (marked w b n).heap[k]? = some (.cells C t fr') := by
  unfold marked World.freeze
  rw [if_neg (by decide)]
  show ∃ fr', (w.heap.modify b _)[k]? = _
  rw [Array.getElem?_modify, h]
  by_cases e : b = k
  · rw [if_pos e]
    obtain ⟨lo, hi⟩ := fr
    exact ⟨_, rfl⟩
  · rw [if_neg e]
    exact ⟨_, rfl⟩
theorem marked_far (w : World) (b n k : Nat) (hk : b ≠ k) : (marked w b n).heap[k]? = w.heap[k]? := by
  unfold marked World.freeze
  rw [if_neg (by decide)]
  show (w.heap.modify b _)[k]? = _
  rw [Array.getElem?_modify, if_neg hk]
theorem marked_size (w : World) (b n : Nat) : (marked w b n).heap.size = w.heap.size := by
  unfold marked World.freeze
  rw [if_neg (by decide)]
  exact Array.size_modify
theorem LitB.mark {S : Nat} {w : World} {x : Value} {l : List Nat} (h : LitB S w x l) (b n : Nat) : LitB S (marked w b n) x l := by
  obtain ⟨k, fr, rfl, h1, h2⟩ := h
  obtain ⟨fr', h3⟩ := marked_heap w b n k h2
  exact ⟨k, fr', rfl, h1, h3⟩
theorem conv_lit {S : Nat} {w : World} {x : Value} {l : List Nat} (h : LitB S w x l) : ∃ b, S ≤ b ∧ (convert 22 22 x).run Tryd.prog w = .ok x (marked w b l.length) := by
  obtain ⟨b, fr, rfl, h1, h2⟩ := h
  refine ⟨b, h1, ?_⟩
  have hsh : w.shape? b = some (5, l.length) := by
    unfold World.shape?
    rw [h2]
    simp
  simp [convert, run_underlying Tryd.underlying22, run_underlying Tryd.underlying5, markStringish, hsh, marked]
theorem below_mark {n : Nat} {A B : World} (h : Below n A B) {b : Nat} (hb : n ≤ b) (k : Nat) : Below n A (marked B b k) := by
  refine ⟨?_, ?_, ?_, by rw [marked_size]; exact h.size, fun j hj => (marked_far B b k j (by omega)).trans (h.block j hj)⟩
  · unfold marked World.freeze; rw [if_neg (by decide)]; exact h.os
  · unfold marked World.freeze; rw [if_neg (by decide)]; exact h.tape
  · unfold marked World.freeze; rw [if_neg (by decide)]; exact h.output
end Go.Proofs.YtoojchjfmnbdpaaDoor
