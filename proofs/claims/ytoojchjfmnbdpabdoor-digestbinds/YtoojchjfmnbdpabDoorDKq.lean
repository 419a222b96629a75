import Derived.Test.YtoojchjfmnbdpabDoorDL1
import Derived.Test.YtoojchjfmnbdpabDoorDSz
namespace Go.Proofs.YtoojchjfmnbdpabDoor
open Go.RowKit

section
variable {P : Program} {ops : Array Oper} {Q : Exit → Act → World → Prop} {md : Region.Mode}
theorem ready_lt {d : Array Bool} {i : Nat} (h : i ∈ Region.ready md ops d) : ∃ hi : i < d.size, d[i] = false := by
  have h1 := (mem_ready.1 h).1
  rcases Nat.lt_or_ge i d.size with hi | hi
  · refine ⟨hi, ?_⟩
    simpa [hi] using h1
  · simp [Array.getElem?_eq_none hi] at h1
/-- Every order, by what holds of the done ones. -/
theorem wpAny_inv (I : Array Bool → Act → World → Prop) (step : ∀ d a w i, I d a w → i ∈ Region.ready md ops d → wpOp P ops Q i (fun a' w' => I (d.setIfInBounds i true) a' w') a w) (fin : ∀ d a w, I d a w → Region.ready md ops d = [] → Q .normal a w) :
    ∀ (n : Nat) (d : Array Bool) (a : Act) (w : World), I d a w → d.count false ≤ n → wpAny P md ops Q n d a w
  | 0, d, a, w, hI, hn => by
    have hr : Region.ready md ops d = [] := by
      apply List.eq_nil_iff_forall_not_mem.2
      intro i hi
      obtain ⟨h1, h2⟩ := ready_lt hi
      have h3 : 0 < d.count false := Array.count_pos_iff.2 (by rw [← h2]; exact Array.getElem_mem h1)
      omega
    exact ⟨hr, fin d a w hI hr⟩
  | n + 1, d, a, w, hI, hn => by
    refine ⟨fun hr => fin d a w hI hr, fun i hi => ?_⟩
    refine wpOp_mono (fun a' w' h' => wpAny_inv I step fin n _ a' w' h' ?_) (step d a w i hI hi)
    obtain ⟨h1, h2⟩ := ready_lt hi
    have h3 : 0 < d.count false := Array.count_pos_iff.2 (by rw [← h2]; exact Array.getElem_mem h1)
    rw [Array.setIfInBounds_def, dif_pos h1, Array.count_set h1, h2]
    simp
    omega
theorem done_set {d : Array Bool} {i j : Nat} (h : (d.setIfInBounds i true).getD j false = true) : j = i ∨ d.getD j false = true := by
  by_cases e : j = i
  · exact .inl e
  · exact .inr (by rwa [getD_set_ne false (Ne.symm e)] at h)
theorem all_done {d : Array Bool} {i : Nat} {o : Oper} (h : i ∈ Region.ready md ops d) (ho : ops[i]? = some o) {k : Nat} (hk : ∃ e ∈ o.after, Region.binds md e = true ∧ e.on = k) : d.getD k false = true := by
  obtain ⟨_, o', ho', hall⟩ := mem_ready.1 h
  rw [ho] at ho'
  obtain rfl := Option.some.inj ho'
  obtain ⟨e, he, hb, rfl⟩ := hk
  exact hall e he hb
end
theorem done_keep {d : Array Bool} {i j : Nat} (h : d.getD j false = true) : (d.setIfInBounds i true).getD j false = true := by
  by_cases e : i = j
  · subst e
    by_cases hi : i < d.size
    · simp [hi]
    · simp [hi] at h
  · rwa [getD_set_ne false e]
theorem done_of {ops : Array Oper} {md : Region.Mode} {d : Array Bool} {i : Nat} {o : Oper} (hsz : i < d.size) (hr : Region.ready md ops d = []) (ho : ops[i]? = some o) (hdeps : ∀ e ∈ o.after, Region.binds md e = true → d.getD e.on false = true) : d.getD i false = true := by
  by_cases h : d.getD i true = false
  · have : i ∈ Region.ready md ops d := mem_ready.2 ⟨h, o, ho, hdeps⟩
    rw [hr] at this
    cases this
  · simp [hsz] at h ⊢
    exact h
theorem hasBB_list {W : World} {us : List Value} {ls : List (List Nat)} (hl : us.length = ls.length) (hn : ls.length ≤ 1000) (h : ∀ (j : Nat) (u : Value) (l : List Nat), us[j]? = some u → ls[j]? = some l → HasB W u l) (t : TypeId) : HasBB (W.alloc (.cells us.toArray t)) (.slice (some ⟨W.heap.size, 0, none⟩) ls.length ls.length) ls := by
  have hb : Below W.heap.size W (W.alloc (.cells us.toArray t)) := (Below.refl _ _).alloc (Nat.le_refl _) _
  refine ⟨_, _, rfl, ⟨Nat.le_refl _, by unfold maxLen; omega, nofun⟩, fun _ => ⟨W.heap.size, 0, rfl, by rw [World.size_alloc]; omega, fun i x hx => ?_⟩⟩
  have hi : i < us.length := by rw [hl]; exact (List.getElem?_eq_some_iff.1 hx).1
  refine ⟨us[i], ?_, (h i _ x (List.getElem?_eq_getElem hi) hx).up hb⟩
  rw [Nat.zero_add, cell_of_row _ _ _ _ _ _ (heap_new W _), List.getElem?_toArray, List.getElem?_eq_getElem hi]
end Go.Proofs.YtoojchjfmnbdpabDoor
