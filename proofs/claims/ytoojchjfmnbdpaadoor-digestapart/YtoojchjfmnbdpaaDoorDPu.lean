import Derived.Test.YtoojchjfmnbdpaaDoorDPt
import Derived.Lib.BufferMore
namespace Go.Proofs.YtoojchjfmnbdpaaDoor
open Go.RowKit
attribute [local go_sem ↓] Go.wp_at_zero Go.wp_at_succ

set_option maxRecDepth 100000 in
set_option maxHeartbeats 1000000 in
theorem clone_any {W : World} {v : Value} {l : List Nat} (h : HasB W v l) (hn : l.length ≤ 140737488355328) :
    Calls Tryd.prog 34 #[v] W fun e W' => ∃ v', e = .returned v' ∧ Bytes W.heap.size W' v' l ∧ Below W.heap.size W W' := by
  obtain ⟨i0, hi, hz0, hz1, hz2⟩ := info_parts Tryd.infoByte
  obtain ⟨a, c, rfl, hm, h3⟩ := h
  have H3 := hide h3
  rcases a with _ | ad
  · have hc0 : c = 0 := hm.2.2 rfl
    have hl0 : l = [] := List.eq_nil_of_length_eq_zero (by have := hm.1; omega)
    subst hc0 hl0
    clear h3 hm
    have qn := Go.Lib.run_eql_slice_nil_nil (P := Tryd.prog) W 0 0 Tryd.underlying22
    go_enter Tryd.func34, Tryd.ntmps34
    go_wp2
    go_ret
    exact ⟨_, rfl, bytes_nil _ _, Below.refl _ _⟩
  · have how : (W.alloc (.cells #[] 5)).ownsRow W.heap.size 5 1 (.slice (some ⟨W.heap.size, 0, none⟩) 0 0) 0 [] := ⟨rfl, .inr ⟨W.heap.size, 0, #[], rfl, Nat.le_refl _, heap_new _ _, Nat.le_refl _, Nat.zero_le _, rfl, rfl⟩⟩
    have hbel : Below W.heap.size W (W.alloc (.cells #[] 5)) := (Below.refl _ _).alloc (Nat.le_refl _) _
    have hnews : ∀ j u, (nb l)[j]? = some u → (W.alloc (.cells #[] 5)).cell? (ad.add j) = some u := fun j u hu => by
      obtain ⟨ad', e1, hcc⟩ := src_of h3 hbel (by have := (List.getElem?_eq_some_iff.1 hu).1; omega)
      obtain rfl : ad = ad' := Option.some.inj e1
      exact hcc j u hu
    have Hnews := hide hnews
    have o1 : 0 + l.length ≤ maxLen := by unfold maxLen; omega
    have hcm : c ≤ 9223372036854775807 := by have := hm.2.1; unfold maxLen at this; omega
    clear hnews h3 hm
    have qn := Go.Lib.run_eql_slice_some_nil (P := Tryd.prog) W ad l.length c Tryd.underlying22
    go_enter Tryd.func34, Tryd.ntmps34
    go_wp2_with (at_builtin; refine wpList_append_own_at _ rfl _ _ 22 rfl W.heap.size 5 i0 (.int .u8 0) 1 1 Tryd.underlying22 hi hz0 hz1 hz2 rfl (by decide) _ _ _ rfl how ad l.length c (nb l) rfl (by rw [nb_len]; omega) (unhide Hnews) (nb_one _) o1 (by omega) hbel.size ?_; intro v4 w4 hown4 hgrow4 hdrop4 hat4; clear hdrop4 hat4; have Hown := hide hown4; have Hb4 : Hid (Below W.heap.size W w4) := below_grow0 (u := .slice (some ⟨W.heap.size, 0, none⟩) 0 0) (Below.refl _ _) (Nat.le_refl _) hgrow4 (fun b hb => by have e : W.heap.size = b := Option.some.inj hb; omega); clear hown4 hgrow4)
    go_ret
    refine ⟨_, rfl, ?_, unhide Hb4⟩
    have e := unhide Hown
    rw [Nat.zero_add, List.nil_append] at e
    exact e
end Go.Proofs.YtoojchjfmnbdpaaDoor
