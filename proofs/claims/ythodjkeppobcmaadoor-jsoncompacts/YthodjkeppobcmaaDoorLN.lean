import Derived.Test.YthodjkeppobcmaaDoorLM
import Derived.Outline

namespace Go.Proofs.YthodjkeppobcmaaDoor
open Go.RowKit Go.Lib
attribute [local go_sem ↓] Go.wp_at_zero Go.wp_at_succ

theorem numE_not {L : List Nat} {k : Nat} (h : isNm (bt L k) = false) : numE L k = k := by
  unfold isNm at h
  simp at h
  have hf : nuF L k = k := if_neg h.1
  unfold numE
  rw [hf, if_pos]
  exact tw_stop (by simpa using h.2)
theorem val_num {L : List Nat} {d a k : Nat} (hk : skB L a = k) (h1 : bt L k ≠ 123) (h2 : bt L k ≠ 91) (h3 : bt L k ≠ 34) (h4 : isWd (bt L k) = false) : valR L d a = if k < numE L k then .ok ((L.drop k).take (numE L k - k), numE L k) else .error (120, k) := by
  have key : (if isSg (bt L k) = true then (.error (120, k) : RR) else tokR L a) = if k < numE L k then .ok ((L.drop k).take (numE L k - k), numE L k) else .error (120, k) := by
    by_cases q : isSg (bt L k) = true
    · rw [if_pos q, numE_not (by unfold isSg at q; unfold isNm isDg; simp at q ⊢; omega), if_neg (by omega)]
    · rw [if_neg q]
      unfold tokR
      rw [hk]
      have ht : tkE L k = numE L k := by
        unfold tkE
        rw [if_neg q, if_neg (by rw [h4]; decide)]
        by_cases q2 : isNm (bt L k) = true
        · rw [if_pos q2]
        · rw [if_neg q2, if_neg h3, numE_not (by simpa using q2)]
      rw [ht, if_neg h3]
  cases d with
  | zero => unfold valR; rw [hk, if_neg (fun q => q.elim h1 h2)]; exact key
  | succ d => unfold valR; rw [hk, if_neg h1, if_neg h2]; exact key
theorem val_tok {L : List Nat} {d a k : Nat} (hk : skB L a = k) (h1 : isSg (bt L k) = false) : valR L d a = tokR L a := by
  have h2 : bt L k ≠ 123 := fun e => by rw [e] at h1; cases h1
  have h3 : bt L k ≠ 91 := fun e => by rw [e] at h1; cases h1
  cases d with
  | zero => unfold valR; rw [hk, if_neg (fun q => q.elim h2 h3), if_neg (by rw [h1]; decide)]
  | succ d => unfold valR; rw [hk, if_neg h2, if_neg h3, if_neg (by rw [h1]; decide)]
theorem val_str {L : List Nat} {d a k : Nat} (hk : skB L a = k) (h : bt L k = 34) : (strE L k = none → valR L d a = .error (125, k)) ∧ ∀ e, strE L k = some e → valR L d a = .ok ((L.drop k).take (e - k), e) := by
  have ht : tkE L k = (strE L k).getD k := by unfold tkE; rw [h]; rfl
  have hv : valR L d a = tokR L a := val_tok hk (by rw [h]; rfl)
  refine ⟨fun e => ?_, fun e he => ?_⟩
  · rw [hv]; unfold tokR; rw [hk, ht, e, h]; simp
  · have := strG_le _ _ _ _ he
    rw [hv]; unfold tokR; rw [hk, ht, he]; simp only [Option.getD_some]; rw [if_pos (by omega)]
theorem take_head {L : List Nat} {k n : Nat} {c : Nat} {r : List Nat} (h : (L.drop k).take n = c :: r) : bt L k = c := by
  have hl : k < L.length := by
    rcases Nat.lt_or_ge k L.length with q | q
    · exact q
    · rw [List.drop_eq_nil_of_le q] at h; simp at h
  rw [drop_at hl] at h
  cases n with
  | zero => simp at h
  | succ n => simp at h; exact h.1
theorem val_word {L : List Nat} {d a k c : Nat} {r : List Nat} (hk : skB L a = k) (h : bt L k = c) (hw : (c = 116 ∧ r = [114, 117, 101]) ∨ (c = 102 ∧ r = [97, 108, 115, 101]) ∨ (c = 110 ∧ r = [117, 108, 108])) : valR L d a = if (L.drop k).take (r.length + 1) = c :: r then .ok (c :: r, k + (r.length + 1)) else .error (120, k) := by
  have hsg : isSg (bt L k) = false := by rw [h]; rcases hw with ⟨rfl, _⟩ | ⟨rfl, _⟩ | ⟨rfl, _⟩ <;> rfl
  have hwd : isWd (bt L k) = true := by rw [h]; rcases hw with ⟨rfl, _⟩ | ⟨rfl, _⟩ | ⟨rfl, _⟩ <;> rfl
  have ht : tkE L k = wrE L k := by unfold tkE; rw [if_neg (by rw [hsg]; decide), if_pos hwd]
  have hwr : wrE L k = if (L.drop k).take (r.length + 1) = c :: r then k + (r.length + 1) else k := by
    unfold wrE
    rcases hw with ⟨rfl, rfl⟩ | ⟨rfl, rfl⟩ | ⟨rfl, rfl⟩
    · by_cases q : (L.drop k).take 4 = [116, 114, 117, 101]
      · rw [if_pos q]; exact (if_pos q).symm
      · rw [if_neg q, if_neg (fun e => by have := take_head e; omega), if_neg (fun e => by have := take_head e; omega)]; exact (if_neg q).symm
    · rw [if_neg (fun e => by have := take_head e; omega)]
      by_cases q : (L.drop k).take 5 = [102, 97, 108, 115, 101]
      · rw [if_pos q]; exact (if_pos q).symm
      · rw [if_neg q, if_neg (fun e => by have := take_head e; omega)]; exact (if_neg q).symm
    · rw [if_neg (fun e => by have := take_head e; omega), if_neg (fun e => by have := take_head e; omega)]
      by_cases q : (L.drop k).take 4 = [110, 117, 108, 108]
      · rw [if_pos q]; exact (if_pos q).symm
      · rw [if_neg q]; exact (if_neg q).symm
  rw [val_tok hk hsg]
  unfold tokR
  rw [hk, ht, hwr]
  by_cases q : (L.drop k).take (r.length + 1) = c :: r
  · rw [if_pos q, if_pos q, if_pos (by omega), show k + (r.length + 1) - k = r.length + 1 by omega, q]
  · rw [if_neg q, if_neg q, if_neg (by omega), if_neg (by rw [h]; rcases hw with ⟨rfl, _⟩ | ⟨rfl, _⟩ | ⟨rfl, _⟩ <;> omega)]
/-- Behind a node that is laid where it is answered. -/
theorem VR.lay {V W w1 w2 : World} {t r : Nat} {s : ByteArray} {pl : Nat} {R : RR} {d : NdV} (h : VR w1 w1 t s pl R (.returned d.val) w2) (hV : V.grownBy w1 (some t)) (hr : r < w1.heap.size ∧ r ≠ t ∧ V.heap.size ≤ r) (hW : W.heap.size ≤ w1.heap.size) {w3 : World} (k2 : w2.grownBy w3 (some r)) : VR V W t s pl R (.returned d.val) w3 := by
  obtain ⟨d', e, h1, h2⟩ := h
  have e' : d = d' := by
    cases d; cases d'
    simp [NdV.val] at e
    obtain ⟨rfl, rfl, rfl, rfl, rfl, rfl⟩ := e
    rfl
  subst e'
  refine ⟨d, rfl, h1, ?_⟩
  match R, h2 with
  | .error (c, p), ⟨a, hx⟩ => exact ⟨a, (hx.from hV).other k2 hr.2.1 hr.2.2⟩
  | .ok (l, p), ⟨hx, hn⟩ => exact ⟨(hx.from hV).other k2 hr.2.1 hr.2.2, hn.to k2.size (fun g hg hl => ⟨Nat.le_trans hW hg, k2.block g hl (by simp; omega)⟩)⟩
end Go.Proofs.YthodjkeppobcmaaDoor
