import Derived.Test.YthodjkeppobcmaaDoorLI
import Derived.Test.YthodjkeppobcmaaDoorKZ

namespace Go.Proofs.YthodjkeppobcmaaDoor
open Go.RowKit Go.Lib
attribute [local go_sem ↓] Go.wp_at_zero Go.wp_at_succ

theorem cf_tvalue (w : World) (vs : Array Value) : (callFunc 19 vs).run Tryd.prog w = .ok (.enter 19 vs) w := by
  have hf := Tryd.func19
  simp [callFunc, hf, Tryd.f19, go_sem]
theorem cf_tname (w : World) (vs : Array Value) : (callFunc 42 vs).run Tryd.prog w = .ok (.enter 42 vs) w := by
  have hf := Tryd.func42
  simp [callFunc, hf, Tryd.f42, go_sem]
theorem cf_tnumber (w : World) (vs : Array Value) : (callFunc 35 vs).run Tryd.prog w = .ok (.enter 35 vs) w := by
  have hf := Tryd.func35
  simp [callFunc, hf, Tryd.f35, go_sem]
/-- Behind a thing, as the reference looks. -/
def aftR (L : List Nat) (ea : Nat → RR) (shut f a : Nat) : RR := if bt L (skB L a) = shut then .ok ([shut], skB L a + 1) else if bt L (skB L a) = 44 then RR.pre [44] (itemsR L ea shut f (skB L a + 1)) else .error (120, skB L a)
theorem sg_tok {L : List Nat} {a c : Nat} (h : bt L (skB L a) = c) (hc : isSg c = true) : tokR L a = .ok ([c], skB L a + 1) := by
  have ht : tkE L (skB L a) = skB L a + 1 := by unfold tkE; rw [h, if_pos hc]
  have hl : skB L a < L.length := isSg_0 (by rw [h]; exact hc)
  unfold tokR
  rw [ht, if_pos (by omega), show skB L a + 1 - skB L a = 1 by omega, drop_at hl, h]
  rfl
theorem more_aft {L : List Nat} {ea : Nat → RR} {shut f a : Nat} (hs : isSg shut = true) (h44 : shut ≠ 44) : moreR L ea shut f a = aftR L ea shut f a := by
  unfold moreR aftR
  by_cases q : bt L (skB L a) = 44
  · rw [if_pos q, if_neg (by rw [q]; exact fun e => h44 e.symm), if_pos q, sg_tok q rfl]
    rfl
  · rw [if_neg q]
    unfold mustR
    by_cases q2 : bt L (skB L a) = shut
    · rw [if_pos q2, if_pos q2, sg_tok q2 hs]
    · rw [if_neg q2, if_neg q2, if_neg q]
theorem row_aft {L : List Nat} {ea : Nat → RR} {c shut a : Nat} (hc : bt L a = c) (hk : skB L a = a) (h1 : isSg c = true) (h2 : isSg shut = true) : rowR L ea c shut a = RR.pre [c] (if bt L (skB L (a + 1)) = shut then .ok ([shut], skB L (a + 1) + 1) else itemsR L ea shut (L.length + 1) (a + 1)) := by
  unfold rowR mustR
  rw [hk, if_pos hc, sg_tok (by rw [hk]; exact hc) h1, hk]
  show RR.pre [c] (if bt L (skB L (a + 1)) = shut then (if bt L (skB L (a + 1)) = shut then tokR L (a + 1) else .error (120, skB L (a + 1))) else itemsR L ea shut (L.length + 1) (a + 1)) = _
  by_cases q : bt L (skB L (a + 1)) = shut
  · simp only [if_pos q, sg_tok q h2]
  · simp only [if_neg q]
theorem row_one {B : Nat} {W : World} {T m : Nat} {v : Value} {xs : List Value} (h : W.ownsRow B T 6 v m xs) : v.oneCell' = true ∧ ∃ a c, v = .slice a m c := by
  rcases h.2 with ⟨rfl, rfl⟩ | ⟨g, cap, cur, rfl, _⟩
  · exact ⟨rfl, _, _, rfl⟩
  · exact ⟨rfl, _, _, rfl⟩
theorem InS.fin {V W W2 : World} {t r n : Nat} {s : ByteArray} {kd a0 a er pl : Nat} {vN vI : Value} {lN lI : List NdV} {w w' : World} {its : List It} {e : Nat} (h : InS V W2 t r n s kd a0 a er pl vN vI lN lI w) (hc : Ch W2 (strN s) vN vI its w) (hW : W.heap.size ≤ W2.heap.size) (hk : kd = 1 ∨ kd = 2) (hI : lI = its.map It.v) (hN : kd = 1 → lN = its.map It.nm) (hm : ∀ i ∈ its, kd = 1 → i.na ≤ i.ne ∧ i.ne ≤ (strN s).length) (ha : a0 < (strN s).length) (he : 0 < e ∧ e ≤ (strN s).length) (hs : w.heap.size ≤ w'.heap.size) (hg : ∀ g, W2.heap.size ≤ g → g < w.heap.size → w'.heap[g]? = w.heap[g]?) :
    HasNd (strN s) (fun g => W.heap.size ≤ g) w' ⟨kd, a0, e, ⟨#[]⟩, vN, vI⟩ (bt (strN s) a0 :: jn (its.map (itB (strN s) kd)) ++ [bt (strN s) (e - 1)]) := by
  refine .row kd a0 e ⟨#[]⟩ vN vI its (by obtain ⟨_, a, c, h⟩ := row_one h.rn; exact ⟨_, _, _, h⟩) hk ha he ?_ (fun q => ?_) hm (fun i hi => ?_)
  · rw [← hI]
    exact (RowN.own h.ri).to hs (fun g e hl => ⟨Nat.le_trans hW (own_le h.ri e).1, hg g (own_le h.ri e).1 hl⟩)
  · rw [← hN q]
    exact (RowN.own h.rn).to hs (fun g e hl => ⟨Nat.le_trans hW (own_le h.rn e).1, hg g (own_le h.rn e).1 hl⟩)
  · exact (hc i hi).to hs (fun g e hl => ⟨Nat.le_trans hW e.1, hg g e.1 hl⟩)
end Go.Proofs.YthodjkeppobcmaaDoor
