import Derived.Test.YtlblllghgdfpoaaDoorEB
import Derived.BigQuiet

namespace Go.Proofs.YtlblllghgdfpoaaDoor
open Go.RowKit
attribute [local go_sem ↓] Go.wp_at_zero Go.wp_at_succ

/-- The law's Book in memory. -/
structure Bk (B : Nat) (w : World) (b N : Nat) (vW vL : Value) (vs : List Value) (ls : List (List Nat)) : Prop where
  blk : w.heap[b]? = some (.cells #[.int .i64 (N : Int), vW, vL] 27 (0, 0))
  hb : B ≤ b
  rw : w.ownsRow B 9 1 vW ls.length (ls.map fun l => .string (ofN l))
  rl : w.ownsRow B 29 1 vL vs.length vs
  has : ∀ (i : Nat) (v : Value) (l : List Nat), vs[i]? = some v → ls[i]? = some l → HasB w v l ∧ Byt l
  ap : ∀ q, InB vs q → q ≠ b ∧ vW.ownBlock ≠ some q ∧ vL.ownBlock ≠ some q
  aw : vW.ownBlock ≠ some b
  al : vL.ownBlock ≠ some b
  wl : ∀ q, vW.ownBlock = some q → vL.ownBlock ≠ some q
  lt : ∀ q, InB vs q → q < w.heap.size
def BkIn (b : Nat) (vW vL : Value) (vs : List Value) (q : Nat) : Prop := q = b ∨ vW.ownBlock = some q ∨ vL.ownBlock = some q ∨ InB vs q
theorem Bk.bl {B : Nat} {w : World} {b N : Nat} {vW vL : Value} {vs : List Value} {ls : List (List Nat)} (h : Bk B w b N vW vL vs ls) : b < w.heap.size := (Array.getElem?_eq_some_iff.1 h.blk).1
theorem Bk.keep {B : Nat} {w w' : World} {b N : Nat} {vW vL : Value} {vs : List Value} {ls : List (List Nat)} (h : Bk B w b N vW vL vs ls) (hs : w.heap.size ≤ w'.heap.size) (hf : ∀ q, q < w.heap.size → BkIn b vW vL vs q → w'.heap[q]? = w.heap[q]?) : Bk B w' b N vW vL vs ls :=
  ⟨(hf b h.bl (.inl rfl)).trans h.blk, h.hb, own_same h.rw (fun q e => hf q (h.rw.lt q e).2 (.inr (.inl e))), own_same h.rl (fun q e => hf q (h.rl.lt q e).2 (.inr (.inr (.inl e)))), fun i v l hv hl => ⟨(h.has i v l hv hl).1.stays hs (fun q e hq => hf q hq (.inr (.inr (.inr ⟨i, v, hv, e⟩)))), (h.has i v l hv hl).2⟩, h.ap, h.aw, h.al, h.wl, fun q hq => Nat.lt_of_lt_of_le (h.lt q hq) hs⟩
theorem Bk.up {B : Nat} {w w' : World} {b N : Nat} {vW vL : Value} {vs : List Value} {ls : List (List Nat)} (h : Bk B w b N vW vL vs ls) (hb : Below w.heap.size w w') : Bk B w' b N vW vL vs ls := h.keep hb.size (fun q hq _ => hb.block q hq)
/-- Its cells. -/
theorem Bk.cells {B : Nat} {w : World} {b N : Nat} {vW vL : Value} {vs : List Value} {ls : List (List Nat)} (h : Bk B w b N vW vL vs ls) : w.cell? ⟨b, 0, none⟩ = some (.int .i64 (N : Int)) ∧ w.cell? ⟨b, 1, none⟩ = some vW ∧ w.cell? ⟨b, 2, none⟩ = some vL ∧ ∀ j, w.frozen? ⟨b, j, none⟩ = false :=
  ⟨cell_of_row _ _ _ _ _ _ h.blk, cell_of_row _ _ _ _ _ _ h.blk, cell_of_row _ _ _ _ _ _ h.blk, fun _ => frozen_of_row _ _ _ _ _ h.blk⟩
theorem own_form {W : World} {bs e n : Nat} {v : Value} {xs : List Value} (h : W.ownsRow bs e 1 v n xs) : ∃ a c, v = .slice a n c ∧ n ≤ c ∧ c ≤ maxLen ∧ (0 < n → ∃ g, a = some ⟨g, 0, none⟩ ∧ ∀ (i : Nat) (x : Value), xs[i]? = some x → W.cell? ⟨g, i, none⟩ = some x) := by
  obtain ⟨h1, ⟨rfl, rfl⟩ | ⟨g, c, cur, rfl, h2, h3, h4, h5, h6, h7⟩⟩ := id h
  · exact ⟨none, 0, rfl, Nat.le_refl _, Nat.zero_le _, fun hp => by omega⟩
  · refine ⟨_, c, rfl, h4, h5, fun _ => ⟨g, rfl, fun i x hx => ?_⟩⟩
    have := h.cells (g := g) rfl i x hx
    rwa [Go.WideShapes.add_plain, Nat.zero_add] at this
set_option maxRecDepth 100000 in
set_option maxHeartbeats 2000000 in
theorem still_any {B : Nat} {W : World} {b N : Nat} {vW vL : Value} {vs : List Value} {ls : List (List Nat)} (h : Bk B W b N vW vL vs ls) (hln : ls.length = vs.length) (hn : vs.length ≤ 1099511627776) :
    Calls Tryd.prog 7 #[.pointer (some ⟨b, 0, none⟩)] W fun e w => e = .returned (.bool true) ∧ ∃ m, w = W.drewN m := by
  obtain ⟨y0, y1, y2, -⟩ := h.cells
  obtain ⟨aW, cW, rfl, -, hcW, hW⟩ := own_form h.rw
  rw [hln] at y1 hW
  obtain ⟨aL, cL, rfl, -, hcL, hL⟩ := own_form h.rl
  have HW := hide hW
  have HL := hide hL
  have HH := hide h
  have hbl := h.bl
  have Hln := hide hln
  clear hW hL h hln
  go_enter Tryd.func7, Tryd.ntmps7
  go_wp2
  go_loopg [3] vs.length (fun gk v3 wr => ∃ (k m : Nat), v3 = .int .i64 (k : Int) ∧ gk = vs.length - k ∧ k ≤ vs.length ∧ wr = W.drewN m)
  case atStart => exact ⟨0, 0, rfl, rfl, by omega, rfl⟩
  case round =>
    obtain ⟨k, m, rfl, hgk, hk, rfl⟩ := hrel
    have Hgk := hide hgk
    clear hgk
    by_cases hlt : k < vs.length
    · obtain ⟨gW, rfl, hcw⟩ := unhide HW (by omega)
      obtain ⟨gL, rfl, hcl⟩ := unhide HL (by omega)
      obtain ⟨v, hv⟩ : ∃ v, vs[k]? = some v := ⟨_, List.getElem?_eq_getElem hlt⟩
      obtain ⟨l, hl⟩ : ∃ l, ls[k]? = some l := ⟨_, List.getElem?_eq_getElem (by rw [unhide Hln]; exact hlt)⟩
      obtain ⟨hB, hBy⟩ := (unhide HH).has k v l hv hl
      have x1 := hcw k (.string (ofN l)) (by rw [List.getElem?_map, hl]; rfl)
      have x2 := hcl k v hv
      have cv : ∀ j, (convert 29 9 v).run Tryd.prog (W.drewN j) = .ok (.string (ofN l)) (W.drewN j) := fun j => conv_any (hB.up (below_drewN (Below.refl _ _) j)) hBy
      obtain ⟨av, cv', rfl, -⟩ := id hB
      have j0 : (0 : Int) ≤ (k : Int) := Int.natCast_nonneg _
      have j1 : (k : Int) < (vs.length : Int) := by omega
      have Hlt := hide hlt
      clear hcw hcl hv hl hB hBy hlt
      go_wp2
      go_quiet (fail)
      go_wp2
      go_roundg (vs.length - (k + 1))
      case measure => have := unhide Hgk; have := unhide Hlt; omega
      case rel => exact ⟨k + 1, m + nq, by go_num, rfl, unhide Hlt, rfl⟩
    · obtain rfl : k = vs.length := by omega
      have j1 : ¬ (vs.length : Int) < (vs.length : Int) := by omega
      clear hlt hk Hgk
      go_wp2
      go_ret
      exact ⟨rfl, m, rfl⟩
end Go.Proofs.YtlblllghgdfpoaaDoor

namespace Go.Proofs.YtlblllghgdfpoaaDoor
open Go.RowKit

/-- All blocks but X's are as they were. -/
structure Fr (W w : World) (X : Nat → Prop) : Prop where
  os : w.os = W.os
  tape : w.tape = W.tape
  output : w.output = W.output
  size : W.heap.size ≤ w.heap.size
  far : ∀ q, q < W.heap.size → ¬ X q → w.heap[q]? = W.heap[q]?
theorem Fr.refl (W : World) (X : Nat → Prop) : Fr W W X := ⟨rfl, rfl, rfl, Nat.le_refl _, fun _ _ _ => rfl⟩
theorem Fr.trans {A B C : World} {X : Nat → Prop} (h : Fr A B X) (k : Fr B C X) : Fr A C X := ⟨k.os.trans h.os, k.tape.trans h.tape, k.output.trans h.output, Nat.le_trans h.size k.size, fun q hq hn => (k.far q (Nat.lt_of_lt_of_le hq h.size) hn).trans (h.far q hq hn)⟩
theorem Fr.wide {A B : World} {X Y : Nat → Prop} (h : Fr A B X) (hx : ∀ q, X q → Y q) : Fr A B Y := ⟨h.os, h.tape, h.output, h.size, fun q hq hn => h.far q hq (fun x => hn (hx q x))⟩
theorem Fr.below {A B : World} {X : Nat → Prop} (h : Below A.heap.size A B) : Fr A B X := ⟨h.os, h.tape, h.output, h.size, fun q hq _ => h.block q hq⟩
theorem Fr.up {A B C : World} {X : Nat → Prop} (h : Fr A B X) (k : Below B.heap.size B C) : Fr A C X := h.trans (Fr.below k)
theorem Fr.set {A B : World} {X : Nat → Prop} {b : Nat} (h : Fr A B X) (hb : X b ∨ A.heap.size ≤ b) (i : Nat) (v : Value) : Fr A (B.setCell ⟨b, i, none⟩ v) X := ⟨h.os, h.tape, h.output, by rw [World.size_setCell]; exact h.size, fun q hq hn => (heap_setCell_other B ⟨b, i, none⟩ q v (fun e => by have e' : q = b := e; subst e'; exact hb.elim hn (fun k => by omega))).trans (h.far q hq hn)⟩
theorem Fr.grow {A B C : World} {X : Nat → Prop} {o : Obj} {r : Option Nat} (h : Fr A B X) (k : (B.alloc o).grownBy C r) (hr : ∀ q, r = some q → X q ∨ A.heap.size ≤ q) : Fr A C X := by
  have s := k.size
  rw [World.size_alloc] at s
  refine ⟨k.os.trans h.os, k.tape.trans h.tape, k.output.trans h.output, by have := h.size; omega, fun q hq hn => ((k.block q (by rw [World.size_alloc]; have := h.size; omega) (fun e => ?_)).trans (Below.heap_alloc B o q (Nat.lt_of_lt_of_le hq h.size))).trans (h.far q hq hn)⟩
  exact (hr q e.symm).elim hn (fun k => by omega)
theorem drewN_fr (w : World) (m : Nat) (X : Nat → Prop) : Fr w (w.drewN m) X := Fr.below (below_drewN (Below.refl _ _) m)
/-- Its number is another. -/
theorem Bk.setN {B : Nat} {w : World} {b N : Nat} {vW vL : Value} {vs : List Value} {ls : List (List Nat)} (h : Bk B w b N vW vL vs ls) (M : Nat) : Bk B (w.setCell ⟨b, 0, none⟩ (.int .i64 (M : Int))) b M vW vL vs ls := by
  have far : ∀ q, q ≠ b → (w.setCell ⟨b, 0, none⟩ (.int .i64 (M : Int))).heap[q]? = w.heap[q]? := fun q hq => heap_setCell_other w ⟨b, 0, none⟩ q _ hq
  refine ⟨heap_setCell_same w b 0 _ _ _ h.blk, h.hb, own_same h.rw (fun q e => far q (fun e2 => h.aw (by rw [← e2]; exact e))), own_same h.rl (fun q e => far q (fun e2 => h.al (by rw [← e2]; exact e))), fun i v l hv hl => ⟨(h.has i v l hv hl).1.stays (by rw [World.size_setCell]; exact Nat.le_refl _) (fun q e _ => far q (h.ap q ⟨i, v, hv, e⟩).1), (h.has i v l hv hl).2⟩, h.ap, h.aw, h.al, h.wl, fun q hq => by rw [World.size_setCell]; exact h.lt q hq⟩
theorem inB_apps {vs us : List Value} {g : Nat} (h : InB (vs ++ us) g) : InB vs g ∨ InB us g := by
  obtain ⟨i, x, hx, e⟩ := h
  by_cases hi : i < vs.length
  · rw [List.getElem?_append_left hi] at hx
    exact .inl ⟨i, x, hx, e⟩
  · rw [List.getElem?_append_right (by omega)] at hx
    exact .inr ⟨_, x, hx, e⟩
/-- More lists. -/
theorem Bk.pushL {B : Nat} {w w2 : World} {b N m : Nat} {vW vL vL' : Value} {vs us : List Value} {ls : List (List Nat)} {o1 : Obj} (h : Bk B w b N vW vL vs ls) (hl : ls.length ≤ vs.length) (g1 : (w.alloc o1).grownBy w2 vL.ownBlock) (r : w2.ownsRow B 29 1 vL' (vs.length + m) (vs ++ us)) (hm : us.length = m) (hat : vL'.ownBlock = vL.ownBlock ∨ ∃ g, vL'.ownBlock = some g ∧ (w.alloc o1).heap.size ≤ g)
    (hu : ∀ q, InB us q → q < w.heap.size ∧ q ≠ b ∧ vW.ownBlock ≠ some q ∧ vL.ownBlock ≠ some q) : Bk B (w2.setCell ⟨b, 2, none⟩ vL') b N vW vL' (vs ++ us) ls := by
  have s1 := g1.size
  rw [World.size_alloc] at s1 hat
  have key : ∀ q, q < w.heap.size → vL.ownBlock ≠ some q → w2.heap[q]? = w.heap[q]? := fun q hq hn => (g1.block q (by rw [World.size_alloc]; omega) (fun e => hn e.symm)).trans (Below.heap_alloc w o1 q hq)
  have far : ∀ q, q < w.heap.size → vL.ownBlock ≠ some q → q ≠ b → (w2.setCell ⟨b, 2, none⟩ vL').heap[q]? = w.heap[q]? := fun q hq hn hb => (heap_setCell_other w2 ⟨b, 2, none⟩ q _ hb).trans (key q hq hn)
  have bl := h.bl
  have old : ∀ q, q < w.heap.size → vL.ownBlock ≠ some q → vL'.ownBlock ≠ some q := fun q hq hn e => by
    rcases hat with e2 | ⟨g2, e2, hg2⟩
    · exact hn (e2.symm.trans e)
    · have := Option.some.inj (e2.symm.trans e); omega
  have lw : ∀ q, vW.ownBlock = some q → q < w.heap.size := fun q e => (h.rw.lt q e).2
  refine ⟨?_, h.hb, own_same h.rw (fun q e => far q (lw q e) (h.wl q e) (fun e2 => h.aw (by rw [← e2]; exact e))), ?_, fun i v l hv hl' => ?_, fun q hq => ?_, h.aw, old b bl h.al, fun q e => old q (lw q e) (h.wl q e), fun q hq => ?_⟩
  · have := heap_setCell_same w2 b 2 _ _ vL' ((key b bl h.al).trans h.blk)
    exact this
  · rw [List.length_append, hm]
    exact own_same r (fun q e => heap_setCell_other w2 ⟨b, 2, none⟩ q _ (fun e2 => old b bl h.al (by have e2' : q = b := e2; rw [← e2']; exact e)))
  · have hi := (List.getElem?_eq_some_iff.1 hl').1
    rw [List.getElem?_append_left (by omega)] at hv
    exact ⟨(h.has i v l hv hl').1.stays (by rw [World.size_setCell]; omega) (fun q e hq => far q hq (h.ap q ⟨i, v, hv, e⟩).2.2 (h.ap q ⟨i, v, hv, e⟩).1), (h.has i v l hv hl').2⟩
  · rcases inB_apps hq with q1 | q1
    · obtain ⟨a1, a2, a3⟩ := h.ap q q1
      exact ⟨a1, a2, old q (h.lt q q1) a3⟩
    · obtain ⟨a0, a1, a2, a3⟩ := hu q q1
      exact ⟨a1, a2, old q a0 a3⟩
  · rw [World.size_setCell]
    rcases inB_apps hq with q1 | q1
    · have := h.lt q q1; omega
    · have := (hu q q1).1; omega
/-- More of what must stand in them. -/
theorem Bk.pushW {B : Nat} {w w2 : World} {b N m : Nat} {vW vL vW' : Value} {vs : List Value} {ls ms : List (List Nat)} {o1 : Obj} (h : Bk B w b N vW vL vs ls) (g1 : (w.alloc o1).grownBy w2 vW.ownBlock) (r : w2.ownsRow B 9 1 vW' (ls.length + m) ((ls ++ ms).map fun l => .string (ofN l))) (hm : ms.length = m) (hat : vW'.ownBlock = vW.ownBlock ∨ ∃ g, vW'.ownBlock = some g ∧ (w.alloc o1).heap.size ≤ g)
    (hu : ∀ (i : Nat) (v : Value) (l : List Nat), ms[i]? = some l → vs[ls.length + i]? = some v → HasB w v l ∧ Byt l) : Bk B (w2.setCell ⟨b, 1, none⟩ vW') b N vW' vL vs (ls ++ ms) := by
  have s1 := g1.size
  rw [World.size_alloc] at s1 hat
  have key : ∀ q, q < w.heap.size → vW.ownBlock ≠ some q → w2.heap[q]? = w.heap[q]? := fun q hq hn => (g1.block q (by rw [World.size_alloc]; omega) (fun e => hn e.symm)).trans (Below.heap_alloc w o1 q hq)
  have far : ∀ q, q < w.heap.size → vW.ownBlock ≠ some q → q ≠ b → (w2.setCell ⟨b, 1, none⟩ vW').heap[q]? = w.heap[q]? := fun q hq hn hb => (heap_setCell_other w2 ⟨b, 1, none⟩ q _ hb).trans (key q hq hn)
  have bl := h.bl
  have old : ∀ q, q < w.heap.size → vW.ownBlock ≠ some q → vW'.ownBlock ≠ some q := fun q hq hn e => by
    rcases hat with e2 | ⟨g2, e2, hg2⟩
    · exact hn (e2.symm.trans e)
    · have := Option.some.inj (e2.symm.trans e); omega
  have ll : ∀ q, vL.ownBlock = some q → q < w.heap.size := fun q e => (h.rl.lt q e).2
  have lw : ∀ q, vL.ownBlock = some q → vW.ownBlock ≠ some q := fun q e e2 => h.wl q e2 e
  refine ⟨?_, h.hb, ?_, own_same h.rl (fun q e => far q (ll q e) (lw q e) (fun e2 => h.al (by rw [← e2]; exact e))), fun i v l hv hl' => ?_, fun q hq => ?_, old b bl h.aw, h.al, fun q e e2 => old q (ll q e2) (lw q e2) e, fun q hq => ?_⟩
  · have := heap_setCell_same w2 b 1 _ _ vW' ((key b bl h.aw).trans h.blk)
    exact this
  · rw [List.length_append, hm]
    exact own_same r (fun q e => heap_setCell_other w2 ⟨b, 1, none⟩ q _ (fun e2 => old b bl h.aw (by have e2' : q = b := e2; rw [← e2']; exact e)))
  · have hst : ∀ v l, HasB w v l → vs[i]? = some v → HasB (w2.setCell ⟨b, 1, none⟩ vW') v l := fun v l hB hv => hB.stays (by rw [World.size_setCell]; omega) (fun q e hq => far q hq (h.ap q ⟨i, v, hv, e⟩).2.1 (h.ap q ⟨i, v, hv, e⟩).1)
    by_cases hi : i < ls.length
    · rw [List.getElem?_append_left hi] at hl'
      exact ⟨hst v l (h.has i v l hv hl').1 hv, (h.has i v l hv hl').2⟩
    · rw [List.getElem?_append_right (by omega)] at hl'
      obtain ⟨k1, k2⟩ := hu (i - ls.length) v l hl' (by rw [show ls.length + (i - ls.length) = i by omega]; exact hv)
      exact ⟨hst v l k1 hv, k2⟩
  · obtain ⟨a1, a2, a3⟩ := h.ap q hq
    exact ⟨a1, old q (h.lt q hq) a2, a3⟩
  · rw [World.size_setCell]
    have := h.lt q hq
    omega
end Go.Proofs.YtlblllghgdfpoaaDoor
