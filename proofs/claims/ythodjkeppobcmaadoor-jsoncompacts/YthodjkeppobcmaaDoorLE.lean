import Derived.Test.YthodjkeppobcmaaDoorLD

namespace Go.Proofs.YthodjkeppobcmaaDoor
open Go.RowKit Go.Lib
attribute [local go_sem ↓] Go.wp_at_zero Go.wp_at_succ

def set6 (w : World) (b : Nat) (v0 v1 v2 v3 v4 v5 : Value) : World := (((((w.setCell ⟨b, 0, none⟩ v0).setCell ⟨b, 1, none⟩ v1).setCell ⟨b, 2, none⟩ v2).setCell ⟨b, 3, none⟩ v3).setCell ⟨b, 4, none⟩ v4).setCell ⟨b, 5, none⟩ v5
theorem set6_block {W : World} {b : Nat} {a0 a1 a2 a3 a4 a5 : Value} {t : TypeId} (h : W.heap[b]? = some (.cells #[a0, a1, a2, a3, a4, a5] t (0, 0))) (v0 v1 v2 v3 v4 v5 : Value) : (set6 W b v0 v1 v2 v3 v4 v5).heap[b]? = some (.cells #[v0, v1, v2, v3, v4, v5] t (0, 0)) ∧ W.grownBy (set6 W b v0 v1 v2 v3 v4 v5) (some b) := by
  obtain ⟨h0, g0⟩ := set_block (j := 0) h v0
  obtain ⟨h1, g1⟩ := set_block (j := 1) h0 v1
  obtain ⟨h2, g2⟩ := set_block (j := 2) h1 v2
  obtain ⟨h3, g3⟩ := set_block (j := 3) h2 v3
  obtain ⟨h4, g4⟩ := set_block (j := 4) h3 v4
  obtain ⟨h5, g5⟩ := set_block (j := 5) h4 v5
  exact ⟨h5, ((((g0.trans g1).trans g2).trans g3).trans g4).trans g5⟩
theorem cells6 {W : World} {b : Nat} {a0 a1 a2 a3 a4 a5 : Value} {t : TypeId} (h : W.heap[b]? = some (.cells #[a0, a1, a2, a3, a4, a5] t (0, 0))) : (W.cell? ⟨b, 0, none⟩ = some a0 ∧ W.cell? ⟨b, 1, none⟩ = some a1 ∧ W.cell? ⟨b, 2, none⟩ = some a2 ∧ W.cell? ⟨b, 3, none⟩ = some a3 ∧ W.cell? ⟨b, 4, none⟩ = some a4 ∧ W.cell? ⟨b, 5, none⟩ = some a5) ∧ ∀ j, W.frozen? ⟨b, j, none⟩ = false := by
  refine ⟨⟨?_, ?_, ?_, ?_, ?_, ?_⟩, fun j => by simp [World.frozen?, h]⟩ <;> rw [cell_of_row _ _ _ _ _ _ h] <;> rfl
theorem sizeNode : (Tryd.prog.info? 43).map (·.size) = some 6 := by kernel_rfl
def ndC (k a e : Nat) (x : ByteArray) (vn vi : Value) : Array Value := #[.int .i64 (k : Int), .int .i64 (a : Int), .int .i64 (e : Int), .string x, vn, vi]
theorem Tx.self {V : World} {t : Nat} {s : ByteArray} {a er pl : Nat} {W : World} (h : Tx V t s a er pl W) : Tx W t s a er pl W := ⟨h.blk, World.grownBy.refl _ _, h.le⟩
theorem Tx.up {V : World} {t : Nat} {s : ByteArray} {a er pl : Nat} {W w : World} (h : Tx V t s a er pl W) (hb : Below W.heap.size W w) : Tx V t s a er pl w := by
  have hl := (Array.getElem?_eq_some_iff.1 h.blk).1
  refine ⟨(hb.block t hl).trans h.blk, ⟨hb.os.trans h.gr.os, hb.tape.trans h.gr.tape, hb.output.trans h.gr.output, Nat.le_trans h.gr.size hb.size, fun k hk hn => (hb.block k (Nat.lt_of_lt_of_le hk h.gr.size)).trans (h.gr.block k hk hn)⟩, h.le⟩
theorem Tx.from {U V : World} {t : Nat} {s : ByteArray} {a er pl : Nat} {w : World} (h : Tx U t s a er pl w) (hg : V.grownBy U (some t)) : Tx V t s a er pl w := ⟨h.blk, hg.trans h.gr, h.le⟩
/-- What text answers. -/
def TxR (V : World) (t : Nat) (s : ByteArray) (a pl : Nat) (r : Option Nat) (e : Ending) (w : World) : Prop := match r with
  | none => e = .returned (.agg (ndC 3 a 0 ⟨#[]⟩ (.slice none 0 0) (.slice none 0 0))) ∧ Tx V t s a 125 a w
  | some k => (∃ x, e = .returned (.agg (ndC 3 a k x (.slice none 0 0) (.slice none 0 0)))) ∧ Tx V t s k 0 pl w
theorem ext_below {base : Nat} {A B : World} {x y : Value} {xs : List Nat} (h : Ext A x B y) (hb : Bytes base A x xs) (hn : base ≤ A.heap.size) : Below base A B := h.below hn (fun k e => (World.ownsRow.lt hb k e).1)
theorem slice_of {base : Nat} {W : World} {v : Value} {xs : List Nat} (h : Bytes base W v xs) : ∃ a c, v = .slice a xs.length c := by
  obtain ⟨a, c, rfl, _⟩ := h.has
  exact ⟨a, c, rfl⟩
theorem escS_in (L : List Nat) (i : Nat) (h : escS L i ≠ 0) : i + escS L i ≤ L.length := by
  by_cases h1 : L.length < i + 2
  · exact absurd (by unfold escS; rw [if_pos h1]) h
  rw [escS_eq L i h1] at h ⊢
  have h4 : ∀ k n, hx4 L k = some n → k + 4 ≤ L.length := fun k n e => by
    unfold hx4 at e
    split at e
    · assumption
    · cases e
  split
  · omega
  · rename_i q
    rw [if_neg q] at h
    split
    · rename_i q2
      rw [if_pos q2] at h
      cases hr : hx4 L (i + 2) with
      | none => rw [hr] at h; exact absurd rfl h
      | some p =>
        have := h4 _ _ hr
        rw [hr] at h
        simp only [escM] at h ⊢
        split
        · omega
        · split
          · omega
          · rename_i q3 q4
            rw [if_neg q3, if_neg q4, escT_eq] at h
            rw [escT_eq]
            split
            · rename_i q5
              rw [if_pos q5] at h
              cases hr8 : hx4 L (i + 8) with
              | none => rw [hr8] at h; exact absurd rfl h
              | some m =>
                have := h4 _ _ hr8
                simp only [escB]
                split <;> omega
            · omega
    · omega
end Go.Proofs.YthodjkeppobcmaaDoor
