import Derived.Test.YtfcjkkljmjmhmaaDoorWPd
namespace Go.Proofs.YtfcjkkljmjmhmaaDoor
open Go.RowKit

/-- A reader and a cursor over the same bytes, at the same place. -/
def Pr (w : World) (b c : Nat) (v : Value) (s : ByteArray) (st : Bool) : Prop := ∃ k, k ≤ s.size ∧ RdAt w b s k st ∧ CuAt w c v s k st
/-- Where the law's loop stands. -/
structure LS (W : World) (v0 v1 : Value) (s0 s1 : ByteArray) (sb : Bool) (p q r c0 c1 c2 R0 C0 : Nat) (w : World) : Prop where
  below : Below W.heap.size W w
  rows : w.heap[R0]? = some (.cells #[.pointer (some ⟨p, 0, none⟩), .pointer (some ⟨q, 0, none⟩), .pointer (some ⟨r, 0, none⟩)] 38 (0, 0))
  curs : w.heap[C0]? = some (.cells #[.pointer (some ⟨c0, 0, none⟩), .pointer (some ⟨c1, 0, none⟩), .pointer (some ⟨c2, 0, none⟩)] 62 (0, 0))
  a : Pr w p c0 v0 s0 true
  b : Pr w q c1 v0 s0 false
  c : Pr w r c2 v1 s1 sb
structure Odr (n p q r c0 c1 c2 R0 C0 : Nat) : Prop where
  h0 : n ≤ p
  h1 : p < q
  h2 : q < r
  h3 : r < R0
  h4 : R0 < c0
  h5 : c0 < c1
  h6 : c1 < c2
  h7 : c2 < C0
/-- What step asks at a place of the rows, and what it gives back. -/
def Pick (W : World) (v0 v1 : Value) (s0 s1 : ByteArray) (sb : Bool) (p q r c0 c1 c2 R0 C0 : Nat) (w : World) (kk : Nat) : Prop :=
  ∃ b c v s st k, w.cell? ⟨R0, kk, none⟩ = some (.pointer (some ⟨b, 0, none⟩)) ∧ w.cell? ⟨C0, kk, none⟩ = some (.pointer (some ⟨c, 0, none⟩)) ∧ RdAt w b s k st ∧ CuAt w c v s k st ∧ b ≠ c ∧ Bs w v s ∧ k ≤ s.size ∧ s.size ≤ 1048576 ∧ (∀ a l cp, v = .slice (some a) l cp → 0 < s.size → a.block ≠ c ∧ cp ≤ 9223372036854775807) ∧ (∀ a l cp, v = .slice (some a) l cp → 0 < s.size → a.block ≠ b) ∧
    ∀ bx w', (∃ k', k' ≤ s.size ∧ St2 w b c bx (rdO s st k') (cuO v s st k') w') → LS W v0 v1 s0 s1 sb p q r c0 c1 c2 R0 C0 w'
theorem pr_far {w w' : World} {b c b' c' : Nat} {v : Value} {s : ByteArray} {st : Bool} {bx o1 o2 : Obj} (h : Pr w b c v s st) (hS : St2 w b' c' bx o1 o2 w') (h1 : b ≠ b') (h2 : b ≠ c') (h3 : c ≠ b') (h4 : c ≠ c') : Pr w' b c v s st := by
  obtain ⟨k, hk, hr, hc⟩ := h
  exact ⟨k, hk, (hS.far b (Array.getElem?_eq_some_iff.1 hr).1 h1 h2).trans hr, (hS.far c (Array.getElem?_eq_some_iff.1 hc).1 h3 h4).trans hc⟩
theorem below_st2 {W w w' : World} {b c : Nat} {bx o1 o2 : Obj} (h : Below W.heap.size W w) (hS : St2 w b c bx o1 o2 w') (hb : W.heap.size ≤ b) (hc : W.heap.size ≤ c) : Below W.heap.size W w' :=
  h.trans ⟨hS.os, hS.tape, hS.output, Nat.le_of_lt hS.size, fun q hq => hS.far q (Nat.lt_of_lt_of_le hq h.size) (by omega) (by omega)⟩
def Low (W : World) (v : Value) (s : ByteArray) : Prop := ∀ a l cp, v = .slice (some a) l cp → 0 < s.size → a.block < W.heap.size ∧ cp ≤ 9223372036854775807
theorem LS.pick {W : World} {v0 v1 : Value} {s0 s1 : ByteArray} {sb : Bool} {p q r c0 c1 c2 R0 C0 : Nat} {w : World} (h : LS W v0 v1 s0 s1 sb p q r c0 c1 c2 R0 C0 w) (ho : Odr W.heap.size p q r c0 c1 c2 R0 C0) (hB0 : Bs W v0 s0) (hB1 : Bs W v1 s1) (hL0 : Low W v0 s0) (hL1 : Low W v1 s1) (z0 : s0.size ≤ 1048576) (z1 : s1.size ≤ 1048576) {kk : Nat} (hkk : kk < 3) :
    Pick W v0 v1 s0 s1 sb p q r c0 c1 c2 R0 C0 w kk := by
  obtain ⟨o0, o1, o2, o3, o4, o5, o6, o7⟩ := ho
  have hrl := (Array.getElem?_eq_some_iff.1 h.rows).1
  have hcl := (Array.getElem?_eq_some_iff.1 h.curs).1
  have hb0 : Bs w v0 s0 := hB0.lift h.below
  have hb1 : Bs w v1 s1 := hB1.lift h.below
  have hr := fun j => cell_of_row w R0 j _ _ _ h.rows
  have hc := fun j => cell_of_row w C0 j _ _ _ h.curs
  obtain rfl | rfl | rfl : kk = 0 ∨ kk = 1 ∨ kk = 2 := by omega
  · obtain ⟨k, g1, g2, g3⟩ := h.a
    refine ⟨p, c0, v0, s0, true, k, (hr 0).trans rfl, (hc 0).trans rfl, g2, g3, by omega, hb0, g1, z0, fun a l cp e hp => ⟨?_, (hL0 a l cp e hp).2⟩, fun a l cp e hp => ?_, fun bx w' ⟨k', q1, hS⟩ => ?_⟩
    · have := (hL0 a l cp e hp).1; omega
    · have := (hL0 a l cp e hp).1; omega
    · exact ⟨below_st2 h.below hS (by omega) (by omega), (hS.far R0 hrl (by omega) (by omega)).trans h.rows, (hS.far C0 hcl (by omega) (by omega)).trans h.curs, ⟨k', q1, hS.rb, hS.rc⟩, pr_far h.b hS (by omega) (by omega) (by omega) (by omega), pr_far h.c hS (by omega) (by omega) (by omega) (by omega)⟩
  · obtain ⟨k, g1, g2, g3⟩ := h.b
    refine ⟨q, c1, v0, s0, false, k, (hr 1).trans rfl, (hc 1).trans rfl, g2, g3, by omega, hb0, g1, z0, fun a l cp e hp => ⟨?_, (hL0 a l cp e hp).2⟩, fun a l cp e hp => ?_, fun bx w' ⟨k', q1, hS⟩ => ?_⟩
    · have := (hL0 a l cp e hp).1; omega
    · have := (hL0 a l cp e hp).1; omega
    · exact ⟨below_st2 h.below hS (by omega) (by omega), (hS.far R0 hrl (by omega) (by omega)).trans h.rows, (hS.far C0 hcl (by omega) (by omega)).trans h.curs, pr_far h.a hS (by omega) (by omega) (by omega) (by omega), ⟨k', q1, hS.rb, hS.rc⟩, pr_far h.c hS (by omega) (by omega) (by omega) (by omega)⟩
  · obtain ⟨k, g1, g2, g3⟩ := h.c
    refine ⟨r, c2, v1, s1, sb, k, (hr 2).trans rfl, (hc 2).trans rfl, g2, g3, by omega, hb1, g1, z1, fun a l cp e hp => ⟨?_, (hL1 a l cp e hp).2⟩, fun a l cp e hp => ?_, fun bx w' ⟨k', q1, hS⟩ => ?_⟩
    · have := (hL1 a l cp e hp).1; omega
    · have := (hL1 a l cp e hp).1; omega
    · exact ⟨below_st2 h.below hS (by omega) (by omega), (hS.far R0 hrl (by omega) (by omega)).trans h.rows, (hS.far C0 hcl (by omega) (by omega)).trans h.curs, pr_far h.a hS (by omega) (by omega) (by omega) (by omega), pr_far h.b hS (by omega) (by omega) (by omega) (by omega), ⟨k', q1, hS.rb, hS.rc⟩⟩
theorem LS.cells {W : World} {v0 v1 : Value} {s0 s1 : ByteArray} {sb : Bool} {p q r c0 c1 c2 R0 C0 : Nat} {w w' : World} (h : LS W v0 v1 s0 s1 sb p q r c0 c1 c2 R0 C0 w) (h' : LS W v0 v1 s0 s1 sb p q r c0 c1 c2 R0 C0 w') (kk : Nat) : w'.cell? ⟨R0, kk, none⟩ = w.cell? ⟨R0, kk, none⟩ ∧ w'.cell? ⟨C0, kk, none⟩ = w.cell? ⟨C0, kk, none⟩ :=
  ⟨(cell_of_row w' R0 kk _ _ _ h'.rows).trans (cell_of_row w R0 kk _ _ _ h.rows).symm, (cell_of_row w' C0 kk _ _ _ h'.curs).trans (cell_of_row w C0 kk _ _ _ h.curs).symm⟩
theorem LS.drewN {W : World} {v0 v1 : Value} {s0 s1 : ByteArray} {sb : Bool} {p q r c0 c1 c2 R0 C0 : Nat} {w : World} (h : LS W v0 v1 s0 s1 sb p q r c0 c1 c2 R0 C0 w) (n : Nat) : LS W v0 v1 s0 s1 sb p q r c0 c1 c2 R0 C0 (w.drewN n) :=
  ⟨⟨h.below.os, h.below.tape, h.below.output, h.below.size, h.below.block⟩, h.rows, h.curs, h.a, h.b, h.c⟩
end Go.Proofs.YtfcjkkljmjmhmaaDoor
