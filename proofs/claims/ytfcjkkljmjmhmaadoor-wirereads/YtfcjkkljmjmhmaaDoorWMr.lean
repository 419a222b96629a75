import Derived.Test.YtfcjkkljmjmhmaaDoorWMp
import Derived.Test.YtfcjkkljmjmhmaaDoorWMq
namespace Go.Proofs.YtfcjkkljmjmhmaaDoor
open Go.RowKit
attribute [local go_sem ↓] Go.wp_at_zero Go.wp_at_succ

theorem Bs.upd {W w : World} {v : Value} {s : ByteArray} {c : Nat} {o : Obj} (h : Bs W v s) (hU : Upd W c o w) (hne : ∀ a l cp, v = .slice (some a) l cp → 0 < s.size → a.block ≠ c ∧ cp ≤ 9223372036854775807) : Bs w v s := by
  obtain ⟨a, cp, rfl, hle, h3⟩ := h
  refine ⟨a, cp, rfl, hle, fun hp => ?_⟩
  obtain ⟨g, off, rfl, hg, hc⟩ := h3 hp
  refine ⟨g, off, rfl, Nat.lt_of_lt_of_le hg hU.size, fun i hi => ?_⟩
  rw [← hc i hi]
  unfold World.cell?
  rw [hU.far g hg (hne _ _ _ rfl hp).1]
theorem Upd.trans {W w1 w2 : World} {c : Nat} {o1 o2 : Obj} (h1 : Upd W c o1 w1) (h2 : Upd w1 c o2 w2) : Upd W c o2 w2 :=
  ⟨h2.os.trans h1.os, h2.tape.trans h1.tape, h2.output.trans h1.output, Nat.le_trans h1.size h2.size, h2.at', fun q hq hn => (h2.far q (Nat.lt_of_lt_of_le hq h1.size) hn).trans (h1.far q hq hn)⟩
def RelC (q k2 : Nat) : Nat ⊕ (Nat × Nat) → Prop
  | .inl k' => q = 0 ∧ k2 = k'
  | .inr (c, k') => q = c ∧ c ≠ 0 ∧ k2 = k'
/-- What behind answers. -/
def BeA (W : World) (c : Nat) (v : Value) (s : ByteArray) (st : Bool) (n kd : Nat) (e : Ending) (w : World) (R : Nat ⊕ (Nat × Nat)) : Prop :=
  ∃ (x : Int) (t : ByteArray) (ua : Option Addr) (un uc q k2 : Nat), e = .returned (.tuple #[.agg #[.int .i64 (n : Int), .int .i64 (kd : Int), .int .i64 x, .string t, .slice ua un uc], .int .i64 (q : Int)]) ∧ Upd W c (.cells #[v, .int .i64 (k2 : Int), .int .i64 (s.size : Int), .bool st] 102 (0, 0)) w ∧ RelC q k2 R
/-- What records answers. -/
def RcA (W : World) (c : Nat) (v : Value) (s : ByteArray) (st : Bool) (e : Ending) (w : World) (R : Nat ⊕ (Nat × Nat)) : Prop :=
  ∃ (ua : Option Addr) (un uc q k2 : Nat), e = .returned (.tuple #[.slice ua un uc, .int .i64 (q : Int)]) ∧ Upd W c (.cells #[v, .int .i64 (k2 : Int), .int .i64 (s.size : Int), .bool st] 102 (0, 0)) w ∧ RelC q k2 R
theorem be_of {W : World} {c : Nat} {v : Value} {s : ByteArray} {k : Nat} {st : Bool} {n kd : Nat} {e : Ending} {w : World} {R : Nat ⊕ Nat} (h : BhA W c v s k st n kd e w R) : BeA W c v s st n kd e w (plcE k R) := by
  match R, h with
  | .inl k', ⟨⟨x, t, he⟩, hU⟩ => exact ⟨x, t, none, 0, 0, 0, k', he, hU, rfl, rfl⟩
  | .inr q, ⟨⟨x, t, he⟩, hq, hU⟩ => exact ⟨x, t, none, 0, 0, q, k, he, hU, rfl, hq, rfl⟩
set_option maxRecDepth 100000 in
set_option maxHeartbeats 1000000 in
theorem behind3 {W : World} {c : Nat} {v : Value} {s : ByteArray} {k n o : Nat} {st : Bool} {most : Int} {R : Nat ⊕ (Nat × Nat)} (h : CuAt W c v s k st) (ho : o ≤ 1048577)
    (hrec : ∀ X, Below W.heap.size W X → CuAt X c v s k st → Calls Tryd.prog 74 #[.pointer (some ⟨c, 0, none⟩), .int .i64 (n : Int), .int .i64 ((o + 1 : Nat) : Int), .int .i64 most] X fun e w => RcA X c v s st e w R) :
    Calls Tryd.prog 76 #[.pointer (some ⟨c, 0, none⟩), .int .i64 (n : Int), .int .i64 3, .int .i64 (o : Int), .int .i64 most] W fun e w => BeA W c v s st n 3 e w R := by
  have hcl := (Array.getElem?_eq_some_iff.1 h).1
  obtain ⟨X1, hX1⟩ : ∃ X1, X1 = W.alloc (.cells #[.int .i64 0, .int .i64 0, .int .i64 0, .string ⟨#[]⟩, .slice none 0 0] 36) := ⟨_, rfl⟩
  obtain ⟨X, hX⟩ : ∃ X, X = X1.alloc (.cells #[.int .i64 (n : Int), .int .i64 3, .int .i64 0, .string ⟨#[]⟩, .slice none 0 0] 36) := ⟨_, rfl⟩
  have hz1 : X1.heap.size = W.heap.size + 1 := by rw [hX1]; exact World.size_alloc _ _
  have hB1 : Below W.heap.size W X1 := by rw [hX1]; exact (Below.refl _ _).alloc (Nat.le_refl _) _
  have hB12 : Below X1.heap.size X1 X := by rw [hX]; exact (Below.refl _ _).alloc (Nat.le_refl _) _
  have hXB : Below W.heap.size W X := hB1.trans (hB12.mono (by omega))
  have ha : X.heap[W.heap.size]? = some (.cells #[.int .i64 0, .int .i64 0, .int .i64 0, .string ⟨#[]⟩, .slice none 0 0] 36 (0, 0)) := (hB12.block _ (by omega)).trans (by rw [hX1]; exact heap_alloc_new _ _)
  have hb : X.heap[W.heap.size + 1]? = some (.cells #[.int .i64 (n : Int), .int .i64 3, .int .i64 0, .string ⟨#[]⟩, .slice none 0 0] 36 (0, 0)) := by rw [← hz1, hX]; exact heap_alloc_new _ _
  have hXs : X.heap.size = W.heap.size + 2 := by rw [hX, World.size_alloc, hz1]
  have hXc : CuAt X c v s k st := (hXB.block c hcl).trans h
  have hcall := hrec X hXB hXc
  have HX : Hid ((W.alloc (.cells #[.int .i64 0, .int .i64 0, .int .i64 0, .string ⟨#[]⟩, .slice none 0 0] 36)).alloc (.cells #[.int .i64 (n : Int), .int .i64 3, .int .i64 0, .string ⟨#[]⟩, .slice none 0 0] 36) = X) := by show _ = _; rw [← hX1, hX]
  obtain ⟨o1, ho1⟩ : ∃ o1, o + 1 = o1 := ⟨_, rfl⟩
  rw [ho1] at hcall
  have eo : (o : Int) + 1 = (o1 : Int) := by omega
  have eo2 : wrap64 (o1 : Int) = (o1 : Int) := wrap64_id (by omega) (by omega)
  have Hcall := hide hcall
  clear hX hX1 hz1 hB1 hB12 hcall hrec ho1 ho
  go_enter Tryd.func76, Tryd.ntmps76
  go_wp2_with fail
  rw [unhide HX]
  refine (unhide Hcall).mono ?_
  intro e w1 hq
  obtain ⟨ua, un, uc, q, k2, rfl, hU, hrel⟩ := hq
  have ha1 := (hU.far W.heap.size (by omega) (by omega)).trans ha
  have hb1 := (hU.far (W.heap.size + 1) (by omega) (by omega)).trans hb
  obtain ⟨a0, a1, a2, a3, a4, af0, af1, af2, af3, af4⟩ := cells5_of ha1
  obtain ⟨b0, b1, b2, b3, b4, bf0, bf1, bf2, bf3, bf4⟩ := cells5_of hb1
  have HU := hide hU
  have Hrel := hide hrel
  have HXB := hide hXB
  clear hU hrel Hcall HX ha hb ha1 hb1 hXc hXB
  go_wp2_with fail
  (try simp only [Exit.inBlock, Exit.then])
  refine bodyPost_ret (v := .tuple #[.agg #[.int .i64 (n : Int), .int .i64 3, .int .i64 0, .string ⟨#[]⟩, .slice ua un uc], .int .i64 (q : Int)]) (by rw [results_cell_tmp (p := 10) (u := 11) (ty := 36) rfl]; go_simp) rfl ?_
  exact ⟨0, ⟨#[]⟩, ua, un, uc, q, k2, rfl, upd_low (unhide HXB) (unhide HU) (((((((Below.refl W.heap.size w1).setCell (p := ⟨W.heap.size + 1, 4, none⟩) (Nat.le_succ _) _).setCell (p := ⟨W.heap.size, 0, none⟩) (Nat.le_refl _) _).setCell (p := ⟨W.heap.size, 1, none⟩) (Nat.le_refl _) _).setCell (p := ⟨W.heap.size, 2, none⟩) (Nat.le_refl _) _).setCell (p := ⟨W.heap.size, 3, none⟩) (Nat.le_refl _) _).setCell (p := ⟨W.heap.size, 4, none⟩) (Nat.le_refl _) _) hcl, unhide Hrel⟩
/-- Every kind that behind is called with. -/
theorem behind_any {W : World} {c : Nat} {v : Value} {s : ByteArray} {k n o kd : Nat} {st : Bool} {most : Int} {R : Nat ⊕ (Nat × Nat)} (h : CuAt W c v s k st) (hB : Bs W v s) (hk : k ≤ s.size) (hs : s.size ≤ 1048576) (hne : ∀ a l cp, v = .slice (some a) l cp → 0 < s.size → a.block ≠ c ∧ cp ≤ 9223372036854775807) (ho : o ≤ 1048577) (hkd : kd ≤ 5) (h4 : kd ≠ 4)
    (hrec : kd = 3 → ∀ X, Below W.heap.size W X → CuAt X c v s k st → Calls Tryd.prog 74 #[.pointer (some ⟨c, 0, none⟩), .int .i64 (n : Int), .int .i64 ((o + 1 : Nat) : Int), .int .i64 most] X fun e w => RcA X c v s st e w R) :
    Calls Tryd.prog 76 #[.pointer (some ⟨c, 0, none⟩), .int .i64 (n : Int), .int .i64 (kd : Int), .int .i64 (o : Int), .int .i64 most] W fun e w => BeA W c v s st n kd e w (if kd = 3 then R else plcE k (bodyR s st k kd)) := by
  obtain rfl | rfl | rfl | rfl | rfl : kd = 0 ∨ kd = 1 ∨ kd = 2 ∨ kd = 3 ∨ kd = 5 := by omega
  · exact (behind0 h hB hk hs).mono fun e w hq => be_of hq
  · exact (behind1 h hB hk hs).mono fun e w hq => be_of hq
  · exact (behind2 h hB hk hs hne).mono fun e w hq => be_of hq
  · exact behind3 h ho (hrec rfl)
  · exact (behind5 h hB hk hs).mono fun e w hq => be_of hq
end Go.Proofs.YtfcjkkljmjmhmaaDoor
