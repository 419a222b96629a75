import Derived.Test.YtfcjkkljmjmhmaaDoorChecked
import Derived.WalkKit
import Derived.WalkSpells
import Derived.StillTactics
import Derived.OwnWalk
import Derived.Below
import Derived.Deep.LoopGhost
import Derived.Deep.AppendLies
import Derived.Maps.AppendAt
import Derived.Deep.RegionHeld3
import Derived.KernelRfl
import Derived.Laws.BitsLemmas
import Derived.Laws.BitsAllLaws
import Derived.Deep.DrawnRows
import Derived.BigQuiet
import Derived.Deep.QuietTactic
import Derived.RangeFuncLeaves
namespace Go.Proofs.YtfcjkkljmjmhmaaDoor
open Go.RowKit

def Hid (p : Prop) : Prop := p
theorem hide {p : Prop} (h : p) : Hid p := h
theorem unhide {p : Prop} (h : Hid p) : p := h

theorem Tryd.infoByte : (Tryd.prog.info? 5).map (fun i => (i.zero, i.size, i.bytes)) = some (some (.int .u8 0), 1, 1) := by kernel_rfl

/-- A slice of the call's own was written on: what else there was lies as it lay. -/
structure Ext (W : World) (v : Value) (W' : World) (v' : Value) : Prop where
  os : W'.os = W.os
  tape : W'.tape = W.tape
  output : W'.output = W.output
  size : W.heap.size ≤ W'.heap.size
  far : ∀ b, b < W.heap.size → some b ≠ v.ownBlock → W'.heap[b]? = W.heap[b]?
  own : v'.ownBlock = v.ownBlock ∨ ∃ g, v'.ownBlock = some g ∧ W.heap.size ≤ g
theorem Ext.refl (W : World) (v : Value) : Ext W v W v := ⟨rfl, rfl, rfl, Nat.le_refl _, fun _ _ _ => rfl, .inl rfl⟩
theorem Ext.trans {A B C : World} {x y z : Value} (h : Ext A x B y) (k : Ext B y C z) : Ext A x C z := by
  refine ⟨k.os.trans h.os, k.tape.trans h.tape, k.output.trans h.output, Nat.le_trans h.size k.size, fun b hb hn => ?_, ?_⟩
  · refine (k.far b (Nat.lt_of_lt_of_le hb h.size) (fun e => ?_)).trans (h.far b hb hn)
    rcases h.own with o | ⟨g, o, hg⟩
    · exact hn (e.trans o)
    · rw [o] at e
      have : b = g := by simpa using e
      omega
  · rcases k.own with o | ⟨g, o, hg⟩
    · rw [o]; exact h.own
    · exact .inr ⟨g, o, Nat.le_trans h.size hg⟩
theorem Ext.below {A B : World} {x y : Value} (h : Ext A x B y) {n : Nat} (hn : n ≤ A.heap.size) (hx : ∀ b, x.ownBlock = some b → n ≤ b) : Below n A B :=
  ⟨h.os, h.tape, h.output, h.size, fun b hb => h.far b (Nat.lt_of_lt_of_le hb hn) (fun e => by have := hx b e.symm; omega)⟩
theorem Ext.of_below {A B : World} (h : Below A.heap.size A B) (v : Value) : Ext A v B v := ⟨h.os, h.tape, h.output, h.size, fun b hb _ => h.block b hb, .inl rfl⟩

theorem Ext.grown {W w' : World} {v v' : Value} {ob : Obj} (h : (W.alloc ob).grownBy w' v.ownBlock) (hat : v'.ownBlock = v.ownBlock ∨ v'.ownBlock = some (W.alloc ob).heap.size) : Ext W v w' v' :=
  ⟨h.os, h.tape, h.output, by have := h.size; rw [World.size_alloc] at this; omega, fun b hb hn => (h.block b (by rw [World.size_alloc]; omega) hn).trans (Below.heap_alloc W ob b hb), hat.imp id fun e => ⟨_, e, by rw [World.size_alloc]; omega⟩⟩
theorem Ext.grown0 {W w' : World} {v v' : Value} (h : W.grownBy w' v.ownBlock) (hat : v'.ownBlock = v.ownBlock ∨ v'.ownBlock = some W.heap.size) : Ext W v w' v' :=
  ⟨h.os, h.tape, h.output, h.size, fun b hb hn => h.block b hb hn, hat.imp id fun e => ⟨_, e, Nat.le_refl _⟩⟩

/-- The bytes of a slice of the call's own. -/
def Bytes (base : Nat) (W : World) (v : Value) (bs : List Int) : Prop := W.ownsRow base 5 1 v bs.length (bs.map fun b => .int .u8 b)
end Go.Proofs.YtfcjkkljmjmhmaaDoor
