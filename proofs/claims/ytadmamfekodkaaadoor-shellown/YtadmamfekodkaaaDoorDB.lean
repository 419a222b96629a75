import Derived.Test.YtadmamfekodkaaaDoorChecked
import Derived.WalkKit
import Derived.WalkSpells
import Derived.StillTactics
import Derived.OwnWalk
import Derived.Below
import Derived.Deep.LoopGhost
import Derived.Deep.AppendLies
import Derived.Maps.AppendAt
import Derived.Deep.RegionHeld3
import Derived.KernelRfl
import Derived.Laws.BitsLemmas
import Derived.Laws.BitsAllLaws
import Derived.Deep.DrawnRows
import Derived.BigQuiet
import Derived.Deep.QuietTactic
import Derived.RangeFuncLeaves
import Derived.Laws.IdiomStrings
import Derived.Laws.BytesArg
import Derived.Laws.CopyOwn
import Derived.Lib.SlBytesConst

namespace Go.Proofs.YtadmamfekodkaaaDoor
open Go.RowKit

def Hid (p : Prop) : Prop := p
theorem hide {p : Prop} (h : p) : Hid p := h
theorem unhide {p : Prop} (h : Hid p) : p := h

theorem Tryd.infoByte : (Tryd.prog.info? 5).map (fun i => (i.zero, i.size, i.bytes)) = some (some (.int .u8 0), 1, 1) := by kernel_rfl

/-- A slice of the call's own was written on: what else there was lies as it lay. -/
structure Ext (W : World) (v : Value) (W' : World) (v' : Value) : Prop where
  os : W'.os = W.os
  tape : W'.tape = W.tape
  output : W'.output = W.output
  size : W.heap.size ≤ W'.heap.size
  far : ∀ b, b < W.heap.size → some b ≠ v.ownBlock → W'.heap[b]? = W.heap[b]?
  own : v'.ownBlock = v.ownBlock ∨ ∃ g, v'.ownBlock = some g ∧ W.heap.size ≤ g
theorem Ext.refl (W : World) (v : Value) : Ext W v W v := ⟨rfl, rfl, rfl, Nat.le_refl _, fun _ _ _ => rfl, .inl rfl⟩
theorem Ext.trans {A B C : World} {x y z : Value} (h : Ext A x B y) (k : Ext B y C z) : Ext A x C z := by
  refine ⟨k.os.trans h.os, k.tape.trans h.tape, k.output.trans h.output, Nat.le_trans h.size k.size, fun b hb hn => ?_, ?_⟩
  · refine (k.far b (Nat.lt_of_lt_of_le hb h.size) (fun e => ?_)).trans (h.far b hb hn)
    rcases h.own with o | ⟨g, o, hg⟩
    · exact hn (e.trans o)
    · rw [o] at e
      have : b = g := by simpa using e
      omega
  · rcases k.own with o | ⟨g, o, hg⟩
    · rw [o]; exact h.own
    · exact .inr ⟨g, o, Nat.le_trans h.size hg⟩
theorem Ext.below {A B : World} {x y : Value} (h : Ext A x B y) {n : Nat} (hn : n ≤ A.heap.size) (hx : ∀ b, x.ownBlock = some b → n ≤ b) : Below n A B :=
  ⟨h.os, h.tape, h.output, h.size, fun b hb => h.far b (Nat.lt_of_lt_of_le hb hn) (fun e => by have := hx b e.symm; omega)⟩
theorem Ext.of_below {A B : World} (h : Below A.heap.size A B) (v : Value) : Ext A v B v := ⟨h.os, h.tape, h.output, h.size, fun b hb _ => h.block b hb, .inl rfl⟩

theorem Ext.grown {W w' : World} {v v' : Value} {ob : Obj} (h : (W.alloc ob).grownBy w' v.ownBlock) (hat : v'.ownBlock = v.ownBlock ∨ v'.ownBlock = some (W.alloc ob).heap.size) : Ext W v w' v' :=
  ⟨h.os, h.tape, h.output, by have := h.size; rw [World.size_alloc] at this; omega, fun b hb hn => (h.block b (by rw [World.size_alloc]; omega) hn).trans (Below.heap_alloc W ob b hb), hat.imp id fun e => ⟨_, e, by rw [World.size_alloc]; omega⟩⟩
theorem Ext.grown0 {W w' : World} {v v' : Value} (h : W.grownBy w' v.ownBlock) (hat : v'.ownBlock = v.ownBlock ∨ v'.ownBlock = some W.heap.size) : Ext W v w' v' :=
  ⟨h.os, h.tape, h.output, h.size, fun b hb hn => h.block b hb hn, hat.imp id fun e => ⟨_, e, Nat.le_refl _⟩⟩


theorem wrap64_eq (n : Int) : wrap64 n = (n + 9223372036854775808) % 18446744073709551616 - 9223372036854775808 := by
  first | rfl | (unfold wrap64; omega) | (simp [wrap64]; omega)
theorem wrapu_eq (n : Int) : IntKind.u64.wrap n = n % 18446744073709551616 := by simp [IntKind.wrap, IntKind.bits, IntKind.signed]
theorem retI {a c : Int} (h1 : a = c) : Ending.returned (.int .i64 a) = .returned (.int .i64 c) := by rw [h1]
theorem wrap64_small {a : Int} (h1 : -9223372036854775808 ≤ a) (h2 : a ≤ 9223372036854775807) : wrap64 a = a := by rw [wrap64_eq]; omega

theorem heap_new (w : World) (o : Obj) : (w.alloc o).heap[w.heap.size]? = some o := by
  unfold World.alloc
  simp

theorem below_drewN {n : Nat} {A B : World} (h : Below n A B) (k : Nat) : Below n A (B.drewN k) := ⟨h.os, h.tape, h.output, h.size, h.block⟩
theorem below_grow {n k : Nat} {A B C : World} {ob : Obj} {u : Value} (hB : Below n A B) (hn : n ≤ B.heap.size) (hg : ((B.drewN k).alloc ob).grownBy C u.ownBlock) (hu : ∀ b, u.ownBlock = some b → n ≤ b) : Below n A C := by
  have h1 := (below_drewN hB k).alloc (by simpa using hn) ob
  exact h1.trans ⟨hg.os, hg.tape, hg.output, hg.size, fun b hb => hg.block b (by have := h1.size; have h2 : (B.drewN k).heap.size = B.heap.size := rfl; rw [World.size_alloc] at *; omega) (fun e => by have := hu b e.symm; omega)⟩
theorem below_grow0 {n : Nat} {A B C : World} {ob : Obj} {u : Value} (hB : Below n A B) (hn : n ≤ B.heap.size) (hg : (B.alloc ob).grownBy C u.ownBlock) (hu : ∀ b, u.ownBlock = some b → n ≤ b) : Below n A C := by
  have h1 := hB.alloc hn ob
  exact h1.trans ⟨hg.os, hg.tape, hg.output, hg.size, fun b hb => hg.block b (by rw [World.size_alloc]; omega) (fun e => by have := hu b e.symm; omega)⟩

theorem below_set {n : Nat} {A W : World} (h : Below n A W) {g : Nat} (hg : n ≤ g) (i : Nat) (v : Value) : Below n A (W.setCell ⟨g, i, none⟩ v) :=
  ⟨h.os, h.tape, h.output, by rw [World.size_setCell]; exact h.size, fun b hb => (heap_setCell_other W ⟨g, i, none⟩ b v (by simp; omega)).trans (h.block b hb)⟩

/-- Bytes as cells. -/
def nb (l : List Nat) : List Value := l.map fun (b : Nat) => .int .u8 (b : Int)
@[simp] theorem nb_len (l : List Nat) : (nb l).length = l.length := by simp [nb]
theorem nb_append (a b : List Nat) : nb (a ++ b) = nb a ++ nb b := by simp [nb]
theorem nb_at (l : List Nat) (i : Nat) : (nb l)[i]? = l[i]?.map fun (b : Nat) => .int .u8 (b : Int) := by simp [nb]
theorem nb_one (l : List Nat) : ∀ v ∈ nb l, v.oneCell' = true := by
  intro v hv
  obtain ⟨b, _, rfl⟩ := List.mem_map.1 hv
  rfl
def Byt (l : List Nat) : Prop := ∀ x ∈ l, x < 256
theorem Byt.append {a b : List Nat} (h : Byt a) (k : Byt b) : Byt (a ++ b) := fun x hx => (List.mem_append.1 hx).elim (h x) (k x)
theorem Byt.at {l : List Nat} (h : Byt l) {i x : Nat} (hx : l[i]? = some x) : x < 256 := h x (List.mem_of_getElem? hx)

/-- The bytes of a slice of the call's own. -/
def Bytes (base : Nat) (W : World) (v : Value) (l : List Nat) : Prop := W.ownsRow base 5 1 v l.length (nb l)
theorem bytes_nil (base : Nat) (W : World) : Bytes base W (.slice none 0 0) [] := ⟨rfl, .inl ⟨rfl, rfl⟩⟩
theorem Ext.fresh {W W' : World} {v' : Value} (h : Ext W (.slice none 0 0) W' v') : Below W.heap.size W W' := h.below (Nat.le_refl _) (fun b e => by simp [Value.ownBlock] at e)

/-- Bytes that can be read. -/
def HasB (W : World) (v : Value) (l : List Nat) : Prop := ∃ a c, v = .slice a l.length c ∧ (l.length ≤ c ∧ c ≤ maxLen ∧ (a = none → c = 0)) ∧ (0 < l.length → ∃ g off, a = some ⟨g, off, none⟩ ∧ g < W.heap.size ∧ ∀ (i b : Nat), l[i]? = some b → W.cell? ⟨g, off + i, none⟩ = some (.int .u8 (b : Int)))
theorem hasB_nil (W : World) : HasB W (.slice none 0 0) [] := ⟨none, 0, rfl, ⟨Nat.le_refl _, Nat.zero_le _, fun _ => rfl⟩, fun h => by simp at h⟩
theorem Bytes.has {base : Nat} {W : World} {v : Value} {l : List Nat} (h : Bytes base W v l) : HasB W v l := by
  unfold Bytes at h
  have h' := h
  obtain ⟨_, ⟨rfl, h0⟩ | ⟨g, c, cur, rfl, _, _, hc1, hc2, _⟩⟩ := h
  · exact ⟨none, 0, by rw [h0], by rw [h0]; exact ⟨Nat.le_refl _, Nat.zero_le _, fun _ => rfl⟩, fun hp => by omega⟩
  · refine ⟨some ⟨g, 0, none⟩, c, rfl, ⟨hc1, hc2, nofun⟩, fun _ => ⟨g, 0, rfl, (h'.lt g rfl).2, fun i b hb => ?_⟩⟩
    have := h'.cells (g := g) rfl i (.int .u8 (b : Int)) (by simp [nb, hb])
    rwa [Go.WideShapes.add_plain] at this
theorem HasB.up {W w : World} {v : Value} {l : List Nat} (h : HasB W v l) (hb : Below W.heap.size W w) : HasB w v l := by
  obtain ⟨a, c, rfl, hm, h3⟩ := h
  refine ⟨a, c, rfl, hm, fun hp => ?_⟩
  obtain ⟨g, off, rfl, h4, h5⟩ := h3 hp
  exact ⟨g, off, rfl, Nat.lt_of_lt_of_le h4 hb.size, fun i k hk => (hb.cell (p := ⟨g, off + i, none⟩) h4).trans (h5 i k hk)⟩
theorem hasB_lit {W : World} {g : Nat} {l : List Nat} {t : TypeId} {fr : Nat × Nat} (h : W.heap[g]? = some (.cells (nb l).toArray t fr)) (n c : Nat) (hn : n = l.length) (hc : n ≤ c ∧ c ≤ 1000) : HasB W (.slice (some ⟨g, 0, none⟩) n c) l := by
  subst hn
  refine ⟨_, _, rfl, ⟨by omega, by unfold maxLen; omega, nofun⟩, fun _ => ⟨g, 0, rfl, (Array.getElem?_eq_some_iff.1 h).1, fun i b hb => ?_⟩⟩
  rw [Nat.zero_add, cell_of_row _ _ _ _ _ _ h]
  simp [nb, hb]
theorem HasB.take {W : World} {v : Value} {l : List Nat} (h : HasB W v l) (n : Nat) (hn : n ≤ l.length) : ∃ a c, v = .slice a l.length c ∧ HasB W (.slice a n c) (l.take n) := by
  obtain ⟨a, c, rfl, hm, h3⟩ := h
  have hl : (l.take n).length = n := by rw [List.length_take]; omega
  refine ⟨a, c, rfl, a, c, by rw [hl], ⟨by omega, hm.2.1, hm.2.2⟩, fun hp => ?_⟩
  obtain ⟨g, off, rfl, h4, h5⟩ := h3 (by omega)
  refine ⟨g, off, rfl, h4, fun i b hb => h5 i b ?_⟩
  rw [List.getElem?_take] at hb
  split at hb
  · exact hb
  · cases hb

/-- Numbers as a text. -/
def ofN (l : List Nat) : ByteArray := ⟨(l.map UInt8.ofNat).toArray⟩
theorem ofN_size (l : List Nat) : (ofN l).size = l.length := by simp [ofN, ByteArray.size]
theorem u8_back {x : Nat} (h : x < 256) : (UInt8.ofNat x).toNat = x := by simp; omega
theorem ofN_inj {a b : List Nat} (ha : Byt a) (hb : Byt b) (h : ofN a = ofN b) : a = b := by
  have h1 : a.map UInt8.ofNat = b.map UInt8.ofNat := by
    have := congrArg (fun s : ByteArray => s.data.toList) h
    simpa [ofN] using this
  have h2 := congrArg (List.map UInt8.toNat) h1
  rw [List.map_map, List.map_map] at h2
  have e : ∀ l, Byt l → l.map (UInt8.toNat ∘ UInt8.ofNat) = l := by
    intro l hl
    conv => rhs; rw [← List.map_id l]
    exact List.map_congr_left fun x hx => u8_back (hl x hx)
  rwa [e a ha, e b hb] at h2
theorem conv_any {W : World} {v : Value} {l : List Nat} (h : HasB W v l) (hl : Byt l) : (convert 30 9 v).run Tryd.prog W = .ok (.string (ofN l)) W := by
  obtain ⟨a, c, rfl, _, h3⟩ := h
  by_cases hp : 0 < l.length
  · obtain ⟨g, off, rfl, _, hc⟩ := h3 hp
    have := run_convert_bytes_back (P := Tryd.prog) W 30 9 5 ⟨g, off, none⟩ c (l.map UInt8.ofNat) Tryd.underlying30 Tryd.underlying5 Tryd.underlying9 (fun j hj => by
      rw [Go.WideShapes.add_plain]
      have hj' : j < l.length := by simpa using hj
      rw [hc j l[j] (List.getElem?_eq_getElem hj')]
      simp only [List.getElem_map]
      rw [u8_back (hl _ (List.getElem_mem hj'))])
    simpa [ofN] using this
  · obtain rfl : l = [] := by cases l; rfl; simp at hp
    cases a with
    | none =>
      rw [show ([] : List Nat).length = 0 from rfl, run_convert_bytes_string W 30 9 5 none 0 c Tryd.underlying30 Tryd.underlying5 Tryd.underlying9]
      simp [Conv.bytesToString]
      rfl
    | some ad =>
      have := run_convert_bytes_back (P := Tryd.prog) W 30 9 5 ad c [] Tryd.underlying30 Tryd.underlying5 Tryd.underlying9 (fun j hj => by simp at hj)
      simpa [ofN] using this
end Go.Proofs.YtadmamfekodkaaaDoor
