import Derived.Test.YtaadpiimcaabkaaGreatDoorChecked
import Derived.WalkKit
import Derived.WalkSpells
import Derived.StillTactics
import Derived.OwnWalk
import Derived.Below
import Derived.Deep.LoopGhost
import Derived.Deep.AppendLies
import Derived.Maps.AppendAt
import Derived.Deep.RegionHeld3
import Derived.KernelRfl
import Derived.Laws.BitsLemmas
import Derived.Laws.BitsAllLaws
import Derived.Deep.DrawnRows
import Derived.BigQuiet
import Derived.Deep.QuietTactic
import Derived.RangeFuncLeaves
import Derived.Laws.IdiomStrings
import Derived.Laws.BytesArg
import Derived.Laws.CopyOwn
import Derived.Lib.SlBytesConst
import Derived.Laws.Externs
import Derived.Laws.StandIn

namespace Go.Proofs.YtaadpiimcaabkaaGreatDoor
open Go.RowKit

def Hid (p : Prop) : Prop := p
theorem hide {p : Prop} (h : p) : Hid p := h
theorem unhide {p : Prop} (h : Hid p) : p := h

theorem Tryz.infoByte : (Tryz.prog.info? 5).map (fun i => (i.zero, i.size, i.bytes)) = some (some (.int .u8 0), 1, 1) := by kernel_rfl

/-- A slice of the call's own was written on: what else there was lies as it lay. -/
structure Ext (W : World) (v : Value) (W' : World) (v' : Value) : Prop where
  os : W'.os = W.os
  tape : W'.tape = W.tape
  output : W'.output = W.output
  size : W.heap.size ≤ W'.heap.size
  far : ∀ b, b < W.heap.size → some b ≠ v.ownBlock → W'.heap[b]? = W.heap[b]?
  own : v'.ownBlock = v.ownBlock ∨ ∃ g, v'.ownBlock = some g ∧ W.heap.size ≤ g
theorem Ext.refl (W : World) (v : Value) : Ext W v W v := ⟨rfl, rfl, rfl, Nat.le_refl _, fun _ _ _ => rfl, .inl rfl⟩
theorem Ext.trans {A B C : World} {x y z : Value} (h : Ext A x B y) (k : Ext B y C z) : Ext A x C z := by
  refine ⟨k.os.trans h.os, k.tape.trans h.tape, k.output.trans h.output, Nat.le_trans h.size k.size, fun b hb hn => ?_, ?_⟩
  · refine (k.far b (Nat.lt_of_lt_of_le hb h.size) (fun e => ?_)).trans (h.far b hb hn)
    rcases h.own with o | ⟨g, o, hg⟩
    · exact hn (e.trans o)
    · rw [o] at e
      have : b = g := by simpa using e
      omega
  · rcases k.own with o | ⟨g, o, hg⟩
    · rw [o]; exact h.own
    · exact .inr ⟨g, o, Nat.le_trans h.size hg⟩
theorem Ext.below {A B : World} {x y : Value} (h : Ext A x B y) {n : Nat} (hn : n ≤ A.heap.size) (hx : ∀ b, x.ownBlock = some b → n ≤ b) : Below n A B :=
  ⟨h.os, h.tape, h.output, h.size, fun b hb => h.far b (Nat.lt_of_lt_of_le hb hn) (fun e => by have := hx b e.symm; omega)⟩
theorem Ext.of_below {A B : World} (h : Below A.heap.size A B) (v : Value) : Ext A v B v := ⟨h.os, h.tape, h.output, h.size, fun b hb _ => h.block b hb, .inl rfl⟩

theorem Ext.grown {W w' : World} {v v' : Value} {ob : Obj} (h : (W.alloc ob).grownBy w' v.ownBlock) (hat : v'.ownBlock = v.ownBlock ∨ v'.ownBlock = some (W.alloc ob).heap.size) : Ext W v w' v' :=
  ⟨h.os, h.tape, h.output, by have := h.size; rw [World.size_alloc] at this; omega, fun b hb hn => (h.block b (by rw [World.size_alloc]; omega) hn).trans (Below.heap_alloc W ob b hb), hat.imp id fun e => ⟨_, e, by rw [World.size_alloc]; omega⟩⟩
theorem Ext.grown0 {W w' : World} {v v' : Value} (h : W.grownBy w' v.ownBlock) (hat : v'.ownBlock = v.ownBlock ∨ v'.ownBlock = some W.heap.size) : Ext W v w' v' :=
  ⟨h.os, h.tape, h.output, h.size, fun b hb hn => h.block b hb hn, hat.imp id fun e => ⟨_, e, Nat.le_refl _⟩⟩


theorem wrap64_eq (n : Int) : wrap64 n = (n + 9223372036854775808) % 18446744073709551616 - 9223372036854775808 := by
  first | rfl | (unfold wrap64; omega) | (simp [wrap64]; omega)
theorem wrapu_eq (n : Int) : IntKind.u64.wrap n = n % 18446744073709551616 := by simp [IntKind.wrap, IntKind.bits, IntKind.signed]
theorem retI {a c : Int} (h1 : a = c) : Ending.returned (.int .i64 a) = .returned (.int .i64 c) := by rw [h1]
theorem wrap64_small {a : Int} (h1 : -9223372036854775808 ≤ a) (h2 : a ≤ 9223372036854775807) : wrap64 a = a := by rw [wrap64_eq]; omega

theorem heap_new (w : World) (o : Obj) : (w.alloc o).heap[w.heap.size]? = some o := by
  unfold World.alloc
  simp

theorem below_drewN {n : Nat} {A B : World} (h : Below n A B) (k : Nat) : Below n A (B.drewN k) := ⟨h.os, h.tape, h.output, h.size, h.block⟩
theorem below_grow {n k : Nat} {A B C : World} {ob : Obj} {u : Value} (hB : Below n A B) (hn : n ≤ B.heap.size) (hg : ((B.drewN k).alloc ob).grownBy C u.ownBlock) (hu : ∀ b, u.ownBlock = some b → n ≤ b) : Below n A C := by
  have h1 := (below_drewN hB k).alloc (by simpa using hn) ob
  exact h1.trans ⟨hg.os, hg.tape, hg.output, hg.size, fun b hb => hg.block b (by have := h1.size; have h2 : (B.drewN k).heap.size = B.heap.size := rfl; rw [World.size_alloc] at *; omega) (fun e => by have := hu b e.symm; omega)⟩
theorem below_grow0 {n : Nat} {A B C : World} {ob : Obj} {u : Value} (hB : Below n A B) (hn : n ≤ B.heap.size) (hg : (B.alloc ob).grownBy C u.ownBlock) (hu : ∀ b, u.ownBlock = some b → n ≤ b) : Below n A C := by
  have h1 := hB.alloc hn ob
  exact h1.trans ⟨hg.os, hg.tape, hg.output, hg.size, fun b hb => hg.block b (by rw [World.size_alloc]; omega) (fun e => by have := hu b e.symm; omega)⟩

theorem below_set {n : Nat} {A W : World} (h : Below n A W) {g : Nat} (hg : n ≤ g) (i : Nat) (v : Value) : Below n A (W.setCell ⟨g, i, none⟩ v) :=
  ⟨h.os, h.tape, h.output, by rw [World.size_setCell]; exact h.size, fun b hb => (heap_setCell_other W ⟨g, i, none⟩ b v (by simp; omega)).trans (h.block b hb)⟩

/-- Bytes as cells. -/
def nb (l : List Nat) : List Value := l.map fun (b : Nat) => .int .u8 (b : Int)
@[simp] theorem nb_len (l : List Nat) : (nb l).length = l.length := by simp [nb]
theorem nb_append (a b : List Nat) : nb (a ++ b) = nb a ++ nb b := by simp [nb]
theorem nb_at (l : List Nat) (i : Nat) : (nb l)[i]? = l[i]?.map fun (b : Nat) => .int .u8 (b : Int) := by simp [nb]
theorem nb_one (l : List Nat) : ∀ v ∈ nb l, v.oneCell' = true := by
  intro v hv
  obtain ⟨b, _, rfl⟩ := List.mem_map.1 hv
  rfl
def Byt (l : List Nat) : Prop := ∀ x ∈ l, x < 256
theorem Byt.append {a b : List Nat} (h : Byt a) (k : Byt b) : Byt (a ++ b) := fun x hx => (List.mem_append.1 hx).elim (h x) (k x)
theorem Byt.at {l : List Nat} (h : Byt l) {i x : Nat} (hx : l[i]? = some x) : x < 256 := h x (List.mem_of_getElem? hx)

/-- The bytes of a slice of the call's own. -/
def Bytes (base : Nat) (W : World) (v : Value) (l : List Nat) : Prop := W.ownsRow base 5 1 v l.length (nb l)
theorem bytes_nil (base : Nat) (W : World) : Bytes base W (.slice none 0 0) [] := ⟨rfl, .inl ⟨rfl, rfl⟩⟩
theorem Ext.fresh {W W' : World} {v' : Value} (h : Ext W (.slice none 0 0) W' v') : Below W.heap.size W W' := h.below (Nat.le_refl _) (fun b e => by simp [Value.ownBlock] at e)

/-- Bytes that can be read. -/
def HasB (W : World) (v : Value) (l : List Nat) : Prop := ∃ a c, v = .slice a l.length c ∧ (l.length ≤ c ∧ c ≤ maxLen ∧ (a = none → c = 0)) ∧ (0 < l.length → ∃ g off, a = some ⟨g, off, none⟩ ∧ g < W.heap.size ∧ ∀ (i b : Nat), l[i]? = some b → W.cell? ⟨g, off + i, none⟩ = some (.int .u8 (b : Int)))
theorem hasB_nil (W : World) : HasB W (.slice none 0 0) [] := ⟨none, 0, rfl, ⟨Nat.le_refl _, Nat.zero_le _, fun _ => rfl⟩, fun h => by simp at h⟩
theorem Bytes.has {base : Nat} {W : World} {v : Value} {l : List Nat} (h : Bytes base W v l) : HasB W v l := by
  unfold Bytes at h
  have h' := h
  obtain ⟨_, ⟨rfl, h0⟩ | ⟨g, c, cur, rfl, _, _, hc1, hc2, _⟩⟩ := h
  · exact ⟨none, 0, by rw [h0], by rw [h0]; exact ⟨Nat.le_refl _, Nat.zero_le _, fun _ => rfl⟩, fun hp => by omega⟩
  · refine ⟨some ⟨g, 0, none⟩, c, rfl, ⟨hc1, hc2, nofun⟩, fun _ => ⟨g, 0, rfl, (h'.lt g rfl).2, fun i b hb => ?_⟩⟩
    have := h'.cells (g := g) rfl i (.int .u8 (b : Int)) (by simp [nb, hb])
    rwa [Go.WideShapes.add_plain] at this
theorem HasB.up {W w : World} {v : Value} {l : List Nat} (h : HasB W v l) (hb : Below W.heap.size W w) : HasB w v l := by
  obtain ⟨a, c, rfl, hm, h3⟩ := h
  refine ⟨a, c, rfl, hm, fun hp => ?_⟩
  obtain ⟨g, off, rfl, h4, h5⟩ := h3 hp
  exact ⟨g, off, rfl, Nat.lt_of_lt_of_le h4 hb.size, fun i k hk => (hb.cell (p := ⟨g, off + i, none⟩) h4).trans (h5 i k hk)⟩
theorem hasB_lit {W : World} {g : Nat} {l : List Nat} {t : TypeId} {fr : Nat × Nat} (h : W.heap[g]? = some (.cells (nb l).toArray t fr)) (n c : Nat) (hn : n = l.length) (hc : n ≤ c ∧ c ≤ 1000) : HasB W (.slice (some ⟨g, 0, none⟩) n c) l := by
  subst hn
  refine ⟨_, _, rfl, ⟨by omega, by unfold maxLen; omega, nofun⟩, fun _ => ⟨g, 0, rfl, (Array.getElem?_eq_some_iff.1 h).1, fun i b hb => ?_⟩⟩
  rw [Nat.zero_add, cell_of_row _ _ _ _ _ _ h]
  simp [nb, hb]
theorem HasB.take {W : World} {v : Value} {l : List Nat} (h : HasB W v l) (n : Nat) (hn : n ≤ l.length) : ∃ a c, v = .slice a l.length c ∧ HasB W (.slice a n c) (l.take n) := by
  obtain ⟨a, c, rfl, hm, h3⟩ := h
  have hl : (l.take n).length = n := by rw [List.length_take]; omega
  refine ⟨a, c, rfl, a, c, by rw [hl], ⟨by omega, hm.2.1, hm.2.2⟩, fun hp => ?_⟩
  obtain ⟨g, off, rfl, h4, h5⟩ := h3 (by omega)
  refine ⟨g, off, rfl, h4, fun i b hb => h5 i b ?_⟩
  rw [List.getElem?_take] at hb
  split at hb
  · exact hb
  · cases hb

/-- Numbers as a text. -/
def ofN (l : List Nat) : ByteArray := ⟨(l.map UInt8.ofNat).toArray⟩
theorem ofN_size (l : List Nat) : (ofN l).size = l.length := by simp [ofN, ByteArray.size]
theorem u8_back {x : Nat} (h : x < 256) : (UInt8.ofNat x).toNat = x := by simp; omega
theorem ofN_inj {a b : List Nat} (ha : Byt a) (hb : Byt b) (h : ofN a = ofN b) : a = b := by
  have h1 : a.map UInt8.ofNat = b.map UInt8.ofNat := by
    have := congrArg (fun s : ByteArray => s.data.toList) h
    simpa [ofN] using this
  have h2 := congrArg (List.map UInt8.toNat) h1
  rw [List.map_map, List.map_map] at h2
  have e : ∀ l, Byt l → l.map (UInt8.toNat ∘ UInt8.ofNat) = l := by
    intro l hl
    conv => rhs; rw [← List.map_id l]
    exact List.map_congr_left fun x hx => u8_back (hl x hx)
  rwa [e a ha, e b hb] at h2
theorem conv_any {W : World} {v : Value} {l : List Nat} (h : HasB W v l) (hl : Byt l) : (convert 58 9 v).run Tryz.prog W = .ok (.string (ofN l)) W := by
  obtain ⟨a, c, rfl, _, h3⟩ := h
  by_cases hp : 0 < l.length
  · obtain ⟨g, off, rfl, _, hc⟩ := h3 hp
    have := run_convert_bytes_back (P := Tryz.prog) W 58 9 5 ⟨g, off, none⟩ c (l.map UInt8.ofNat) Tryz.underlying58 Tryz.underlying5 Tryz.underlying9 (fun j hj => by
      rw [Go.WideShapes.add_plain]
      have hj' : j < l.length := by simpa using hj
      rw [hc j l[j] (List.getElem?_eq_getElem hj')]
      simp only [List.getElem_map]
      rw [u8_back (hl _ (List.getElem_mem hj'))])
    simpa [ofN] using this
  · obtain rfl : l = [] := by cases l; rfl; simp at hp
    cases a with
    | none =>
      rw [show ([] : List Nat).length = 0 from rfl, run_convert_bytes_string W 58 9 5 none 0 c Tryz.underlying58 Tryz.underlying5 Tryz.underlying9]
      simp [Conv.bytesToString]
      rfl
    | some ad =>
      have := run_convert_bytes_back (P := Tryz.prog) W 58 9 5 ad c [] Tryz.underlying58 Tryz.underlying5 Tryz.underlying9 (fun j hj => by simp at hj)
      simpa [ofN] using this
end Go.Proofs.YtaadpiimcaabkaaGreatDoor

namespace Go.Proofs.YtaadpiimcaabkaaGreatDoor
open Go.RowKit

/-- A text's bytes. -/
def strN (s : ByteArray) : List Nat := s.data.toList.map UInt8.toNat
theorem strN_len (s : ByteArray) : (strN s).length = s.size := by simp [strN]
theorem strN_byt (s : ByteArray) : Byt (strN s) := by
  intro x hx
  obtain ⟨b, _, rfl⟩ := List.mem_map.1 hx
  exact b.toNat_lt
end Go.Proofs.YtaadpiimcaabkaaGreatDoor

namespace Go.Proofs.YtaadpiimcaabkaaGreatDoor
open Go.RowKit
attribute [local go_sem ↓] Go.wp_at_zero Go.wp_at_succ

theorem strN_get (s : ByteArray) (n x : Nat) (h : (strN s)[n]? = some x) (hn : n < s.size) : (s[n]'hn).toNat = x := by
  unfold strN at h
  rw [List.getElem?_map] at h
  obtain ⟨b, hb, rfl⟩ := Option.map_eq_some_iff.1 h
  have hd : n < s.data.toList.length := by simpa using hn
  rw [List.getElem?_eq_getElem hd] at hb
  rw [← Option.some.inj hb]
  rfl
theorem strN_ex (s : ByteArray) (n : Nat) (hn : n < s.size) : ∃ x, (strN s)[n]? = some x ∧ x < 256 ∧ (s[n]'hn).toNat = x := by
  have hl : n < (strN s).length := by rw [strN_len]; exact hn
  have h := List.getElem?_eq_getElem hl
  exact ⟨_, h, (strN_byt s).at h, strN_get s n _ h hn⟩

theorem leF {c : Nat} {k : Int} (h : k < (c : Int)) : decide ((c : Int) ≤ k) = false := by simp; omega
theorem leT {c : Nat} {k : Int} (h : (c : Int) ≤ k) : decide ((c : Int) ≤ k) = true := by simp; omega
theorem geF {c : Nat} {k : Int} (h : (c : Int) < k) : decide (k ≤ (c : Int)) = false := by simp; omega
theorem geT {c : Nat} {k : Int} (h : k ≤ (c : Int)) : decide (k ≤ (c : Int)) = true := by simp; omega
theorem eqF {c : Nat} {k : Int} (h : ¬ ((c : Int) = k)) : ((c : Int) == k) = false := by simp; omega
theorem ltF {a : Nat} {k : Int} (h : (a : Int) ≤ k) : decide (k < (a : Int)) = false := by simp; omega
theorem ltT {a : Nat} {k : Int} (h : k < (a : Int)) : decide (k < (a : Int)) = true := by simp; omega
theorem isEmptyF {s : ByteArray} (h : ¬ s.size = 0) : s.toList.isEmpty = false := by
  rw [ByteArray.toList_eq]
  cases hd : s.data.toList with
  | nil => exact absurd (by have := congrArg List.length hd; simpa using this) h
  | cons a r => rfl
theorem isEmptyT {s : ByteArray} (h : s.size = 0) : s = ⟨#[]⟩ := by
  cases s with | mk d => cases d with | mk l => cases l with | nil => rfl | cons a r => simp [ByteArray.size] at h


def isLet (c : Nat) : Prop := (65 ≤ c ∧ c ≤ 90) ∨ (97 ≤ c ∧ c ≤ 122) ∨ c = 95
def isDig (c : Nat) : Prop := 48 ≤ c ∧ c ≤ 57
def isSgn (c : Nat) : Prop := c ∈ [123, 125, 91, 93, 40, 41, 60, 62, 59, 44, 61, 46, 45]
instance (c : Nat) : Decidable (isLet c) := by unfold isLet; infer_instance
instance (c : Nat) : Decidable (isDig c) := by unfold isDig; infer_instance
instance (c : Nat) : Decidable (isSgn c) := by unfold isSgn; infer_instance
/-- The class of a byte. -/
def cls (c : Nat) : Nat := if (9 ≤ c ∧ c ≤ 13) ∨ c = 32 then 1 else if isLet c then 2 else if isDig c then 3 else if c = 39 ∨ c = 34 then 4 else if isSgn c then 5 else if c = 47 then 6 else 0
theorem cls_let {c : Nat} : cls c = 2 ↔ isLet c := by
  unfold cls
  constructor
  · intro h
    repeat' split at h
    all_goals first | assumption | omega
  · intro h
    rw [if_neg (by unfold isLet at h; omega), if_pos h]
theorem cls_dig {c : Nat} : cls c = 3 ↔ isDig c := by
  unfold cls
  constructor
  · intro h
    repeat' split at h
    all_goals first | assumption | omega
  · intro h
    rw [if_neg (by unfold isDig at h; omega), if_neg (by unfold isDig at h; unfold isLet; omega), if_pos h]

theorem sgn_idx {c : Nat} (hc : c < 256) : (0 ≤ firstIdx ⟨#[123, 125, 91, 93, 40, 41, 60, 62, 59, 44, 61, 46, 45]⟩ (Nat.toUInt8 c)) ↔ isSgn c := by
  have key : ∀ k : Fin 256, (0 ≤ firstIdx ⟨#[123, 125, 91, 93, 40, 41, 60, 62, 59, 44, 61, 46, 45]⟩ (Nat.toUInt8 k.val)) ↔ isSgn k.val := by decide +kernel
  exact key ⟨c, hc⟩
set_option maxRecDepth 100000 in
theorem idx_any (W : World) (s : ByteArray) (c : Int) :
    Calls Tryz.prog 148 #[.string s, .int .u8 c] W fun e w => e = .returned (.int .i64 (firstIdx s c.toNat.toUInt8)) ∧ w = W := by
  go_enter Tryz.func148, Tryz.ntmps148
  go_wp2
  rw [run_callFunc_indexByte Tryz.func194 (by kernel_rfl) (by kernel_rfl) (by kernel_rfl) (by kernel_rfl), run_indexByte_string]
  simp only [Result.andThen]
  go_wp2
  go_ret
  exact ⟨rfl, rfl⟩
end Go.Proofs.YtaadpiimcaabkaaGreatDoor

namespace Go.Proofs.YtaadpiimcaabkaaGreatDoor
open Go.RowKit

/-- Declarations. -/
structure Fd where
  card : Int
  key : ByteArray
  ty : ByteArray
  name : ByteArray
  num : Int
  oneof : Int
def Fd.cs (d : Fd) : List Value := [.int .i64 d.card, .string d.key, .string d.ty, .string d.name, .int .i64 d.num, .int .i64 d.oneof]
structure En where
  name : ByteArray
  vals : List (ByteArray × Int)
  res : List (Int × Int)
  gone : List ByteArray
inductive Ms where
  | mk (name : ByteArray) (fs : List Fd) (os : List ByteArray) (ms : List Ms) (es : List En) (rs : List (Int × Int)) (gs : List ByteArray) : Ms
structure Fl where
  pkg : ByteArray
  imps : List ByteArray
  ms : List Ms
  es : List En
def strC (l : List ByteArray) : List Value := l.map Value.string
def fldC (l : List Fd) : List Value := l.flatMap Fd.cs
def evC (l : List (ByteArray × Int)) : List Value := l.flatMap fun p => [.string p.1, .int .i64 p.2]
def rgC (l : List (Int × Int)) : List Value := l.flatMap fun p => [.int .i64 p.1, .int .i64 p.2]
/-- The cells at a place of a row whose elements have so many. -/
theorem flat_at {α : Type} (f : α → List Value) (k : Nat) (hf : ∀ x, (f x).length = k) : ∀ (l : List α) (i j : Nat) (x : α), l[i]? = some x → j < k → (l.flatMap f)[i * k + j]? = (f x)[j]?
  | [], i, j, x, h, _ => by simp at h
  | y :: r, 0, j, x, h, hj => by
    obtain rfl : y = x := by simpa using h
    rw [List.flatMap_cons, Nat.zero_mul, Nat.zero_add, List.getElem?_append_left (by rw [hf]; exact hj)]
  | y :: r, i + 1, j, x, h, hj => by
    rw [List.flatMap_cons, List.getElem?_append_right (by rw [hf, Nat.succ_mul]; omega), hf, show (i + 1) * k + j - k = i * k + j by rw [Nat.succ_mul]; omega]
    exact flat_at f k hf r i j x (by simpa using h) hj
theorem flat_len {α : Type} (f : α → List Value) (k : Nat) (hf : ∀ x, (f x).length = k) : ∀ (l : List α), (l.flatMap f).length = l.length * k
  | [] => by simp
  | y :: r => by rw [List.flatMap_cons, List.length_append, hf, flat_len f k hf r, List.length_cons, Nat.succ_mul]; omega
theorem strC_len (l : List ByteArray) : (strC l).length = l.length := by simp [strC]
theorem fldC_len (l : List Fd) : (fldC l).length = l.length * 6 := flat_len _ 6 (fun _ => rfl) l
theorem evC_len (l : List (ByteArray × Int)) : (evC l).length = l.length * 2 := flat_len _ 2 (fun _ => rfl) l
theorem rgC_len (l : List (Int × Int)) : (rgC l).length = l.length * 2 := flat_len _ 2 (fun _ => rfl) l
theorem strC_at {l : List ByteArray} {i : Nat} {t : ByteArray} (h : l[i]? = some t) : (strC l)[i]? = some (.string t) := by unfold strC; rw [List.getElem?_map, h]; rfl
theorem fldC_at {l : List Fd} {i : Nat} {d : Fd} (h : l[i]? = some d) {j : Nat} (hj : j < 6) : (fldC l)[i * 6 + j]? = d.cs[j]? := flat_at _ 6 (fun _ => rfl) l i j d h hj
theorem evC_at {l : List (ByteArray × Int)} {i : Nat} {d : ByteArray × Int} (h : l[i]? = some d) {j : Nat} (hj : j < 2) : (evC l)[i * 2 + j]? = [Value.string d.1, .int .i64 d.2][j]? := flat_at _ 2 (fun _ => rfl) l i j d h hj
theorem rgC_at {l : List (Int × Int)} {i : Nat} {d : Int × Int} (h : l[i]? = some d) {j : Nat} (hj : j < 2) : (rgC l)[i * 2 + j]? = [Value.int .i64 d.1, .int .i64 d.2][j]? := flat_at _ 2 (fun _ => rfl) l i j d h hj
/-- A row that can be read. -/
def Rl (w : World) (v : Value) (n : Nat) (xs : List Value) : Prop := ∃ a c, v = .slice a n c ∧ n ≤ 140737488355328 ∧ (0 < n → ∃ g o, a = some ⟨g, o, none⟩ ∧ g < w.heap.size ∧ ∀ j x, xs[j]? = some x → w.cell? ⟨g, o + j, none⟩ = some x)
theorem Rl.up {w w' : World} {v : Value} {n : Nat} {xs : List Value} (h : Rl w v n xs) (hb : Below w.heap.size w w') : Rl w' v n xs := by
  obtain ⟨a, c, rfl, h1, h2⟩ := h
  refine ⟨a, c, rfl, h1, fun hp => ?_⟩
  obtain ⟨g, o, rfl, h3, h4⟩ := h2 hp
  exact ⟨g, o, rfl, Nat.lt_of_lt_of_le h3 hb.size, fun j x hx => (hb.cell (p := ⟨g, o + j, none⟩) h3).trans (h4 j x hx)⟩
/-- Enums in a row. -/
inductive EsL (w : World) : List Value → List En → Prop
  | nil : EsL w [] []
  | cons {e : En} {vv vr vg : Value} {rest : List Value} {l : List En} (hv : Rl w vv e.vals.length (evC e.vals)) (hr : Rl w vr e.res.length (rgC e.res)) (hg : Rl w vg e.gone.length (strC e.gone)) (ht : EsL w rest l) : EsL w (.string e.name :: vv :: vr :: vg :: rest) (e :: l)
theorem EsL.up {w w' : World} {cs : List Value} {l : List En} (h : EsL w cs l) (hb : Below w.heap.size w w') : EsL w' cs l := by
  induction h with
  | nil => exact .nil
  | cons hv hr hg _ ih => exact .cons (hv.up hb) (hr.up hb) (hg.up hb) ih
theorem EsL.len {w : World} {cs : List Value} {l : List En} (h : EsL w cs l) : cs.length = l.length * 4 := by
  induction h with
  | nil => rfl
  | cons hv hr hg _ ih => simp only [List.length_cons, ih]; omega
theorem EsL.at {w : World} {cs : List Value} {l : List En} (h : EsL w cs l) : ∀ (i : Nat) (e : En), l[i]? = some e → ∃ vv vr vg, (cs.drop (i * 4)).take 4 = [.string e.name, vv, vr, vg] ∧ Rl w vv e.vals.length (evC e.vals) ∧ Rl w vr e.res.length (rgC e.res) ∧ Rl w vg e.gone.length (strC e.gone) := by
  induction h with
  | nil => intro i e h; simp at h
  | cons hv hr hg _ ih =>
    intro i e h
    cases i with
    | zero =>
      obtain rfl := Option.some.inj (h.symm.trans rfl)
      exact ⟨_, _, _, rfl, hv, hr, hg⟩
    | succ i =>
      obtain ⟨vv, vr, vg, h1, h2⟩ := ih i e (by simpa using h)
      refine ⟨vv, vr, vg, ?_, h2⟩
      rw [show (i + 1) * 4 = i * 4 + 4 by omega]
      exact h1
/-- Messages in a row. -/
inductive MsL (w : World) : List Value → List Ms → Prop
  | nil : MsL w [] []
  | cons {nm : ByteArray} {fs : List Fd} {os : List ByteArray} {ms : List Ms} {es : List En} {rs : List (Int × Int)} {gs : List ByteArray} {vf vo vm ve vr vg : Value} {cm ce rest : List Value} {l : List Ms}
      (hf : Rl w vf fs.length (fldC fs)) (ho : Rl w vo os.length (strC os)) (hm : Rl w vm ms.length cm) (hms : MsL w cm ms) (he : Rl w ve es.length ce) (hes : EsL w ce es)
      (hr : Rl w vr rs.length (rgC rs)) (hg : Rl w vg gs.length (strC gs)) (ht : MsL w rest l) : MsL w (.string nm :: vf :: vo :: vm :: ve :: vr :: vg :: rest) (.mk nm fs os ms es rs gs :: l)
theorem MsL.up {w w' : World} {cs : List Value} {l : List Ms} (h : MsL w cs l) (hb : Below w.heap.size w w') : MsL w' cs l := by
  induction h with
  | nil => exact .nil
  | cons hf ho hm _ he hes hr hg _ ih1 ih2 => exact .cons (hf.up hb) (ho.up hb) (hm.up hb) ih1 (he.up hb) (hes.up hb) (hr.up hb) (hg.up hb) ih2
theorem MsL.len {w : World} {cs : List Value} {l : List Ms} (h : MsL w cs l) : cs.length = l.length * 7 := by
  induction h with
  | nil => rfl
  | cons hf ho hm _ he hes hr hg _ _ ih2 => simp only [List.length_cons, ih2]; omega
/-- One message's cells. -/
structure MsV (w : World) (m : Ms) (vf vo vm ve vr vg : Value) (nm : ByteArray) (fs : List Fd) (os : List ByteArray) (ms : List Ms) (es : List En) (rs : List (Int × Int)) (gs : List ByteArray) (cm ce : List Value) : Prop where
  is : m = .mk nm fs os ms es rs gs
  hf : Rl w vf fs.length (fldC fs)
  ho : Rl w vo os.length (strC os)
  hm : Rl w vm ms.length cm
  hms : MsL w cm ms
  he : Rl w ve es.length ce
  hes : EsL w ce es
  hr : Rl w vr rs.length (rgC rs)
  hg : Rl w vg gs.length (strC gs)
theorem MsL.at {w : World} {cs : List Value} {l : List Ms} (h : MsL w cs l) : ∀ (i : Nat) (m : Ms), l[i]? = some m → ∃ vf vo vm ve vr vg nm fs os ms es rs gs cm ce, (cs.drop (i * 7)).take 7 = [.string nm, vf, vo, vm, ve, vr, vg] ∧ MsV w m vf vo vm ve vr vg nm fs os ms es rs gs cm ce := by
  induction h with
  | nil => intro i e h; simp at h
  | cons hf ho hm hms he hes hr hg _ _ ih =>
    intro i m h
    cases i with
    | zero =>
      obtain rfl := Option.some.inj (h.symm.trans rfl)
      exact ⟨_, _, _, _, _, _, _, _, _, _, _, _, _, _, _, rfl, ⟨rfl, hf, ho, hm, hms, he, hes, hr, hg⟩⟩
    | succ i =>
      obtain ⟨vf, vo, vm, ve, vr, vg, nm, fs, os, ms, es, rs, gs, cm, ce, h1, h2⟩ := ih i m (by simpa using h)
      refine ⟨vf, vo, vm, ve, vr, vg, nm, fs, os, ms, es, rs, gs, cm, ce, ?_, h2⟩
      rw [show (i + 1) * 7 = i * 7 + 7 by omega]
      exact h1
/-- A file. -/
structure FlL (w : World) (v : Value) (F : Fl) (vi vm ve : Value) (cm ce : List Value) : Prop where
  is : v = .agg #[.string F.pkg, vi, vm, ve]
  hi : Rl w vi F.imps.length (strC F.imps)
  hm : Rl w vm F.ms.length cm
  hms : MsL w cm F.ms
  he : Rl w ve F.es.length ce
  hes : EsL w ce F.es
theorem FlL.up {w w' : World} {v vi vm ve : Value} {F : Fl} {cm ce : List Value} (h : FlL w v F vi vm ve cm ce) (hb : Below w.heap.size w w') : FlL w' v F vi vm ve cm ce := ⟨h.is, h.hi.up hb, h.hm.up hb, h.hms.up hb, h.he.up hb, h.hes.up hb⟩
end Go.Proofs.YtaadpiimcaabkaaGreatDoor
