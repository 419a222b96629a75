import Derived.Test.YtlblllghgdfpoaaDoorDB

namespace Go.Proofs.YtlblllghgdfpoaaDoor
open Go.RowKit

/-- Lists of bytes that can be read. -/
def HasBB (W : World) (v : Value) (ls : List (List Nat)) : Prop := ∃ a c, v = .slice a ls.length c ∧ (ls.length ≤ c ∧ c ≤ maxLen ∧ (a = none → c = 0)) ∧ (0 < ls.length → ∃ g off, a = some ⟨g, off, none⟩ ∧ g < W.heap.size ∧ ∀ (i : Nat) (l : List Nat), ls[i]? = some l → ∃ u, W.cell? ⟨g, off + i, none⟩ = some u ∧ HasB W u l)
theorem HasBB.up {W w : World} {v : Value} {ls : List (List Nat)} (h : HasBB W v ls) (hb : Below W.heap.size W w) : HasBB w v ls := by
  obtain ⟨a, c, rfl, hm, h3⟩ := h
  refine ⟨a, c, rfl, hm, fun hp => ?_⟩
  obtain ⟨g, off, rfl, h4, h5⟩ := h3 hp
  refine ⟨g, off, rfl, Nat.lt_of_lt_of_le h4 hb.size, fun i l hl => ?_⟩
  obtain ⟨u, hu, hB⟩ := h5 i l hl
  exact ⟨u, (hb.cell (p := ⟨g, off + i, none⟩) h4).trans hu, hB.up hb⟩
theorem hasBB_one {W : World} {v : Value} {l : List Nat} (h : HasB W v l) (t : TypeId) : HasBB (W.alloc (.cells #[v] t)) (.slice (some ⟨W.heap.size, 0, none⟩) 1 1) [l] := by
  refine ⟨_, _, rfl, ⟨Nat.le_refl _, by unfold maxLen; decide, nofun⟩, fun _ => ⟨W.heap.size, 0, rfl, by rw [World.size_alloc]; omega, fun i l' hl => ?_⟩⟩
  match i, hl with
  | 0, hl =>
    obtain rfl := Option.some.inj hl
    refine ⟨v, ?_, h.up ((Below.refl _ _).alloc (Nat.le_refl _) _)⟩
    rw [cell_of_row _ _ _ _ _ _ (heap_new W _)]
    rfl
  | i + 1, hl => simp at hl
end Go.Proofs.YtlblllghgdfpoaaDoor

namespace Go.Proofs.YtlblllghgdfpoaaDoor
open Go.RowKit
attribute [local go_sem ↓] Go.wp_at_zero Go.wp_at_succ

theorem str_dec {l l' : List Nat} (hl : Byt l) (hl' : Byt l') : ((ofN l).toList == (ofN l').toList) = decide (l = l') := by
  rw [ByteArray.toList_eq, ByteArray.toList_eq]
  by_cases e : l = l'
  · subst e; simp
  · have : (ofN l).data.toList ≠ (ofN l').data.toList := fun q => e (ofN_inj hl hl' (by
      cases h1 : ofN l; cases h2 : ofN l'; rw [h1, h2] at q; congr 1; exact Array.toList_inj.1 q))
    rw [decide_eq_false e]
    exact beq_eq_false_iff_ne.2 this
theorem retB {a b : Bool} (h : a = b) : Ending.returned (.bool a) = .returned (.bool b) := by rw [h]
theorem same_any {W : World} {v u : Value} {l l' : List Nat} (h : HasB W v l) (h' : HasB W u l') (hl : Byt l) (hl' : Byt l') :
    Calls Tryd.prog 13 #[v, u] W fun o W' => o = .returned (.bool (decide (l = l'))) ∧ W' = W := by
  have c1 := conv_any h hl
  have c2 := conv_any h' hl'
  go_enter Tryd.func13, Tryd.ntmps13
  go_wp2
  go_ret
  exact ⟨retB (str_dec hl hl'), rfl⟩

def m6 : List Nat := [171, 171, 171, 171, 171, 171]
/-- Bytes with marked room behind them. -/
def Room (W : World) (g : Nat) (l : List Nat) : Prop := W.heap[g]? = some (.cells (nb (l ++ m6)).toArray 5 (0, 0))
theorem Room.lt {W : World} {g : Nat} {l : List Nat} (h : Room W g l) : g < W.heap.size := (Array.getElem?_eq_some_iff.1 h).1
theorem Room.has {W : World} {g : Nat} {l : List Nat} (h : Room W g l) (hl : l.length ≤ 281474976710656) : HasB W (.slice (some ⟨g, 0, none⟩) l.length (l.length + 6)) l := by
  refine ⟨_, _, rfl, ⟨by omega, by unfold maxLen; omega, nofun⟩, fun _ => ⟨g, 0, rfl, h.lt, fun i b hb => ?_⟩⟩
  rw [Nat.zero_add, cell_of_row _ _ _ _ _ _ h]
  have : i < l.length := (List.getElem?_eq_some_iff.1 hb).1
  rw [List.getElem?_toArray, nb_at, List.getElem?_append_left this, hb]
  rfl
theorem Room.up {W w : World} {g : Nat} {l : List Nat} (h : Room W g l) (hb : Below W.heap.size W w) : Room w g l := (hb.block g h.lt).trans h
theorem Room.cell {W : World} {g : Nat} {l : List Nat} (h : Room W g l) {i b : Nat} (hb : (l ++ m6)[i]? = some b) : W.cell? ⟨g, i, none⟩ = some (.int .u8 (b : Int)) := by
  rw [cell_of_row _ _ _ _ _ _ h, List.getElem?_toArray, nb_at, hb]
  rfl

theorem made_row {W : World} {base g n : Nat} (h : W.ownsRow base 5 1 (.slice (some ⟨g, 0, none⟩) n n) n (madeCells (Value.cells (.int .u8 0)) (n * 1)).toList) : W.heap[g]? = some (.cells (nb (List.replicate n 0)).toArray 5 (0, 0)) := by
  obtain ⟨_, ⟨h0, _⟩ | ⟨g', c, cur, e, _, hg, _, _, hs, ht⟩⟩ := h
  · simp at h0
  · simp only [Value.slice.injEq, Option.some.injEq, Addr.mk.injEq] at e
    obtain ⟨⟨rfl, _⟩, _, rfl⟩ := e
    rw [hg]
    have e1 : (madeCells (Value.cells (.int .u8 0)) (n * 1)).toList = nb (List.replicate n 0) := by
      rw [show Value.cells (.int .u8 0) = #[.int .u8 0] from rfl, toList_madeCells_one]
      simp [nb]
    rw [e1, List.take_of_length_le (by simp; omega)] at ht
    rw [← ht]
theorem set_row {W : World} {g i : Nat} {l : List Nat} {t : TypeId} (h : W.heap[g]? = some (.cells (nb l).toArray t (0, 0))) (b : Nat) : (W.setCell ⟨g, i, none⟩ (.int .u8 (b : Int))).heap[g]? = some (.cells (nb (l.set i b)).toArray t (0, 0)) := by
  rw [heap_setCell_same _ g i _ t _ h]
  congr 2
  simp [nb, List.map_set]
theorem row_cell {W : World} {g i : Nat} {l : List Nat} {t : TypeId} {fr : Nat × Nat} (h : W.heap[g]? = some (.cells (nb l).toArray t fr)) {b : Nat} (hb : l[i]? = some b) : W.cell? ⟨g, i, none⟩ = some (.int .u8 (b : Int)) := by
  rw [cell_of_row _ _ _ _ _ _ h, List.getElem?_toArray, nb_at, hb]
  rfl
theorem row_frozen {W : World} {g : Nat} (i : Nat) {cs : Array Value} {t : TypeId} (h : W.heap[g]? = some (.cells cs t (0, 0))) : W.frozen? ⟨g, i, none⟩ = false := by
  unfold World.frozen?
  rw [h]
  simp
theorem src_of {W w : World} {a : Option Addr} {l : List Nat} (h3 : 0 < l.length → ∃ g off, a = some ⟨g, off, none⟩ ∧ g < W.heap.size ∧ ∀ (i b : Nat), l[i]? = some b → W.cell? ⟨g, off + i, none⟩ = some (.int .u8 (b : Int))) (hb : Below W.heap.size W w) (hp : 0 < (nb l).length) : ∃ ad, a = some ad ∧ ∀ j v, (nb l)[j]? = some v → w.cell? (ad.add j) = some v := by
  obtain ⟨g, off, rfl, hg, hc⟩ := h3 (by simpa using hp)
  refine ⟨_, rfl, fun j v hj => ?_⟩
  rw [nb_at] at hj
  obtain ⟨b, hb', rfl⟩ := Option.map_eq_some_iff.1 hj
  rw [Go.WideShapes.add_plain]
  exact (hb.cell (p := ⟨g, off + j, none⟩) hg).trans (hc j b hb')
theorem copy_run {P : Program} {w w0 : World} {dT sT ty elem : TypeId} (hu : P.underlying dT = some (.slice elem)) (hsz : (P.info? elem).map (·.size) = some 1) (dp sp : Option Addr) (dLen dCap sLen sCap : Nat)
    (g off : Nat) (cur : List Value) (t : TypeId) (hg : w.heap[g]? = some (.cells cur.toArray t (0, 0))) (cs : List Value) (hn : cs.length = Nat.min sLen dLen)
    (hpos : 0 < cs.length → dp = some ⟨g, off, none⟩ ∧ ∃ ad, sp = some ad ∧ ∀ j v, cs[j]? = some v → w.cell? (ad.add j) = some v)
    (hfit : off + cs.length ≤ cur.length) (h1 : ∀ v ∈ cs, v.oneCell' = true) (B : Nat) (hb : Below B w0 w) (hBg : B ≤ g) :
    ∃ w', (Builtin.copy_ #[dT, sT] ty #[.slice dp dLen dCap, .slice sp sLen sCap]).run P w = .ok (goInt cs.length) w' ∧ w'.heap[g]? = some (.cells (splice cur off cs).toArray t (0, 0)) ∧ Below B w0 w' ∧ w'.heap.size = w.heap.size := by
  by_cases h0 : cs.length = 0
  · obtain rfl : cs = [] := List.eq_nil_of_length_eq_zero h0
    exact ⟨w, run_copy_none (P := P) w dT sT ty elem dp sp dLen dCap sLen sCap hu hsz (by simpa using hn.symm), by simpa [splice] using hg, hb, rfl⟩
  · obtain ⟨rfl, ad, rfl, hsrc⟩ := hpos (by omega)
    exact ⟨_, run_copy_row (P := P) w dT sT ty elem g off dLen dCap ad sLen sCap cur.toArray t cs hu hsz hg hn hsrc (by simpa using hfit) h1, by simpa [splice] using setRow_heap w g _ _ t _ hg, below_setRow hb hBg _, by simp [World.setRow]⟩

theorem six : ∀ k < 6, (List.replicate k 171 ++ List.replicate (6 - k) 0)[k]? = some 0 := by decide
theorem six_set : ∀ k < 6, (List.replicate k 171 ++ List.replicate (6 - k) 0).set k 171 = List.replicate (k + 1) 171 ++ List.replicate (6 - (k + 1)) 0 := by decide
end Go.Proofs.YtlblllghgdfpoaaDoor

namespace Go.Proofs.YtlblllghgdfpoaaDoor
open Go.RowKit
attribute [local go_sem ↓] Go.wp_at_zero Go.wp_at_succ

def flip (l : List Nat) : List Nat := l.map (· ^^^ 1)
theorem flip_byt {l : List Nat} (h : Byt l) : Byt (flip l) := by
  intro x hx
  obtain ⟨y, hy, rfl⟩ := List.mem_map.1 hx
  exact Nat.xor_lt_two_pow (n := 8) (h y hy) (by decide)
theorem flip_len (l : List Nat) : (flip l).length = l.length := by simp [flip]

end Go.Proofs.YtlblllghgdfpoaaDoor

namespace Go.Proofs.YtlblllghgdfpoaaDoor
open Go.RowKit
attribute [local go_sem ↓] Go.wp_at_zero Go.wp_at_succ

theorem Tryd.infoBytes : (Tryd.prog.info? 29).map (fun i => (i.zero, i.size, i.bytes)) = some (some (.slice none 0 0), 1, 24) := by kernel_rfl

theorem Bytes.lower {b b' : Nat} {W : World} {v : Value} {l : List Nat} (h : Bytes b W v l) (hb : b' ≤ b) : Bytes b' W v l := by
  obtain ⟨h1, h2 | ⟨g, c, cur, e1, e2, e3⟩⟩ := h
  · exact ⟨h1, .inl h2⟩
  · exact ⟨h1, .inr ⟨g, c, cur, e1, Nat.le_trans hb e2, e3⟩⟩
/-- All but one block lies as it lay. -/
structure But (g : Nat) (W W' : World) : Prop where
  os : W'.os = W.os
  tape : W'.tape = W.tape
  output : W'.output = W.output
  size : W.heap.size ≤ W'.heap.size
  far : ∀ b, b < W.heap.size → b ≠ g → W'.heap[b]? = W.heap[b]?
theorem But.refl (g : Nat) (W : World) : But g W W := ⟨rfl, rfl, rfl, Nat.le_refl _, fun _ _ _ => rfl⟩
theorem But.trans {g : Nat} {A B C : World} (h : But g A B) (k : But g B C) : But g A C :=
  ⟨k.os.trans h.os, k.tape.trans h.tape, k.output.trans h.output, Nat.le_trans h.size k.size, fun b hb hn => (k.far b (Nat.lt_of_lt_of_le hb h.size) hn).trans (h.far b hb hn)⟩
theorem But.of_below {A B : World} (h : Below A.heap.size A B) (g : Nat) : But g A B := ⟨h.os, h.tape, h.output, h.size, fun b hb _ => h.block b hb⟩
theorem But.below {g n : Nat} {A B : World} (h : But g A B) (hn : n ≤ g) (hs : n ≤ A.heap.size) : Below n A B :=
  ⟨h.os, h.tape, h.output, h.size, fun b hb => h.far b (by omega) (by omega)⟩
theorem But.set {g : Nat} {A W : World} (h : But g A W) (i : Nat) (v : Value) : But g A (W.setCell ⟨g, i, none⟩ v) :=
  ⟨h.os, h.tape, h.output, by rw [World.size_setCell]; exact h.size, fun b hb hn => (heap_setCell_other W ⟨g, i, none⟩ b v (by simpa using hn)).trans (h.far b hb hn)⟩
theorem Room.but {W w : World} {g k : Nat} {l : List Nat} (h : Room W k l) (hb : But g W w) (hk : k ≠ g) : Room w k l := (hb.far k h.lt hk).trans h

/-- What a value's row lies in. -/
def Lies (C : Nat) (W : World) (x : Option Nat) (u : Value) : Prop := ∀ b, u.ownBlock = some b → C ≤ b ∧ b < W.heap.size ∧ some b ≠ x
theorem Bytes.lies {base : Nat} {W : World} {v : Value} {l : List Nat} (h : Bytes base W v l) (x : Option Nat) (hx : ∀ b, x = some b → b < base) : Lies base W x v := fun b hb => by
  have := h.lt b hb
  exact ⟨this.1, this.2, fun e => by have := hx b e.symm; omega⟩
/-- What can be read through blocks that stay. -/
theorem HasB.stays {W w : World} {v : Value} {l : List Nat} (h : HasB W v l) (hs : W.heap.size ≤ w.heap.size) (hb : ∀ b, v.ownBlock = some b → b < W.heap.size → w.heap[b]? = W.heap[b]?) : HasB w v l := by
  obtain ⟨a, c, rfl, hm, h3⟩ := h
  refine ⟨a, c, rfl, hm, fun hp => ?_⟩
  obtain ⟨g, off, rfl, h4, h5⟩ := h3 hp
  refine ⟨g, off, rfl, Nat.lt_of_lt_of_le h4 hs, fun i k hk => ?_⟩
  have e := hb g rfl h4
  have h6 := h5 i k hk
  unfold World.cell? at h6 ⊢
  simp only [e]
  exact h6
/-- Lists of bytes in a row of the call's own. -/
structure OwnBB (B C : Nat) (W : World) (v : Value) (us : List Value) (ls : List (List Nat)) : Prop where
  row : W.ownsRow B 29 1 v ls.length us
  each : ∀ (j : Nat) (u : Value) (l : List Nat), us[j]? = some u → ls[j]? = some l → HasB W u l ∧ Lies C W v.ownBlock u
theorem OwnBB.len {B C : Nat} {W : World} {v : Value} {us : List Value} {ls : List (List Nat)} (h : OwnBB B C W v us ls) : us.length = ls.length := by have := h.row.1; omega
theorem ownBB_nil (B C : Nat) (W : World) : OwnBB B C W (.slice none 0 0) [] [] := ⟨⟨rfl, .inl ⟨rfl, rfl⟩⟩, fun j u l h => by simp at h⟩
theorem OwnBB.has {B C : Nat} {W : World} {v : Value} {us : List Value} {ls : List (List Nat)} (h : OwnBB B C W v us ls) : HasBB W v ls := by
  have hr := h.row
  have h' := hr
  obtain ⟨_, ⟨rfl, h0⟩ | ⟨g, c, cur, rfl, _, _, hc1, hc2, _⟩⟩ := hr
  · exact ⟨none, 0, by rw [h0], by rw [h0]; exact ⟨Nat.le_refl _, Nat.zero_le _, fun _ => rfl⟩, fun hp => by omega⟩
  · refine ⟨some ⟨g, 0, none⟩, c, rfl, ⟨hc1, hc2, nofun⟩, fun _ => ⟨g, 0, rfl, (h'.lt g rfl).2, fun i l hl => ?_⟩⟩
    have hi : i < us.length := by rw [h.len]; exact (List.getElem?_eq_some_iff.1 hl).1
    have := h'.cells (g := g) rfl i us[i] (List.getElem?_eq_getElem hi)
    rw [Go.WideShapes.add_plain] at this
    exact ⟨_, this, (h.each i _ l (List.getElem?_eq_getElem hi) hl).1⟩
/-- Blocks from C on stay, the row too. -/
theorem OwnBB.keep {B C : Nat} {W w : World} {v : Value} {us : List Value} {ls : List (List Nat)} (h : OwnBB B C W v us ls) (hs : W.heap.size ≤ w.heap.size) (hC : ∀ b, C ≤ b → b < W.heap.size → w.heap[b]? = W.heap[b]?) (hv : ∀ b, v.ownBlock = some b → w.heap[b]? = W.heap[b]?) : OwnBB B C w v us ls := by
  refine ⟨?_, fun j u l hu hl => ?_⟩
  · obtain ⟨h1, ⟨rfl, h0⟩ | ⟨g, c, cur, rfl, h2, h3, h4⟩⟩ := h.row
    · exact ⟨h1, .inl ⟨rfl, h0⟩⟩
    · exact ⟨h1, .inr ⟨g, c, cur, rfl, h2, (hv g rfl).trans h3, h4⟩⟩
  · obtain ⟨h1, h2⟩ := h.each j u l hu hl
    exact ⟨h1.stays hs fun b hb hlt => hC b (h2 b hb).1 hlt, fun b hb => ⟨(h2 b hb).1, Nat.lt_of_lt_of_le (h2 b hb).2.1 hs, (h2 b hb).2.2⟩⟩
theorem OwnBB.up {B C : Nat} {W w : World} {v : Value} {us : List Value} {ls : List (List Nat)} (h : OwnBB B C W v us ls) (hb : Below W.heap.size W w) : OwnBB B C w v us ls :=
  h.keep hb.size (fun b _ hlt => hb.block b hlt) (fun b e => hb.block b (h.row.lt b e).2)
theorem OwnBB.push {B C : Nat} {W w : World} {v v' u : Value} {us : List Value} {ls : List (List Nat)} {l : List Nat} {ob : Obj} (h : OwnBB B C W v us ls) (hu : HasB W u l) (hl : Lies C W v.ownBlock u)
    (hrow : w.ownsRow B 29 1 v' (ls.length + 1) (us ++ [u])) (hg : (W.alloc ob).grownBy w v.ownBlock) (hat : v'.ownBlock = v.ownBlock ∨ v'.ownBlock = some (W.alloc ob).heap.size) : OwnBB B C w v' (us ++ [u]) (ls ++ [l]) := by
  have hs : W.heap.size ≤ w.heap.size := by have := hg.size; rw [World.size_alloc] at this; omega
  have hst : ∀ b, b < W.heap.size → some b ≠ v.ownBlock → w.heap[b]? = W.heap[b]? := fun b hb hn => (hg.block b (by rw [World.size_alloc]; omega) hn).trans (Below.heap_alloc W ob b hb)
  have hli : ∀ z, Lies C W v.ownBlock z → Lies C w v'.ownBlock z := fun z hz b hb => by
    obtain ⟨g1, g2, g3⟩ := hz b hb
    refine ⟨g1, by omega, ?_⟩
    rcases hat with e | e
    · rw [e]; exact g3
    · rw [e, World.size_alloc]
      intro e'
      have := Option.some.inj e'
      omega
  refine ⟨by rw [List.length_append]; exact hrow, fun j z m hz hm => ?_⟩
  by_cases hj : j < us.length
  · rw [List.getElem?_append_left hj] at hz
    rw [List.getElem?_append_left (by rw [← h.len]; exact hj)] at hm
    obtain ⟨h1, h2⟩ := h.each j z m hz hm
    exact ⟨h1.stays hs fun b hb hlt => hst b hlt (h2 b hb).2.2, hli z h2⟩
  · rw [List.getElem?_append_right (by omega)] at hz
    rw [List.getElem?_append_right (by rw [← h.len]; omega), ← h.len] at hm
    have hj0 : j - us.length = 0 := by
      have := (List.getElem?_eq_some_iff.1 hz).1
      simp at this
      omega
    rw [hj0] at hz hm
    simp at hz hm
    subst hz hm
    exact ⟨hu.stays hs fun b hb hlt => hst b hlt (hl b hb).2.2, hli _ hl⟩

/-- A list with room behind it, in a cell. -/
def slP (p : Nat × List Nat) : Value := .slice (some ⟨p.1, 0, none⟩) p.2.length (p.2.length + 6)
/-- Lists with room behind them, in a row with t behind it. -/
structure RoomA (W : World) (g : Nat) (ps : List (Nat × List Nat)) (t : List Value) : Prop where
  row : W.heap[g]? = some (.cells (ps.map slP ++ t).toArray 29 (0, 0))
  each : ∀ p ∈ ps, Room W p.1 p.2
  nodup : (ps.map Prod.fst).Nodup
  off : ∀ p ∈ ps, g < p.1
theorem RoomA.lt {W : World} {g : Nat} {ps : List (Nat × List Nat)} {t : List Value} (h : RoomA W g ps t) : g < W.heap.size := (Array.getElem?_eq_some_iff.1 h.row).1
theorem RoomA.up {W w : World} {g : Nat} {ps : List (Nat × List Nat)} {t : List Value} (h : RoomA W g ps t) (hb : Below W.heap.size W w) : RoomA w g ps t :=
  ⟨(hb.block g h.lt).trans h.row, fun p hp => (h.each p hp).up hb, h.nodup, h.off⟩
theorem RoomA.cell {W : World} {g : Nat} {ps : List (Nat × List Nat)} {t : List Value} (h : RoomA W g ps t) {i : Nat} {p : Nat × List Nat} (hp : ps[i]? = some p) : W.cell? ⟨g, i, none⟩ = some (slP p) := by
  rw [cell_of_row _ _ _ _ _ _ h.row, List.getElem?_toArray, List.getElem?_append_left (by rw [List.length_map]; exact (List.getElem?_eq_some_iff.1 hp).1), List.getElem?_map, hp]
  rfl
theorem RoomA.cell2 {W : World} {g : Nat} {ps : List (Nat × List Nat)} {t : List Value} (h : RoomA W g ps t) {i : Nat} {u : Value} (hu : t[i]? = some u) : W.cell? ⟨g, ps.length + i, none⟩ = some u := by
  rw [cell_of_row _ _ _ _ _ _ h.row, List.getElem?_toArray, List.getElem?_append_right (by rw [List.length_map]; omega), List.length_map, Nat.add_sub_cancel_left]
  exact hu
theorem RoomA.has {W : World} {g : Nat} {ps : List (Nat × List Nat)} {t : List Value} (h : RoomA W g ps t) (hn : ps.length ≤ 281474976710656) (hl : ∀ p ∈ ps, p.2.length ≤ 281474976710656) : HasBB W (.slice (some ⟨g, 0, none⟩) ps.length (ps.length + 2)) (ps.map Prod.snd) := by
  refine ⟨some ⟨g, 0, none⟩, ps.length + 2, by rw [List.length_map], ⟨by rw [List.length_map]; omega, by unfold maxLen; omega, nofun⟩, fun _ => ⟨g, 0, rfl, h.lt, fun i l hi => ?_⟩⟩
  rw [List.getElem?_map] at hi
  obtain ⟨p, hp, rfl⟩ := Option.map_eq_some_iff.1 hi
  have hm := List.mem_of_getElem? hp
  rw [Nat.zero_add]
  exact ⟨_, h.cell hp, (h.each p hm).has (hl p hm)⟩
end Go.Proofs.YtlblllghgdfpoaaDoor

namespace Go.Proofs.YtlblllghgdfpoaaDoor
open Go.RowKit

/-- A block in which one of the lists lies. -/
def InB (vs : List Value) (g : Nat) : Prop := ∃ (i : Nat) (v : Value), vs[i]? = some v ∧ v.ownBlock = some g
theorem own_lower {W : World} {bs bs' e size n : Nat} {v : Value} {xs : List Value} (h : W.ownsRow bs e size v n xs) (hb : bs' ≤ bs) : W.ownsRow bs' e size v n xs := by
  refine ⟨h.1, ?_⟩
  rcases h.2 with h1 | ⟨g', cap, cur, e, hb1, rest⟩
  · exact .inl h1
  · exact .inr ⟨g', cap, cur, e, Nat.le_trans hb hb1, rest⟩
theorem own_same {W w : World} {bs e size n : Nat} {v : Value} {xs : List Value} (h : W.ownsRow bs e size v n xs) (hb : ∀ b, v.ownBlock = some b → w.heap[b]? = W.heap[b]?) : w.ownsRow bs e size v n xs := by
  refine ⟨h.1, ?_⟩
  rcases h.2 with h1 | ⟨g', cap, cur, e, hb1, hc, rest⟩
  · exact .inl h1
  · subst e
    exact .inr ⟨g', cap, cur, rfl, hb1, (hb g' rfl).trans hc, rest⟩
theorem inB_app {vs : List Value} {v : Value} {g : Nat} (h : InB (vs ++ [v]) g) : InB vs g ∨ v.ownBlock = some g := by
  obtain ⟨i, x, hx, e⟩ := h
  by_cases hi : i < vs.length
  · rw [List.getElem?_append_left hi] at hx
    exact .inl ⟨i, x, hx, e⟩
  · rw [List.getElem?_append_right (by omega)] at hx
    have : x = v := by
      cases hq : i - vs.length with
      | zero => rw [hq] at hx; simpa using hx.symm
      | succ m => rw [hq] at hx; simp at hx
    subst this
    exact .inr e
/-- Lists of bytes that lie in blocks of their own, each in another. -/
structure Lb (B : Nat) (w : World) (vs : List Value) (ls : List (List Nat)) : Prop where
  len : ls.length = vs.length
  own : ∀ (i : Nat) (v : Value) (l : List Nat), vs[i]? = some v → ls[i]? = some l → Bytes B w v l
  ap : ∀ (i j : Nat) (v u : Value) (b : Nat), vs[i]? = some v → vs[j]? = some u → v.ownBlock = some b → u.ownBlock = some b → i = j
theorem Lb.nil (B : Nat) (w : World) : Lb B w [] [] := ⟨rfl, fun i v bs h => by simp at h, fun i j v u b h => by simp at h⟩
theorem Lb.at {B : Nat} {w : World} {vs : List Value} {ls : List (List Nat)} (h : Lb B w vs ls) {i : Nat} (hi : i < vs.length) : ∃ v l, vs[i]? = some v ∧ ls[i]? = some l ∧ Bytes B w v l := by
  have h1 : ls[i]? = some (ls[i]'(by rw [h.len]; exact hi)) := List.getElem?_eq_getElem _
  exact ⟨_, _, List.getElem?_eq_getElem hi, h1, h.own i _ _ (List.getElem?_eq_getElem hi) h1⟩
theorem Lb.lt {B : Nat} {w : World} {vs : List Value} {ls : List (List Nat)} (h : Lb B w vs ls) {g : Nat} (hg : InB vs g) : B ≤ g ∧ g < w.heap.size := by
  obtain ⟨i, v, h1, h2⟩ := hg
  obtain ⟨v', bs, h3, h4, h5⟩ := h.at (List.getElem?_eq_some_iff.1 h1).1
  obtain rfl := Option.some.inj (h1.symm.trans h3)
  exact World.ownsRow.lt h5 g h2
theorem Lb.keep {B : Nat} {w w' : World} {vs : List Value} {ls : List (List Nat)} (h : Lb B w vs ls) (hf : ∀ g, g < w.heap.size → InB vs g → w'.heap[g]? = w.heap[g]?) : Lb B w' vs ls :=
  ⟨h.len, fun i v l hv hb => own_same (h.own i v l hv hb) (fun b e => hf b (World.ownsRow.lt (h.own i v l hv hb) b e).2 ⟨i, v, hv, e⟩), h.ap⟩
theorem Lb.lower {B B' : Nat} {w : World} {vs : List Value} {ls : List (List Nat)} (h : Lb B w vs ls) (hb : B' ≤ B) : Lb B' w vs ls := ⟨h.len, fun i v l hv hl => own_lower (h.own i v l hv hl) hb, h.ap⟩
/-- One of them is another. -/
theorem Lb.set {B : Nat} {w w' : World} {vs : List Value} {ls : List (List Nat)} (h : Lb B w vs ls) {i : Nat} {v v' : Value} {l' : List Nat} (hi : vs[i]? = some v) (hn : Bytes B w' v' l') (hblk : v'.ownBlock = v.ownBlock ∨ ∃ g', v'.ownBlock = some g' ∧ w.heap.size ≤ g') (hf : ∀ q, q < w.heap.size → some q ≠ v.ownBlock → w'.heap[q]? = w.heap[q]?) : Lb B w' (vs.set i v') (ls.set i l') := by
  have hlt := (List.getElem?_eq_some_iff.1 hi).1
  refine ⟨by rw [List.length_set, List.length_set]; exact h.len, fun j x bs hx hb => ?_, fun j k x y b hx hy ex ey => ?_⟩
  · by_cases hij : i = j
    · subst hij
      rw [List.getElem?_set_self hlt] at hx
      rw [List.getElem?_set_self (by rw [h.len]; exact hlt)] at hb
      obtain rfl := Option.some.inj hx
      obtain rfl := Option.some.inj hb
      exact hn
    · rw [List.getElem?_set_ne hij] at hx hb
      refine own_same (h.own j x bs hx hb) (fun b e => hf b (World.ownsRow.lt (h.own j x bs hx hb) b e).2 (fun e2 => hij (h.ap i j v x b hi hx e2.symm e)))
  · have old : ∀ (m : Nat) (z : Value), vs[m]? = some z → z.ownBlock = some b → b < w.heap.size := fun m z hz ez => (h.lt ⟨m, z, hz, ez⟩).2
    by_cases hij : i = j
    · by_cases hik : i = k
      · omega
      · subst hij
        rw [List.getElem?_set_self hlt] at hx
        rw [List.getElem?_set_ne hik] at hy
        obtain rfl := Option.some.inj hx
        rcases hblk with e | ⟨g', e, hg'⟩
        · exact h.ap i k v y b hi hy (e.symm.trans ex) ey
        · have := old k y hy ey
          have := Option.some.inj (e.symm.trans ex)
          omega
    · rw [List.getElem?_set_ne hij] at hx
      by_cases hik : i = k
      · subst hik
        rw [List.getElem?_set_self hlt] at hy
        obtain rfl := Option.some.inj hy
        rcases hblk with e | ⟨g', e, hg'⟩
        · exact h.ap j i x v b hx hi ex (e.symm.trans ey)
        · have := old j x hx ex
          have := Option.some.inj (e.symm.trans ey)
          omega
      · rw [List.getElem?_set_ne hik] at hy
        exact h.ap j k x y b hx hy ex ey
/-- One more. -/
theorem Lb.push {B : Nat} {w w' : World} {vs : List Value} {ls : List (List Nat)} (h : Lb B w vs ls) {v : Value} {l : List Nat} (hn : Bytes B w' v l) (hblk : ∀ b, v.ownBlock = some b → ¬ InB vs b) (hf : ∀ q, q < w.heap.size → InB vs q → w'.heap[q]? = w.heap[q]?) : Lb B w' (vs ++ [v]) (ls ++ [l]) := by
  have hk := h.keep hf
  have cas : ∀ (j : Nat) (x : Value), (vs ++ [v])[j]? = some x → (j < vs.length ∧ vs[j]? = some x) ∨ (j = vs.length ∧ x = v) := fun j x hx => by
    by_cases hj : j < vs.length
    · rw [List.getElem?_append_left hj] at hx; exact .inl ⟨hj, hx⟩
    · have := (List.getElem?_eq_some_iff.1 hx).1
      rw [List.length_append, List.length_singleton] at this
      obtain rfl : j = vs.length := by omega
      rw [List.getElem?_append_right (Nat.le_refl _)] at hx
      simp at hx
      exact .inr ⟨rfl, hx.symm⟩
  refine ⟨by rw [List.length_append, List.length_append, h.len]; rfl, fun j x c hx hc => ?_, fun j k x y b hx hy ex ey => ?_⟩
  · rcases cas j x hx with ⟨hj, hx'⟩ | ⟨rfl, rfl⟩
    · rw [List.getElem?_append_left (by rw [h.len]; exact hj)] at hc
      exact hk.own j x c hx' hc
    · rw [← h.len, List.getElem?_append_right (Nat.le_refl _)] at hc
      simp at hc
      subst hc
      exact hn
  · rcases cas j x hx with ⟨hj, hx'⟩ | ⟨rfl, rfl⟩
    · rcases cas k y hy with ⟨hk', hy'⟩ | ⟨rfl, rfl⟩
      · exact h.ap j k x y b hx' hy' ex ey
      · exact (hblk b ey ⟨j, x, hx', ex⟩).elim
    · rcases cas k y hy with ⟨hk', hy'⟩ | ⟨rfl, rfl⟩
      · exact (hblk b ex ⟨k, y, hy', ey⟩).elim
      · rfl
/-- Lists of one's own in a row of one's own, all apart. -/
structure OwnBA (B : Nat) (W : World) (v : Value) (us : List Value) (ls : List (List Nat)) : Prop where
  bb : OwnBB B B W v us ls
  lb : Lb B W us ls
theorem ownBA_nil (B : Nat) (W : World) : OwnBA B W (.slice none 0 0) [] [] := ⟨ownBB_nil _ _ _, Lb.nil _ _⟩
theorem OwnBA.up {B : Nat} {W w : World} {v : Value} {us : List Value} {ls : List (List Nat)} (h : OwnBA B W v us ls) (hb : Below W.heap.size W w) : OwnBA B w v us ls := ⟨h.bb.up hb, h.lb.keep (fun g hg _ => hb.block g hg)⟩
theorem OwnBA.has {B : Nat} {W : World} {v : Value} {us : List Value} {ls : List (List Nat)} (h : OwnBA B W v us ls) : HasBB W v ls := h.bb.has
theorem OwnBA.push {B : Nat} {W w : World} {v v' u : Value} {us : List Value} {ls : List (List Nat)} {l : List Nat} {ob : Obj} (h : OwnBA B W v us ls) (hu : Bytes B W u l) (hl : ∀ b, u.ownBlock = some b → some b ≠ v.ownBlock ∧ ¬ InB us b)
    (hrow : w.ownsRow B 29 1 v' (ls.length + 1) (us ++ [u])) (hg : (W.alloc ob).grownBy w v.ownBlock) (hat : v'.ownBlock = v.ownBlock ∨ v'.ownBlock = some (W.alloc ob).heap.size) : OwnBA B w v' (us ++ [u]) (ls ++ [l]) := by
  have hst : ∀ b, b < W.heap.size → some b ≠ v.ownBlock → w.heap[b]? = W.heap[b]? := fun b hb hn => (hg.block b (by rw [World.size_alloc]; omega) hn).trans (Below.heap_alloc W ob b hb)
  refine ⟨h.bb.push hu.has (fun b e => ⟨(World.ownsRow.lt hu b e).1, (World.ownsRow.lt hu b e).2, (hl b e).1⟩) hrow hg hat, h.lb.push (own_same hu (fun b e => hst b (World.ownsRow.lt hu b e).2 (hl b e).1)) (fun b e => (hl b e).2) (fun q hq hi => hst q hq (fun e => ?_))⟩
  obtain ⟨i, x, hx, ex⟩ := hi
  have hx2 := (List.getElem?_eq_some_iff.1 hx).1
  exact (h.bb.each i x _ hx (List.getElem?_eq_getElem (by rw [h.lb.len]; exact hx2))).2 q ex |>.2.2 e
end Go.Proofs.YtlblllghgdfpoaaDoor
