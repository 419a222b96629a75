import Derived.Test.YtoojchjfmnbdpabDoorDBB
import Derived.Test.YtoojchjfmnbdpabDoorDF
namespace Go.Proofs.YtoojchjfmnbdpabDoor
open Go.RowKit
attribute [local go_sem ↓] Go.wp_at_zero Go.wp_at_succ

theorem Tryd.infoBytes : (Tryd.prog.info? 28).map (fun i => (i.zero, i.size, i.bytes)) = some (some (.slice none 0 0), 1, 24) := by kernel_rfl

theorem Bytes.lower {b b' : Nat} {W : World} {v : Value} {l : List Nat} (h : Bytes b W v l) (hb : b' ≤ b) : Bytes b' W v l := by
  obtain ⟨h1, h2 | ⟨g, c, cur, e1, e2, e3⟩⟩ := h
  · exact ⟨h1, .inl h2⟩
  · exact ⟨h1, .inr ⟨g, c, cur, e1, Nat.le_trans hb e2, e3⟩⟩
/-- All but one block lies as it lay. -/
structure But (g : Nat) (W W' : World) : Prop where
  os : W'.os = W.os
  tape : W'.tape = W.tape
  output : W'.output = W.output
  size : W.heap.size ≤ W'.heap.size
  far : ∀ b, b < W.heap.size → b ≠ g → W'.heap[b]? = W.heap[b]?
theorem But.refl (g : Nat) (W : World) : But g W W := ⟨rfl, rfl, rfl, Nat.le_refl _, fun _ _ _ => rfl⟩
theorem But.trans {g : Nat} {A B C : World} (h : But g A B) (k : But g B C) : But g A C :=
  ⟨k.os.trans h.os, k.tape.trans h.tape, k.output.trans h.output, Nat.le_trans h.size k.size, fun b hb hn => (k.far b (Nat.lt_of_lt_of_le hb h.size) hn).trans (h.far b hb hn)⟩
theorem But.of_below {A B : World} (h : Below A.heap.size A B) (g : Nat) : But g A B := ⟨h.os, h.tape, h.output, h.size, fun b hb _ => h.block b hb⟩
theorem But.below {g n : Nat} {A B : World} (h : But g A B) (hn : n ≤ g) (hs : n ≤ A.heap.size) : Below n A B :=
  ⟨h.os, h.tape, h.output, h.size, fun b hb => h.far b (by omega) (by omega)⟩
theorem But.set {g : Nat} {A W : World} (h : But g A W) (i : Nat) (v : Value) : But g A (W.setCell ⟨g, i, none⟩ v) :=
  ⟨h.os, h.tape, h.output, by rw [World.size_setCell]; exact h.size, fun b hb hn => (heap_setCell_other W ⟨g, i, none⟩ b v (by simpa using hn)).trans (h.far b hb hn)⟩
theorem Room.but {W w : World} {g k : Nat} {l : List Nat} (h : Room W k l) (hb : But g W w) (hk : k ≠ g) : Room w k l := (hb.far k h.lt hk).trans h

set_option maxRecDepth 100000 in
set_option maxHeartbeats 4000000 in
/-- flipped, and what it leaves. -/
theorem flipped_but {W : World} {g : Nat} {l : List Nat} (h : Room W g l) (hl : Byt l) (hn : l.length ≤ 140737488351232) :
    Calls Tryd.prog 35 #[.slice (some ⟨g, 0, none⟩) l.length (l.length + 6)] W fun e W' => ∃ v', e = .returned v' ∧ Bytes W.heap.size W' v' (flip l) ∧ Room W' g (flip l) ∧ But g W W' := by
  obtain ⟨i0, hi, hz0, hz1, hz2⟩ := info_parts Tryd.infoByte
  have H := hide h
  have hg0 := h.lt
  clear h
  go_enter Tryd.func35, Tryd.ntmps35
  go_wp2
  go_loopg [3] l.length (fun gk v3 wr => ∃ (i : Nat), v3 = .int .i64 (i : Int) ∧ gk = l.length - i ∧ i ≤ l.length ∧ Room wr g (flip (l.take i) ++ l.drop i) ∧ But g W wr)
  case atStart => exact ⟨0, rfl, rfl, by omega, by simpa [flip] using unhide H, But.refl _ _⟩
  case round =>
    obtain ⟨i, rfl, hgk, hk, hr, hB⟩ := hrel
    have Hgk := hide hgk
    clear hgk
    by_cases hlt : i < l.length
    · obtain ⟨x, hx⟩ : ∃ x, l[i]? = some x := ⟨_, List.getElem?_eq_getElem hlt⟩
      have hxb := hl.at hx
      have hfl : (flip (l.take i)).length = i := by rw [flip_len, List.length_take]; omega
      have hdr : l.drop i = x :: l.drop (i + 1) := by
        rw [List.drop_eq_getElem_cons hlt]
        rw [List.getElem?_eq_getElem hlt] at hx
        rw [Option.some.inj hx]
      have hcell : wr.cell? ⟨g, i, none⟩ = some (.int .u8 (x : Int)) := hr.cell (by
        rw [List.append_assoc, List.getElem?_append_right (by omega), hfl, hdr]
        simp)
      have hfr := row_frozen i hr
      have hxor : bits .xor .u8 (x : Int) 1 = ((x ^^^ 1 : Nat) : Int) := u8_xor_nat x 1 hxb (by decide)
      have hlt' : (i : Int) < (l.length : Int) := by omega
      have hi0' : (0 : Int) ≤ (i : Int) := Int.natCast_nonneg _
      have Hr := hide hr
      have Hx := hide hx
      have Hd := hide hdr
      have Hf := hide hfl
      clear hr hx hdr hfl
      go_wp2
      go_roundg (l.length - (i + 1))
      case measure => have := unhide Hgk; omega
      case rel =>
        refine ⟨i + 1, by go_num, rfl, by omega, ?_, hB.set _ _⟩
        have := set_row (i := i) (unhide Hr) (x ^^^ 1)
        have e : (flip (l.take i) ++ l.drop i ++ m6).set i (x ^^^ 1) = flip (l.take (i + 1)) ++ l.drop (i + 1) ++ m6 := by
          have h1 := unhide Hf
          rw [unhide Hd, List.append_assoc, List.set_append, if_neg (by omega), h1, Nat.sub_self, List.take_add_one, unhide Hx]
          simp [flip]
        rw [e] at this
        exact this
    · obtain rfl : i = l.length := by omega
      have hr' : Room wr g (flip l) := by simpa using hr
      have Hr := hide hr'
      have hgw := hr'.lt
      have hsz := hB.size
      have how : (wr.alloc (.cells #[] 5)).ownsRow wr.heap.size 5 1 (.slice (some ⟨wr.heap.size, 0, none⟩) 0 0) 0 [] := ⟨rfl, .inr ⟨wr.heap.size, 0, #[], rfl, Nat.le_refl _, heap_new _ _, Nat.le_refl _, Nat.zero_le _, rfl, rfl⟩⟩
      have hbel : Below wr.heap.size wr (wr.alloc (.cells #[] 5)) := (Below.refl _ _).alloc (Nat.le_refl _) _
      have hsrc : ∀ j u, (nb (flip l))[j]? = some u → (wr.alloc (.cells #[] 5)).cell? ((⟨g, 0, none⟩ : Addr).add j) = some u := by
        intro j u hu
        rw [nb_at] at hu
        obtain ⟨b, hb', rfl⟩ := Option.map_eq_some_iff.1 hu
        rw [Go.WideShapes.add_plain, Nat.zero_add]
        exact (hr'.up hbel).cell (by rw [List.getElem?_append_left (List.getElem?_eq_some_iff.1 hb').1]; exact hb')
      clear hr hr'
      go_wp2_with (at_builtin; refine wpList_append_own_at _ rfl _ _ 28 rfl wr.heap.size 5 i0 (.int .u8 0) 1 1 Tryd.underlying28 hi hz0 hz1 hz2 rfl (by decide) _ _ _ rfl how ⟨g, 0, none⟩ l.length (l.length + 6) (nb (flip l)) rfl (by rw [nb_len, flip_len]; omega) hsrc (nb_one _) (by unfold maxLen; omega) (by omega) hbel.size ?_; intro v4 w4 hown4 hgrow4 _ hat4; have Hown := hide hown4; have Hgrow := hide hgrow4; have Hat := hide hat4; clear hown4 hgrow4 hat4)
      go_ret
      have hB4 : Below wr.heap.size wr w4 := hbel.trans ⟨(unhide Hgrow).os, (unhide Hgrow).tape, (unhide Hgrow).output, (unhide Hgrow).size, fun b hb => (unhide Hgrow).block b (by have := hbel.size; omega) (fun e => by have e' : b = wr.heap.size := Option.some.inj e; omega)⟩
      refine ⟨_, rfl, ?_, (unhide Hr).up hB4, hB.trans (But.of_below hB4 g)⟩
      have hown := unhide Hown
      have hfin : Bytes wr.heap.size w4 v4 (flip l) := by
        unfold Bytes
        rw [flip_len]
        simpa using hown
      exact hfin.lower hsz

/-- What a value's row lies in. -/
def Lies (C : Nat) (W : World) (x : Option Nat) (u : Value) : Prop := ∀ b, u.ownBlock = some b → C ≤ b ∧ b < W.heap.size ∧ some b ≠ x
theorem Bytes.lies {base : Nat} {W : World} {v : Value} {l : List Nat} (h : Bytes base W v l) (x : Option Nat) (hx : ∀ b, x = some b → b < base) : Lies base W x v := fun b hb => by
  have := h.lt b hb
  exact ⟨this.1, this.2, fun e => by have := hx b e.symm; omega⟩
/-- What can be read through blocks that stay. -/
theorem HasB.stays {W w : World} {v : Value} {l : List Nat} (h : HasB W v l) (hs : W.heap.size ≤ w.heap.size) (hb : ∀ b, v.ownBlock = some b → b < W.heap.size → w.heap[b]? = W.heap[b]?) : HasB w v l := by
  obtain ⟨a, c, rfl, hm, h3⟩ := h
  refine ⟨a, c, rfl, hm, fun hp => ?_⟩
  obtain ⟨g, off, rfl, h4, h5⟩ := h3 hp
  refine ⟨g, off, rfl, Nat.lt_of_lt_of_le h4 hs, fun i k hk => ?_⟩
  have e := hb g rfl h4
  have h6 := h5 i k hk
  unfold World.cell? at h6 ⊢
  simp only [e]
  exact h6
/-- Lists of bytes in a row of the call's own. -/
structure OwnBB (B C : Nat) (W : World) (v : Value) (us : List Value) (ls : List (List Nat)) : Prop where
  row : W.ownsRow B 28 1 v ls.length us
  each : ∀ (j : Nat) (u : Value) (l : List Nat), us[j]? = some u → ls[j]? = some l → HasB W u l ∧ Lies C W v.ownBlock u
theorem OwnBB.len {B C : Nat} {W : World} {v : Value} {us : List Value} {ls : List (List Nat)} (h : OwnBB B C W v us ls) : us.length = ls.length := by have := h.row.1; omega
theorem ownBB_nil (B C : Nat) (W : World) : OwnBB B C W (.slice none 0 0) [] [] := ⟨⟨rfl, .inl ⟨rfl, rfl⟩⟩, fun j u l h => by simp at h⟩
theorem OwnBB.has {B C : Nat} {W : World} {v : Value} {us : List Value} {ls : List (List Nat)} (h : OwnBB B C W v us ls) : HasBB W v ls := by
  have hr := h.row
  have h' := hr
  obtain ⟨_, ⟨rfl, h0⟩ | ⟨g, c, cur, rfl, _, _, hc1, hc2, _⟩⟩ := hr
  · exact ⟨none, 0, by rw [h0], by rw [h0]; exact ⟨Nat.le_refl _, Nat.zero_le _, fun _ => rfl⟩, fun hp => by omega⟩
  · refine ⟨some ⟨g, 0, none⟩, c, rfl, ⟨hc1, hc2, nofun⟩, fun _ => ⟨g, 0, rfl, (h'.lt g rfl).2, fun i l hl => ?_⟩⟩
    have hi : i < us.length := by rw [h.len]; exact (List.getElem?_eq_some_iff.1 hl).1
    have := h'.cells (g := g) rfl i us[i] (List.getElem?_eq_getElem hi)
    rw [Go.WideShapes.add_plain] at this
    exact ⟨_, this, (h.each i _ l (List.getElem?_eq_getElem hi) hl).1⟩
/-- Blocks from C on stay, the row too. -/
theorem OwnBB.keep {B C : Nat} {W w : World} {v : Value} {us : List Value} {ls : List (List Nat)} (h : OwnBB B C W v us ls) (hs : W.heap.size ≤ w.heap.size) (hC : ∀ b, C ≤ b → b < W.heap.size → w.heap[b]? = W.heap[b]?) (hv : ∀ b, v.ownBlock = some b → w.heap[b]? = W.heap[b]?) : OwnBB B C w v us ls := by
  refine ⟨?_, fun j u l hu hl => ?_⟩
  · obtain ⟨h1, ⟨rfl, h0⟩ | ⟨g, c, cur, rfl, h2, h3, h4⟩⟩ := h.row
    · exact ⟨h1, .inl ⟨rfl, h0⟩⟩
    · exact ⟨h1, .inr ⟨g, c, cur, rfl, h2, (hv g rfl).trans h3, h4⟩⟩
  · obtain ⟨h1, h2⟩ := h.each j u l hu hl
    exact ⟨h1.stays hs fun b hb hlt => hC b (h2 b hb).1 hlt, fun b hb => ⟨(h2 b hb).1, Nat.lt_of_lt_of_le (h2 b hb).2.1 hs, (h2 b hb).2.2⟩⟩
theorem OwnBB.up {B C : Nat} {W w : World} {v : Value} {us : List Value} {ls : List (List Nat)} (h : OwnBB B C W v us ls) (hb : Below W.heap.size W w) : OwnBB B C w v us ls :=
  h.keep hb.size (fun b _ hlt => hb.block b hlt) (fun b e => hb.block b (h.row.lt b e).2)
theorem OwnBB.push {B C : Nat} {W w : World} {v v' u : Value} {us : List Value} {ls : List (List Nat)} {l : List Nat} {ob : Obj} (h : OwnBB B C W v us ls) (hu : HasB W u l) (hl : Lies C W v.ownBlock u)
    (hrow : w.ownsRow B 28 1 v' (ls.length + 1) (us ++ [u])) (hg : (W.alloc ob).grownBy w v.ownBlock) (hat : v'.ownBlock = v.ownBlock ∨ v'.ownBlock = some (W.alloc ob).heap.size) : OwnBB B C w v' (us ++ [u]) (ls ++ [l]) := by
  have hs : W.heap.size ≤ w.heap.size := by have := hg.size; rw [World.size_alloc] at this; omega
  have hst : ∀ b, b < W.heap.size → some b ≠ v.ownBlock → w.heap[b]? = W.heap[b]? := fun b hb hn => (hg.block b (by rw [World.size_alloc]; omega) hn).trans (Below.heap_alloc W ob b hb)
  have hli : ∀ z, Lies C W v.ownBlock z → Lies C w v'.ownBlock z := fun z hz b hb => by
    obtain ⟨g1, g2, g3⟩ := hz b hb
    refine ⟨g1, by omega, ?_⟩
    rcases hat with e | e
    · rw [e]; exact g3
    · rw [e, World.size_alloc]
      intro e'
      have := Option.some.inj e'
      omega
  refine ⟨by rw [List.length_append]; exact hrow, fun j z m hz hm => ?_⟩
  by_cases hj : j < us.length
  · rw [List.getElem?_append_left hj] at hz
    rw [List.getElem?_append_left (by rw [← h.len]; exact hj)] at hm
    obtain ⟨h1, h2⟩ := h.each j z m hz hm
    exact ⟨h1.stays hs fun b hb hlt => hst b hlt (h2 b hb).2.2, hli z h2⟩
  · rw [List.getElem?_append_right (by omega)] at hz
    rw [List.getElem?_append_right (by rw [← h.len]; omega), ← h.len] at hm
    have hj0 : j - us.length = 0 := by
      have := (List.getElem?_eq_some_iff.1 hz).1
      simp at this
      omega
    rw [hj0] at hz hm
    simp at hz hm
    subst hz hm
    exact ⟨hu.stays hs fun b hb hlt => hst b hlt (hl b hb).2.2, hli _ hl⟩

/-- A list with room behind it, in a cell. -/
def slP (p : Nat × List Nat) : Value := .slice (some ⟨p.1, 0, none⟩) p.2.length (p.2.length + 6)
/-- Lists with room behind them, in a row with t behind it. -/
structure RoomA (W : World) (g : Nat) (ps : List (Nat × List Nat)) (t : List Value) : Prop where
  row : W.heap[g]? = some (.cells (ps.map slP ++ t).toArray 28 (0, 0))
  each : ∀ p ∈ ps, Room W p.1 p.2
  nodup : (ps.map Prod.fst).Nodup
  off : ∀ p ∈ ps, g < p.1
theorem RoomA.lt {W : World} {g : Nat} {ps : List (Nat × List Nat)} {t : List Value} (h : RoomA W g ps t) : g < W.heap.size := (Array.getElem?_eq_some_iff.1 h.row).1
theorem RoomA.up {W w : World} {g : Nat} {ps : List (Nat × List Nat)} {t : List Value} (h : RoomA W g ps t) (hb : Below W.heap.size W w) : RoomA w g ps t :=
  ⟨(hb.block g h.lt).trans h.row, fun p hp => (h.each p hp).up hb, h.nodup, h.off⟩
theorem RoomA.cell {W : World} {g : Nat} {ps : List (Nat × List Nat)} {t : List Value} (h : RoomA W g ps t) {i : Nat} {p : Nat × List Nat} (hp : ps[i]? = some p) : W.cell? ⟨g, i, none⟩ = some (slP p) := by
  rw [cell_of_row _ _ _ _ _ _ h.row, List.getElem?_toArray, List.getElem?_append_left (by rw [List.length_map]; exact (List.getElem?_eq_some_iff.1 hp).1), List.getElem?_map, hp]
  rfl
theorem RoomA.cell2 {W : World} {g : Nat} {ps : List (Nat × List Nat)} {t : List Value} (h : RoomA W g ps t) {i : Nat} {u : Value} (hu : t[i]? = some u) : W.cell? ⟨g, ps.length + i, none⟩ = some u := by
  rw [cell_of_row _ _ _ _ _ _ h.row, List.getElem?_toArray, List.getElem?_append_right (by rw [List.length_map]; omega), List.length_map, Nat.add_sub_cancel_left]
  exact hu
theorem RoomA.has {W : World} {g : Nat} {ps : List (Nat × List Nat)} {t : List Value} (h : RoomA W g ps t) (hn : ps.length ≤ 281474976710656) (hl : ∀ p ∈ ps, p.2.length ≤ 281474976710656) : HasBB W (.slice (some ⟨g, 0, none⟩) ps.length (ps.length + 2)) (ps.map Prod.snd) := by
  refine ⟨some ⟨g, 0, none⟩, ps.length + 2, by rw [List.length_map], ⟨by rw [List.length_map]; omega, by unfold maxLen; omega, nofun⟩, fun _ => ⟨g, 0, rfl, h.lt, fun i l hi => ?_⟩⟩
  rw [List.getElem?_map] at hi
  obtain ⟨p, hp, rfl⟩ := Option.map_eq_some_iff.1 hi
  have hm := List.mem_of_getElem? hp
  rw [Nat.zero_add]
  exact ⟨_, h.cell hp, (h.each p hm).has (hl p hm)⟩
end Go.Proofs.YtoojchjfmnbdpabDoor
