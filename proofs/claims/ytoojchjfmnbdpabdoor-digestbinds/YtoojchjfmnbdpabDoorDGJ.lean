import Derived.Test.YtoojchjfmnbdpabDoorDBB
import Derived.Test.YtoojchjfmnbdpabDoorDF
namespace Go.Proofs.YtoojchjfmnbdpabDoor
open Go.RowKit
attribute [local go_sem ↓] Go.wp_at_zero Go.wp_at_succ

theorem Tryd.infoBytes : (Tryd.prog.info? 28).map (fun i => (i.zero, i.size, i.bytes)) = some (some (.slice none 0 0), 1, 24) := by kernel_rfl

theorem Bytes.lower {b b' : Nat} {W : World} {v : Value} {l : List Nat} (h : Bytes b W v l) (hb : b' ≤ b) : Bytes b' W v l := by
  obtain ⟨h1, h2 | ⟨g, c, cur, e1, e2, e3⟩⟩ := h
  · exact ⟨h1, .inl h2⟩
  · exact ⟨h1, .inr ⟨g, c, cur, e1, Nat.le_trans hb e2, e3⟩⟩
/-- All but one block lies as it lay. -/
structure But (g : Nat) (W W' : World) : Prop where
  os : W'.os = W.os
  tape : W'.tape = W.tape
  output : W'.output = W.output
  size : W.heap.size ≤ W'.heap.size
  far : ∀ b, b < W.heap.size → b ≠ g → W'.heap[b]? = W.heap[b]?
theorem But.refl (g : Nat) (W : World) : But g W W := ⟨rfl, rfl, rfl, Nat.le_refl _, fun _ _ _ => rfl⟩
theorem But.trans {g : Nat} {A B C : World} (h : But g A B) (k : But g B C) : But g A C :=
  ⟨k.os.trans h.os, k.tape.trans h.tape, k.output.trans h.output, Nat.le_trans h.size k.size, fun b hb hn => (k.far b (Nat.lt_of_lt_of_le hb h.size) hn).trans (h.far b hb hn)⟩
theorem But.of_below {A B : World} (h : Below A.heap.size A B) (g : Nat) : But g A B := ⟨h.os, h.tape, h.output, h.size, fun b hb _ => h.block b hb⟩
theorem But.below {g n : Nat} {A B : World} (h : But g A B) (hn : n ≤ g) (hs : n ≤ A.heap.size) : Below n A B :=
  ⟨h.os, h.tape, h.output, h.size, fun b hb => h.far b (by omega) (by omega)⟩
theorem But.set {g : Nat} {A W : World} (h : But g A W) (i : Nat) (v : Value) : But g A (W.setCell ⟨g, i, none⟩ v) :=
  ⟨h.os, h.tape, h.output, by rw [World.size_setCell]; exact h.size, fun b hb hn => (heap_setCell_other W ⟨g, i, none⟩ b v (by simpa using hn)).trans (h.far b hb hn)⟩
theorem Room.but {W w : World} {g k : Nat} {l : List Nat} (h : Room W k l) (hb : But g W w) (hk : k ≠ g) : Room w k l := (hb.far k h.lt hk).trans h

set_option maxRecDepth 100000 in
set_option maxHeartbeats 4000000 in
/-- flipped, and what it leaves. -/
theorem flipped_but {W : World} {g : Nat} {l : List Nat} (h : Room W g l) (hl : Byt l) (hn : l.length ≤ 140737488351232) :
    Calls Tryd.prog 35 #[.slice (some ⟨g, 0, none⟩) l.length (l.length + 6)] W fun e W' => ∃ v', e = .returned v' ∧ Bytes W.heap.size W' v' (flip l) ∧ Room W' g (flip l) ∧ But g W W' := by
  obtain ⟨i0, hi, hz0, hz1, hz2⟩ := info_parts Tryd.infoByte
  have H := hide h
  have hg0 := h.lt
  clear h
  go_enter Tryd.func35, Tryd.ntmps35
  go_wp2
  go_loopg [3] l.length (fun gk v3 wr => ∃ (i : Nat), v3 = .int .i64 (i : Int) ∧ gk = l.length - i ∧ i ≤ l.length ∧ Room wr g (flip (l.take i) ++ l.drop i) ∧ But g W wr)
  case atStart => exact ⟨0, rfl, rfl, by omega, by simpa [flip] using unhide H, But.refl _ _⟩
  case round =>
    obtain ⟨i, rfl, hgk, hk, hr, hB⟩ := hrel
    have Hgk := hide hgk
    clear hgk
    by_cases hlt : i < l.length
    · obtain ⟨x, hx⟩ : ∃ x, l[i]? = some x := ⟨_, List.getElem?_eq_getElem hlt⟩
      have hxb := hl.at hx
      have hfl : (flip (l.take i)).length = i := by rw [flip_len, List.length_take]; omega
      have hdr : l.drop i = x :: l.drop (i + 1) := by
        rw [List.drop_eq_getElem_cons hlt]
        rw [List.getElem?_eq_getElem hlt] at hx
        rw [Option.some.inj hx]
      have hcell : wr.cell? ⟨g, i, none⟩ = some (.int .u8 (x : Int)) := hr.cell (by
        rw [List.append_assoc, List.getElem?_append_right (by omega), hfl, hdr]
        simp)
      have hfr := row_frozen i hr
      have hxor : bits .xor .u8 (x : Int) 1 = ((x ^^^ 1 : Nat) : Int) := u8_xor_nat x 1 hxb (by decide)
      have hlt' : (i : Int) < (l.length : Int) := by omega
      have hi0' : (0 : Int) ≤ (i : Int) := Int.natCast_nonneg _
      have Hr := hide hr
      have Hx := hide hx
      have Hd := hide hdr
      have Hf := hide hfl
      clear hr hx hdr hfl
      go_wp2
      go_roundg (l.length - (i + 1))
      case measure => have := unhide Hgk; omega
      case rel =>
        refine ⟨i + 1, by go_num, rfl, by omega, ?_, hB.set _ _⟩
        have := set_row (i := i) (unhide Hr) (x ^^^ 1)
        have e : (flip (l.take i) ++ l.drop i ++ m6).set i (x ^^^ 1) = flip (l.take (i + 1)) ++ l.drop (i + 1) ++ m6 := by
          have h1 := unhide Hf
          rw [unhide Hd, List.append_assoc, List.set_append, if_neg (by omega), h1, Nat.sub_self, List.take_add_one, unhide Hx]
          simp [flip]
        rw [e] at this
        exact this
    · obtain rfl : i = l.length := by omega
      have hr' : Room wr g (flip l) := by simpa using hr
      have Hr := hide hr'
      have hgw := hr'.lt
      have hsz := hB.size
      have how : (wr.alloc (.cells #[] 5)).ownsRow wr.heap.size 5 1 (.slice (some ⟨wr.heap.size, 0, none⟩) 0 0) 0 [] := ⟨rfl, .inr ⟨wr.heap.size, 0, #[], rfl, Nat.le_refl _, heap_new _ _, Nat.le_refl _, Nat.zero_le _, rfl, rfl⟩⟩
      have hbel : Below wr.heap.size wr (wr.alloc (.cells #[] 5)) := (Below.refl _ _).alloc (Nat.le_refl _) _
      have hsrc : ∀ j u, (nb (flip l))[j]? = some u → (wr.alloc (.cells #[] 5)).cell? ((⟨g, 0, none⟩ : Addr).add j) = some u := by
        intro j u hu
        rw [nb_at] at hu
        obtain ⟨b, hb', rfl⟩ := Option.map_eq_some_iff.1 hu
        rw [Go.WideShapes.add_plain, Nat.zero_add]
        exact (hr'.up hbel).cell (by rw [List.getElem?_append_left (List.getElem?_eq_some_iff.1 hb').1]; exact hb')
      clear hr hr'
      go_wp2_with (at_builtin; refine wpList_append_own_at _ rfl _ _ 28 rfl wr.heap.size 5 i0 (.int .u8 0) 1 1 Tryd.underlying28 hi hz0 hz1 hz2 rfl (by decide) _ _ _ rfl how ⟨g, 0, none⟩ l.length (l.length + 6) (nb (flip l)) rfl (by rw [nb_len, flip_len]; omega) hsrc (nb_one _) (by unfold maxLen; omega) (by omega) hbel.size ?_; intro v4 w4 hown4 hgrow4 _ hat4; have Hown := hide hown4; have Hgrow := hide hgrow4; have Hat := hide hat4; clear hown4 hgrow4 hat4)
      go_ret
      have hB4 : Below wr.heap.size wr w4 := hbel.trans ⟨(unhide Hgrow).os, (unhide Hgrow).tape, (unhide Hgrow).output, (unhide Hgrow).size, fun b hb => (unhide Hgrow).block b (by have := hbel.size; omega) (fun e => by have e' : b = wr.heap.size := Option.some.inj e; omega)⟩
      refine ⟨_, rfl, ?_, (unhide Hr).up hB4, hB.trans (But.of_below hB4 g)⟩
      have hown := unhide Hown
      have hfin : Bytes wr.heap.size w4 v4 (flip l) := by
        unfold Bytes
        rw [flip_len]
        simpa using hown
      exact hfin.lower hsz

/-- What a value's row lies in. -/
def Lies (C : Nat) (W : World) (x : Option Nat) (u : Value) : Prop := ∀ b, u.ownBlock = some b → C ≤ b ∧ b < W.heap.size ∧ some b ≠ x
theorem Bytes.lies {base : Nat} {W : World} {v : Value} {l : List Nat} (h : Bytes base W v l) (x : Option Nat) (hx : ∀ b, x = some b → b < base) : Lies base W x v := fun b hb => by
  have := h.lt b hb
  exact ⟨this.1, this.2, fun e => by have := hx b e.symm; omega⟩
/-- What can be read through blocks that stay. -/
theorem HasB.stays {W w : World} {v : Value} {l : List Nat} (h : HasB W v l) (hs : W.heap.size ≤ w.heap.size) (hb : ∀ b, v.ownBlock = some b → b < W.heap.size → w.heap[b]? = W.heap[b]?) : HasB w v l := by
  obtain ⟨a, c, rfl, hm, h3⟩ := h
  refine ⟨a, c, rfl, hm, fun hp => ?_⟩
  obtain ⟨g, off, rfl, h4, h5⟩ := h3 hp
  refine ⟨g, off, rfl, Nat.lt_of_lt_of_le h4 hs, fun i k hk => ?_⟩
  have e := hb g rfl h4
  have h6 := h5 i k hk
  unfold World.cell? at h6 ⊢
  simp only [e]
  exact h6
/-- Lists of bytes in a row of the call's own. -/
structure OwnBB (B C : Nat) (W : World) (v : Value) (us : List Value) (ls : List (List Nat)) : Prop where
  row : W.ownsRow B 28 1 v ls.length us
  each : ∀ (j : Nat) (u : Value) (l : List Nat), us[j]? = some u → ls[j]? = some l → HasB W u l ∧ Lies C W v.ownBlock u
theorem OwnBB.len {B C : Nat} {W : World} {v : Value} {us : List Value} {ls : List (List Nat)} (h : OwnBB B C W v us ls) : us.length = ls.length := by have := h.row.1; omega
theorem ownBB_nil (B C : Nat) (W : World) : OwnBB B C W (.slice none 0 0) [] [] := ⟨⟨rfl, .inl ⟨rfl, rfl⟩⟩, fun j u l h => by simp at h⟩
theorem OwnBB.has {B C : Nat} {W : World} {v : Value} {us : List Value} {ls : List (List Nat)} (h : OwnBB B C W v us ls) : HasBB W v ls := by
  have hr := h.row
  have h' := hr
  obtain ⟨_, ⟨rfl, h0⟩ | ⟨g, c, cur, rfl, _, _, hc1, hc2, _⟩⟩ := hr
  · exact ⟨none, 0, by rw [h0], by rw [h0]; exact ⟨Nat.le_refl _, Nat.zero_le _, fun _ => rfl⟩, fun hp => by omega⟩
  · refine ⟨some ⟨g, 0, none⟩, c, rfl, ⟨hc1, hc2, nofun⟩, fun _ => ⟨g, 0, rfl, (h'.lt g rfl).2, fun i l hl => ?_⟩⟩
    have hi : i < us.length := by rw [h.len]; exact (List.getElem?_eq_some_iff.1 hl).1
    have := h'.cells (g := g) rfl i us[i] (List.getElem?_eq_getElem hi)
    rw [Go.WideShapes.add_plain] at this
    exact ⟨_, this, (h.each i _ l (List.getElem?_eq_getElem hi) hl).1⟩
/-- Blocks from C on stay, the row too. -/
theorem OwnBB.keep {B C : Nat} {W w : World} {v : Value} {us : List Value} {ls : List (List Nat)} (h : OwnBB B C W v us ls) (hs : W.heap.size ≤ w.heap.size) (hC : ∀ b, C ≤ b → b < W.heap.size → w.heap[b]? = W.heap[b]?) (hv : ∀ b, v.ownBlock = some b → w.heap[b]? = W.heap[b]?) : OwnBB B C w v us ls := by
  refine ⟨?_, fun j u l hu hl => ?_⟩
  · obtain ⟨h1, ⟨rfl, h0⟩ | ⟨g, c, cur, rfl, h2, h3, h4⟩⟩ := h.row
    · exact ⟨h1, .inl ⟨rfl, h0⟩⟩
    · exact ⟨h1, .inr ⟨g, c, cur, rfl, h2, (hv g rfl).trans h3, h4⟩⟩
  · obtain ⟨h1, h2⟩ := h.each j u l hu hl
    exact ⟨h1.stays hs fun b hb hlt => hC b (h2 b hb).1 hlt, fun b hb => ⟨(h2 b hb).1, Nat.lt_of_lt_of_le (h2 b hb).2.1 hs, (h2 b hb).2.2⟩⟩
theorem OwnBB.up {B C : Nat} {W w : World} {v : Value} {us : List Value} {ls : List (List Nat)} (h : OwnBB B C W v us ls) (hb : Below W.heap.size W w) : OwnBB B C w v us ls :=
  h.keep hb.size (fun b _ hlt => hb.block b hlt) (fun b e => hb.block b (h.row.lt b e).2)
theorem OwnBB.push {B C : Nat} {W w : World} {v v' u : Value} {us : List Value} {ls : List (List Nat)} {l : List Nat} {ob : Obj} (h : OwnBB B C W v us ls) (hu : HasB W u l) (hl : Lies C W v.ownBlock u)
    (hrow : w.ownsRow B 28 1 v' (ls.length + 1) (us ++ [u])) (hg : (W.alloc ob).grownBy w v.ownBlock) (hat : v'.ownBlock = v.ownBlock ∨ v'.ownBlock = some (W.alloc ob).heap.size) : OwnBB B C w v' (us ++ [u]) (ls ++ [l]) := by
  have hs : W.heap.size ≤ w.heap.size := by have := hg.size; rw [World.size_alloc] at this; omega
  have hst : ∀ b, b < W.heap.size → some b ≠ v.ownBlock → w.heap[b]? = W.heap[b]? := fun b hb hn => (hg.block b (by rw [World.size_alloc]; omega) hn).trans (Below.heap_alloc W ob b hb)
  have hli : ∀ z, Lies C W v.ownBlock z → Lies C w v'.ownBlock z := fun z hz b hb => by
    obtain ⟨g1, g2, g3⟩ := hz b hb
    refine ⟨g1, by omega, ?_⟩
    rcases hat with e | e
    · rw [e]; exact g3
    · rw [e, World.size_alloc]
      intro e'
      have := Option.some.inj e'
      omega
  refine ⟨by rw [List.length_append]; exact hrow, fun j z m hz hm => ?_⟩
  by_cases hj : j < us.length
  · rw [List.getElem?_append_left hj] at hz
    rw [List.getElem?_append_left (by rw [← h.len]; exact hj)] at hm
    obtain ⟨h1, h2⟩ := h.each j z m hz hm
    exact ⟨h1.stays hs fun b hb hlt => hst b hlt (h2 b hb).2.2, hli z h2⟩
  · rw [List.getElem?_append_right (by omega)] at hz
    rw [List.getElem?_append_right (by rw [← h.len]; omega), ← h.len] at hm
    have hj0 : j - us.length = 0 := by
      have := (List.getElem?_eq_some_iff.1 hz).1
      simp at this
      omega
    rw [hj0] at hz hm
    simp at hz hm
    subst hz hm
    exact ⟨hu.stays hs fun b hb hlt => hst b hlt (hl b hb).2.2, hli _ hl⟩

/-- A list with room behind it, in a cell. -/
def slP (p : Nat × List Nat) : Value := .slice (some ⟨p.1, 0, none⟩) p.2.length (p.2.length + 6)
/-- Lists with room behind them, in a row with t behind it. -/
structure RoomA (W : World) (g : Nat) (ps : List (Nat × List Nat)) (t : List Value) : Prop where
  row : W.heap[g]? = some (.cells (ps.map slP ++ t).toArray 28 (0, 0))
  each : ∀ p ∈ ps, Room W p.1 p.2
  nodup : (ps.map Prod.fst).Nodup
  off : ∀ p ∈ ps, g < p.1
theorem RoomA.lt {W : World} {g : Nat} {ps : List (Nat × List Nat)} {t : List Value} (h : RoomA W g ps t) : g < W.heap.size := (Array.getElem?_eq_some_iff.1 h.row).1
theorem RoomA.up {W w : World} {g : Nat} {ps : List (Nat × List Nat)} {t : List Value} (h : RoomA W g ps t) (hb : Below W.heap.size W w) : RoomA w g ps t :=
  ⟨(hb.block g h.lt).trans h.row, fun p hp => (h.each p hp).up hb, h.nodup, h.off⟩
theorem RoomA.cell {W : World} {g : Nat} {ps : List (Nat × List Nat)} {t : List Value} (h : RoomA W g ps t) {i : Nat} {p : Nat × List Nat} (hp : ps[i]? = some p) : W.cell? ⟨g, i, none⟩ = some (slP p) := by
  rw [cell_of_row _ _ _ _ _ _ h.row, List.getElem?_toArray, List.getElem?_append_left (by rw [List.length_map]; exact (List.getElem?_eq_some_iff.1 hp).1), List.getElem?_map, hp]
  rfl
theorem RoomA.cell2 {W : World} {g : Nat} {ps : List (Nat × List Nat)} {t : List Value} (h : RoomA W g ps t) {i : Nat} {u : Value} (hu : t[i]? = some u) : W.cell? ⟨g, ps.length + i, none⟩ = some u := by
  rw [cell_of_row _ _ _ _ _ _ h.row, List.getElem?_toArray, List.getElem?_append_right (by rw [List.length_map]; omega), List.length_map, Nat.add_sub_cancel_left]
  exact hu
theorem RoomA.has {W : World} {g : Nat} {ps : List (Nat × List Nat)} {t : List Value} (h : RoomA W g ps t) (hn : ps.length ≤ 281474976710656) (hl : ∀ p ∈ ps, p.2.length ≤ 281474976710656) : HasBB W (.slice (some ⟨g, 0, none⟩) ps.length (ps.length + 2)) (ps.map Prod.snd) := by
  refine ⟨some ⟨g, 0, none⟩, ps.length + 2, by rw [List.length_map], ⟨by rw [List.length_map]; omega, by unfold maxLen; omega, nofun⟩, fun _ => ⟨g, 0, rfl, h.lt, fun i l hi => ?_⟩⟩
  rw [List.getElem?_map] at hi
  obtain ⟨p, hp, rfl⟩ := Option.map_eq_some_iff.1 hi
  have hm := List.mem_of_getElem? hp
  rw [Nat.zero_add]
  exact ⟨_, h.cell hp, (h.each p hm).has (hl p hm)⟩
end Go.Proofs.YtoojchjfmnbdpabDoor
namespace Go.Proofs.YtoojchjfmnbdpabDoor
open Go.RowKit
attribute [local go_sem ↓] Go.wp_at_zero Go.wp_at_succ

set_option maxRecDepth 100000 in
set_option maxHeartbeats 4000000 in
theorem kept_same {W : World} {g : Nat} {u : Value} {l : List Nat} (h : Room W g l) (h' : HasB W u l) (hl : Byt l) (hn : l.length ≤ 140737488351232) :
    Calls Tryd.prog 14 #[.slice (some ⟨g, 0, none⟩) l.length (l.length + 6), u] W fun e W' => e = .returned (.bool true) ∧ W' = W := by
  have hu := h'
  obtain ⟨a, c, rfl, hm, h3⟩ := h'
  clear hm h3
  have Hu := hide hu
  have H := hide h
  clear hu h
  go_enter Tryd.func14, Tryd.ntmps14
  go_wp2
  go_loopg [6] 6 (fun gk v4 wr => ∃ (k : Nat), v4 = .int .i64 ((l.length + k : Nat) : Int) ∧ gk = 6 - k ∧ k ≤ 6 ∧ wr = W)
  case atStart => exact ⟨0, rfl, rfl, by omega, rfl⟩
  case round =>
    obtain ⟨k, rfl, hgk, hk, hwr⟩ := hrel
    obtain rfl : W = wr := hwr.symm
    clear hwr
    have Hgk := hide hgk
    clear hgk
    by_cases hlt : k < 6
    · have hcell : W.cell? ⟨g, l.length + k, none⟩ = some (.int .u8 ((171 : Nat) : Int)) := (unhide H).cell (by
        rw [List.getElem?_append_right (by omega), show l.length + k - l.length = k by omega]
        exact (show ∀ k < 6, m6[k]? = some 171 by decide) k hlt)
      have hlt' : ((l.length + k : Nat) : Int) < ((l.length + 6 : Nat) : Int) := by omega
      obtain ⟨j, hj⟩ : ∃ j : Nat, j = l.length + k := ⟨_, rfl⟩
      rw [← hj] at hcell hlt' ⊢
      have hj0 : (0 : Int) ≤ (j : Int) := Int.natCast_nonneg _
      have hj1 : j < 140737488351238 := by omega
      have Hj := hide hj
      clear hj
      go_wp2
      go_roundg (6 - (k + 1))
      case measure => have := unhide Hgk; omega
      case rel =>
        have e := unhide Hj
        exact ⟨k + 1, by subst e; go_num, rfl, by omega, rfl⟩
    · obtain rfl : k = 6 := by omega
      go_wp2_with fail
      refine (same_any ((unhide H).has (by omega)) (unhide Hu) hl hl).mono ?_
      rintro e w' ⟨rfl, he⟩
      obtain rfl : W = w' := he.symm
      go_wp2
      go_ret
      exact ⟨by simp, rfl⟩
theorem HasB.drew {W : World} {v : Value} {l : List Nat} (h : HasB W v l) (m : Nat) : HasB (W.drewN m) v l := h
theorem lists_dec {a b : List (List Nat)} (hn : a.length = b.length) {i : Nat} (ha : ∀ j < i, a[j]? = b[j]?) (hi : a.length ≤ i) : a = b := by
  apply List.ext_getElem?
  intro j
  by_cases hj : j < a.length
  · exact ha j (by omega)
  · rw [List.getElem?_eq_none (by omega), List.getElem?_eq_none (by omega)]
set_option maxRecDepth 100000 in
set_option maxHeartbeats 4000000 in
theorem sameAll_any {W : World} {v u : Value} {ls ls' : List (List Nat)} (h : HasBB W v ls) (h' : HasBB W u ls') (hl : ∀ l ∈ ls, Byt l) (hl' : ∀ l ∈ ls', Byt l) :
    Calls Tryd.prog 31 #[v, u] W fun e W' => e = .returned (.bool (decide (ls = ls'))) ∧ ∃ m, W' = W.drewN m := by
  obtain ⟨a, c, rfl, hm, h3⟩ := h
  obtain ⟨a', c', rfl, hm', h3'⟩ := h'
  have hc1 : c ≤ 9223372036854775807 := by have := hm.2.1; unfold maxLen at this; omega
  have hc2 := hm.1
  have hc1' : c' ≤ 9223372036854775807 := by have := hm'.2.1; unfold maxLen at this; omega
  have hc2' := hm'.1
  have H3 := hide h3
  have H3' := hide h3'
  have Hl := hide hl
  have Hl' := hide hl'
  clear h3 h3' hm hm' hl hl'
  by_cases hlen : ls.length = ls'.length
  · have q0 : ((ls.length : Int) != (ls'.length : Int)) = false := by rw [hlen]; simp
    have Hlen := hide hlen
    clear hlen
    go_enter Tryd.func31, Tryd.ntmps31
    go_wp2
    go_loopg [5] ls.length (fun gk v5 wr => ∃ (i m : Nat), v5 = .int .i64 (i : Int) ∧ gk = ls.length - i ∧ i ≤ ls.length ∧ Hid (∀ j < i, ls[j]? = ls'[j]?) ∧ wr = W.drewN m)
    case atStart => exact ⟨0, 0, rfl, rfl, by omega, fun j hj => by omega, rfl⟩
    case round =>
      obtain ⟨i, m, rfl, hgk, hk, Hall, rfl⟩ := hrel
      have Hgk := hide hgk
      clear hgk
      by_cases hlt : i < ls.length
      · obtain ⟨g, off, rfl, hg, hc⟩ := unhide H3 (by omega)
        obtain ⟨g', off', rfl, hg', hc'⟩ := unhide H3' (by have := unhide Hlen; omega)
        obtain ⟨l, hx⟩ : ∃ x, ls[i]? = some x := ⟨_, List.getElem?_eq_getElem hlt⟩
        obtain ⟨l', hx'⟩ : ∃ x, ls'[i]? = some x := ⟨_, List.getElem?_eq_getElem (by have := unhide Hlen; omega)⟩
        obtain ⟨z, hz, hB⟩ := hc i l hx
        obtain ⟨z', hz', hB'⟩ := hc' i l' hx'
        have bl := unhide Hl l (List.mem_of_getElem? hx)
        have bl' := unhide Hl' l' (List.mem_of_getElem? hx')
        have hs : ∀ n, Calls Tryd.prog 16 #[z, z'] ((W.drewN m).drewN n) fun o W' => o = .returned (.bool (decide (l = l'))) ∧ W' = (W.drewN m).drewN n := fun n => same_any ((hB.drew m).drew n) ((hB'.drew m).drew n) bl bl'
        have Hs := hide hs
        have cz : (W.drewN m).cell? ⟨g, off + i, none⟩ = some z := hz
        have cz' : (W.drewN m).cell? ⟨g', off' + i, none⟩ = some z' := hz'
        obtain ⟨za, zc, rfl, _, _⟩ := hB
        obtain ⟨za', zc', rfl, _, _⟩ := hB'
        have i1 : (i : Int) < (ls.length : Int) := by omega
        have i2 : (i : Int) < (ls'.length : Int) := by have := unhide Hlen; omega
        have i0' : (0 : Int) ≤ (i : Int) := Int.natCast_nonneg _
        have Hx := hide (And.intro hx hx')
        clear hc hc' hx hx' hs bl bl' hz hz'
        obtain ⟨w1, hw1⟩ : ∃ w1, W.drewN m = w1 := ⟨_, rfl⟩
        rw [hw1] at cz cz' Hs ⊢
        have Hw := hide hw1
        clear hw1
        by_cases hd : l = l'
        · subst hd
          rw [show decide (l = l) = true by simp] at Hs
          go_wp2_with fail
          go_quiet (first | (go_at_call 16; exact Calls.quiet_of_same (unhide Hs _)))
          go_wp2
          go_roundg (ls.length - (i + 1))
          case measure => have := unhide Hgk; omega
          case rel =>
            refine ⟨i + 1, m + nq, by go_num, rfl, by omega, fun j hj => ?_, by rw [← unhide Hw, World.drewN_drewN]⟩
            by_cases e : j = i
            · subst e
              obtain ⟨e1, e2⟩ := unhide Hx
              rw [e1, e2]
            · exact unhide Hall j (by omega)
        · have hd1 : decide (l = l') = false := by simpa using hd
          rw [hd1] at Hs
          have Hd := hide hd
          clear hd hd1
          go_wp2_with fail
          go_quiet (first | (go_at_call 16; exact Calls.quiet_of_same (unhide Hs _)))
          go_wp2
          go_ret
          have hne : decide (ls = ls') = false := by
            apply decide_eq_false
            rintro rfl
            obtain ⟨e1, e2⟩ := unhide Hx
            rw [e1] at e2
            exact unhide Hd (Option.some.inj e2)
          exact ⟨by rw [hne]; rfl, m + nq, by rw [← unhide Hw, World.drewN_drewN]⟩
      · obtain rfl : i = ls.length := by omega
        have he : decide (ls = ls') = true := by
          apply decide_eq_true
          exact lists_dec (unhide Hlen) (unhide Hall) (Nat.le_refl _)
        go_wp2
        go_ret
        exact ⟨by rw [he]; rfl, m, rfl⟩
  · have q0 : ((ls.length : Int) != (ls'.length : Int)) = true := by simp; omega
    have he : decide (ls = ls') = false := by
      apply decide_eq_false
      rintro rfl
      exact hlen rfl
    go_enter Tryd.func31, Tryd.ntmps31
    go_wp2
    go_ret
    exact ⟨by rw [he]; rfl, 0, rfl⟩
end Go.Proofs.YtoojchjfmnbdpabDoor
namespace Go.Proofs.YtoojchjfmnbdpabDoor
open Go.RowKit
attribute [local go_sem ↓] Go.wp_at_zero Go.wp_at_succ

theorem made_rowB {W : World} {base g n : Nat} (h : W.ownsRow base 28 1 (.slice (some ⟨g, 0, none⟩) n n) n (madeCells (Value.cells (.slice none 0 0)) (n * 1)).toList) : W.heap[g]? = some (.cells (List.replicate n (.slice none 0 0)).toArray 28 (0, 0)) := by
  obtain ⟨_, ⟨h0, _⟩ | ⟨g', c, cur, e, _, hg, _, _, hs, ht⟩⟩ := h
  · simp at h0
  · simp only [Value.slice.injEq, Option.some.injEq, Addr.mk.injEq] at e
    obtain ⟨⟨rfl, _⟩, _, rfl⟩ := e
    rw [hg]
    have e1 : (madeCells (Value.cells (.slice none 0 0)) (n * 1)).toList = List.replicate n (.slice none 0 0) := by
      rw [show Value.cells (.slice none 0 0) = #[.slice none 0 0] from rfl, toList_madeCells_one]
      simp
    rw [e1, List.take_of_length_le (by simp; omega)] at ht
    rw [← ht]
theorem set_rowV {W : World} {g i : Nat} {l : List Value} {t : TypeId} (h : W.heap[g]? = some (.cells l.toArray t (0, 0))) (b : Value) : (W.setCell ⟨g, i, none⟩ b).heap[g]? = some (.cells (l.set i b).toArray t (0, 0)) := by
  rw [heap_setCell_same _ g i _ t _ h]
  congr 2
  simp
theorem Room.set {W : World} {g k i : Nat} {l : List Nat} {v : Value} (h : Room W k l) (hk : k ≠ g) : Room (W.setCell ⟨g, i, none⟩ v) k l := (heap_setCell_other W ⟨g, i, none⟩ k v (by simpa using hk)).trans h
theorem RoomA.push {W w : World} {g : Nat} {ps : List (Nat × List Nat)} {t : List Value} {z : Value} {l : List Nat} (h : RoomA W g ps (z :: t)) (hb : Below W.heap.size W w) (hr : Room w W.heap.size l) : RoomA (w.setCell ⟨g, ps.length, none⟩ (slP (W.heap.size, l))) g (ps ++ [(W.heap.size, l)]) t := by
  have hg := h.lt
  refine ⟨?_, fun p hp => ?_, ?_, fun p hp => ?_⟩
  · rw [set_rowV ((hb.block g hg).trans h.row)]
    congr 3
    rw [List.set_append, if_neg (by rw [List.length_map]; omega), List.length_map, Nat.sub_self]
    simp
  · rcases List.mem_append.1 hp with hp | hp
    · exact ((h.each p hp).up hb).set (by have := h.off p hp; omega)
    · obtain rfl := List.mem_singleton.1 hp
      exact hr.set (by show W.heap.size ≠ g; omega)
  · rw [List.map_append, List.nodup_append]
    refine ⟨h.nodup, by simp, fun a ha b hb' => ?_⟩
    obtain ⟨p, hp, rfl⟩ := List.mem_map.1 ha
    have := (h.each p hp).lt
    simp at hb'
    omega
  · rcases List.mem_append.1 hp with hp | hp
    · exact h.off p hp
    · obtain rfl := List.mem_singleton.1 hp
      exact hg
theorem RoomA.setT {W : World} {g : Nat} {ps : List (Nat × List Nat)} {t : List Value} (h : RoomA W g ps t) (i : Nat) (v : Value) : RoomA (W.setCell ⟨g, ps.length + i, none⟩ v) g ps (t.set i v) := by
  refine ⟨?_, fun p hp => (h.each p hp).set (by have := h.off p hp; omega), h.nodup, h.off⟩
  rw [set_rowV h.row]
  congr 3
  rw [List.set_append, if_neg (by rw [List.length_map]; omega), List.length_map, Nat.add_sub_cancel_left]
theorem RoomA.frozen {W : World} {g : Nat} {ps : List (Nat × List Nat)} {t : List Value} (h : RoomA W g ps t) (i : Nat) : W.frozen? ⟨g, i, none⟩ = false := row_frozen i h.row

set_option maxRecDepth 100000 in
set_option maxHeartbeats 4000000 in
theorem roomyAll_any {W : World} {v : Value} {ls : List (List Nat)} (h : HasBB W v ls) (hn : ls.length ≤ 5864062014634) (hl : ∀ l ∈ ls, l.length ≤ 140737488351232) :
    Calls Tryd.prog 26 #[v] W fun e W' => e = .returned (.slice (some ⟨W.heap.size, 0, none⟩) ls.length (ls.length + 2)) ∧ Below W.heap.size W W' ∧ ∃ ps m1 m2, ps.map Prod.snd = ls ∧ RoomA W' W.heap.size ps [m1, m2] ∧ HasB W' m1 [1] ∧ HasB W' m2 [2] := by
  obtain ⟨i0, hi, hz0, hz1, hz2⟩ := info_parts Tryd.infoBytes
  obtain ⟨a, c, rfl, hm, h3⟩ := h
  have H3 := hide h3
  have Hl := hide hl
  have hc1 : c ≤ 9223372036854775807 := by have := hm.2.1; unfold maxLen at this; omega
  have hc2 := hm.1
  clear h3 hm hl
  go_enter Tryd.func26, Tryd.ntmps26
  go_wp2_with (at_make; refine wpList_make_full _ rfl _ _ 27 rfl W.heap.size 28 i0 (.slice none 0 0) 1 Tryd.underlying27 hi hz0 hz1 .i64 .i64 _ _ (ls.length + 2) rfl rfl (by first | rfl | simp) (by first | rfl | simp) (by rw [hz2]; omega) (by unfold maxLen; omega) (Nat.le_refl _) ?_; intro w5 hown5 hgrow5; have Hr := hide (made_rowB hown5); have Hb : Hid (Below W.heap.size W w5) := ⟨hgrow5.os, hgrow5.tape, hgrow5.output, hgrow5.size, fun b hb => hgrow5.block b hb (by simp)⟩; clear hown5 hgrow5)
  have HR0 : Hid (RoomA w5 W.heap.size [] (List.replicate (ls.length + 2 - 0) (.slice none 0 0))) := by
    refine ⟨?_, fun p hp => by simp at hp, by simp, fun p hp => by simp at hp⟩
    exact unhide Hr
  clear Hr
  go_loopg [4] ls.length (fun gk v4 wr => ∃ (i : Nat) (ps : List (Nat × List Nat)), v4 = .int .i64 (i : Int) ∧ gk = ls.length - i ∧ i ≤ ls.length ∧ Hid (ps.map Prod.snd = ls.take i) ∧ Hid (RoomA wr W.heap.size ps (List.replicate (ls.length + 2 - i) (.slice none 0 0))) ∧ Hid (Below W.heap.size W wr))
  case atStart => exact ⟨0, [], rfl, rfl, by omega, rfl, HR0, Hb⟩
  case round =>
    clear HR0 Hb
    obtain ⟨i, ps, rfl, hgk, hk, Hps, HR, HB⟩ := hrel
    have Hgk := hide hgk
    clear hgk
    have hpl : ps.length = i := by have := congrArg List.length (unhide Hps); rw [List.length_map, List.length_take] at this; omega
    by_cases hlt : i < ls.length
    · obtain ⟨g, off, rfl, hg, hc⟩ := unhide H3 (by omega)
      obtain ⟨l, hl⟩ : ∃ x, ls[i]? = some x := ⟨_, List.getElem?_eq_getElem hlt⟩
      obtain ⟨u, hu, hBu⟩ := hc i l hl
      have hcell := ((unhide HB).cell (p := ⟨g, off + i, none⟩) hg).trans hu
      have hll := unhide Hl l (List.mem_of_getElem? hl)
      have hro := roomy_any (hBu.up (unhide HB)) (by omega)
      have Hro := hide hro
      have Hnx : Hid (ls.take (i + 1) = ls.take i ++ [l]) := by show _ = _; rw [List.take_add_one, hl]; rfl
      obtain ⟨ua, uc, rfl, _, _⟩ := hBu
      have hi' : (i : Int) < (ls.length : Int) := by omega
      have hiN : (i : Int) < ((ls.length + 2 : Nat) : Int) := by omega
      have hi0' : (0 : Int) ≤ (i : Int) := Int.natCast_nonneg _
      clear hc hl hu hro
      go_wp2_with fail
      refine (unhide Hro).mono ?_
      rintro o w7 ⟨rfl, hR7, hb7⟩
      have HB7 : Hid (Below W.heap.size W w7) := (unhide HB).trans (hb7.mono (unhide HB).size)
      have hrep : List.replicate (ls.length + 2 - i) (Value.slice none 0 0) = .slice none 0 0 :: List.replicate (ls.length + 2 - (i + 1)) (.slice none 0 0) := by
        rw [show ls.length + 2 - i = (ls.length + 2 - (i + 1)) + 1 by omega]
        rfl
      have hRw := unhide HR
      rw [hrep] at hRw
      have hc7 := (hRw.up hb7).cell2 (i := 0) rfl
      have hf7 := (hRw.up hb7).frozen i
      rw [Nat.add_zero, hpl] at hc7
      have hP := hRw.push hb7 hR7
      rw [hpl] at hP
      have HP := hide hP
      clear hR7 hb7 hRw hP HR HB Hro hcell
      go_wp2
      go_roundg (ls.length - (i + 1))
      case measure => have := unhide Hgk; omega
      case rel =>
        refine ⟨i + 1, _, by go_num, rfl, by omega, ?_, HP, below_set (unhide HB7) (Nat.le_refl _) _ _⟩
        show _ = _
        rw [List.map_append, unhide Hps, unhide Hnx]
        rfl
    · obtain rfl : i = ls.length := by omega
      have hRw := unhide HR
      rw [show ls.length + 2 - ls.length = 2 by omega] at hRw
      have hR2 : RoomA wr W.heap.size ps [.slice none 0 0, .slice none 0 0] := hRw
      clear hRw
      obtain ⟨w1, hw1⟩ : ∃ w1, w1 = wr.alloc (.cells #[.int .u8 1] 5) := ⟨_, rfl⟩
      have b1 : Below wr.heap.size wr w1 := by rw [hw1]; exact (Below.refl _ _).alloc (Nat.le_refl _) _
      have h1 := hR2.up b1
      have c1 := h1.cell2 (i := 0) rfl
      have f1 := h1.frozen ls.length
      have h2 := h1.setT 0 (.slice (some ⟨wr.heap.size, 0, none⟩) 1 1)
      rw [Nat.add_zero, hpl] at c1 h2
      obtain ⟨w2, hw2⟩ : ∃ w2, w2 = w1.setCell ⟨W.heap.size, ls.length, none⟩ (.slice (some ⟨wr.heap.size, 0, none⟩) 1 1) := ⟨_, rfl⟩
      rw [← hw2] at h2
      obtain ⟨w3, hw3⟩ : ∃ w3, w3 = w2.alloc (.cells #[.int .u8 2] 5) := ⟨_, rfl⟩
      have b3 : Below w2.heap.size w2 w3 := by rw [hw3]; exact (Below.refl _ _).alloc (Nat.le_refl _) _
      have h3 := h2.up b3
      have c3 := h3.cell2 (i := 1) rfl
      have f3 := h3.frozen (ls.length + 1)
      have h4 := h3.setT 1 (.slice (some ⟨w2.heap.size, 0, none⟩) 1 1)
      rw [hpl] at c3 h4
      have hs1 : w1.heap.size = wr.heap.size + 1 := by rw [hw1, World.size_alloc]
      have hs2 : w2.heap.size = wr.heap.size + 1 := by rw [hw2, World.size_setCell, hs1]
      have hgw := hR2.lt
      have B1 : Below W.heap.size W w2 := by rw [hw2]; exact below_set ((unhide HB).trans (b1.mono (unhide HB).size)) (Nat.le_refl _) _ _
      have B3 : Below W.heap.size W w3 := B1.trans (b3.mono B1.size)
      have o1 : HasB (w3.setCell ⟨W.heap.size, ls.length + 1, none⟩ (.slice (some ⟨w2.heap.size, 0, none⟩) 1 1)) (.slice (some ⟨wr.heap.size, 0, none⟩) 1 1) [1] := by
        refine hasB_lit (l := [1]) (t := 5) (fr := (0, 0)) ?_ 1 1 rfl (by decide)
        rw [heap_setCell_other _ _ _ _ (by show wr.heap.size ≠ W.heap.size; omega), b3.block _ (by omega), hw2, heap_setCell_other _ _ _ _ (by show wr.heap.size ≠ W.heap.size; omega), hw1]
        exact heap_new _ _
      have o2 : HasB (w3.setCell ⟨W.heap.size, ls.length + 1, none⟩ (.slice (some ⟨w2.heap.size, 0, none⟩) 1 1)) (.slice (some ⟨w2.heap.size, 0, none⟩) 1 1) [2] := by
        refine hasB_lit (l := [2]) (t := 5) (fr := (0, 0)) ?_ 1 1 rfl (by decide)
        rw [heap_setCell_other _ _ _ _ (by show w2.heap.size ≠ W.heap.size; omega), hw3]
        exact heap_new _ _
      have HE := hide (And.intro h4 (And.intro o1 o2))
      have HB4 : Hid (Below W.heap.size W (w3.setCell ⟨W.heap.size, ls.length + 1, none⟩ (.slice (some ⟨w2.heap.size, 0, none⟩) 1 1))) := below_set B3 (Nat.le_refl _) _ _
      have HpsF : Hid (ps.map Prod.snd = ls) := by show _ = _; have := unhide Hps; rwa [List.take_length] at this
      have n0 : (0 : Int) ≤ (ls.length : Int) := Int.natCast_nonneg _
      have n1 : (ls.length : Int) < ((ls.length + 2 : Nat) : Int) := by omega
      obtain ⟨M, hM⟩ : ∃ M, M = ls.length + 1 := ⟨_, rfl⟩
      have eM : (ls.length : Int) + 1 = (M : Int) := by omega
      have m0 : (0 : Int) ≤ (M : Int) := Int.natCast_nonneg _
      have m1 : (M : Int) < ((ls.length + 2 : Nat) : Int) := by omega
      have m2 : (ls.length : Int) ≤ ((ls.length + 2 : Nat) : Int) := by omega
      rw [hw1, World.setCell_alloc_past _ _ _ _ hgw] at hw2
      have hgw2 : W.heap.size < (wr.setCell ⟨W.heap.size, ls.length, none⟩ (.slice (some ⟨wr.heap.size, 0, none⟩) 1 1)).heap.size := by rw [World.size_setCell]; exact hgw
      have hgw3 : W.heap.size < w2.heap.size := by omega
      have hw4 : w3.setCell ⟨W.heap.size, ls.length + 1, none⟩ (.slice (some ⟨w2.heap.size, 0, none⟩) 1 1) = (((wr.setCell ⟨W.heap.size, ls.length, none⟩ (.slice (some ⟨wr.heap.size, 0, none⟩) 1 1)).setCell ⟨W.heap.size, ls.length + 1, none⟩ (.slice (some ⟨wr.heap.size + 1, 0, none⟩) 1 1)).alloc (.cells #[.int .u8 1] 5)).alloc (.cells #[.int .u8 2] 5) := by
        rw [hw3, World.setCell_alloc_past _ _ _ _ hgw3, hs2, hw2, World.setCell_alloc_past _ _ _ _ hgw2]
      rw [hw4, hs2] at HE
      rw [hw4] at HB4
      rw [← hM] at c3 f3 HE HB4
      rw [hw1] at c1 f1
      rw [hw3, hw2] at c3 f3
      have c0 := hR2.cell2 (i := 0) rfl
      have f0 := hR2.frozen ls.length
      rw [Nat.add_zero, hpl] at c0
      have HM := hide hM
      clear h1 h2 h3 h4 o1 o2 B1 B3 b1 b3 hR2 HR HB hs1 hs2 hM hw1 hw2 hw3 hw4 hgw2 hgw3
      go_wp2
      go_ret
      exact ⟨rfl, unhide HB4, ps, _, _, unhide HpsF, unhide HE⟩
end Go.Proofs.YtoojchjfmnbdpabDoor
