import Derived.Test.YtkkbccdjbgjjaaaDoorSKK

namespace Go.Proofs.YtkkbccdjbgjjaaaDoor
open Go.RowKit
attribute [local go_sem ↓] Go.wp_at_zero Go.wp_at_succ

/-- Between two rounds of a loop that counts, whatever is said of the world. -/
def CntR (R : Nat → World → Prop) (n : Nat) (L : Nat → List (Nat × Value)) (m : Nat) (a : Act) (w : World) : Prop := ∃ (tm : Array Value) (i : Nat), a = ⟨tm, []⟩ ∧ tm.size = 160 ∧ chk tm (L i) ∧ m = n - i ∧ i ≤ n ∧ R i w
/-- A token that lies in a block of its own. -/
def XAt (w : World) (b : Nat) (t : Tk) : Prop := w.cell? ⟨b, 0, none⟩ = some (.int .i64 t.kind) ∧ w.cell? ⟨b, 1, none⟩ = some (.int .i64 t.spot) ∧ w.cell? ⟨b, 2, none⟩ = some (.string t.text)
theorem XAt.lt {w : World} {b : Nat} {t : Tk} (h : XAt w b t) : b < w.heap.size := lt_of_cell h.1
theorem XAt.block {w w' : World} {b : Nat} {t : Tk} (h : XAt w b t) (e : w'.heap[b]? = w.heap[b]?) : XAt w' b t :=
  ⟨(World.cell?_of_block (a := ⟨b, 0, none⟩) e).trans h.1, (World.cell?_of_block (a := ⟨b, 1, none⟩) e).trans h.2.1, (World.cell?_of_block (a := ⟨b, 2, none⟩) e).trans h.2.2⟩
theorem XAt.up {w w' : World} {b : Nat} {t : Tk} (h : XAt w b t) (hb : Below w.heap.size w w') : XAt w' b t := h.block (hb.block b h.lt)
theorem XAt.grown {w w' : World} {b : Nat} {t : Tk} {row : Option Nat} (h : XAt w b t) (hg : w.grownBy w' row) (hne : some b ≠ row) : XAt w' b t := h.block (hg.block b h.lt hne)
theorem fill_step {j : Nat} {t : Tk} {xs : List Tk} (hj : j < xs.length) : (List.replicate j t ++ xs.drop j).set j t = List.replicate (j + 1) t ++ xs.drop (j + 1) := by
  rw [List.set_append_right _ _ (by simp), List.length_replicate, Nat.sub_self, List.drop_eq_getElem_cons hj, List.set_cons_zero, List.replicate_succ']
  simp
set_option maxRecDepth 100000 in
set_option maxHeartbeats 4000000 in
theorem fill_any {W : World} {p0 p3 p4 vl : Value} {bx B : Nat} {t : Tk} {ks : List Tk} (hl : RowT B W vl ks) (hx : XAt W bx t) (hne : some bx ≠ vl.ownBlock) (hL : ks.length ≤ 16384) {tm : Array Value} (hsz : tm.size = 160) (hchk : chk tm [(0, p0), (3, p3), (4, p4), (5, vl), (13, .pointer (some ⟨bx, 0, none⟩))]) {Q : Exit → Act → World → Prop}
    (hQ : ∀ W', RowT B W' vl (List.replicate ks.length t) → W.grownBy W' vl.ownBlock → ∀ tm : Array Value, tm.size = 160 → chk tm [(0, p0), (3, p3), (4, p4), (5, vl), (13, .pointer (some ⟨bx, 0, none⟩))] → Q .normal { tmps := tm, defers := [] } W') :
    skFill.wp Tryd.prog Q { tmps := tm, defers := [] } W := by
  have HQ := hide hQ
  clear hQ
  rcases id hl.2 with ⟨rfl, h0⟩ | ⟨g, c, _, rfl, _⟩
  · obtain rfl : ks = [] := List.eq_nil_of_length_eq_zero h0
    obtain ⟨x, rfl⟩ := frame160 hsz
    obtain ⟨e0, e3, e4, e5, e13, _⟩ := hchk
    replace e0 : x 0 = p0 := Option.some.inj e0
    replace e3 : x 3 = p3 := Option.some.inj e3
    replace e4 : x 4 = p4 := Option.some.inj e4
    replace e5 : x 5 = .slice none 0 0 := Option.some.inj e5
    replace e13 : x 13 = .pointer (some ⟨bx, 0, none⟩) := Option.some.inj e13
    rw [e0, e3, e4, e5, e13]
    clear e0 e3 e4 e5 e13
    have Hl := hide hl
    clear hl hx hne h0 hL
    unfold skFill skRound skLoop
    dsimp only [Tryd.f3]
    go_wp2
    refine wp_loop_count (CntR (fun _ w => w = W) 0 (fun i => [(0, p0), (3, p3), (4, p4), (5, .slice none 0 0), (13, .pointer (some ⟨bx, 0, none⟩)), (14, .int .i64 (i : Int))])) ?_ 0 _ _ ⟨_, 0, rfl, rfl, ⟨rfl, rfl, rfl, rfl, rfl, rfl, trivial⟩, rfl, Nat.zero_le _, rfl⟩
    rintro m _ wr ⟨tm, i, rfl, hsz, hchk, hm, hi, rfl⟩
    obtain rfl : i = 0 := by omega
    obtain ⟨u, rfl⟩ := frame160 hsz
    obtain ⟨e0, e3, e4, e5, e13, e14, _⟩ := hchk
    replace e0 : u 0 = p0 := Option.some.inj e0
    replace e3 : u 3 = p3 := Option.some.inj e3
    replace e4 : u 4 = p4 := Option.some.inj e4
    replace e5 : u 5 = .slice none 0 0 := Option.some.inj e5
    replace e13 : u 13 = .pointer (some ⟨bx, 0, none⟩) := Option.some.inj e13
    replace e14 : u 14 = .int .i64 ((0 : Nat) : Int) := Option.some.inj e14
    rw [e0, e3, e4, e5, e13, e14]
    clear e0 e3 e4 e5 e13 e14
    go_wp2
    exact unhide HQ _ (unhide Hl) (World.grownBy.refl _ _) _ rfl ⟨rfl, rfl, rfl, rfl, rfl, trivial⟩
  · obtain ⟨L, hLe⟩ : ∃ L, L = ks.length := ⟨_, rfl⟩
    rw [← hLe] at hchk HQ hL
    obtain ⟨x, rfl⟩ := frame160 hsz
    obtain ⟨e0, e3, e4, e5, e13, _⟩ := hchk
    replace e0 : x 0 = p0 := Option.some.inj e0
    replace e3 : x 3 = p3 := Option.some.inj e3
    replace e4 : x 4 = p4 := Option.some.inj e4
    replace e5 : x 5 = .slice (some ⟨g, 0, none⟩) L c := Option.some.inj e5
    replace e13 : x 13 = .pointer (some ⟨bx, 0, none⟩) := Option.some.inj e13
    rw [e0, e3, e4, e5, e13]
    clear e0 e3 e4 e5 e13
    have Hl := hide hl
    have Hx := hide hx
    have Hne : Hid (bx ≠ g) := fun e => hne (by rw [e]; rfl)
    have HLe := hide hLe
    clear hl hx hne hLe
    unfold skFill skRound skLoop
    dsimp only [Tryd.f3]
    go_wp2
    refine wp_loop_count (CntR (fun i w => RowT B w (.slice (some ⟨g, 0, none⟩) L c) (List.replicate i t ++ ks.drop i) ∧ W.grownBy w (some g)) L (fun i => [(0, p0), (3, p3), (4, p4), (5, .slice (some ⟨g, 0, none⟩) L c), (13, .pointer (some ⟨bx, 0, none⟩)), (14, .int .i64 (i : Int))])) ?_ L _ _ ⟨_, 0, rfl, rfl, ⟨rfl, rfl, rfl, rfl, rfl, rfl, trivial⟩, rfl, Nat.zero_le _, by have := unhide Hl; have e := unhide HLe; rw [← e] at this; simpa using this, World.grownBy.refl _ _⟩
    rintro m _ wr ⟨tm, i, rfl, hsz, hchk, hm, hi, hR, hG⟩
    obtain ⟨u, rfl⟩ := frame160 hsz
    obtain ⟨e0, e3, e4, e5, e13, e14, _⟩ := hchk
    replace e0 : u 0 = p0 := Option.some.inj e0
    replace e3 : u 3 = p3 := Option.some.inj e3
    replace e4 : u 4 = p4 := Option.some.inj e4
    replace e5 : u 5 = .slice (some ⟨g, 0, none⟩) L c := Option.some.inj e5
    replace e13 : u 13 = .pointer (some ⟨bx, 0, none⟩) := Option.some.inj e13
    replace e14 : u 14 = .int .i64 (i : Int) := Option.some.inj e14
    rw [e0, e3, e4, e5, e13, e14]
    clear e0 e3 e4 e5 e13 e14
    have Hm := hide hm
    clear hm
    by_cases hlt : i < L
    · have hl2 : i < ks.length := by have := unhide HLe; omega
      obtain ⟨y, hy⟩ : ∃ y, (List.replicate i t ++ ks.drop i)[i]? = some y := ⟨_, List.getElem?_eq_getElem (by simp; omega)⟩
      obtain ⟨y1, y2, y3⟩ := hR.cell hy
      have f1 := hR.frozenAt (i * 3)
      have f2 := hR.frozenAt (i * 3 + 1)
      have f3 := hR.frozenAt (i * 3 + 2)
      obtain ⟨x1, x2, x3⟩ := (unhide Hx).grown hG (fun e => unhide Hne (by simpa using e))
      obtain ⟨h1, h2⟩ := hR.set i t
      rw [fill_step hl2] at h1
      have H1 := hide h1
      have H2 := hide (hG.trans h2)
      have hi0 : (0 : Int) ≤ (i : Int) := Int.natCast_nonneg _
      have hi1 : (i : Int) < (L : Int) := by omega
      have hd : decide ((i : Int) < (L : Int)) = true := by simp; omega
      clear hy h1 h2 hR hG
      go_wp2
      exact ⟨L - (i + 1), by have := unhide Hm; omega, _, i + 1, rfl, rfl, ⟨rfl, rfl, rfl, rfl, rfl, rfl, trivial⟩, rfl, by omega, unhide H1, unhide H2⟩
    · obtain rfl : i = L := by omega
      have hd : decide ((i : Int) < (i : Int)) = false := by simp
      have Hx : Hid (RowT B wr (.slice (some ⟨g, 0, none⟩) i c) (List.replicate i t)) := by
        have := hR
        rw [List.drop_eq_nil_of_le (by have := unhide HLe; omega), List.append_nil] at this
        exact this
      have HG := hide hG
      clear hR hG
      go_wp2
      exact unhide HQ _ (unhide Hx) (unhide HG) _ rfl ⟨rfl, rfl, rfl, rfl, rfl, trivial⟩
end Go.Proofs.YtkkbccdjbgjjaaaDoor

namespace Go.Proofs.YtkkbccdjbgjjaaaDoor
open Go.RowKit
attribute [local go_sem ↓] Go.wp_at_zero Go.wp_at_succ

theorem Stp.grown2 {g : Option Nat} {t : Tk} {W w w' : World} {row : Option Nat} (h : Stp g t W w) (hg : w.grownBy w' row) (hrow : ∀ k, row = some k → W.heap.size ≤ k) (hgk : ∀ k, g = some k → k < W.heap.size) : Stp g t W w' := by
  have hne : ∀ k, k < W.heap.size → some k ≠ row := fun k hk e => by have := hrow k e.symm; omega
  refine ⟨hg.os.trans h.os, hg.tape.trans h.tape, hg.output.trans h.output, Nat.le_trans h.size hg.size, fun k hk hkg => (hg.block k (Nat.lt_of_lt_of_le hk h.size) (hne k hk)).trans (h.block k hk hkg), fun k j e => ?_⟩
  have hk := hgk k e
  have e2 : w'.cell? ⟨k, j, none⟩ = w.cell? ⟨k, j, none⟩ := World.cell?_of_block (a := ⟨k, j, none⟩) (hg.block k (Nat.lt_of_lt_of_le hk h.size) (hne k hk))
  rw [e2]
  exact h.cells k j e
theorem grown_alloc {w w' : World} {row : Option Nat} {ob : Obj} (h : (w.alloc ob).grownBy w' row) : w.grownBy w' row := (World.grownBy_alloc w ob _).trans h
theorem ne_rows {W : World} {v u : Value} (h : ∀ k, v.ownBlock = some k → k < W.heap.size) (hu : ∀ k, u.ownBlock = some k → W.heap.size ≤ k) : v.ownBlock = none ∨ v.ownBlock ≠ u.ownBlock := by
  cases e : v.ownBlock with
  | none => exact .inl rfl
  | some k =>
    refine .inr fun q => ?_
    have h1 := h k e
    have h2 := hu k q.symm
    omega
theorem ne_row1 {W : World} {v : Value} {g n c : Nat} (h : ∀ k, v.ownBlock = some k → k < W.heap.size) (hg : W.heap.size ≤ g) : (Value.slice (some ⟨g, 0, none⟩) n c).ownBlock ≠ v.ownBlock := fun e => by
  have := h g e.symm
  omega
def MoreJ (W : World) (B L : Nat) (vl : Value) (t : Tk) (C : Value → List (Nat × Value)) (m : Nat) (a : Act) (w : World) : Prop := ∃ (tm : Array Value) (i : Nat) (vm : Value), a = ⟨tm, []⟩ ∧ tm.size = 160 ∧ chk tm (C vm) ∧ m = 96 - i ∧ i ≤ 96 ∧ Stp vl.ownBlock t W w ∧ RowT B w vl (List.replicate L t) ∧ RowT W.heap.size w vm (List.replicate i t)
set_option maxRecDepth 100000 in
set_option maxHeartbeats 4000000 in
theorem more_any {W : World} {p0 p3 p4 vl : Value} {bx B L : Nat} {t : Tk} (hl : RowT B W vl (List.replicate L t)) (hB : B ≤ W.heap.size) (hx : XAt W bx t) (hne : some bx ≠ vl.ownBlock) (hL : L ≤ 16384) {tm : Array Value} (hsz : tm.size = 160) (hchk : chk tm [(0, p0), (3, p3), (4, p4), (5, vl), (13, .pointer (some ⟨bx, 0, none⟩)), (15, .slice none 0 0)]) {Q : Exit → Act → World → Prop}
    (hQ : ∀ W' vm, Stp vl.ownBlock t W W' → RowT B W' vl (List.replicate L t) → RowT W.heap.size W' vm (List.replicate 96 t) → ∀ tm : Array Value, tm.size = 160 → chk tm [(0, p0), (3, p3), (4, p4), (5, vl), (13, .pointer (some ⟨bx, 0, none⟩)), (15, vm)] → Q .normal { tmps := tm, defers := [] } W') :
    skMore.wp Tryd.prog Q { tmps := tm, defers := [] } W := by
  obtain ⟨i0, hi0, hz0, hz1, hz2⟩ := info_parts Tryd.infoTok
  have HQ := hide hQ
  clear hQ
  have hgk : ∀ k, vl.ownBlock = some k → k < W.heap.size := fun k e => (World.ownsRow.lt hl k e).2
  obtain ⟨al, cl, rfl⟩ := hl.form
  simp only [List.length_replicate] at *
  obtain ⟨x, rfl⟩ := frame160 hsz
  obtain ⟨e0, e3, e4, e5, e13, e15, _⟩ := hchk
  replace e0 : x 0 = p0 := Option.some.inj e0
  replace e3 : x 3 = p3 := Option.some.inj e3
  replace e4 : x 4 = p4 := Option.some.inj e4
  replace e5 : x 5 = .slice al L cl := Option.some.inj e5
  replace e13 : x 13 = .pointer (some ⟨bx, 0, none⟩) := Option.some.inj e13
  replace e15 : x 15 = .slice none 0 0 := Option.some.inj e15
  rw [e0, e3, e4, e5, e13, e15]
  clear e0 e3 e4 e5 e13 e15
  have Hl := hide hl
  have Hx := hide hx
  have Hne := hide hne
  have Hgk := hide hgk
  clear hl hx hne hgk
  unfold skMore skRound skLoop
  dsimp only [Tryd.f3]
  go_wp2
  refine wp_loop_count (MoreJ W B L (.slice al L cl) t (fun vm => [(0, p0), (3, p3), (4, p4), (5, .slice al L cl), (13, .pointer (some ⟨bx, 0, none⟩)), (15, vm)])) ?_ 96 _ _ ⟨_, 0, _, rfl, rfl, ⟨rfl, rfl, rfl, rfl, rfl, rfl, trivial⟩, rfl, by omega, Stp.refl _ _ _, unhide Hl, World.ownsRow_nil _ _ _ _⟩
  rintro m _ wr ⟨tm, i, vm, rfl, hsz, hchk, hm, hi, hS, hV, hR⟩
  obtain ⟨am, cm, rfl⟩ := hR.form
  simp only [List.length_replicate] at hchk hR
  obtain ⟨u, rfl⟩ := frame160 hsz
  obtain ⟨e0, e3, e4, e5, e13, e15, _⟩ := hchk
  replace e0 : u 0 = p0 := Option.some.inj e0
  replace e3 : u 3 = p3 := Option.some.inj e3
  replace e4 : u 4 = p4 := Option.some.inj e4
  replace e5 : u 5 = .slice al L cl := Option.some.inj e5
  replace e13 : u 13 = .pointer (some ⟨bx, 0, none⟩) := Option.some.inj e13
  replace e15 : u 15 = .slice am i cm := Option.some.inj e15
  rw [e0, e3, e4, e5, e13, e15]
  clear e0 e3 e4 e5 e13 e15
  have Hm := hide hm
  have HS := hide hS
  have HV := hide hV
  have HR := hide hR
  clear hm hS hV hR
  have hsW := (unhide HS).size
  by_cases hlt : i < 96
  · have hrow : ∀ k, (Value.slice am i cm).ownBlock = some k → W.heap.size ≤ k := fun k e => (World.ownsRow.lt (unhide HR) k e).1
    have Hrow := hide hrow
    obtain ⟨x1, x2, x3⟩ : XAt wr bx t := (unhide Hx).block ((unhide HS).block bx (unhide Hx).lt (unhide Hne))
    have hd : decide ((i : Int) < 96) = true := by simp; omega
    have GO1 : True := trivial
    have GO2 : True := trivial
    clear hrow
    go_wp2_with (first
      | (at_builtin; clear GO1; refine wpList_append_lies _ rfl _ _ 25 rfl W.heap.size 31 i0 _ 3 32 Tryd.underlying25 hi0 hz0 hz1 hz2 rfl (by decide) _ i _ rfl (World.ownsRow.alloc (unhide HR).rep _) ⟨wr.heap.size, 0, none⟩ 1 1 (kcells (List.replicate 1 t)) rfl rfl (three_new _ _ _) (kcells_one _) (by decide) (by unfold maxLen; omega) (by omega) (by rw [World.size_alloc]; omega) _ rfl ?_; intro g1 c1 w1 ho hg _ hlt1; have HR1 : Hid (RowT W.heap.size w1 (.slice (some ⟨g1, 0, none⟩) (i + 1) c1) (List.replicate (i + 1) t)) := keeps_row ho; have HS1 : Hid (Stp (Value.slice al L cl).ownBlock t W w1) := (unhide HS).grown2 (grown_alloc hg) (unhide Hrow) (unhide Hgk); have HV1 : Hid (RowT B w1 (.slice al L cl) (List.replicate L t)) := (unhide HV).kept (grown_alloc hg) (ne_rows (unhide Hgk) (unhide Hrow)); have hs1 : W.heap.size ≤ w1.heap.size := (unhide HS1).size; clear ho hg hlt1)
      | (at_builtin; clear GO2; refine wpList_append_keeps _ rfl _ _ 25 rfl B 31 i0 _ 3 32 Tryd.underlying25 hi0 hz0 hz1 hz2 rfl (by decide) _ L _ rfl (unhide HV1).rep ⟨g1, 0, none⟩ (i + 1) c1 (kcells (List.replicate (i + 1) t)) rfl (by rw [kcells_len, List.length_replicate]) (unhide HR1).news (kcells_one _) (by omega) (by unfold maxLen; omega) (by omega) (by omega) ?_; intro g2 c2 w2 _ ho2 hg2 _ hc2; have HK2 := hide (keeps_stp hg2 hc2 ho2); have HR2 : Hid (RowT W.heap.size w2 (.slice (some ⟨g1, 0, none⟩) (i + 1) c1) (List.replicate (i + 1) t)) := (unhide HR1).kept hg2 (.inr (ne_row1 (unhide Hgk) (unhide HR1).lt.1)); clear ho2 hg2 hc2))
    exact ⟨96 - (i + 1), by have := unhide Hm; omega, _, i + 1, _, rfl, rfl, ⟨rfl, rfl, rfl, rfl, rfl, rfl, trivial⟩, rfl, by omega, (unhide HS1).trans (unhide HK2).1, (unhide HK2).2, unhide HR2⟩
  · obtain rfl : i = 96 := by omega
    go_wp2
    exact unhide HQ _ _ (unhide HS) (unhide HV) (unhide HR) _ rfl ⟨rfl, rfl, rfl, rfl, rfl, rfl, trivial⟩
end Go.Proofs.YtkkbccdjbgjjaaaDoor
