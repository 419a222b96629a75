import Derived.Test.YtaadpiimcaabkaaGreatDoorJ20

namespace Go.Proofs.YtaadpiimcaabkaaGreatDoor
open Go.RowKit
attribute [local go_sem ↓] Go.wp_at_zero Go.wp_at_succ

theorem infoFlds : (Tryz.prog.info? 43).map (fun i => (i.zero, i.size, i.bytes)) = some (some (.slice none 0 0), 1, 24) := by kernel_rfl
set_option maxRecDepth 100000 in
set_option maxHeartbeats 1000000 in
/-- A field alone in a list. -/
theorem blocks_1 (w : World) (d : Fd) : Calls Tryz.prog 175 #[.agg d.cs.toArray] w fun e w' => ∃ g, w.heap.size ≤ g ∧ e = .returned (.slice (some ⟨g, 0, none⟩) 1 1) ∧ w'.heap[g]? = some (.cells d.cs.toArray 42 (0, 0)) ∧ Below w.heap.size w w' := by
  obtain ⟨card, key, ty, nm, num, oneof⟩ := d
  unfold Fd.cs
  simp only
  obtain ⟨⟨c0, c1, c2, c3, c4, c5⟩, -, hb⟩ := fd_cells w card num oneof key ty nm
  obtain ⟨V, hV⟩ : ∃ V, w.alloc (.cells #[.int .i64 card, .string key, .string ty, .string nm, .int .i64 num, .int .i64 oneof] 42) = V := ⟨_, rfl⟩
  rw [hV] at c0 c1 c2 c3 c4 c5 hb
  have hs : V.heap.size = w.heap.size + 1 := by rw [← hV, World.size_alloc]
  have HB := hide hb
  have HN := hide (heap_new V (.cells #[.int .i64 card, .string key, .string ty, .string nm, .int .i64 num, .int .i64 oneof] 42))
  have HS := hide hs
  clear hb hs
  go_enter Tryz.func175, Tryz.ntmps175
  go_wp2
  go_ret
  refine ⟨V.heap.size, by rw [unhide HS]; omega, rfl, unhide HN, (unhide HB).alloc (unhide HB).size _⟩
def oneS (g : Nat) : Value := .slice (some ⟨g, 0, none⟩) 1 1
/-- Fields, each in a list of its own, these lists in a row. -/
structure Al (lo : Nat) (w : World) (v : Value) (l : List Fd) (gs : List Nat) : Prop where
  row : w.ownsRow lo 43 1 v l.length (gs.map oneS)
  len : gs.length = l.length
  blk : ∀ (i : Nat) (d : Fd) (g : Nat), l[i]? = some d → gs[i]? = some g → w.heap[g]? = some (.cells d.cs.toArray 42 (0, 0))
  nd : gs.Nodup
  low : ∀ g ∈ gs, lo ≤ g
theorem Al.up {lo : Nat} {w w' : World} {v : Value} {l : List Fd} {gs : List Nat} (h : Al lo w v l gs) (hb : Below w.heap.size w w') : Al lo w' v l gs :=
  ⟨own_up h.row hb, h.len, fun i d g h1 h2 => (hb.block _ (Array.getElem?_eq_some_iff.1 (h.blk i d g h1 h2)).1).trans (h.blk i d g h1 h2), h.nd, h.low⟩
theorem Al.lt {lo : Nat} {w : World} {v : Value} {l : List Fd} {gs : List Nat} (h : Al lo w v l gs) {g : Nat} (hg : g ∈ gs) : g < w.heap.size := by
  obtain ⟨i, hi, rfl⟩ := List.getElem_of_mem hg
  exact (Array.getElem?_eq_some_iff.1 (h.blk i _ _ (List.getElem?_eq_getElem (by rw [← h.len]; exact hi)) (List.getElem?_eq_getElem hi))).1
/-- One more behind them. -/
theorem Al.app {lo : Nat} {w w' : World} {v v' : Value} {l : List Fd} {gs : List Nat} {d : Fd} {g : Nat} (h : Al lo w v l gs) (hg : w.heap[g]? = some (.cells d.cs.toArray 42 (0, 0))) (hlo : lo ≤ g) (hn : g ∉ gs) (ho : w'.ownsRow lo 43 1 v' (l.length + 1) (gs.map oneS ++ [oneS g])) (hgr : w.grownBy w' v.ownBlock) : Al lo w' v' (l ++ [d]) (gs ++ [g]) := by
  have key : ∀ (k : Nat) (cs : Array Value), w.heap[k]? = some (.cells cs 42 (0, 0)) → w'.heap[k]? = some (.cells cs 42 (0, 0)) := by
    intro k cs hk
    refine (hgr.block k (Array.getElem?_eq_some_iff.1 hk).1 (fun e => ?_)).trans hk
    rcases h.row.2 with ⟨rfl, _⟩ | ⟨q, cap, cur, rfl, _, h4, _⟩
    · cases e
    · obtain rfl : k = q := by simpa [Value.ownBlock] using e
      rw [h4] at hk
      simp at hk
  refine ⟨?_, ?_, ?_, ?_, ?_⟩
  · rw [List.length_append, List.map_append]; exact ho
  · rw [List.length_append, List.length_append, h.len]; rfl
  · intro i d' g' h1 h2
    rcases Nat.lt_or_ge i l.length with q | q
    · rw [List.getElem?_append_left q] at h1
      rw [List.getElem?_append_left (by rw [h.len]; exact q)] at h2
      exact key _ _ (h.blk i d' g' h1 h2)
    · rw [List.getElem?_append_right q] at h1
      rw [List.getElem?_append_right (by rw [h.len]; exact q), h.len] at h2
      obtain ⟨q2, e2⟩ := List.getElem?_eq_some_iff.1 h1
      have q3 : i - l.length = 0 := by simp at q2; omega
      rw [q3] at h1 h2
      obtain rfl : d = d' := by simpa using h1
      obtain rfl : g = g' := by simpa using h2
      exact key _ _ hg
  · exact List.nodup_append.2 ⟨h.nd, by simp, fun a ha b hb => by simp at hb; subst hb; exact fun e => hn (e ▸ ha)⟩
  · intro x hx
    rcases List.mem_append.1 hx with q | q
    · exact h.low x q
    · simp at q; subst q; exact hlo
end Go.Proofs.YtaadpiimcaabkaaGreatDoor

namespace Go.Proofs.YtaadpiimcaabkaaGreatDoor
open Go.RowKit
attribute [local go_sem ↓] Go.wp_at_zero Go.wp_at_succ

theorem take_app {α : Type} {l : List α} {i : Nat} {x : α} (h : l[i]? = some x) : l.take (i + 1) = l.take i ++ [x] := by
  obtain ⟨hi, rfl⟩ := List.getElem?_eq_some_iff.1 h
  exact List.take_succ_eq_append_getElem hi
set_option maxRecDepth 100000 in
set_option maxHeartbeats 2000000 in
theorem eachF_any {W : World} {v : Value} {l : List Fd} (hv : Rl W v l.length (fldC l)) (hl : l.length ≤ 4096) (w0 : World) (hw : Below W.heap.size W w0) :
    Calls Tryz.prog 174 #[v, .func (.func 175) #[] #[]] w0 fun e w => ∃ u gs, e = .returned u ∧ Al w0.heap.size w u l gs ∧ Below w0.heap.size w0 w := by
  obtain ⟨a, c, rfl, hn, h2⟩ := hv
  obtain ⟨i0, hi, hz0, hz1, hz2⟩ := info_parts infoFlds
  have H2 := hide h2
  have HW := hide hw
  clear h2 hw
  go_enter Tryz.func174, Tryz.ntmps174
  go_wp2
  go_loopg [5, 7, 10] l.length (fun gk v5 _ v10 wr => ∃ (i : Nat) (gs : List Nat), v10 = .int .i64 (i : Int) ∧ gk = l.length - i ∧ i ≤ l.length ∧ Hid (Al w0.heap.size wr v5 (l.take i) gs) ∧ Hid (Below w0.heap.size w0 wr))
  case atStart => exact ⟨0, [], rfl, rfl, by omega, ⟨⟨rfl, .inl ⟨rfl, rfl⟩⟩, rfl, fun i d g h => by simp at h, List.nodup_nil, fun g h => by simp at h⟩, Below.refl _ _⟩
  case round =>
    obtain ⟨i, gs, rfl, hgk, hi2, HO, HB⟩ := hrel
    have Hgk := hide hgk
    clear hgk
    by_cases hlt : i < l.length
    · obtain ⟨g, o, rfl, hg, hc⟩ := unhide H2 (by omega)
      have hr := List.getElem?_eq_getElem hlt
      obtain ⟨r, hrr⟩ : ∃ r, l[i] = r := ⟨_, rfl⟩
      rw [hrr] at hr
      have HBW := hide (show Below W.heap.size W wr from (unhide HW).trans ((unhide HB).mono (unhide HW).size))
      have hcc : ∀ j, j < 6 → wr.cell? ⟨g, o + (i * 6 + j), none⟩ = r.cs[j]? := by
        intro j hj
        have e := fldC_at hr hj
        obtain ⟨x, hx⟩ : ∃ x, r.cs[j]? = some x := ⟨_, List.getElem?_eq_getElem (by unfold Fd.cs; exact hj)⟩
        rw [hx] at e ⊢
        exact ((unhide HBW).cell (p := ⟨g, o + (i * 6 + j), none⟩) hg).trans (hc _ _ e)
      have HTk := hide (take_app hr)
      have HC := hide (fun w' => blocks_1 w' r)
      obtain ⟨card, key, ty, nm, num, oneof⟩ := r
      unfold Fd.cs at hcc
      have x0 := hcc 0 (by decide)
      have x1 := hcc 1 (by decide)
      have x2 := hcc 2 (by decide)
      have x3 := hcc 3 (by decide)
      have x4 := hcc 4 (by decide)
      have x5 := hcc 5 (by decide)
      rw [Nat.add_zero] at x0
      rw [← Nat.add_assoc] at x1 x2 x3 x4 x5
      simp only [List.getElem?_cons_zero, List.getElem?_cons_succ] at x0 x1 x2 x3 x4 x5
      obtain ⟨-, hn0, hb0⟩ := fd_cells wr card num oneof key ty nm
      obtain ⟨X, hX⟩ : ∃ X, wr.alloc (.cells #[.int .i64 card, .string key, .string ty, .string nm, .int .i64 num, .int .i64 oneof] 42) = X := ⟨_, rfl⟩
      rw [hX] at hn0 hb0
      obtain ⟨b0, b1, b2, b3, b4, b5⟩ := fd_of hn0
      have HBX := hide ((unhide HB).trans (hb0.mono (unhide HB).size))
      have HOX := hide ((unhide HO).up hb0)
      have HltX := hide (fun g' (h : g' ∈ gs) => Nat.lt_of_lt_of_le ((unhide HO).lt h) hb0.size)
      have HCX := hide (unhide HC X)
      have i0' : (0 : Int) ≤ (i : Int) := Int.natCast_nonneg _
      have i1 : (i : Int) < (l.length : Int) := by omega
      have Hlt := hide hlt
      have Hl := hide hl
      have Htl := hide (show (l.take i).length = i by rw [List.length_take]; omega)
      unfold Fd.cs at HCX
      clear hc hr hrr hb0 HO HB HBW hlt hcc hn0 HC
      go_wp2_with fail
      refine (unhide HCX).mono ?_
      rintro e w1 ⟨gn, hgn, rfl, hbk, hb1⟩
      have HA1 := hide ((unhide HOX).up hb1)
      have HB1 := hide ((unhide HBX).trans (hb1.mono (unhide HBX).size))
      have HS1 := hide (unhide HB1).size
      have Hbk := hide hbk
      have Hgn := hide hgn
      have HnX := hide (show gn ∉ gs from fun h => by have := unhide HltX gn h; omega)
      have HloN := hide (Nat.le_trans (unhide HBX).size hgn)
      have hrow := (unhide HA1).row
      rw [unhide Htl] at hrow
      have HRow := hide hrow
      clear hb1 hbk hgn HCX HOX HBX HltX hrow
      go_wp2_with (at_builtin; refine wpList_append_own_at _ rfl _ _ 164 rfl w0.heap.size 43 i0 (.slice none 0 0) 1 24 Tryz.underlying164 hi hz0 hz1 hz2 rfl (by decide) _ _ _ rfl ((unhide HRow).alloc _) ⟨w1.heap.size, 0, none⟩ 1 1 [.slice (some ⟨gn, 0, none⟩) 1 1] rfl rfl (cell_one_new _ _ _) (by simp [Value.oneCell']) (by have := unhide Hlt; have := unhide Hl; unfold maxLen; omega) (by have := unhide Hlt; have := unhide Hl; omega) (by rw [World.size_alloc]; have := unhide HS1; omega) ?_; intro v' w2 ho hg2 _ _; have hgB := (World.grownBy_alloc w1 _ _).trans hg2; have HA2 := hide ((unhide HA1).app (d := ⟨card, key, ty, nm, num, oneof⟩) (unhide Hbk) (unhide HloN) (unhide HnX) (by rw [unhide Htl]; exact ho) hgB); have HB2 := hide ((unhide HB1).grown hgB (unhide HS1) (fun k e => ((unhide HA1).row.lt k e).1)); clear ho hg2 hgB)
      rw [← unhide HTk] at HA2
      go_roundg (l.length - (i + 1))
      case measure => have := unhide Hgk; have := unhide Hlt; omega
      case rel => exact ⟨i + 1, gs ++ [gn], by go_num, rfl, unhide Hlt, HA2, HB2⟩
    · obtain rfl : i = l.length := by omega
      have hO := unhide HO
      rw [List.take_length] at hO
      have HO2 := hide hO
      clear hO
      go_wp2
      go_ret
      exact ⟨_, gs, rfl, unhide HO2, unhide HB⟩
end Go.Proofs.YtaadpiimcaabkaaGreatDoor

namespace Go.Proofs.YtaadpiimcaabkaaGreatDoor
open Go.RowKit
attribute [local go_sem ↓] Go.wp_at_zero Go.wp_at_succ

theorem infoFld : (Tryz.prog.info? 42).map (fun i => (i.zero, i.size, i.bytes)) = some (some (.agg #[.int .i64 0, .string ⟨#[]⟩, .string ⟨#[]⟩, .string ⟨#[]⟩, .int .i64 0, .int .i64 0]), 6, 72) := by kernel_rfl
theorem fldC_snoc (G : List Fd) (d : Fd) : fldC (G ++ [d]) = fldC G ++ d.cs := by unfold fldC; rw [List.flatMap_append]; simp
theorem wpList_app_fld {w : World} {ops : Array Oper} {rest : List Oper} {o : Oper} {a : Act} {Q : Exit → Act → World → Prop} (hgd : o.guard = none) (s x : Operand) (ho : o.op = .call { callee := .builtin .append, args := #[s, x], argTypes := #[43, 43] })
    (lo : Nat) (v : Value) (n : Nat) (xs : List Value) (hs : a.eval s = v) (hown : w.ownsRow lo 42 6 v n xs) (g : Nat) (d : Fd) (hx : a.eval x = .slice (some ⟨g, 0, none⟩) 1 1) (hg : ∀ j y, d.cs[j]? = some y → w.cell? ⟨g, j, none⟩ = some y) (hn : n ≤ 4096) (hlo : lo ≤ w.heap.size)
    (h : ∀ v' w', w'.ownsRow lo 42 6 v' (n + 1) (xs ++ d.cs) → w.grownBy w' v.ownBlock → (v'.ownBlock = v.ownBlock ∨ v'.ownBlock = some w.heap.size) → wpList Tryz.prog ops Q rest (a.put o.dst v') w') : wpList Tryz.prog ops Q (o :: rest) a w := by
  obtain ⟨i0, hi, hz0, hz1, hz2⟩ := info_parts infoFld
  refine wpList_append_own_at _ hgd s x 43 ho lo 42 i0 _ 6 72 Tryz.underlying43 hi hz0 hz1 hz2 rfl (by decide) v n xs hs hown ⟨g, 0, none⟩ 1 1 d.cs hx rfl (fun j y hy => by have e := hg j y hy; by_cases hj : j = 0 <;> simpa [Addr.add, hj] using e) ?_ (by unfold maxLen; omega) (by omega) hlo (fun v' w' h1 h2 _ h3 => h v' w' h1 h2 h3)
  intro y hy
  simp [Fd.cs] at hy
  rcases hy with rfl | rfl | rfl | rfl | rfl | rfl <;> rfl
/-- What joining two lists leaves. -/
def JoQ (lo : Nat) (w : World) (u : Value) (G : List Fd) (d : Fd) (q : Bool) (e : Ending) (w' : World) : Prop := if q then ∃ u', e = .returned (.tuple #[u', .bool true]) ∧ w'.ownsRow lo 42 6 u' (G.length + 1) (fldC (G ++ [d])) ∧ w.grownBy w' u.ownBlock ∧ (u'.ownBlock = u.ownBlock ∨ u'.ownBlock = some w.heap.size) else e = .returned (.tuple #[.slice none 0 0, .bool false]) ∧ Below w.heap.size w w'
def joins (a b : Fd) : Bool := !(a.oneof == 0) && (a.oneof == b.oneof)
set_option maxRecDepth 100000 in
set_option maxHeartbeats 1000000 in
theorem blocks_2 {w : World} {lo g : Nat} {u : Value} {G : List Fd} {d1 d : Fd} (hu : w.ownsRow lo 42 6 u G.length (fldC G)) (h0 : G[0]? = some d1) (hG : G.length ≤ 4096) (hg : w.heap[g]? = some (.cells d.cs.toArray 42 (0, 0))) (hlo : lo ≤ w.heap.size) :
    Calls Tryz.prog 177 #[u, .slice (some ⟨g, 0, none⟩) 1 1] w (JoQ lo w u G d (joins d1 d)) := by
  have hpos : 0 < G.length := (List.getElem?_eq_some_iff.1 h0).1
  have HU := hide hu
  obtain ⟨h1, ⟨rfl, h2⟩ | ⟨h, c, cur, rfl, hB, hh, h3, h4, h5, h6⟩⟩ := hu
  · omega
  have a5 : w.cell? ⟨h, 5, none⟩ = some (.int .i64 d1.oneof) := by
    rw [cell_of_row _ _ _ _ _ _ hh, ← Array.getElem?_toList]
    have e1 := fldC_at h0 (j := 5) (by decide)
    rw [← h6, List.getElem?_take, if_pos (by omega)] at e1
    simpa [Fd.cs] using e1
  have gc : ∀ j x, d.cs[j]? = some x → w.cell? ⟨g, j, none⟩ = some x := by
    intro j x hx
    rw [cell_of_row _ _ _ _ _ _ hg]
    simpa using hx
  have b5 := gc 5 _ rfl
  have Hgc := hide gc
  have i1 : (0 : Int) < (G.length : Int) := by omega
  have HG := hide hG
  have Hlo := hide hlo
  unfold joins JoQ
  clear h1 hB hh h3 h4 h5 h6 gc hg h0 hlo
  cases q0 : (d1.oneof == 0) with
  | true =>
    go_enter Tryz.func177, Tryz.ntmps177
    go_wp2_with fail
    go_quiet (fail)
    go_wp2
    go_ret2
    exact ⟨rfl, below_drewN (Below.refl _ _) _⟩
  | false =>
    cases q1 : (d1.oneof == d.oneof) with
    | false =>
      have q2 : (d1.oneof != d.oneof) = true := by simpa [bne] using q1
      go_enter Tryz.func177, Tryz.ntmps177
      go_wp2_with fail
      go_quiet (fail)
      go_wp2
      go_ret2
      exact ⟨rfl, below_drewN (Below.refl _ _) _⟩
    | true =>
      have q2 : (d1.oneof != d.oneof) = false := by simpa [bne] using q1
      go_enter Tryz.func177, Tryz.ntmps177
      go_wp2_with fail
      go_quiet (fail)
      have HU2 := hide (own_up (unhide HU) (below_drewN (Below.refl w.heap.size w) nq))
      have Hgc2 : Hid (∀ j x, d.cs[j]? = some x → (w.drewN nq).cell? ⟨g, j, none⟩ = some x) := fun j x hx => unhide Hgc j x hx
      clear a5 b5 q0 q1 q2
      go_wp2_with (at_builtin; refine wpList_app_fld rfl _ _ rfl lo _ _ _ rfl (unhide HU2) g d rfl (unhide Hgc2) (unhide HG) (unhide Hlo) ?_; intro v' w2 ho hg2 hat; have HO2 := hide ho; have HG2 := hide hg2; have HA2 := hide hat; obtain ⟨a', l', c', rfl⟩ : ∃ a l c, v' = .slice a l c := (by rcases ho.2 with ⟨rfl, _⟩ | ⟨_, _, _, rfl, _⟩ <;> exact ⟨_, _, _, rfl⟩); clear ho hg2 hat)
      go_ret2
      have hg := unhide HG2
      exact ⟨_, rfl, by rw [fldC_snoc]; exact unhide HO2, ⟨hg.os, hg.tape, hg.output, hg.size, hg.block⟩, unhide HA2⟩
end Go.Proofs.YtaadpiimcaabkaaGreatDoor
