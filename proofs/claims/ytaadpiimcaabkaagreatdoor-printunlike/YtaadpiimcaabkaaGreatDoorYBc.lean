import Derived.Test.YtaadpiimcaabkaaGreatDoorJ38
import Derived.Deep.DeepCutAuto

namespace Go.Proofs.YtaadpiimcaabkaaGreatDoor
open Go.RowKit
attribute [local go_sem ↓] Go.wp_at_zero Go.wp_at_succ

theorem infoEv : (Tryz.prog.info? 74).map (fun i => (i.zero, i.size, i.bytes)) = some (some (.agg #[.string ByteArray.empty, .int .i64 0]), 2, 24) := by kernel_rfl
theorem infoEn : (Tryz.prog.info? 67).map (fun i => (i.zero, i.size, i.bytes)) = some (some (.agg #[.string ByteArray.empty, .slice none 0 0, .slice none 0 0, .slice none 0 0]), 4, 88) := by kernel_rfl
theorem take_ev {l : List (ByteArray × Int)} {i : Nat} {x : ByteArray × Int} (h : l[i]? = some x) : evC (l.take (i + 1)) = evC (l.take i) ++ [.string x.1, .int .i64 x.2] := by
  rw [take_app h]
  unfold evC
  rw [List.flatMap_append]
  simp
/-- The lists of an enum are not too long. -/
def ReE (e : En) : Prop := e.vals.length * 24 ≤ 140737488355328 ∧ e.res.length * 16 ≤ 140737488355328 ∧ e.gone.length * 16 ≤ 140737488355328
/-- Out of the row's own block. -/
def Rest (B : Nat) (v : Value) (g : Nat) : Prop := B ≤ g ∧ v.ownBlock ≠ some g
theorem wpAnyZ_two {P : Program} {md : Region.Mode} {ops : Array Oper} {Q : Exit → Act → World → Prop} {T : World → Prop} {z : Nat} (i j : Nat) {oi oj : Oper} {n : Nat} {d : Array Bool} {a : Act} {w : World} (hr : Region.ready md ops d = [i, j]) (hi : ops[i]? = some oi) (hj : ops[j]? = some oj)
    (h1 : ∀ K : Act → World → Prop, (∀ a' w', ((i ≠ z → T w') ∧ wpAnyZ P md ops Q T z n (d.setIfInBounds i true) a' w') → K a' w') → if Region.wanted oi (yielded ops a.tmps) = true then Oper.wp P oi a w K Q else K (a.put oi.dst undef) w)
    (h2 : ∀ K : Act → World → Prop, (∀ a' w', ((j ≠ z → T w') ∧ wpAnyZ P md ops Q T z n (d.setIfInBounds j true) a' w') → K a' w') → if Region.wanted oj (yielded ops a.tmps) = true then Oper.wp P oj a w K Q else K (a.put oj.dst undef) w) : wpAnyZ P md ops Q T z (n + 1) d a w := by
  refine ⟨fun h0 => (by rw [h0] at hr; cases hr), fun k hk => ?_⟩
  rw [hr] at hk
  rcases (by simpa using hk : k = i ∨ k = j) with rfl | rfl
  · exact wpOp_step hi h1
  · exact wpOp_step hj h2
theorem own_low {B B' : Nat} {w : World} {e size n : Nat} {v : Value} {xs : List Value} (h : w.ownsRow B e size v n xs) (hb : B' ≤ B) : w.ownsRow B' e size v n xs := by
  obtain ⟨h1, h | ⟨g, cap, cur, rfl, h2, h3⟩⟩ := h
  · exact ⟨h1, .inl h⟩
  · exact ⟨h1, .inr ⟨g, cap, cur, rfl, Nat.le_trans hb h2, h3⟩⟩
theorem own_form {B : Nat} {w : World} {e size n : Nat} {v : Value} {xs : List Value} (h : w.ownsRow B e size v n xs) : ∃ a c, v = .slice a n c := by
  obtain ⟨h1, ⟨rfl, rfl⟩ | ⟨g, cap, cur, rfl, h2, h3⟩⟩ := h
  · exact ⟨_, _, rfl⟩
  · exact ⟨_, _, rfl⟩
/-- A copy of an enum under way: its lists, and the block that holds it. -/
structure CpE (wr w : World) (b : Nat) (uv ur ug : Value) (m : En) : Prop where
  bel : Below wr.heap.size wr w
  low : wr.heap.size ≤ b
  blk : w.heap[b]? = some (.cells #[.string m.name, uv, ur, ug] 67 (0, 0))
  r : w.ownsRow wr.heap.size 111 2 ur m.res.length (rgC m.res)
  g : w.ownsRow wr.heap.size 9 1 ug m.gone.length (strC m.gone)
theorem own_apart {B : Nat} {w : World} {e size n b t : Nat} {v : Value} {xs : List Value} {cs : Array Value} {fr : Nat × Nat} (h : w.ownsRow B e size v n xs) (hb : w.heap[b]? = some (.cells cs t fr)) (ht : e ≠ t) : v.ownBlock ≠ some b := by
  intro hv
  obtain ⟨h1, ⟨rfl, _⟩ | ⟨g, cap, cur, rfl, _, h4, _⟩⟩ := h
  · cases hv
  · obtain rfl : g = b := by simpa [Value.ownBlock] using hv
    rw [h4] at hb
    simp at hb
    exact ht hb.2.1
theorem own_two {B B' : Nat} {w : World} {e e' size size' n n' : Nat} {v u : Value} {xs ys : List Value} (h : w.ownsRow B e size v n xs) (k : w.ownsRow B' e' size' u n' ys) (ht : e ≠ e') : u.ownBlock = none ∨ u.ownBlock ≠ v.ownBlock := by
  cases hu : u.ownBlock with
  | none => exact .inl rfl
  | some q =>
    obtain ⟨k1, ⟨rfl, _⟩ | ⟨g, cap, cur, rfl, _, h4, _⟩⟩ := k
    · cases hu
    · obtain rfl : g = q := by simpa [Value.ownBlock] using hu
      exact .inr (fun e => own_apart h h4 ht e.symm)
theorem CpE.keep {wr w w' : World} {b : Nat} {uv ur ug : Value} {m : En} (h : CpE wr w b uv ur ug m) {k : Option Nat} (hg : w.grownBy w' k) (h1 : ∀ j, k = some j → wr.heap.size ≤ j) (h2 : k ≠ some b) (h3 : ur.ownBlock = none ∨ ur.ownBlock ≠ k) (h4 : ug.ownBlock = none ∨ ug.ownBlock ≠ k) : CpE wr w' b uv ur ug m :=
  ⟨h.bel.grown hg h.bel.size h1, h.low, (hg.block _ (Array.getElem?_eq_some_iff.1 h.blk).1 (fun e => h2 e.symm)).trans h.blk, h.r.kept hg h3, h.g.kept hg h4⟩
theorem CpE.below {wr w w' : World} {b : Nat} {uv ur ug : Value} {m : En} (h : CpE wr w b uv ur ug m) (hb : Below w.heap.size w w') : CpE wr w' b uv ur ug m :=
  ⟨h.bel.trans (hb.mono h.bel.size), h.low, (hb.block _ (Array.getElem?_eq_some_iff.1 h.blk).1).trans h.blk, own_up h.r hb, own_up h.g hb⟩
/-- The copy is stored. -/
theorem CpE.new {wr w : World} {b : Nat} {ur ug x0 x1 x2 x3 : Value} {m : En} (hb : Below wr.heap.size wr w) (hlo : wr.heap.size ≤ b) (hk : w.heap[b]? = some (.cells #[x0, x1, x2, x3] 67 (0, 0))) (hr : w.ownsRow wr.heap.size 111 2 ur m.res.length (rgC m.res)) (hg : w.ownsRow wr.heap.size 9 1 ug m.gone.length (strC m.gone)) :
    CpE wr ((((w.setCell ⟨b, 0, none⟩ (.string m.name)).setCell ⟨b, 1, none⟩ (.slice none 0 0)).setCell ⟨b, 2, none⟩ ur).setCell ⟨b, 3, none⟩ ug) b (.slice none 0 0) ur ug m := by
  obtain ⟨a1, a2⟩ := set_block (j := 0) hk (.string m.name)
  obtain ⟨b1, b2⟩ := set_block (j := 1) a1 (.slice none 0 0)
  obtain ⟨c1, c2⟩ := set_block (j := 2) b1 ur
  obtain ⟨d1, d2⟩ := set_block (j := 3) c1 ug
  have hgr := ((a2.trans b2).trans c2).trans d2
  exact ⟨hb.grown hgr hb.size (fun k e => by obtain rfl := Option.some.inj e; exact hlo), hlo, d1, hr.kept hgr (.inr (own_apart hr hk (by decide))), hg.kept hgr (.inr (own_apart hg hk (by decide)))⟩
/-- Another list of values is stored. -/
theorem CpE.val {wr w : World} {b : Nat} {uv ur ug : Value} {m : En} (h : CpE wr w b uv ur ug m) (u : Value) : CpE wr (w.setCell ⟨b, 1, none⟩ u) b u ur ug m ∧ w.grownBy (w.setCell ⟨b, 1, none⟩ u) (some b) := by
  obtain ⟨a1, a2⟩ := set_block (j := 1) h.blk u
  exact ⟨⟨h.bel.grown a2 h.bel.size (fun k e => by obtain rfl := Option.some.inj e; exact h.low), h.low, a1, h.r.kept a2 (.inr (own_apart h.r h.blk (by decide))), h.g.kept a2 (.inr (own_apart h.g h.blk (by decide)))⟩, a2⟩
theorem out_new {w0 wo wr wy w2 : World} {v3 v' uv ur ug : Value} {cs' : List Value} {l : List En} {i b : Nat} {m : En} (hO : wo.ownsRow w0.heap.size 67 4 v3 i cs') (hE : EsO (Rest w0.heap.size v3) wo cs' (l.take i)) (hC : CpE wo wr b uv ur ug m) (hV : wr.ownsRow wo.heap.size 74 2 uv m.vals.length (evC m.vals)) (hm : ReE m) (hB : w0.heap.size ≤ wo.heap.size) (hr : l[i]? = some m)
    (hy : Below wr.heap.size wr wy) (hg : wy.grownBy w2 v3.ownBlock) (hob : v'.ownBlock = v3.ownBlock ∨ v'.ownBlock = some wy.heap.size) : EsO (Rest w0.heap.size v') w2 (cs' ++ [.string m.name, uv, ur, ug]) (l.take (i + 1)) := by
  obtain ⟨hm1, hm2, hm3⟩ := hm
  have hs1 := hC.bel.size
  have hs2 := hy.size
  rw [take_app hr]
  refine (hE.mono (R' := Rest w0.heap.size v') (fun g hg1 hl => ?_)).app (.cons ((own_owR hV (by omega)).mono ?_) ((own_owR hC.r (by omega)).mono ?_) ((own_owR hC.g (by omega)).mono ?_) .nil)
  · refine ⟨((hg.block g (by omega) (fun e => hg1.2 e.symm)).trans (hy.block g (by omega))).trans (hC.bel.block g hl), hg1.1, ?_⟩
    rcases hob with e | e
    · rw [e]; exact hg1.2
    · rw [e]; intro q; obtain rfl := Option.some.inj q; omega
  all_goals
    intro g hg1 hl
    have hne : v3.ownBlock ≠ some g := fun e => by have := (hO.lt g e).2; omega
    refine ⟨(hg.block g (by omega) (fun e => hne e.symm)).trans (hy.block g (by omega)), by omega, ?_⟩
    rcases hob with e | e
    · rw [e]; exact hne
    · rw [e]; intro q; obtain rfl := Option.some.inj q; omega
theorem cells_new (w : World) (xs : List Value) (t : TypeId) : ∀ j u, xs[j]? = some u → (w.alloc (.cells xs.toArray t)).cell? ((⟨w.heap.size, 0, none⟩ : Addr).add j) = some u := by
  intro j u h
  have e : (w.alloc (.cells xs.toArray t)).cell? ⟨w.heap.size, j, none⟩ = some u := by
    rw [cell_of_row _ _ _ _ _ _ (heap_new w _)]
    simpa using h
  by_cases hj : j = 0 <;> simpa [Addr.add, hj] using e
set_option maxRecDepth 100000 in
set_option maxHeartbeats 4000000 in
theorem enums_any {W : World} {v : Value} {l : List En} {cs : List Value} (hv : Rl W v l.length cs) (he : EsL W cs l) (hl : l.length * 88 ≤ 140737488355328) (hz : ∀ e ∈ l, ReE e) (w0 : World) (hw : Below W.heap.size W w0) :
    Calls Tryz.prog 18 #[v] w0 fun e w => ∃ u cs', e = .returned u ∧ w.ownsRow w0.heap.size 67 4 u l.length cs' ∧ EsO (Rest w0.heap.size u) w cs' l ∧ Below w0.heap.size w0 w := by
  obtain ⟨a, c, rfl, hn, h2⟩ := hv
  obtain ⟨i0, hi, hz0, hz1, hz2⟩ := info_parts infoEn
  obtain ⟨j0, hj, jz0, jz1, jz2⟩ := info_parts infoEv
  have H2 := hide h2
  have HW := hide hw
  have Hl := hide hl
  have Hes := hide he
  have Hz := hide hz
  clear h2 hw hl he hz
  go_enter Tryz.func18, Tryz.ntmps18
  go_wp2
  go_loopg [3, 4, 5, 6] l.length (fun gk v3 v4 _ _ wr => ∃ (i : Nat) (cs' : List Value), v4 = .int .i64 (i : Int) ∧ gk = l.length - i ∧ i ≤ l.length ∧ Hid (wr.ownsRow w0.heap.size 67 4 v3 i cs') ∧ Hid (EsO (Rest w0.heap.size v3) wr cs' (l.take i)) ∧ Hid (Below w0.heap.size w0 wr))
  case atStart => exact ⟨0, [], rfl, rfl, by omega, ⟨rfl, .inl ⟨rfl, rfl⟩⟩, .nil, Below.refl _ _⟩
  case round =>
    obtain ⟨i, cs', rfl, hgk, hi2, HO, HES, HB⟩ := hrel
    have Hgk := hide hgk
    clear hgk
    obtain ⟨wo, hwo⟩ : ∃ x, x = wr := ⟨_, rfl⟩
    subst hwo
    by_cases hlt : i < l.length
    · obtain ⟨g, o, rfl, hg, hc⟩ := unhide H2 (by omega)
      have hr := List.getElem?_eq_getElem hlt
      have hmem := List.getElem_mem hlt
      obtain ⟨m, hmm⟩ : ∃ m, l[i] = m := ⟨_, rfl⟩
      rw [hmm] at hr hmem
      obtain ⟨vv, vr, vg, hsl, hvv, hvr, hvg⟩ := (unhide Hes).at i m hr
      have HBW := hide (show Below W.heap.size W wo from (unhide HW).trans ((unhide HB).mono (unhide HW).size))
      have HXs : Hid (∀ w', Below W.heap.size W w' → w'.cell? ⟨g, o + i * 4, none⟩ = some (.string m.name) ∧ w'.cell? ⟨g, o + i * 4 + 1, none⟩ = some vv ∧ w'.cell? ⟨g, o + i * 4 + 2, none⟩ = some vr ∧ w'.cell? ⟨g, o + i * 4 + 3, none⟩ = some vg) := by
        intro w' hb
        have key : ∀ (j : Nat) (x : Value), [Value.string m.name, vv, vr, vg][j]? = some x → w'.cell? ⟨g, o + (i * 4 + j), none⟩ = some x := fun j x hx => (hb.cell (p := ⟨g, o + (i * 4 + j), none⟩) hg).trans (hc _ _ (by
          rw [← hsl, List.getElem?_take, List.getElem?_drop] at hx
          split at hx
          · exact hx
          · cases hx))
        exact ⟨key 0 _ rfl, key 1 _ rfl, key 2 _ rfl, key 3 _ rfl⟩
      have HR := hide (fun w' hb => ranges_any hvr (unhide Hz m hmem).2.1 w' hb)
      have HT := hide (fun w' hb => texts_any hvg (unhide Hz m hmem).2.2 w' hb)
      obtain ⟨av, cv, rfl, hnv, hv3⟩ := hvv
      obtain ⟨ar, cr, rfl, -, -⟩ := hvr
      obtain ⟨ag, cg, rfl, -, -⟩ := hvg
      have HV3 := hide hv3
      have i0' : (0 : Int) ≤ (i : Int) := Int.natCast_nonneg _
      have i1 : (i : Int) < (l.length : Int) := by omega
      have Hlt := hide hlt
      have Hmz := hide (unhide Hz m hmem)
      have Hr := hide hr
      have HS1 := hide (unhide HB).size
      clear hc hmem hmm hsl hv3 hlt hr
      go_upto_region 5 with fail
      go_cut [5] (fun v5 wx => ∃ (b : Nat) (ur ug : Value), v5 = .pointer (some ⟨b, 0, none⟩) ∧ Hid (CpE wo wx b (.slice none 0 0) ur ug m))
      case first =>
        refine wp_region_any (by kernel_rfl) (wpAny_of_Z (z := 99) (T := fun w' => Below W.heap.size W w') _ _ _ _ ?_)
        try (change wpAnyZ _ _ _ _ _ _ _ _ _ (World.drew _))
        have hbW : Below W.heap.size W wo.drew := below_drewN (unhide HBW) 1
        have hbr : Below wo.heap.size wo wo.drew := below_drewN (Below.refl wo.heap.size wo) 1
        obtain ⟨wd, hwd⟩ : ∃ x, wo.drew = x := ⟨_, rfl⟩
        rw [hwd] at hbW hbr ⊢
        have hT := hbW
        refine wpAnyZ_tk 0 (.slice (some ⟨g, o, none⟩) l.length c) 13 rfl rfl (Or.inl ⟨by rfl, fun w' hw => by obtain ⟨x0, x1, x2, x3⟩ := unhide HXs w' hw; go_simp⟩) hT ?_
        simp only [Act.put, List.setIfInBounds_toArray, List.set_cons_zero, List.set_cons_succ]
        refine wpAnyZ_tk 1 (.int .i64 (i : Int)) 14 rfl rfl (Or.inl ⟨by rfl, fun w' hw => by obtain ⟨x0, x1, x2, x3⟩ := unhide HXs w' hw; go_simp⟩) hT ?_
        simp only [Act.put, List.setIfInBounds_toArray, List.set_cons_zero, List.set_cons_succ]
        refine wpAnyZ_tk 2 (.pointer (some ⟨g, o + i * 4, none⟩)) 15 rfl rfl (Or.inl ⟨by rfl, fun w' hw => by obtain ⟨x0, x1, x2, x3⟩ := unhide HXs w' hw; go_simp⟩) hT ?_
        simp only [Act.put, List.setIfInBounds_toArray, List.set_cons_zero, List.set_cons_succ]
        refine wpAnyZ_tk 3 (.pointer (some ⟨g, o + i * 4, none⟩)) 16 rfl rfl (Or.inl ⟨by rfl, fun w' hw => by obtain ⟨x0, x1, x2, x3⟩ := unhide HXs w' hw; go_simp⟩) hT ?_
        simp only [Act.put, List.setIfInBounds_toArray, List.set_cons_zero, List.set_cons_succ]
        refine wpAnyZ_tk 4 (.string m.name) 17 rfl rfl (Or.inl ⟨by rfl, fun w' hw => by obtain ⟨x0, x1, x2, x3⟩ := unhide HXs w' hw; go_simp⟩) hT ?_
        simp only [Act.put, List.setIfInBounds_toArray, List.set_cons_zero, List.set_cons_succ]
        refine wpAnyZ_tk 5 (.slice (some ⟨g, o, none⟩) l.length c) 18 rfl rfl (Or.inl ⟨by rfl, fun w' hw => by obtain ⟨x0, x1, x2, x3⟩ := unhide HXs w' hw; go_simp⟩) hT ?_
        simp only [Act.put, List.setIfInBounds_toArray, List.set_cons_zero, List.set_cons_succ]
        refine wpAnyZ_tk 6 (.int .i64 (i : Int)) 19 rfl rfl (Or.inl ⟨by rfl, fun w' hw => by obtain ⟨x0, x1, x2, x3⟩ := unhide HXs w' hw; go_simp⟩) hT ?_
        simp only [Act.put, List.setIfInBounds_toArray, List.set_cons_zero, List.set_cons_succ]
        refine wpAnyZ_tk 7 (.pointer (some ⟨g, o + i * 4, none⟩)) 20 rfl rfl (Or.inl ⟨by rfl, fun w' hw => by obtain ⟨x0, x1, x2, x3⟩ := unhide HXs w' hw; go_simp⟩) hT ?_
        simp only [Act.put, List.setIfInBounds_toArray, List.set_cons_zero, List.set_cons_succ]
        refine wpAnyZ_tk 8 (.pointer (some ⟨g, o + i * 4 + 2, none⟩)) 21 rfl rfl (Or.inl ⟨by rfl, fun w' hw => by obtain ⟨x0, x1, x2, x3⟩ := unhide HXs w' hw; go_simp⟩) hT ?_
        simp only [Act.put, List.setIfInBounds_toArray, List.set_cons_zero, List.set_cons_succ]
        refine wpAnyZ_tk 9 (.slice ar m.res.length cr) 22 rfl rfl (Or.inl ⟨by rfl, fun w' hw => by obtain ⟨x0, x1, x2, x3⟩ := unhide HXs w' hw; go_simp⟩) hT ?_
        simp only [Act.put, List.setIfInBounds_toArray, List.set_cons_zero, List.set_cons_succ]
        refine wpAnyZ_tk 11 (.slice (some ⟨g, o, none⟩) l.length c) 24 rfl rfl (Or.inl ⟨by rfl, fun w' hw => by obtain ⟨x0, x1, x2, x3⟩ := unhide HXs w' hw; go_simp⟩) hT ?_
        simp only [Act.put, List.setIfInBounds_toArray, List.set_cons_zero, List.set_cons_succ]
        refine wpAnyZ_tk 12 (.int .i64 (i : Int)) 25 rfl rfl (Or.inl ⟨by rfl, fun w' hw => by obtain ⟨x0, x1, x2, x3⟩ := unhide HXs w' hw; go_simp⟩) hT ?_
        simp only [Act.put, List.setIfInBounds_toArray, List.set_cons_zero, List.set_cons_succ]
        refine wpAnyZ_tk 13 (.pointer (some ⟨g, o + i * 4, none⟩)) 26 rfl rfl (Or.inl ⟨by rfl, fun w' hw => by obtain ⟨x0, x1, x2, x3⟩ := unhide HXs w' hw; go_simp⟩) hT ?_
        simp only [Act.put, List.setIfInBounds_toArray, List.set_cons_zero, List.set_cons_succ]
        refine wpAnyZ_tk 14 (.pointer (some ⟨g, o + i * 4 + 3, none⟩)) 27 rfl rfl (Or.inl ⟨by rfl, fun w' hw => by obtain ⟨x0, x1, x2, x3⟩ := unhide HXs w' hw; go_simp⟩) hT ?_
        simp only [Act.put, List.setIfInBounds_toArray, List.set_cons_zero, List.set_cons_succ]
        refine wpAnyZ_tk 15 (.slice ag m.gone.length cg) 28 rfl rfl (Or.inl ⟨by rfl, fun w' hw => by obtain ⟨x0, x1, x2, x3⟩ := unhide HXs w' hw; go_simp⟩) hT ?_
        simp only [Act.put, List.setIfInBounds_toArray, List.set_cons_zero, List.set_cons_succ]
        clear hT
        refine wpAnyZ_two 10 18 (by kernel_rfl) rfl rfl (fun K hK => ?_) (fun K hK => ?_)
        · refine step_callD 23 rfl rfl 33 (fun vs => by kernel_rfl) #[.tmp 22] #[44] rfl #[.slice ar m.res.length cr] (by first | rfl | simp [Act.eval]) (unhide HR wd hbW) ?_
          rintro e' wc1 ⟨u1, rfl, ho1, hbn⟩
          obtain ⟨ua1, uc1, rfl⟩ := own_form ho1
          have hl1 : wo.heap.size ≤ wd.heap.size := hbr.size
          have ho1 := own_low ho1 hl1
          have hbr := hbr.trans (hbn.mono hbr.size)
          have hbW := hbW.trans (hbn.mono hbW.size)
          refine ⟨_, rfl, hK _ _ ⟨fun _ => hbW, ?_⟩⟩
          clear hK K hbn hl1
          simp only [Act.put, List.setIfInBounds_toArray, List.set_cons_zero, List.set_cons_succ]
          refine wpAnyZ_two 16 18 (by kernel_rfl) rfl rfl (fun K hK => ?_) (fun K hK => ?_)
          · refine step_callD 29 rfl rfl 16 (fun vs => by kernel_rfl) #[.tmp 28] #[22] rfl #[.slice ag m.gone.length cg] (by first | rfl | simp [Act.eval]) (unhide HT wc1 hbW) ?_
            rintro e' wc2 ⟨u2, rfl, ho2, hbn⟩
            have ho1 := own_up ho1 hbn
            obtain ⟨ua2, uc2, rfl⟩ := own_form ho2
            have hl2 : wo.heap.size ≤ wc1.heap.size := hbr.size
            have ho2 := own_low ho2 hl2
            have hbr := hbr.trans (hbn.mono hbr.size)
            have hbW := hbW.trans (hbn.mono hbW.size)
            refine ⟨_, rfl, hK _ _ ⟨fun _ => hbW, ?_⟩⟩
            clear hK K hbn hl2
            simp only [Act.put, List.setIfInBounds_toArray, List.set_cons_zero, List.set_cons_succ]
            have hT := hbW
            refine wpAnyZ_tk 17 (.agg #[.string m.name, .slice none 0 0, .slice ua1 (m.res.length) uc1, .slice ua2 (m.gone.length) uc2]) 30 rfl rfl (Or.inl ⟨by rfl, fun w' hw => by go_simp⟩) hT ?_
            simp only [Act.put, List.setIfInBounds_toArray, List.set_cons_zero, List.set_cons_succ]
            clear hT
            refine wpAnyZ_one 18 (by kernel_rfl) rfl (fun K hK => ?_)
            obtain ⟨wc3, hw2⟩ : ∃ x, wc2.alloc (.cells #[.string ⟨#[]⟩, .slice none 0 0, .slice none 0 0, .slice none 0 0] 67) = x := ⟨_, rfl⟩
            have hbn : Below wc2.heap.size wc2 wc3 := by rw [← hw2]; exact (Below.refl _ _).alloc (Nat.le_refl _) _
            have hbk : wc3.heap[wc2.heap.size]? = some (.cells #[.string ⟨#[]⟩, .slice none 0 0, .slice none 0 0, .slice none 0 0] 67 (0, 0)) := by rw [← hw2]; exact heap_new _ _
            have hlo : wo.heap.size ≤ wc2.heap.size := hbr.size
            go_simp
            have ho1 := own_up ho1 hbn
            have ho2 := own_up ho2 hbn
            have hbr := hbr.trans (hbn.mono hbr.size)
            have hbW := hbW.trans (hbn.mono hbW.size)
            refine hK _ _ ⟨fun _ => hbW, ?_⟩
            clear hK K hw2 hbn
            refine wpAnyZ_one 19 (by kernel_rfl) rfl (fun K hK => ?_)
            obtain ⟨b, hbb⟩ : ∃ b, wc2.heap.size = b := ⟨_, rfl⟩
            rw [hbb] at hbk hlo ⊢
            obtain ⟨c0, c1, c2, c3⟩ := en4 hbk
            have z : ∀ j, wc3.frozen? ⟨b, j, none⟩ = false := fun j => by simp [World.frozen?, hbk]
            have z0 := z 0
            have z1 := z 1
            have z2 := z 2
            have z3 := z 3
            have hC := CpE.new (m := m) hbr hlo hbk ho1 ho2
            go_simp
            refine hK _ _ ⟨fun _ => (unhide HBW).trans (hC.bel.mono (unhide HBW).size), ?_⟩
            clear hK K
            refine wpAnyZ_done (by kernel_rfl) ?_
            have HC := hide hC
            clear hC hbr hbW hlo hbk z z0 z1 z2 z3 c0 c1 c2 c3 ho1 ho2
            go_wp2_with fail
            go_meet
            exact ⟨b, _, _, rfl, HC⟩
          · obtain ⟨wc4, hw2⟩ : ∃ x, wc1.alloc (.cells #[.string ⟨#[]⟩, .slice none 0 0, .slice none 0 0, .slice none 0 0] 67) = x := ⟨_, rfl⟩
            have hbn : Below wc1.heap.size wc1 wc4 := by rw [← hw2]; exact (Below.refl _ _).alloc (Nat.le_refl _) _
            have hbk : wc4.heap[wc1.heap.size]? = some (.cells #[.string ⟨#[]⟩, .slice none 0 0, .slice none 0 0, .slice none 0 0] 67 (0, 0)) := by rw [← hw2]; exact heap_new _ _
            have hlo : wo.heap.size ≤ wc1.heap.size := hbr.size
            go_simp
            have ho1 := own_up ho1 hbn
            have hbr := hbr.trans (hbn.mono hbr.size)
            have hbW := hbW.trans (hbn.mono hbW.size)
            refine hK _ _ ⟨fun _ => hbW, ?_⟩
            clear hK K hw2 hbn
            refine wpAnyZ_one 16 (by kernel_rfl) rfl (fun K hK => ?_)
            refine step_callD 29 rfl rfl 16 (fun vs => by kernel_rfl) #[.tmp 28] #[22] rfl #[.slice ag m.gone.length cg] (by first | rfl | simp [Act.eval]) (unhide HT wc4 hbW) ?_
            rintro e' wc5 ⟨u5, rfl, ho5, hbn⟩
            have ho1 := own_up ho1 hbn
            obtain ⟨ua5, uc5, rfl⟩ := own_form ho5
            have hl5 : wo.heap.size ≤ wc4.heap.size := hbr.size
            have ho5 := own_low ho5 hl5
            have hbr := hbr.trans (hbn.mono hbr.size)
            have hbW := hbW.trans (hbn.mono hbW.size)
            have hbk := (hbn.block _ (Array.getElem?_eq_some_iff.1 hbk).1).trans hbk
            refine ⟨_, rfl, hK _ _ ⟨fun _ => hbW, ?_⟩⟩
            clear hK K hbn hl5
            simp only [Act.put, List.setIfInBounds_toArray, List.set_cons_zero, List.set_cons_succ]
            have hT := hbW
            refine wpAnyZ_tk 17 (.agg #[.string m.name, .slice none 0 0, .slice ua1 (m.res.length) uc1, .slice ua5 (m.gone.length) uc5]) 30 rfl rfl (Or.inl ⟨by rfl, fun w' hw => by go_simp⟩) hT ?_
            simp only [Act.put, List.setIfInBounds_toArray, List.set_cons_zero, List.set_cons_succ]
            clear hT
            refine wpAnyZ_one 19 (by kernel_rfl) rfl (fun K hK => ?_)
            obtain ⟨b, hbb⟩ : ∃ b, wc1.heap.size = b := ⟨_, rfl⟩
            rw [hbb] at hbk hlo ⊢
            obtain ⟨c0, c1, c2, c3⟩ := en4 hbk
            have z : ∀ j, wc5.frozen? ⟨b, j, none⟩ = false := fun j => by simp [World.frozen?, hbk]
            have z0 := z 0
            have z1 := z 1
            have z2 := z 2
            have z3 := z 3
            have hC := CpE.new (m := m) hbr hlo hbk ho1 ho5
            go_simp
            refine hK _ _ ⟨fun _ => (unhide HBW).trans (hC.bel.mono (unhide HBW).size), ?_⟩
            clear hK K
            refine wpAnyZ_done (by kernel_rfl) ?_
            have HC := hide hC
            clear hC hbr hbW hlo hbk z z0 z1 z2 z3 c0 c1 c2 c3 ho1 ho5
            go_wp2_with fail
            go_meet
            exact ⟨b, _, _, rfl, HC⟩
        · obtain ⟨wc6, hw2⟩ : ∃ x, wd.alloc (.cells #[.string ⟨#[]⟩, .slice none 0 0, .slice none 0 0, .slice none 0 0] 67) = x := ⟨_, rfl⟩
          have hbn : Below wd.heap.size wd wc6 := by rw [← hw2]; exact (Below.refl _ _).alloc (Nat.le_refl _) _
          have hbk : wc6.heap[wd.heap.size]? = some (.cells #[.string ⟨#[]⟩, .slice none 0 0, .slice none 0 0, .slice none 0 0] 67 (0, 0)) := by rw [← hw2]; exact heap_new _ _
          have hlo : wo.heap.size ≤ wd.heap.size := hbr.size
          go_simp
          have hbr := hbr.trans (hbn.mono hbr.size)
          have hbW := hbW.trans (hbn.mono hbW.size)
          refine hK _ _ ⟨fun _ => hbW, ?_⟩
          clear hK K hw2 hbn
          refine wpAnyZ_one 10 (by kernel_rfl) rfl (fun K hK => ?_)
          refine step_callD 23 rfl rfl 33 (fun vs => by kernel_rfl) #[.tmp 22] #[44] rfl #[.slice ar m.res.length cr] (by first | rfl | simp [Act.eval]) (unhide HR wc6 hbW) ?_
          rintro e' wc7 ⟨u7, rfl, ho7, hbn⟩
          obtain ⟨ua7, uc7, rfl⟩ := own_form ho7
          have hl7 : wo.heap.size ≤ wc6.heap.size := hbr.size
          have ho7 := own_low ho7 hl7
          have hbr := hbr.trans (hbn.mono hbr.size)
          have hbW := hbW.trans (hbn.mono hbW.size)
          have hbk := (hbn.block _ (Array.getElem?_eq_some_iff.1 hbk).1).trans hbk
          refine ⟨_, rfl, hK _ _ ⟨fun _ => hbW, ?_⟩⟩
          clear hK K hbn hl7
          simp only [Act.put, List.setIfInBounds_toArray, List.set_cons_zero, List.set_cons_succ]
          refine wpAnyZ_one 16 (by kernel_rfl) rfl (fun K hK => ?_)
          refine step_callD 29 rfl rfl 16 (fun vs => by kernel_rfl) #[.tmp 28] #[22] rfl #[.slice ag m.gone.length cg] (by first | rfl | simp [Act.eval]) (unhide HT wc7 hbW) ?_
          rintro e' wc8 ⟨u8, rfl, ho8, hbn⟩
          have ho7 := own_up ho7 hbn
          obtain ⟨ua8, uc8, rfl⟩ := own_form ho8
          have hl8 : wo.heap.size ≤ wc7.heap.size := hbr.size
          have ho8 := own_low ho8 hl8
          have hbr := hbr.trans (hbn.mono hbr.size)
          have hbW := hbW.trans (hbn.mono hbW.size)
          have hbk := (hbn.block _ (Array.getElem?_eq_some_iff.1 hbk).1).trans hbk
          refine ⟨_, rfl, hK _ _ ⟨fun _ => hbW, ?_⟩⟩
          clear hK K hbn hl8
          simp only [Act.put, List.setIfInBounds_toArray, List.set_cons_zero, List.set_cons_succ]
          have hT := hbW
          refine wpAnyZ_tk 17 (.agg #[.string m.name, .slice none 0 0, .slice ua7 (m.res.length) uc7, .slice ua8 (m.gone.length) uc8]) 30 rfl rfl (Or.inl ⟨by rfl, fun w' hw => by go_simp⟩) hT ?_
          simp only [Act.put, List.setIfInBounds_toArray, List.set_cons_zero, List.set_cons_succ]
          clear hT
          refine wpAnyZ_one 19 (by kernel_rfl) rfl (fun K hK => ?_)
          obtain ⟨b, hbb⟩ : ∃ b, wd.heap.size = b := ⟨_, rfl⟩
          rw [hbb] at hbk hlo ⊢
          obtain ⟨c0, c1, c2, c3⟩ := en4 hbk
          have z : ∀ j, wc8.frozen? ⟨b, j, none⟩ = false := fun j => by simp [World.frozen?, hbk]
          have z0 := z 0
          have z1 := z 1
          have z2 := z 2
          have z3 := z 3
          have hC := CpE.new (m := m) hbr hlo hbk ho7 ho8
          go_simp
          refine hK _ _ ⟨fun _ => (unhide HBW).trans (hC.bel.mono (unhide HBW).size), ?_⟩
          clear hK K
          refine wpAnyZ_done (by kernel_rfl) ?_
          have HC := hide hC
          clear hC hbr hbW hlo hbk z z0 z1 z2 z3 c0 c1 c2 c3 ho7 ho8
          go_wp2_with fail
          go_meet
          exact ⟨b, _, _, rfl, HC⟩
      case rest =>
        obtain ⟨b, ur, ug, rfl, HC⟩ := hcut
        have HN : Hid (wc.ownsRow wo.heap.size 74 2 (.slice none 0 0) 0 []) := ⟨rfl, .inl ⟨rfl, rfl⟩⟩
        obtain ⟨uar, ucr, rfl⟩ := own_form (unhide HC).r
        obtain ⟨uag, ucg, rfl⟩ := own_form (unhide HC).g
        obtain ⟨x0, x1, x2, x3⟩ := unhide HXs wc ((unhide HBW).trans ((unhide HC).bel.mono (unhide HBW).size))
        go_wp2_with fail
        clear x0 x1 x2 x3
        go_loopg [6] m.vals.length (fun gk v6 wi => ∃ (k : Nat) (uv : Value), v6 = .int .i64 (k : Int) ∧ gk = m.vals.length - k ∧ k ≤ m.vals.length ∧ Hid (CpE wo wi b uv (.slice uar m.res.length ucr) (.slice uag m.gone.length ucg) m) ∧ Hid (wi.ownsRow wo.heap.size 74 2 uv k (evC (m.vals.take k))))
        case atStart => exact ⟨0, _, rfl, rfl, by omega, HC, HN⟩
        case round =>
          obtain ⟨k, uv, rfl, hgk2, hk2, HC2, HO2⟩ := hrel
          have Hgk2 := hide hgk2
          clear hgk2 HC HN
          obtain ⟨uav, ucv, rfl⟩ := own_form (unhide HO2)
          have HBi := hide (show Below W.heap.size W wr from (unhide HBW).trans ((unhide HC2).bel.mono (unhide HBW).size))
          obtain ⟨x0, x1, x2, x3⟩ := unhide HXs wr (unhide HBi)
          by_cases hlt2 : k < m.vals.length
          · obtain ⟨gv, ov, rfl, hgv, hcv⟩ := unhide HV3 (by omega)
            have hr2 := List.getElem?_eq_getElem hlt2
            obtain ⟨y, hyy⟩ : ∃ y, m.vals[k] = y := ⟨_, rfl⟩
            rw [hyy] at hr2
            have HYs : Hid (∀ w', Below W.heap.size W w' → w'.cell? ⟨gv, ov + k * 2, none⟩ = some (.string y.1) ∧ w'.cell? ⟨gv, ov + k * 2 + 1, none⟩ = some (.int .i64 y.2)) := fun w' hb =>
              ⟨(hb.cell (p := ⟨gv, ov + (k * 2 + 0), none⟩) hgv).trans (hcv _ _ (evC_at hr2 (j := 0) (by decide))), (hb.cell (p := ⟨gv, ov + (k * 2 + 1), none⟩) hgv).trans (hcv _ _ (evC_at hr2 (j := 1) (by decide)))⟩
            have HTk := hide (take_ev hr2)
            have k0' : (0 : Int) ≤ (k : Int) := Int.natCast_nonneg _
            have k1' : (k : Int) < (m.vals.length : Int) := by omega
            have Hlt2 := hide hlt2
            clear hcv hr2 hyy hlt2
            go_upto_region 9 with fail
            refine wp_region_any (by kernel_rfl) (wpAny_of_Z (z := 13) (T := fun w' => Below W.heap.size W w' ∧ w'.cell? ⟨b, 1, none⟩ = some (.slice uav k ucv)) _ _ _ _ ?_)
            try (change wpAnyZ _ _ _ _ _ _ _ _ _ (World.drew _))
            have hC := (unhide HC2).below (below_drewN (Below.refl wr.heap.size wr) 1)
            have hO := own_up (unhide HO2) (below_drewN (Below.refl wr.heap.size wr) 1)
            change CpE _ wr.drew _ _ _ _ _ at hC
            change World.ownsRow wr.drew _ _ _ _ _ _ at hO
            obtain ⟨wd, hwd⟩ : ∃ x, wr.drew = x := ⟨_, rfl⟩
            rw [hwd] at hC hO ⊢
            have hT : (fun w' : World => Below W.heap.size W w' ∧ w'.cell? ⟨b, 1, none⟩ = some (.slice uav k ucv)) wd := ⟨(unhide HBW).trans (hC.bel.mono (unhide HBW).size), cell_of_row _ _ _ _ _ _ hC.blk⟩
            clear x0 x1 x2 x3
            refine wpAnyZ_tk 0 (.pointer (some ⟨b, 1, none⟩)) 41 rfl rfl (Or.inl ⟨by rfl, fun w' hw => by obtain ⟨hwa, hwb⟩ := hw; obtain ⟨x0, x1, x2, x3⟩ := unhide HXs w' hwa; obtain ⟨y0, y1⟩ := unhide HYs w' hwa; go_simp⟩) hT ?_
            simp only [Act.put, List.setIfInBounds_toArray, List.set_cons_zero, List.set_cons_succ]
            refine wpAnyZ_tk 1 (.slice uav k ucv) 42 rfl rfl (Or.inl ⟨by rfl, fun w' hw => by obtain ⟨hwa, hwb⟩ := hw; obtain ⟨x0, x1, x2, x3⟩ := unhide HXs w' hwa; obtain ⟨y0, y1⟩ := unhide HYs w' hwa; go_simp⟩) hT ?_
            simp only [Act.put, List.setIfInBounds_toArray, List.set_cons_zero, List.set_cons_succ]
            refine wpAnyZ_tk 2 (.slice (some ⟨g, o, none⟩) l.length c) 43 rfl rfl (Or.inl ⟨by rfl, fun w' hw => by obtain ⟨hwa, hwb⟩ := hw; obtain ⟨x0, x1, x2, x3⟩ := unhide HXs w' hwa; obtain ⟨y0, y1⟩ := unhide HYs w' hwa; go_simp⟩) hT ?_
            simp only [Act.put, List.setIfInBounds_toArray, List.set_cons_zero, List.set_cons_succ]
            refine wpAnyZ_tk 3 (.int .i64 (i : Int)) 44 rfl rfl (Or.inl ⟨by rfl, fun w' hw => by obtain ⟨hwa, hwb⟩ := hw; obtain ⟨x0, x1, x2, x3⟩ := unhide HXs w' hwa; obtain ⟨y0, y1⟩ := unhide HYs w' hwa; go_simp⟩) hT ?_
            simp only [Act.put, List.setIfInBounds_toArray, List.set_cons_zero, List.set_cons_succ]
            refine wpAnyZ_tk 4 (.pointer (some ⟨g, o + i * 4, none⟩)) 45 rfl rfl (Or.inl ⟨by rfl, fun w' hw => by obtain ⟨hwa, hwb⟩ := hw; obtain ⟨x0, x1, x2, x3⟩ := unhide HXs w' hwa; obtain ⟨y0, y1⟩ := unhide HYs w' hwa; go_simp⟩) hT ?_
            simp only [Act.put, List.setIfInBounds_toArray, List.set_cons_zero, List.set_cons_succ]
            refine wpAnyZ_tk 5 (.pointer (some ⟨g, o + i * 4 + 1, none⟩)) 46 rfl rfl (Or.inl ⟨by rfl, fun w' hw => by obtain ⟨hwa, hwb⟩ := hw; obtain ⟨x0, x1, x2, x3⟩ := unhide HXs w' hwa; obtain ⟨y0, y1⟩ := unhide HYs w' hwa; go_simp⟩) hT ?_
            simp only [Act.put, List.setIfInBounds_toArray, List.set_cons_zero, List.set_cons_succ]
            refine wpAnyZ_tk 6 (.slice (some ⟨gv, ov, none⟩) m.vals.length cv) 47 rfl rfl (Or.inl ⟨by rfl, fun w' hw => by obtain ⟨hwa, hwb⟩ := hw; obtain ⟨x0, x1, x2, x3⟩ := unhide HXs w' hwa; obtain ⟨y0, y1⟩ := unhide HYs w' hwa; go_simp⟩) hT ?_
            simp only [Act.put, List.setIfInBounds_toArray, List.set_cons_zero, List.set_cons_succ]
            refine wpAnyZ_tk 7 (.int .i64 (k : Int)) 48 rfl rfl (Or.inl ⟨by rfl, fun w' hw => by obtain ⟨hwa, hwb⟩ := hw; obtain ⟨x0, x1, x2, x3⟩ := unhide HXs w' hwa; obtain ⟨y0, y1⟩ := unhide HYs w' hwa; go_simp⟩) hT ?_
            simp only [Act.put, List.setIfInBounds_toArray, List.set_cons_zero, List.set_cons_succ]
            refine wpAnyZ_tk 8 (.pointer (some ⟨gv, ov + k * 2, none⟩)) 49 rfl rfl (Or.inl ⟨by rfl, fun w' hw => by obtain ⟨hwa, hwb⟩ := hw; obtain ⟨x0, x1, x2, x3⟩ := unhide HXs w' hwa; obtain ⟨y0, y1⟩ := unhide HYs w' hwa; go_simp⟩) hT ?_
            simp only [Act.put, List.setIfInBounds_toArray, List.set_cons_zero, List.set_cons_succ]
            refine wpAnyZ_tk 9 (.agg #[.string y.1, .int .i64 y.2]) 50 rfl rfl (Or.inl ⟨by rfl, fun w' hw => by obtain ⟨hwa, hwb⟩ := hw; obtain ⟨x0, x1, x2, x3⟩ := unhide HXs w' hwa; obtain ⟨y0, y1⟩ := unhide HYs w' hwa; go_simp⟩) hT ?_
            simp only [Act.put, List.setIfInBounds_toArray, List.set_cons_zero, List.set_cons_succ]
            obtain ⟨wy, hwy⟩ : ∃ x, wd.alloc (.cells #[.string y.1, .int .i64 y.2] 74) = x := ⟨_, rfl⟩
            have hbn : Below wd.heap.size wd wy := by rw [← hwy]; exact (Below.refl _ _).alloc (Nat.le_refl _) _
            have hC := hC.below hbn
            have hO := own_up hO hbn
            have hT : (fun w' : World => Below W.heap.size W w' ∧ w'.cell? ⟨b, 1, none⟩ = some (.slice uav k ucv)) wy := ⟨(unhide HBW).trans (hC.bel.mono (unhide HBW).size), cell_of_row _ _ _ _ _ _ hC.blk⟩
            have hnw : ∀ j u, [Value.string y.1, .int .i64 y.2][j]? = some u → wy.cell? ((⟨wd.heap.size, 0, none⟩ : Addr).add j) = some u := by rw [← hwy]; exact cell_new2 _ _ _ _
            refine wpAnyZ_one 10 (by kernel_rfl) rfl (fun K hK => ?_)
            go_simp
            refine hK _ _ ⟨fun _ => hT, ?_⟩
            clear hK K hwy hbn hwd
            refine wpAnyZ_one 11 (by kernel_rfl) rfl (fun K hK => ?_)
            refine step_app_own 52 rfl rfl (.tmp 42) (.tmp 51) 65 rfl wo.heap.size 74 j0 (.agg #[.string ByteArray.empty, .int .i64 0]) 2 24 Tryz.underlying65 hj jz0 jz1 jz2 rfl (by decide) (.slice uav k ucv) k _ (by first | rfl | simp [Act.eval]) hO ⟨wd.heap.size, 0, none⟩ 1 1 [.string y.1, .int .i64 y.2] (by first | rfl | simp [Act.eval]) rfl hnw (by simp [Value.oneCell']) (by have := unhide Hlt2; have := (unhide Hmz).1; unfold maxLen; omega) (by have := unhide Hlt2; have := (unhide Hmz).1; omega) hC.bel.size ?_
            intro v' w2 ho hg2 _
            have hC2 := hC.keep hg2 (fun j e => (hO.lt j e).1) (own_apart hO hC.blk (by decide)) (own_two hO hC.r (by decide)) (own_two hO hC.g (by decide))
            obtain ⟨a', c', rfl⟩ := own_form ho
            have hT2 : (fun w' : World => Below W.heap.size W w' ∧ w'.cell? ⟨b, 1, none⟩ = some (.slice uav k ucv)) w2 := ⟨(unhide HBW).trans (hC2.bel.mono (unhide HBW).size), cell_of_row _ _ _ _ _ _ hC2.blk⟩
            rw [← unhide HTk] at ho
            refine hK _ _ ⟨fun _ => hT2, ?_⟩
            clear hK K hC hO hT hg2 hnw
            simp only [Act.put, List.setIfInBounds_toArray, List.set_cons_zero, List.set_cons_succ]
            refine wpAnyZ_tk 12 (.pointer (some ⟨b, 1, none⟩)) 53 rfl rfl (Or.inl ⟨by rfl, fun w' hw => by obtain ⟨hwa, hwb⟩ := hw; go_simp⟩) hT2 ?_
            simp only [Act.put, List.setIfInBounds_toArray, List.set_cons_zero, List.set_cons_succ]
            have hcb := hT2.2
            have hfb : w2.frozen? ⟨b, 1, none⟩ = false := by simp [World.frozen?, hC2.blk]
            obtain ⟨hC3, hg3⟩ := hC2.val (.slice a' (k + 1) c')
            have hO3 := ho.kept hg3 (.inr (own_apart ho hC2.blk (by decide)))
            refine wpAnyZ_one 13 (by kernel_rfl) rfl (fun K hK => ?_)
            go_simp
            refine hK _ _ ⟨fun h => absurd rfl h, ?_⟩
            have HC3 := hide hC3
            have HO3 := hide hO3
            clear hK K hcb hfb hT2 ho hC2 hC3 hO3 hg3
            refine wpAnyZ_done (by kernel_rfl) ?_
            go_wp2
            go_roundg (m.vals.length - (k + 1))
            case measure => have := unhide Hgk2; have := unhide Hlt2; omega
            case rel => exact ⟨k + 1, _, by go_num, rfl, unhide Hlt2, HC3, HO3⟩
          · obtain rfl : k = m.vals.length := by omega
            have hO := unhide HO2
            rw [List.take_length] at hO
            have HO4 := hide hO
            clear hO HO2
            obtain ⟨c0, c1, c2, c3⟩ := en4 (unhide HC2).blk
            have k1' : ¬ (m.vals.length : Int) < (m.vals.length : Int) := by omega
            have HS1 := hide (show w0.heap.size ≤ wr.heap.size from Nat.le_trans (unhide HB).size (unhide HC2).bel.size)
            have HO5 := hide ((unhide HO).kept (show wo.grownBy wr none from ⟨(unhide HC2).bel.os, (unhide HC2).bel.tape, (unhide HC2).bel.output, (unhide HC2).bel.size, fun q hq _ => (unhide HC2).bel.block q hq⟩) (by cases u3.ownBlock with | none => exact .inl rfl | some q => exact .inr (by simp)))
            have HB5 := hide ((unhide HB).trans ((unhide HC2).bel.mono (unhide HB).size))
            obtain ⟨ao, co, rfl⟩ := own_form (unhide HO)
            go_wp2_with (at_builtin; refine wpList_append_own_at _ rfl _ _ 24 rfl w0.heap.size 67 i0 (.agg #[.string ByteArray.empty, .slice none 0 0, .slice none 0 0, .slice none 0 0]) 4 88 Tryz.underlying24 hi hz0 hz1 hz2 rfl (by decide) _ _ _ rfl ((unhide HO5).alloc _) ⟨wr.heap.size, 0, none⟩ 1 1 [.string m.name, .slice uav m.vals.length ucv, .slice uar m.res.length ucr, .slice uag m.gone.length ucg] rfl rfl (cells_new _ _ _) (by simp [Value.oneCell']) (by have := unhide Hlt; unfold maxLen; omega) (by have := unhide Hlt; have := unhide Hl; omega) (by rw [World.size_alloc]; have := unhide HS1; omega) ?_; intro v' w2 ho hg2 _ hob; have HO6 := hide ho; have HE6 := hide (out_new (unhide HO) (unhide HES) (unhide HC2) (unhide HO4) (unhide Hmz) (unhide HB).size (unhide Hr) ((Below.refl _ _).alloc (Nat.le_refl _) _) hg2 hob); have HB6 := hide (((unhide HB5).alloc (unhide HB5).size _).grown hg2 (by rw [World.size_alloc]; have := unhide HS1; omega) (fun q e => ((unhide HO).lt q e).1)); clear ho hg2 hob)
            go_roundg (l.length - (i + 1))
            case measure => have := unhide Hgk; have := unhide Hlt; omega
            case rel => exact ⟨i + 1, _, by go_num, rfl, unhide Hlt, HO6, HE6, HB6⟩
    · obtain rfl : i = l.length := by omega
      have hE := unhide HES
      rw [List.take_length] at hE
      have HE2 := hide hE
      clear hE
      go_wp2
      go_ret
      exact ⟨_, _, rfl, unhide HO, unhide HE2, unhide HB⟩
end Go.Proofs.YtaadpiimcaabkaaGreatDoor
