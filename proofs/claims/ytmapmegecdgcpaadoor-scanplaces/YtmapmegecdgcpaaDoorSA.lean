import Derived.Test.YtmapmegecdgcpaaDoorUX
import Derived.Maps.AppendAt
import Derived.Lib.AppendStr
namespace Go.Proofs.YtmapmegecdgcpaaDoor
open Go.RowKit Go.Lib
attribute [local go_sem ↓] Go.wp_at_zero Go.wp_at_succ

/-- Appending a string's bytes: where the row then lies. -/
theorem append_str_at {P : Program} (w : World) (base : Nat) (t u ty e : TypeId) (i : TypeInfo) (ht : P.underlying t = some (.slice e)) (hu : P.underlying u = some .string) (hi : P.info? e = some i) (hz : i.zero = some (.int .u8 0))
    (hsize : i.size = 1) (hby : i.bytes = 1) (v : Value) (n : Nat) (xs : List Value) (hown : w.ownsRow base e 1 v n xs) (s : ByteArray)
    (h63 : n + s.size ≤ maxLen) (hbytes : n + s.size ≤ 140737488355328) (hbase : base ≤ w.heap.size) :
    ∃ v' w', (Builtin.append_ #[t, u] ty #[v, .string s]).run P w = .ok v' w' ∧ w'.ownsRow base e 1 v' (n + s.size) (xs ++ strCells s) ∧ w.grownBy w' v.ownBlock ∧ (v'.ownBlock = v.ownBlock ∨ v'.ownBlock = some w.heap.size) := by
  obtain ⟨v', w', hr, h2, h3, h4⟩ := run_append_own_string (P := P) w base t u ty e i ht hu hi hz hsize hby v n xs hown s h63 hbytes hbase
  refine ⟨v', w', hr, h2, h3, ?_⟩
  have hxl : xs.length = n := by simpa using hown.1
  unfold maxLen at h63
  have hown' := hown
  rcases hown'.2 with ⟨rfl, rfl⟩ | ⟨g, cap, cur, rfl, hbg, hg, hnc, hcm, hcs, htake⟩
  · by_cases hm : s.size = 0
    · exact .inl (by rw [h4.2 ⟨rfl, hm⟩])
    · have hr' := run_append_nil_string (P := P) w t u ty e i (.int .u8 0) ht hu hi hz s (by omega) (by omega) (by rw [hby]; omega)
      rw [hr] at hr'
      injection hr' with e1 e2
      exact .inr (by rw [e1]; rfl)
  · by_cases hroom : n + s.size ≤ cap
    · have hcs' : cur.size = cap := by simpa using hcs
      have hr' := run_append_room_string (P := P) w t u ty e i ht hu hi hsize g n cap cur hg s hroom (by omega)
      rw [hr] at hr'
      injection hr' with e1 e2
      exact .inl (by rw [e1]; rfl)
    · have holds : ∀ j x, xs[j]? = some x → w.cell? ((⟨g, 0, none⟩ : Addr).add j) = some x := hown.cells (g := g) rfl
      have hr' := run_append_grow_string (P := P) w t u ty e i (.int .u8 0) ht hu hi hz ⟨g, 0, none⟩ n cap xs (by rw [hsize]; simpa using hxl) holds s (by omega) (by omega) (by rw [hby]; exact growslice_fits (by omega) (by omega))
      rw [hr] at hr'
      injection hr' with e1 e2
      exact .inr (by rw [e1]; rfl)
theorem wpList_append_str_at {P : Program} {w : World} {ops : Array Oper} {rest : List Oper} {o : Oper} {a : Act} {Q : Exit → Act → World → Prop} (hgd : o.guard = none) (sl x : Operand) (t u : TypeId)
    (ho : o.op = .call { callee := .builtin .append, args := #[sl, x], argTypes := #[t, u] })
    (base : Nat) (e : TypeId) (i : TypeInfo) (ht : P.underlying t = some (.slice e)) (hu : P.underlying u = some .string) (hi : P.info? e = some i) (hz : i.zero = some (.int .u8 0))
    (hsize : i.size = 1) (hby : i.bytes = 1) (v : Value) (n : Nat) (xs : List Value) (hs : a.eval sl = v) (hown : w.ownsRow base e 1 v n xs) (s : ByteArray) (hx : a.eval x = .string s)
    (h63 : n + s.size ≤ maxLen) (hbytes : n + s.size ≤ 140737488355328) (hbase : base ≤ w.heap.size)
    (h : ∀ v' w', w'.ownsRow base e 1 v' (n + s.size) (xs ++ strCells s) → w.grownBy w' v.ownBlock → (v'.ownBlock = v.ownBlock ∨ v'.ownBlock = some w.heap.size) → wpList P ops Q rest (a.put o.dst v') w') : wpList P ops Q (o :: rest) a w := by
  refine wpList_plain hgd fun K hK => ?_
  obtain ⟨v', w', hr, h2, h3, h4⟩ := append_str_at (P := P) w base t u o.type e i ht hu hi hz hsize hby v n xs hown s h63 hbytes hbase
  unfold Oper.wp execOp
  simp only [ho, resolve, invoke, builtin, Sem.run_bind, Sem.run_pure, Result.andThen_ok, List.map_toArray, List.map_cons, List.map_nil, hs, hx, hr]
  exact hK _ _ (h v' w' h2 h3 h4)


theorem strCells_nb (s : ByteArray) : strCells s = nb (strN s) := by
  unfold strCells nb strN
  simp [List.map_map]
theorem cells_lit (w : World) (l : List Value) (t : TypeId) : ∀ j u, l[j]? = some u → (w.alloc (.cells l.toArray t)).cell? ((⟨w.heap.size, 0, none⟩ : Addr).add j) = some u := by
  intro j u h
  rw [Go.WideShapes.add_plain, cell_of_row _ _ _ _ _ _ (heap_new w _)]
  simpa using h
/-- The escape of a byte that needs one. -/
def esc (x : Nat) : List Nat := if x = 92 ∨ x = 34 then [92, x] else if x = 10 then [92, 110] else if x = 13 then [92, 114] else if x = 9 then [92, 116] else [92, 48 + x / 64, 48 + x / 8 % 8, 48 + x % 8]
theorem esc_len (x : Nat) : (esc x).length ≤ 4 := by
  unfold esc
  repeat' split
  all_goals simp
theorem esc_byt {x : Nat} (h : x < 256) : Byt (esc x) := by
  have key : ∀ k : Fin 256, (esc k.val).all (· < 256) = true := by decide +kernel
  intro y hy
  have := List.all_eq_true.1 (key ⟨x, h⟩) y hy
  simpa using this
theorem oct_facts {x : Nat} (h : x < 256) : bits .and .u8 ((x / 8 : Nat) : Int) 7 = ((x / 8 % 8 : Nat) : Int) ∧ bits .and .u8 ((x : Nat) : Int) 7 = ((x % 8 : Nat) : Int) := by
  have key : ∀ k : Fin 256, bits .and .u8 ((k.val / 8 : Nat) : Int) 7 = ((k.val / 8 % 8 : Nat) : Int) ∧ bits .and .u8 ((k.val : Nat) : Int) 7 = ((k.val % 8 : Nat) : Int) := by decide +kernel
  exact key ⟨x, h⟩
/-- Bytes of the call's own, written on. -/
def PutE (base : Nat) (W : World) (v : Value) (xs ys : List Nat) (e : Ending) (W' : World) : Prop := ∃ v', e = .returned v' ∧ Bytes base W' v' (xs ++ ys) ∧ Ext W v W' v'
theorem putE_lit {W w : World} {base n : Nat} {v v' : Value} {xs ys : List Nat} {cs : List Value} {ob : Obj} (hown : w.ownsRow base 5 1 v' n (nb xs ++ cs)) (hn : n = xs.length + ys.length) (hcs : cs = nb ys) (hg : (W.alloc ob).grownBy w v.ownBlock) (hat : v'.ownBlock = v.ownBlock ∨ v'.ownBlock = some (W.alloc ob).heap.size) :
    PutE base W v xs ys (.returned v') w := by
  subst hn hcs
  refine ⟨v', rfl, ?_, Ext.grown hg hat⟩
  unfold Bytes
  rw [nb_append, List.length_append]
  exact hown
theorem putE_str {W w : World} {base n : Nat} {v v' : Value} {xs ys : List Nat} {cs : List Value} (hown : w.ownsRow base 5 1 v' n (nb xs ++ cs)) (hn : n = xs.length + ys.length) (hcs : cs = nb ys) (hg : W.grownBy w v.ownBlock) (hat : v'.ownBlock = v.ownBlock ∨ v'.ownBlock = some W.heap.size) :
    PutE base W v xs ys (.returned v') w := by
  subst hn hcs
  refine ⟨v', rfl, ?_, Ext.grown0 hg hat⟩
  unfold Bytes
  rw [nb_append, List.length_append]
  exact hown
set_option maxRecDepth 100000 in
set_option maxHeartbeats 2000000 in
theorem putEscape_any {W : World} {base : Nat} {v : Value} {xs : List Nat} (h : Bytes base W v xs) (hb : base ≤ W.heap.size) (hl : xs.length ≤ 8388608) (x : Nat) (hx : x < 256) :
    Calls Tryd.prog 22 #[v, .int .u8 (x : Int)] W (PutE base W v xs (esc x)) := by
  obtain ⟨i0, hi, hz0, hz1, hz2⟩ := info_parts Tryd.infoByte
  have hv : ∃ a n c, v = .slice a n c := by
    obtain ⟨a, c, rfl, _⟩ := h.has
    exact ⟨_, _, _, rfl⟩
  obtain ⟨va, vn, vc, rfl⟩ := hv
  have HY := hide h
  clear h
  by_cases h1 : x = 92
  · have e1 : ((x : Int) == 92) = true := by simp; omega
    have o1 : xs.length + 2 ≤ maxLen := by unfold maxLen; omega
    have o2 : (xs.length + 2) * 1 ≤ 140737488355328 := by omega
    have he : esc x = [92, x] := by unfold esc; rw [if_pos (.inl h1)]
    rw [he]
    clear he h1
    go_enter Tryd.func22, Tryd.ntmps22
    go_wp2_with (at_builtin; refine wpList_append_own_at _ rfl _ _ 30 rfl base 5 i0 (.int .u8 0) 1 1 Tryd.underlying30 hi hz0 hz1 hz2 rfl (by decide) _ _ _ rfl ((unhide HY).alloc _) ⟨W.heap.size, 0, none⟩ 2 2 [.int .u8 92, .int .u8 (x : Int)] rfl rfl (cells_lit _ _ _) (by simp [Value.oneCell']) o1 o2 (by rw [World.size_alloc]; omega) ?_; intro v4 w4 hown4 hgrow4 _ hat4; have Hown := hide hown4; have Hgrow := hide hgrow4; have Hat := hide hat4; clear hown4 hgrow4 hat4)
    go_ret
    exact putE_lit (ys := [92, x]) (unhide Hown) rfl rfl (unhide Hgrow) (unhide Hat)
  · have e1 := eqF (c := x) (k := 92) (by omega)
    by_cases h2 : x = 34
    · have e2 : ((x : Int) == 34) = true := by simp; omega
      have o1 : xs.length + 2 ≤ maxLen := by unfold maxLen; omega
      have o2 : (xs.length + 2) * 1 ≤ 140737488355328 := by omega
      have he : esc x = [92, x] := by unfold esc; rw [if_pos (.inr h2)]
      rw [he]
      clear he h1 h2
      go_enter Tryd.func22, Tryd.ntmps22
      go_wp2_with (at_builtin; refine wpList_append_own_at _ rfl _ _ 30 rfl base 5 i0 (.int .u8 0) 1 1 Tryd.underlying30 hi hz0 hz1 hz2 rfl (by decide) _ _ _ rfl ((unhide HY).alloc _) ⟨W.heap.size, 0, none⟩ 2 2 [.int .u8 92, .int .u8 (x : Int)] rfl rfl (cells_lit _ _ _) (by simp [Value.oneCell']) o1 o2 (by rw [World.size_alloc]; omega) ?_; intro v4 w4 hown4 hgrow4 _ hat4; have Hown := hide hown4; have Hgrow := hide hgrow4; have Hat := hide hat4; clear hown4 hgrow4 hat4)
      go_ret
      exact putE_lit (ys := [92, x]) (unhide Hown) rfl rfl (unhide Hgrow) (unhide Hat)
    · have e2 := eqF (c := x) (k := 34) (by omega)
      have h12 : ¬ (x = 92 ∨ x = 34) := fun q => q.elim h1 h2
      by_cases g0 : x = 10
      · have f0 : ((x : Int) == 10) = true := by simp; omega
        have o1 : xs.length + 2 ≤ maxLen := by unfold maxLen; omega
        have he : esc x = [92, 110] := by unfold esc; rw [if_neg h12]; rw [if_pos g0]
        rw [he]
        clear he h1 h2 h12 g0
        go_enter Tryd.func22, Tryd.ntmps22
        go_wp2_with (at_builtin; refine wpList_append_str_at rfl _ _ 30 9 rfl base 5 i0 Tryd.underlying30 Tryd.underlying9 hi hz0 hz1 hz2 _ _ _ rfl (unhide HY) ⟨#[92, 110]⟩ rfl o1 (by show xs.length + 2 ≤ _; omega) hb ?_; intro v4 w4 hown4 hgrow4 hat4; have Hown := hide hown4; have Hgrow := hide hgrow4; have Hat := hide hat4; clear hown4 hgrow4 hat4)
        go_ret
        exact putE_str (ys := [92, 110]) (unhide Hown) rfl (strCells_nb _) (unhide Hgrow) (unhide Hat)
      · have f0 := eqF (c := x) (k := 10) (by omega)
        by_cases g1 : x = 13
        · have f1 : ((x : Int) == 13) = true := by simp; omega
          have o1 : xs.length + 2 ≤ maxLen := by unfold maxLen; omega
          have he : esc x = [92, 114] := by unfold esc; rw [if_neg h12]; rw [if_neg g0]; rw [if_pos g1]
          rw [he]
          clear he h1 h2 h12 g0 g1
          go_enter Tryd.func22, Tryd.ntmps22
          go_wp2_with (at_builtin; refine wpList_append_str_at rfl _ _ 30 9 rfl base 5 i0 Tryd.underlying30 Tryd.underlying9 hi hz0 hz1 hz2 _ _ _ rfl (unhide HY) ⟨#[92, 114]⟩ rfl o1 (by show xs.length + 2 ≤ _; omega) hb ?_; intro v4 w4 hown4 hgrow4 hat4; have Hown := hide hown4; have Hgrow := hide hgrow4; have Hat := hide hat4; clear hown4 hgrow4 hat4)
          go_ret
          exact putE_str (ys := [92, 114]) (unhide Hown) rfl (strCells_nb _) (unhide Hgrow) (unhide Hat)
        · have f1 := eqF (c := x) (k := 13) (by omega)
          by_cases g2 : x = 9
          · have f2 : ((x : Int) == 9) = true := by simp; omega
            have o1 : xs.length + 2 ≤ maxLen := by unfold maxLen; omega
            have he : esc x = [92, 116] := by unfold esc; rw [if_neg h12]; rw [if_neg g0]; rw [if_neg g1]; rw [if_pos g2]
            rw [he]
            clear he h1 h2 h12 g0 g1 g2
            go_enter Tryd.func22, Tryd.ntmps22
            go_wp2_with (at_builtin; refine wpList_append_str_at rfl _ _ 30 9 rfl base 5 i0 Tryd.underlying30 Tryd.underlying9 hi hz0 hz1 hz2 _ _ _ rfl (unhide HY) ⟨#[92, 116]⟩ rfl o1 (by show xs.length + 2 ≤ _; omega) hb ?_; intro v4 w4 hown4 hgrow4 hat4; have Hown := hide hown4; have Hgrow := hide hgrow4; have Hat := hide hat4; clear hown4 hgrow4 hat4)
            go_ret
            exact putE_str (ys := [92, 116]) (unhide Hown) rfl (strCells_nb _) (unhide Hgrow) (unhide Hat)
          · have f2 := eqF (c := x) (k := 9) (by omega)
            have he : esc x = [92, 48 + x / 64, 48 + x / 8 % 8, 48 + x % 8] := by unfold esc; rw [if_neg h12]; rw [if_neg g0]; rw [if_neg g1]; rw [if_neg g2]
            rw [he]
            clear he h1 h2 h12 g0 g1 g2
            obtain ⟨q1, q2⟩ := oct_facts hx
            have q3 : bits .and .u8 ((x : Int) / 8) 7 = ((x / 8 % 8 : Nat) : Int) := by rw [show ((x : Int) / 8) = ((x / 8 : Nat) : Int) by omega]; exact q1
            have o1 : xs.length + 4 ≤ maxLen := by unfold maxLen; omega
            have o2 : (xs.length + 4) * 1 ≤ 140737488355328 := by omega
            go_enter Tryd.func22, Tryd.ntmps22
            go_wp2_with (at_builtin; refine wpList_append_own_at _ rfl _ _ 30 rfl base 5 i0 (.int .u8 0) 1 1 Tryd.underlying30 hi hz0 hz1 hz2 rfl (by decide) _ _ _ rfl ((unhide HY).alloc _) ⟨W.heap.size, 0, none⟩ 4 4 [.int .u8 92, .int .u8 (48 + (x : Int) / 64), .int .u8 (48 + (x : Int) / 8 % 8), .int .u8 (48 + (x : Int) % 8)] rfl rfl (cells_lit _ _ _) (by simp [Value.oneCell']) o1 o2 (by rw [World.size_alloc]; omega) ?_; intro v4 w4 hown4 hgrow4 _ hat4; have Hown := hide hown4; have Hgrow := hide hgrow4; have Hat := hide hat4; clear hown4 hgrow4 hat4)
            go_ret
            exact putE_lit (ys := [92, 48 + x / 64, 48 + x / 8 % 8, 48 + x % 8]) (unhide Hown) rfl (by simp [nb]) (unhide Hgrow) (unhide Hat)
end Go.Proofs.YtmapmegecdgcpaaDoor
