import Derived.Test.YthodjkeppobcmaaDoorUX
import Derived.Maps.AppendAt
import Derived.Lib.AppendStr

namespace Go.Proofs.YthodjkeppobcmaaDoor
open Go.RowKit Go.Lib
attribute [local go_sem ↓] Go.wp_at_zero Go.wp_at_succ

/-- Appending a string's bytes: where the row then lies. -/
theorem append_str_at {P : Program} (w : World) (base : Nat) (t u ty e : TypeId) (i : TypeInfo) (ht : P.underlying t = some (.slice e)) (hu : P.underlying u = some .string) (hi : P.info? e = some i) (hz : i.zero = some (.int .u8 0))
    (hsize : i.size = 1) (hby : i.bytes = 1) (v : Value) (n : Nat) (xs : List Value) (hown : w.ownsRow base e 1 v n xs) (s : ByteArray)
    (h63 : n + s.size ≤ maxLen) (hbytes : n + s.size ≤ 140737488355328) (hbase : base ≤ w.heap.size) :
    ∃ v' w', (Builtin.append_ #[t, u] ty #[v, .string s]).run P w = .ok v' w' ∧ w'.ownsRow base e 1 v' (n + s.size) (xs ++ strCells s) ∧ w.grownBy w' v.ownBlock ∧ (v'.ownBlock = v.ownBlock ∨ v'.ownBlock = some w.heap.size) := by
  obtain ⟨v', w', hr, h2, h3, h4⟩ := run_append_own_string (P := P) w base t u ty e i ht hu hi hz hsize hby v n xs hown s h63 hbytes hbase
  refine ⟨v', w', hr, h2, h3, ?_⟩
  have hxl : xs.length = n := by simpa using hown.1
  unfold maxLen at h63
  have hown' := hown
  rcases hown'.2 with ⟨rfl, rfl⟩ | ⟨g, cap, cur, rfl, hbg, hg, hnc, hcm, hcs, htake⟩
  · by_cases hm : s.size = 0
    · exact .inl (by rw [h4.2 ⟨rfl, hm⟩])
    · have hr' := run_append_nil_string (P := P) w t u ty e i (.int .u8 0) ht hu hi hz s (by omega) (by omega) (by rw [hby]; omega)
      rw [hr] at hr'
      injection hr' with e1 e2
      exact .inr (by rw [e1]; rfl)
  · by_cases hroom : n + s.size ≤ cap
    · have hcs' : cur.size = cap := by simpa using hcs
      have hr' := run_append_room_string (P := P) w t u ty e i ht hu hi hsize g n cap cur hg s hroom (by omega)
      rw [hr] at hr'
      injection hr' with e1 e2
      exact .inl (by rw [e1]; rfl)
    · have holds : ∀ j x, xs[j]? = some x → w.cell? ((⟨g, 0, none⟩ : Addr).add j) = some x := hown.cells (g := g) rfl
      have hr' := run_append_grow_string (P := P) w t u ty e i (.int .u8 0) ht hu hi hz ⟨g, 0, none⟩ n cap xs (by rw [hsize]; simpa using hxl) holds s (by omega) (by omega) (by rw [hby]; exact growslice_fits (by omega) (by omega))
      rw [hr] at hr'
      injection hr' with e1 e2
      exact .inr (by rw [e1]; rfl)
theorem wpList_append_str_at {P : Program} {w : World} {ops : Array Oper} {rest : List Oper} {o : Oper} {a : Act} {Q : Exit → Act → World → Prop} (hgd : o.guard = none) (sl x : Operand) (t u : TypeId)
    (ho : o.op = .call { callee := .builtin .append, args := #[sl, x], argTypes := #[t, u] })
    (base : Nat) (e : TypeId) (i : TypeInfo) (ht : P.underlying t = some (.slice e)) (hu : P.underlying u = some .string) (hi : P.info? e = some i) (hz : i.zero = some (.int .u8 0))
    (hsize : i.size = 1) (hby : i.bytes = 1) (v : Value) (n : Nat) (xs : List Value) (hs : a.eval sl = v) (hown : w.ownsRow base e 1 v n xs) (s : ByteArray) (hx : a.eval x = .string s)
    (h63 : n + s.size ≤ maxLen) (hbytes : n + s.size ≤ 140737488355328) (hbase : base ≤ w.heap.size)
    (h : ∀ v' w', w'.ownsRow base e 1 v' (n + s.size) (xs ++ strCells s) → w.grownBy w' v.ownBlock → (v'.ownBlock = v.ownBlock ∨ v'.ownBlock = some w.heap.size) → wpList P ops Q rest (a.put o.dst v') w') : wpList P ops Q (o :: rest) a w := by
  refine wpList_plain hgd fun K hK => ?_
  obtain ⟨v', w', hr, h2, h3, h4⟩ := append_str_at (P := P) w base t u o.type e i ht hu hi hz hsize hby v n xs hown s h63 hbytes hbase
  unfold Oper.wp execOp
  simp only [ho, resolve, invoke, builtin, Sem.run_bind, Sem.run_pure, Result.andThen_ok, List.map_toArray, List.map_cons, List.map_nil, hs, hx, hr]
  exact hK _ _ (h v' w' h2 h3 h4)


theorem strCells_nb (s : ByteArray) : strCells s = nb (strN s) := by
  unfold strCells nb strN
  simp [List.map_map]
theorem cells_lit (w : World) (l : List Value) (t : TypeId) : ∀ j u, l[j]? = some u → (w.alloc (.cells l.toArray t)).cell? ((⟨w.heap.size, 0, none⟩ : Addr).add j) = some u := by
  intro j u h
  rw [Go.WideShapes.add_plain, cell_of_row _ _ _ _ _ _ (heap_new w _)]
  simpa using h
/-- The escape of a byte that needs one. -/
def esc (x : Nat) : List Nat := if x = 92 ∨ x = 34 then [92, x] else if x = 10 then [92, 110] else if x = 13 then [92, 114] else if x = 9 then [92, 116] else [92, 48 + x / 64, 48 + x / 8 % 8, 48 + x % 8]
theorem esc_len (x : Nat) : (esc x).length ≤ 4 := by
  unfold esc
  repeat' split
  all_goals simp
theorem esc_byt {x : Nat} (h : x < 256) : Byt (esc x) := by
  have key : ∀ k : Fin 256, (esc k.val).all (· < 256) = true := by decide +kernel
  intro y hy
  have := List.all_eq_true.1 (key ⟨x, h⟩) y hy
  simpa using this
theorem oct_facts {x : Nat} (h : x < 256) : bits .and .u8 ((x / 8 : Nat) : Int) 7 = ((x / 8 % 8 : Nat) : Int) ∧ bits .and .u8 ((x : Nat) : Int) 7 = ((x % 8 : Nat) : Int) := by
  have key : ∀ k : Fin 256, bits .and .u8 ((k.val / 8 : Nat) : Int) 7 = ((k.val / 8 % 8 : Nat) : Int) ∧ bits .and .u8 ((k.val : Nat) : Int) 7 = ((k.val % 8 : Nat) : Int) := by decide +kernel
  exact key ⟨x, h⟩
/-- Bytes of the call's own, written on. -/
def PutE (base : Nat) (W : World) (v : Value) (xs ys : List Nat) (e : Ending) (W' : World) : Prop := ∃ v', e = .returned v' ∧ Bytes base W' v' (xs ++ ys) ∧ Ext W v W' v'
theorem putE_lit {W w : World} {base n : Nat} {v v' : Value} {xs ys : List Nat} {cs : List Value} {ob : Obj} (hown : w.ownsRow base 5 1 v' n (nb xs ++ cs)) (hn : n = xs.length + ys.length) (hcs : cs = nb ys) (hg : (W.alloc ob).grownBy w v.ownBlock) (hat : v'.ownBlock = v.ownBlock ∨ v'.ownBlock = some (W.alloc ob).heap.size) :
    PutE base W v xs ys (.returned v') w := by
  subst hn hcs
  refine ⟨v', rfl, ?_, Ext.grown hg hat⟩
  unfold Bytes
  rw [nb_append, List.length_append]
  exact hown
theorem putE_str {W w : World} {base n : Nat} {v v' : Value} {xs ys : List Nat} {cs : List Value} (hown : w.ownsRow base 5 1 v' n (nb xs ++ cs)) (hn : n = xs.length + ys.length) (hcs : cs = nb ys) (hg : W.grownBy w v.ownBlock) (hat : v'.ownBlock = v.ownBlock ∨ v'.ownBlock = some W.heap.size) :
    PutE base W v xs ys (.returned v') w := by
  subst hn hcs
  refine ⟨v', rfl, ?_, Ext.grown0 hg hat⟩
  unfold Bytes
  rw [nb_append, List.length_append]
  exact hown
end Go.Proofs.YthodjkeppobcmaaDoor
