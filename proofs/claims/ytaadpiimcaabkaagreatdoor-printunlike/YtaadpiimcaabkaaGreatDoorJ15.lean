import Derived.Test.YtaadpiimcaabkaaGreatDoorQE
import Derived.Test.YtaadpiimcaabkaaGreatDoorJ04
import Derived.Maps.AppendAt
import Derived.Lib.AppendStr

namespace Go.Proofs.YtaadpiimcaabkaaGreatDoor
open Go.RowKit
attribute [local go_sem ↓] Go.wp_at_zero Go.wp_at_succ

theorem eqTT {c : Nat} {k : Int} (h : (c : Int) = k) : ((c : Int) == k) = true := by simp; omega
theorem strN_two {s : ByteArray} (h : 2 ≤ s.size) : ∃ a x r, strN s = a :: x :: r ∧ x < 256 ∧ ∃ h1 : 1 < s.size, (s[1]'h1).toNat = x := by
  obtain ⟨a, ha, _, _⟩ := strN_ex s 0 (by omega)
  obtain ⟨x, hx, hx2, gx⟩ := strN_ex s 1 (by omega)
  match hs : strN s with
  | [] => rw [hs] at ha; simp at ha
  | [_] => rw [hs] at hx; simp at hx
  | p :: q :: r =>
    rw [hs] at hx
    obtain rfl : q = x := by simpa using hx
    exact ⟨p, q, r, rfl, hx2, by omega, gx⟩
theorem escL_name {a x v : Nat} {r : List Nat} (h : nameV x = some v) : escL (a :: x :: r) = some (v, 2) := by simp [escL, h]
theorem escL_hex {a x : Nat} {r : List Nat} (h : nameV x = none) (h2 : x = 120 ∨ x = 88) : escL (a :: x :: r) = fin (drun 16 2 r 0 0) 2 := by
  simp only [escL, h]
  rw [if_pos h2]
theorem escL_oct {a x : Nat} {r : List Nat} (h : nameV x = none) (h2 : ¬ (x = 120 ∨ x = 88)) : escL (a :: x :: r) = fin (drun 8 3 (x :: r) 0 0) 1 := by
  simp only [escL, h]
  rw [if_neg h2]
theorem escL_short {l : List Nat} (h : l.length < 2) : escL l = none := by
  match l, h with
  | [], _ => rfl
  | [_], _ => rfl
set_option maxRecDepth 100000 in
set_option maxHeartbeats 2000000 in
theorem escape_any {W : World} (hE : HasE W) (s : ByteArray) (hs : s.size ≤ 65536) : Calls Tryz.prog 193 #[.string s] W (VN W (escL (strN s))) := by
  have hb0 := Below.refl W.heap.size W
  by_cases h2 : 2 ≤ s.size
  · have e0 : decide ((s.size : Int) < 2) = false := by simp; omega
    obtain ⟨a, x, r, hl, hx2, h1, gx⟩ := strN_two h2
    rw [hl]
    have Hl := hide hl
    clear hl
    by_cases h97 : x = 97
    · have Hv : Hid (escL (a :: x :: r) = some (7, 2)) := escL_name (by rw [h97]; rfl)
      have f97 := eqTT (c := x) (k := 97) (by omega)
      clear h97 h2 
      go_enter Tryz.func193, Tryz.ntmps193
      go_wp2
      go_ret2
      exact vnGood (v := 7) (n := 2) hb0 (unhide Hv)
    have f97 := eqF (c := x) (k := 97) (by omega)
    by_cases h98 : x = 98
    · have Hv : Hid (escL (a :: x :: r) = some (8, 2)) := escL_name (by rw [h98]; rfl)
      have f98 := eqTT (c := x) (k := 98) (by omega)
      clear h98 h2 h97
      go_enter Tryz.func193, Tryz.ntmps193
      go_wp2
      go_ret2
      exact vnGood (v := 8) (n := 2) hb0 (unhide Hv)
    have f98 := eqF (c := x) (k := 98) (by omega)
    by_cases h102 : x = 102
    · have Hv : Hid (escL (a :: x :: r) = some (12, 2)) := escL_name (by rw [h102]; rfl)
      have f102 := eqTT (c := x) (k := 102) (by omega)
      clear h102 h2 h97 h98
      go_enter Tryz.func193, Tryz.ntmps193
      go_wp2
      go_ret2
      exact vnGood (v := 12) (n := 2) hb0 (unhide Hv)
    have f102 := eqF (c := x) (k := 102) (by omega)
    by_cases h110 : x = 110
    · have Hv : Hid (escL (a :: x :: r) = some (10, 2)) := escL_name (by rw [h110]; rfl)
      have f110 := eqTT (c := x) (k := 110) (by omega)
      clear h110 h2 h97 h98 h102
      go_enter Tryz.func193, Tryz.ntmps193
      go_wp2
      go_ret2
      exact vnGood (v := 10) (n := 2) hb0 (unhide Hv)
    have f110 := eqF (c := x) (k := 110) (by omega)
    by_cases h114 : x = 114
    · have Hv : Hid (escL (a :: x :: r) = some (13, 2)) := escL_name (by rw [h114]; rfl)
      have f114 := eqTT (c := x) (k := 114) (by omega)
      clear h114 h2 h97 h98 h102 h110
      go_enter Tryz.func193, Tryz.ntmps193
      go_wp2
      go_ret2
      exact vnGood (v := 13) (n := 2) hb0 (unhide Hv)
    have f114 := eqF (c := x) (k := 114) (by omega)
    by_cases h116 : x = 116
    · have Hv : Hid (escL (a :: x :: r) = some (9, 2)) := escL_name (by rw [h116]; rfl)
      have f116 := eqTT (c := x) (k := 116) (by omega)
      clear h116 h2 h97 h98 h102 h110 h114
      go_enter Tryz.func193, Tryz.ntmps193
      go_wp2
      go_ret2
      exact vnGood (v := 9) (n := 2) hb0 (unhide Hv)
    have f116 := eqF (c := x) (k := 116) (by omega)
    by_cases h118 : x = 118
    · have Hv : Hid (escL (a :: x :: r) = some (11, 2)) := escL_name (by rw [h118]; rfl)
      have f118 := eqTT (c := x) (k := 118) (by omega)
      clear h118 h2 h97 h98 h102 h110 h114 h116
      go_enter Tryz.func193, Tryz.ntmps193
      go_wp2
      go_ret2
      exact vnGood (v := 11) (n := 2) hb0 (unhide Hv)
    have f118 := eqF (c := x) (k := 118) (by omega)
    by_cases h92 : x = 92
    · have Hv : Hid (escL (a :: x :: r) = some (x, 2)) := escL_name (by rw [h92]; rfl)
      have f92 := eqTT (c := x) (k := 92) (by omega)
      clear h92 h2 h97 h98 h102 h110 h114 h116 h118
      go_enter Tryz.func193, Tryz.ntmps193
      go_wp2
      go_ret2
      exact vnGood (v := x) (n := 2) hb0 (unhide Hv)
    have f92 := eqF (c := x) (k := 92) (by omega)
    by_cases h39 : x = 39
    · have Hv : Hid (escL (a :: x :: r) = some (x, 2)) := escL_name (by rw [h39]; rfl)
      have f39 := eqTT (c := x) (k := 39) (by omega)
      clear h39 h2 h97 h98 h102 h110 h114 h116 h118 h92
      go_enter Tryz.func193, Tryz.ntmps193
      go_wp2
      go_ret2
      exact vnGood (v := x) (n := 2) hb0 (unhide Hv)
    have f39 := eqF (c := x) (k := 39) (by omega)
    by_cases h34 : x = 34
    · have Hv : Hid (escL (a :: x :: r) = some (x, 2)) := escL_name (by rw [h34]; rfl)
      have f34 := eqTT (c := x) (k := 34) (by omega)
      clear h34 h2 h97 h98 h102 h110 h114 h116 h118 h92 h39
      go_enter Tryz.func193, Tryz.ntmps193
      go_wp2
      go_ret2
      exact vnGood (v := x) (n := 2) hb0 (unhide Hv)
    have f34 := eqF (c := x) (k := 34) (by omega)
    have hnv : nameV x = none := by unfold nameV; rw [if_neg h97, if_neg h98, if_neg h102, if_neg h110, if_neg h114, if_neg h116, if_neg h118, if_neg (by omega)]
    by_cases h120 : x = 120
    · have hv : escL (a :: x :: r) = fin (drun 16 2 ((strN s).drop 2) 0 0) 2 := by rw [unhide Hl]; exact escL_hex hnv (by omega)
      rw [hv]
      have f120 := eqTT (c := x) (k := 120) (by omega)
      clear hv hnv h120 h97 h98 h102 h110 h114 h116 h118 h92 h39 h34
      go_enter Tryz.func193, Tryz.ntmps193
      go_wp2_with fail
      refine (byBase_hex hE s hs h2).mono ?_
      rintro e w1 ⟨hb1, ⟨ho, rfl⟩ | ⟨v, n, ho, rfl⟩⟩
      · have Hb := hide hb1
        have Ho := hide ho
        clear hb1 ho h2
        go_wp2
        go_ret2
        exact vnBad (unhide Hb) (unhide Ho)
      · have Hb := hide hb1
        have Ho := hide ho
        clear hb1 ho h2
        go_wp2
        go_ret2
        exact vnGood (unhide Hb) (unhide Ho)
    have f120 := eqF (c := x) (k := 120) (by omega)
    by_cases h88 : x = 88
    · have hv : escL (a :: x :: r) = fin (drun 16 2 ((strN s).drop 2) 0 0) 2 := by rw [unhide Hl]; exact escL_hex hnv (by omega)
      rw [hv]
      have f88 := eqTT (c := x) (k := 88) (by omega)
      clear hv hnv h88 h97 h98 h102 h110 h114 h116 h118 h92 h39 h34 h120
      go_enter Tryz.func193, Tryz.ntmps193
      go_wp2_with fail
      refine (byBase_hex hE s hs h2).mono ?_
      rintro e w1 ⟨hb1, ⟨ho, rfl⟩ | ⟨v, n, ho, rfl⟩⟩
      · have Hb := hide hb1
        have Ho := hide ho
        clear hb1 ho h2
        go_wp2
        go_ret2
        exact vnBad (unhide Hb) (unhide Ho)
      · have Hb := hide hb1
        have Ho := hide ho
        clear hb1 ho h2
        go_wp2
        go_ret2
        exact vnGood (unhide Hb) (unhide Ho)
    have f88 := eqF (c := x) (k := 88) (by omega)
    have hv : escL (a :: x :: r) = fin (drun 8 3 ((strN s).drop 1) 0 0) 1 := by rw [unhide Hl]; exact escL_oct hnv (by omega)
    rw [hv]
    clear hv hnv h97 h98 h102 h110 h114 h116 h118 h92 h39 h34 h120 h88
    go_enter Tryz.func193, Tryz.ntmps193
    go_wp2_with fail
    refine (byBase_oct hE s hs (by omega)).mono ?_
    rintro e w1 ⟨hb1, ⟨ho, rfl⟩ | ⟨v, n, ho, rfl⟩⟩
    · have Hb := hide hb1
      have Ho := hide ho
      clear hb1 ho h2
      go_wp2
      go_ret2
      exact vnBad (unhide Hb) (unhide Ho)
    · have Hb := hide hb1
      have Ho := hide ho
      clear hb1 ho h2
      go_wp2
      go_ret2
      exact vnGood (unhide Hb) (unhide Ho)
  · have e0 : decide ((s.size : Int) < 2) = true := by simp; omega
    have Hv : Hid (escL (strN s) = none) := escL_short (by rw [strN_len]; omega)
    clear h2
    go_enter Tryz.func193, Tryz.ntmps193
    go_wp2
    go_ret2
    exact vnBad hb0 (unhide Hv)
set_option maxRecDepth 100000 in
set_option maxHeartbeats 1000000 in
theorem piece_any {W : World} (hE : HasE W) (s : ByteArray) (h0 : 0 < s.size) (hs : s.size ≤ 65536) : Calls Tryz.prog 180 #[.string s] W (VN W (pieceAt s 0)) := by
  have hb0 := Below.refl W.heap.size W
  obtain ⟨x, hx⟩ : ∃ x : Nat, s[0].toNat = x := ⟨_, rfl⟩
  have hbx : byteAt s 0 = x := (byteAt_eq s 0 h0).trans hx
  have hx2 : x < 256 := by rw [← hbx]; exact byteAt_lt s 0
  have hp : pieceAt s 0 = if x = 0 ∨ x = 10 then none else if x = 92 then escL (strN s) else some (x, 1) := by unfold pieceAt; rw [hbx]; rfl
  rw [hp]
  clear hp hbx
  by_cases c0 : x = 0
  · rw [if_pos (.inl c0)]
    have f0 := eqTT (c := x) (k := 0) (by omega)
    clear c0
    go_enter Tryz.func180, Tryz.ntmps180
    go_wp2
    go_ret2
    exact vnBad hb0 rfl
  have f0 := eqF (c := x) (k := 0) (by omega)
  by_cases c1 : x = 10
  · rw [if_pos (.inr c1)]
    have f1 := eqTT (c := x) (k := 10) (by omega)
    clear c0 c1
    go_enter Tryz.func180, Tryz.ntmps180
    go_wp2
    go_ret2
    exact vnBad hb0 rfl
  have f1 := eqF (c := x) (k := 10) (by omega)
  by_cases c2 : x = 92
  · rw [if_neg (by omega), if_pos c2]
    have f2 := eqTT (c := x) (k := 92) (by omega)
    clear c0 c1 c2
    go_enter Tryz.func180, Tryz.ntmps180
    go_wp2_with fail
    refine (escape_any hE s hs).mono ?_
    rintro e w1 ⟨hb1, ⟨ho, rfl⟩ | ⟨v, n, ho, rfl⟩⟩
    · have Hb := hide hb1
      have Ho := hide ho
      clear hb1 ho
      go_wp2
      go_ret2
      exact vnBad (unhide Hb) (unhide Ho)
    · have Hb := hide hb1
      have Ho := hide ho
      clear hb1 ho
      go_wp2
      go_ret2
      exact vnGood (unhide Hb) (unhide Ho)
  have f2 := eqF (c := x) (k := 92) (by omega)
  rw [if_neg (by omega), if_neg c2]
  clear c0 c1 c2
  go_enter Tryz.func180, Tryz.ntmps180
  go_wp2
  go_ret2
  exact vnGood (v := x) (n := 1) hb0 rfl
end Go.Proofs.YtaadpiimcaabkaaGreatDoor

namespace Go.Proofs.YtaadpiimcaabkaaGreatDoor
open Go.RowKit Go.Lib
attribute [local go_sem ↓] Go.wp_at_zero Go.wp_at_succ

/-- Appending a string's bytes: where the row then lies. -/
theorem append_str_at {P : Program} (w : World) (base : Nat) (t u ty e : TypeId) (i : TypeInfo) (ht : P.underlying t = some (.slice e)) (hu : P.underlying u = some .string) (hi : P.info? e = some i) (hz : i.zero = some (.int .u8 0))
    (hsize : i.size = 1) (hby : i.bytes = 1) (v : Value) (n : Nat) (xs : List Value) (hown : w.ownsRow base e 1 v n xs) (s : ByteArray)
    (h63 : n + s.size ≤ maxLen) (hbytes : n + s.size ≤ 140737488355328) (hbase : base ≤ w.heap.size) :
    ∃ v' w', (Builtin.append_ #[t, u] ty #[v, .string s]).run P w = .ok v' w' ∧ w'.ownsRow base e 1 v' (n + s.size) (xs ++ strCells s) ∧ w.grownBy w' v.ownBlock ∧ (v'.ownBlock = v.ownBlock ∨ v'.ownBlock = some w.heap.size) := by
  obtain ⟨v', w', hr, h2, h3, h4⟩ := run_append_own_string (P := P) w base t u ty e i ht hu hi hz hsize hby v n xs hown s h63 hbytes hbase
  refine ⟨v', w', hr, h2, h3, ?_⟩
  have hxl : xs.length = n := by simpa using hown.1
  unfold maxLen at h63
  have hown' := hown
  rcases hown'.2 with ⟨rfl, rfl⟩ | ⟨g, cap, cur, rfl, hbg, hg, hnc, hcm, hcs, htake⟩
  · by_cases hm : s.size = 0
    · exact .inl (by rw [h4.2 ⟨rfl, hm⟩])
    · have hr' := run_append_nil_string (P := P) w t u ty e i (.int .u8 0) ht hu hi hz s (by omega) (by omega) (by rw [hby]; omega)
      rw [hr] at hr'
      injection hr' with e1 e2
      exact .inr (by rw [e1]; rfl)
  · by_cases hroom : n + s.size ≤ cap
    · have hcs' : cur.size = cap := by simpa using hcs
      have hr' := run_append_room_string (P := P) w t u ty e i ht hu hi hsize g n cap cur hg s hroom (by omega)
      rw [hr] at hr'
      injection hr' with e1 e2
      exact .inl (by rw [e1]; rfl)
    · have holds : ∀ j x, xs[j]? = some x → w.cell? ((⟨g, 0, none⟩ : Addr).add j) = some x := hown.cells (g := g) rfl
      have hr' := run_append_grow_string (P := P) w t u ty e i (.int .u8 0) ht hu hi hz ⟨g, 0, none⟩ n cap xs (by rw [hsize]; simpa using hxl) holds s (by omega) (by omega) (by rw [hby]; exact growslice_fits (by omega) (by omega))
      rw [hr] at hr'
      injection hr' with e1 e2
      exact .inr (by rw [e1]; rfl)
theorem wpList_append_str_at {P : Program} {w : World} {ops : Array Oper} {rest : List Oper} {o : Oper} {a : Act} {Q : Exit → Act → World → Prop} (hgd : o.guard = none) (sl x : Operand) (t u : TypeId)
    (ho : o.op = .call { callee := .builtin .append, args := #[sl, x], argTypes := #[t, u] })
    (base : Nat) (e : TypeId) (i : TypeInfo) (ht : P.underlying t = some (.slice e)) (hu : P.underlying u = some .string) (hi : P.info? e = some i) (hz : i.zero = some (.int .u8 0))
    (hsize : i.size = 1) (hby : i.bytes = 1) (v : Value) (n : Nat) (xs : List Value) (hs : a.eval sl = v) (hown : w.ownsRow base e 1 v n xs) (s : ByteArray) (hx : a.eval x = .string s)
    (h63 : n + s.size ≤ maxLen) (hbytes : n + s.size ≤ 140737488355328) (hbase : base ≤ w.heap.size)
    (h : ∀ v' w', w'.ownsRow base e 1 v' (n + s.size) (xs ++ strCells s) → w.grownBy w' v.ownBlock → (v'.ownBlock = v.ownBlock ∨ v'.ownBlock = some w.heap.size) → wpList P ops Q rest (a.put o.dst v') w') : wpList P ops Q (o :: rest) a w := by
  refine wpList_plain hgd fun K hK => ?_
  obtain ⟨v', w', hr, h2, h3, h4⟩ := append_str_at (P := P) w base t u o.type e i ht hu hi hz hsize hby v n xs hown s h63 hbytes hbase
  unfold Oper.wp execOp
  simp only [ho, resolve, invoke, builtin, Sem.run_bind, Sem.run_pure, Result.andThen_ok, List.map_toArray, List.map_cons, List.map_nil, hs, hx, hr]
  exact hK _ _ (h v' w' h2 h3 h4)


theorem strCells_nb (s : ByteArray) : strCells s = nb (strN s) := by
  unfold strCells nb strN
  simp [List.map_map]
theorem cells_lit (w : World) (l : List Value) (t : TypeId) : ∀ j u, l[j]? = some u → (w.alloc (.cells l.toArray t)).cell? ((⟨w.heap.size, 0, none⟩ : Addr).add j) = some u := by
  intro j u h
  rw [Go.WideShapes.add_plain, cell_of_row _ _ _ _ _ _ (heap_new w _)]
  simpa using h
/-- The escape of a byte that needs one. -/
def esc (x : Nat) : List Nat := if x = 92 ∨ x = 34 then [92, x] else if x = 10 then [92, 110] else if x = 13 then [92, 114] else if x = 9 then [92, 116] else [92, 48 + x / 64, 48 + x / 8 % 8, 48 + x % 8]
theorem esc_len (x : Nat) : (esc x).length ≤ 4 := by
  unfold esc
  repeat' split
  all_goals simp
theorem esc_byt {x : Nat} (h : x < 256) : Byt (esc x) := by
  have key : ∀ k : Fin 256, (esc k.val).all (· < 256) = true := by decide +kernel
  intro y hy
  have := List.all_eq_true.1 (key ⟨x, h⟩) y hy
  simpa using this
theorem oct_facts {x : Nat} (h : x < 256) : bits .and .u8 ((x / 8 : Nat) : Int) 7 = ((x / 8 % 8 : Nat) : Int) ∧ bits .and .u8 ((x : Nat) : Int) 7 = ((x % 8 : Nat) : Int) := by
  have key : ∀ k : Fin 256, bits .and .u8 ((k.val / 8 : Nat) : Int) 7 = ((k.val / 8 % 8 : Nat) : Int) ∧ bits .and .u8 ((k.val : Nat) : Int) 7 = ((k.val % 8 : Nat) : Int) := by decide +kernel
  exact key ⟨x, h⟩
/-- Bytes of the call's own, written on. -/
def PutE (base : Nat) (W : World) (v : Value) (xs ys : List Nat) (e : Ending) (W' : World) : Prop := ∃ v', e = .returned v' ∧ Bytes base W' v' (xs ++ ys) ∧ Ext W v W' v'
theorem putE_lit {W w : World} {base n : Nat} {v v' : Value} {xs ys : List Nat} {cs : List Value} {ob : Obj} (hown : w.ownsRow base 5 1 v' n (nb xs ++ cs)) (hn : n = xs.length + ys.length) (hcs : cs = nb ys) (hg : (W.alloc ob).grownBy w v.ownBlock) (hat : v'.ownBlock = v.ownBlock ∨ v'.ownBlock = some (W.alloc ob).heap.size) :
    PutE base W v xs ys (.returned v') w := by
  subst hn hcs
  refine ⟨v', rfl, ?_, Ext.grown hg hat⟩
  unfold Bytes
  rw [nb_append, List.length_append]
  exact hown
theorem putE_str {W w : World} {base n : Nat} {v v' : Value} {xs ys : List Nat} {cs : List Value} (hown : w.ownsRow base 5 1 v' n (nb xs ++ cs)) (hn : n = xs.length + ys.length) (hcs : cs = nb ys) (hg : W.grownBy w v.ownBlock) (hat : v'.ownBlock = v.ownBlock ∨ v'.ownBlock = some W.heap.size) :
    PutE base W v xs ys (.returned v') w := by
  subst hn hcs
  refine ⟨v', rfl, ?_, Ext.grown0 hg hat⟩
  unfold Bytes
  rw [nb_append, List.length_append]
  exact hown
set_option maxRecDepth 100000 in
set_option maxHeartbeats 2000000 in
theorem putEscape_any {W : World} {base : Nat} {v : Value} {xs : List Nat} (h : Bytes base W v xs) (hb : base ≤ W.heap.size) (hl : xs.length ≤ 8388608) (x : Nat) (hx : x < 256) :
    Calls Tryz.prog 87 #[v, .int .u8 (x : Int)] W (PutE base W v xs (esc x)) := by
  obtain ⟨i0, hi, hz0, hz1, hz2⟩ := info_parts Tryz.infoByte
  have hv : ∃ a n c, v = .slice a n c := by
    obtain ⟨a, c, rfl, _⟩ := h.has
    exact ⟨_, _, _, rfl⟩
  obtain ⟨va, vn, vc, rfl⟩ := hv
  have HY := hide h
  clear h
  by_cases h1 : x = 92
  · have e1 : ((x : Int) == 92) = true := by simp; omega
    have o1 : xs.length + 2 ≤ maxLen := by unfold maxLen; omega
    have o2 : (xs.length + 2) * 1 ≤ 140737488355328 := by omega
    have he : esc x = [92, x] := by unfold esc; rw [if_pos (.inl h1)]
    rw [he]
    clear he h1
    go_enter Tryz.func87, Tryz.ntmps87
    go_wp2_with (at_builtin; refine wpList_append_own_at _ rfl _ _ 58 rfl base 5 i0 (.int .u8 0) 1 1 Tryz.underlying58 hi hz0 hz1 hz2 rfl (by decide) _ _ _ rfl ((unhide HY).alloc _) ⟨W.heap.size, 0, none⟩ 2 2 [.int .u8 92, .int .u8 (x : Int)] rfl rfl (cells_lit _ _ _) (by simp [Value.oneCell']) o1 o2 (by rw [World.size_alloc]; omega) ?_; intro v4 w4 hown4 hgrow4 _ hat4; have Hown := hide hown4; have Hgrow := hide hgrow4; have Hat := hide hat4; clear hown4 hgrow4 hat4)
    go_ret
    exact putE_lit (ys := [92, x]) (unhide Hown) rfl rfl (unhide Hgrow) (unhide Hat)
  · have e1 := eqF (c := x) (k := 92) (by omega)
    by_cases h2 : x = 34
    · have e2 : ((x : Int) == 34) = true := by simp; omega
      have o1 : xs.length + 2 ≤ maxLen := by unfold maxLen; omega
      have o2 : (xs.length + 2) * 1 ≤ 140737488355328 := by omega
      have he : esc x = [92, x] := by unfold esc; rw [if_pos (.inr h2)]
      rw [he]
      clear he h1 h2
      go_enter Tryz.func87, Tryz.ntmps87
      go_wp2_with (at_builtin; refine wpList_append_own_at _ rfl _ _ 58 rfl base 5 i0 (.int .u8 0) 1 1 Tryz.underlying58 hi hz0 hz1 hz2 rfl (by decide) _ _ _ rfl ((unhide HY).alloc _) ⟨W.heap.size, 0, none⟩ 2 2 [.int .u8 92, .int .u8 (x : Int)] rfl rfl (cells_lit _ _ _) (by simp [Value.oneCell']) o1 o2 (by rw [World.size_alloc]; omega) ?_; intro v4 w4 hown4 hgrow4 _ hat4; have Hown := hide hown4; have Hgrow := hide hgrow4; have Hat := hide hat4; clear hown4 hgrow4 hat4)
      go_ret
      exact putE_lit (ys := [92, x]) (unhide Hown) rfl rfl (unhide Hgrow) (unhide Hat)
    · have e2 := eqF (c := x) (k := 34) (by omega)
      have h12 : ¬ (x = 92 ∨ x = 34) := fun q => q.elim h1 h2
      by_cases g0 : x = 10
      · have f0 : ((x : Int) == 10) = true := by simp; omega
        have o1 : xs.length + 2 ≤ maxLen := by unfold maxLen; omega
        have he : esc x = [92, 110] := by unfold esc; rw [if_neg h12]; rw [if_pos g0]
        rw [he]
        clear he h1 h2 h12 g0
        go_enter Tryz.func87, Tryz.ntmps87
        go_wp2_with (at_builtin; refine wpList_append_str_at rfl _ _ 58 9 rfl base 5 i0 Tryz.underlying58 Tryz.underlying9 hi hz0 hz1 hz2 _ _ _ rfl (unhide HY) ⟨#[92, 110]⟩ rfl o1 (by show xs.length + 2 ≤ _; omega) hb ?_; intro v4 w4 hown4 hgrow4 hat4; have Hown := hide hown4; have Hgrow := hide hgrow4; have Hat := hide hat4; clear hown4 hgrow4 hat4)
        go_ret
        exact putE_str (ys := [92, 110]) (unhide Hown) rfl (strCells_nb _) (unhide Hgrow) (unhide Hat)
      · have f0 := eqF (c := x) (k := 10) (by omega)
        by_cases g1 : x = 13
        · have f1 : ((x : Int) == 13) = true := by simp; omega
          have o1 : xs.length + 2 ≤ maxLen := by unfold maxLen; omega
          have he : esc x = [92, 114] := by unfold esc; rw [if_neg h12]; rw [if_neg g0]; rw [if_pos g1]
          rw [he]
          clear he h1 h2 h12 g0 g1
          go_enter Tryz.func87, Tryz.ntmps87
          go_wp2_with (at_builtin; refine wpList_append_str_at rfl _ _ 58 9 rfl base 5 i0 Tryz.underlying58 Tryz.underlying9 hi hz0 hz1 hz2 _ _ _ rfl (unhide HY) ⟨#[92, 114]⟩ rfl o1 (by show xs.length + 2 ≤ _; omega) hb ?_; intro v4 w4 hown4 hgrow4 hat4; have Hown := hide hown4; have Hgrow := hide hgrow4; have Hat := hide hat4; clear hown4 hgrow4 hat4)
          go_ret
          exact putE_str (ys := [92, 114]) (unhide Hown) rfl (strCells_nb _) (unhide Hgrow) (unhide Hat)
        · have f1 := eqF (c := x) (k := 13) (by omega)
          by_cases g2 : x = 9
          · have f2 : ((x : Int) == 9) = true := by simp; omega
            have o1 : xs.length + 2 ≤ maxLen := by unfold maxLen; omega
            have he : esc x = [92, 116] := by unfold esc; rw [if_neg h12]; rw [if_neg g0]; rw [if_neg g1]; rw [if_pos g2]
            rw [he]
            clear he h1 h2 h12 g0 g1 g2
            go_enter Tryz.func87, Tryz.ntmps87
            go_wp2_with (at_builtin; refine wpList_append_str_at rfl _ _ 58 9 rfl base 5 i0 Tryz.underlying58 Tryz.underlying9 hi hz0 hz1 hz2 _ _ _ rfl (unhide HY) ⟨#[92, 116]⟩ rfl o1 (by show xs.length + 2 ≤ _; omega) hb ?_; intro v4 w4 hown4 hgrow4 hat4; have Hown := hide hown4; have Hgrow := hide hgrow4; have Hat := hide hat4; clear hown4 hgrow4 hat4)
            go_ret
            exact putE_str (ys := [92, 116]) (unhide Hown) rfl (strCells_nb _) (unhide Hgrow) (unhide Hat)
          · have f2 := eqF (c := x) (k := 9) (by omega)
            have he : esc x = [92, 48 + x / 64, 48 + x / 8 % 8, 48 + x % 8] := by unfold esc; rw [if_neg h12]; rw [if_neg g0]; rw [if_neg g1]; rw [if_neg g2]
            rw [he]
            clear he h1 h2 h12 g0 g1 g2
            obtain ⟨q1, q2⟩ := oct_facts hx
            have q3 : bits .and .u8 ((x : Int) / 8) 7 = ((x / 8 % 8 : Nat) : Int) := by rw [show ((x : Int) / 8) = ((x / 8 : Nat) : Int) by omega]; exact q1
            have o1 : xs.length + 4 ≤ maxLen := by unfold maxLen; omega
            have o2 : (xs.length + 4) * 1 ≤ 140737488355328 := by omega
            go_enter Tryz.func87, Tryz.ntmps87
            go_wp2_with (at_builtin; refine wpList_append_own_at _ rfl _ _ 58 rfl base 5 i0 (.int .u8 0) 1 1 Tryz.underlying58 hi hz0 hz1 hz2 rfl (by decide) _ _ _ rfl ((unhide HY).alloc _) ⟨W.heap.size, 0, none⟩ 4 4 [.int .u8 92, .int .u8 (48 + (x : Int) / 64), .int .u8 (48 + (x : Int) / 8 % 8), .int .u8 (48 + (x : Int) % 8)] rfl rfl (cells_lit _ _ _) (by simp [Value.oneCell']) o1 o2 (by rw [World.size_alloc]; omega) ?_; intro v4 w4 hown4 hgrow4 _ hat4; have Hown := hide hown4; have Hgrow := hide hgrow4; have Hat := hide hat4; clear hown4 hgrow4 hat4)
            go_ret
            exact putE_lit (ys := [92, 48 + x / 64, 48 + x / 8 % 8, 48 + x % 8]) (unhide Hown) rfl (by simp [nb]) (unhide Hgrow) (unhide Hat)
end Go.Proofs.YtaadpiimcaabkaaGreatDoor
