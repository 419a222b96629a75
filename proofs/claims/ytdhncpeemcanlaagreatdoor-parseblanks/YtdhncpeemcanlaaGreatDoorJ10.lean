import Derived.Test.YtdhncpeemcanlaaGreatDoorQE
import Derived.Test.YtdhncpeemcanlaaGreatDoorJ01
import Derived.Test.YtdhncpeemcanlaaGreatDoorJ00
import Derived.Deep.CutBlock
import Derived.Maps.AppendAt
import Derived.Lib.AppendStr

namespace Go.Proofs.YtdhncpeemcanlaaGreatDoor
open Go.RowKit
attribute [local go_sem ↓] Go.wp_at_zero Go.wp_at_succ

theorem eqTT {c : Nat} {k : Int} (h : (c : Int) = k) : ((c : Int) == k) = true := by simp; omega
theorem strN_two {s : ByteArray} (h : 2 ≤ s.size) : ∃ a x r, strN s = a :: x :: r ∧ x < 256 ∧ ∃ h1 : 1 < s.size, (s[1]'h1).toNat = x := by
  obtain ⟨a, ha, _, _⟩ := strN_ex s 0 (by omega)
  obtain ⟨x, hx, hx2, gx⟩ := strN_ex s 1 (by omega)
  match hs : strN s with
  | [] => rw [hs] at ha; simp at ha
  | [_] => rw [hs] at hx; simp at hx
  | p :: q :: r =>
    rw [hs] at hx
    obtain rfl : q = x := by simpa using hx
    exact ⟨p, q, r, rfl, hx2, by omega, gx⟩
theorem escL_name {a x v : Nat} {r : List Nat} (h : nameV x = some v) : escL (a :: x :: r) = some (v, 2) := by simp [escL, h]
theorem escL_hex {a x : Nat} {r : List Nat} (h : nameV x = none) (h2 : x = 120 ∨ x = 88) : escL (a :: x :: r) = fin (drun 16 2 r 0 0) 2 := by
  simp only [escL, h]
  rw [if_pos h2]
theorem escL_oct {a x : Nat} {r : List Nat} (h : nameV x = none) (h2 : ¬ (x = 120 ∨ x = 88)) : escL (a :: x :: r) = fin (drun 8 3 (x :: r) 0 0) 1 := by
  simp only [escL, h]
  rw [if_neg h2]
theorem escL_short {l : List Nat} (h : l.length < 2) : escL l = none := by
  match l, h with
  | [], _ => rfl
  | [_], _ => rfl
set_option maxRecDepth 100000 in
set_option maxHeartbeats 2000000 in
theorem escape_any {W : World} (hE : HasE W) (s : ByteArray) (hs : s.size ≤ 65536) : Calls Tryz.prog 56 #[.string s] W (VN W (escL (strN s))) := by
  have hb0 := Below.refl W.heap.size W
  by_cases h2 : 2 ≤ s.size
  · have e0 : decide ((s.size : Int) < 2) = false := by simp; omega
    obtain ⟨a, x, r, hl, hx2, h1, gx⟩ := strN_two h2
    rw [hl]
    have Hl := hide hl
    clear hl
    by_cases h97 : x = 97
    · have Hv : Hid (escL (a :: x :: r) = some (7, 2)) := escL_name (by rw [h97]; rfl)
      have f97 := eqTT (c := x) (k := 97) (by omega)
      clear h97 h2 
      go_enter Tryz.func56, Tryz.ntmps56
      go_wp2
      go_ret2
      exact vnGood (v := 7) (n := 2) hb0 (unhide Hv)
    have f97 := eqF (c := x) (k := 97) (by omega)
    by_cases h98 : x = 98
    · have Hv : Hid (escL (a :: x :: r) = some (8, 2)) := escL_name (by rw [h98]; rfl)
      have f98 := eqTT (c := x) (k := 98) (by omega)
      clear h98 h2 h97
      go_enter Tryz.func56, Tryz.ntmps56
      go_wp2
      go_ret2
      exact vnGood (v := 8) (n := 2) hb0 (unhide Hv)
    have f98 := eqF (c := x) (k := 98) (by omega)
    by_cases h102 : x = 102
    · have Hv : Hid (escL (a :: x :: r) = some (12, 2)) := escL_name (by rw [h102]; rfl)
      have f102 := eqTT (c := x) (k := 102) (by omega)
      clear h102 h2 h97 h98
      go_enter Tryz.func56, Tryz.ntmps56
      go_wp2
      go_ret2
      exact vnGood (v := 12) (n := 2) hb0 (unhide Hv)
    have f102 := eqF (c := x) (k := 102) (by omega)
    by_cases h110 : x = 110
    · have Hv : Hid (escL (a :: x :: r) = some (10, 2)) := escL_name (by rw [h110]; rfl)
      have f110 := eqTT (c := x) (k := 110) (by omega)
      clear h110 h2 h97 h98 h102
      go_enter Tryz.func56, Tryz.ntmps56
      go_wp2
      go_ret2
      exact vnGood (v := 10) (n := 2) hb0 (unhide Hv)
    have f110 := eqF (c := x) (k := 110) (by omega)
    by_cases h114 : x = 114
    · have Hv : Hid (escL (a :: x :: r) = some (13, 2)) := escL_name (by rw [h114]; rfl)
      have f114 := eqTT (c := x) (k := 114) (by omega)
      clear h114 h2 h97 h98 h102 h110
      go_enter Tryz.func56, Tryz.ntmps56
      go_wp2
      go_ret2
      exact vnGood (v := 13) (n := 2) hb0 (unhide Hv)
    have f114 := eqF (c := x) (k := 114) (by omega)
    by_cases h116 : x = 116
    · have Hv : Hid (escL (a :: x :: r) = some (9, 2)) := escL_name (by rw [h116]; rfl)
      have f116 := eqTT (c := x) (k := 116) (by omega)
      clear h116 h2 h97 h98 h102 h110 h114
      go_enter Tryz.func56, Tryz.ntmps56
      go_wp2
      go_ret2
      exact vnGood (v := 9) (n := 2) hb0 (unhide Hv)
    have f116 := eqF (c := x) (k := 116) (by omega)
    by_cases h118 : x = 118
    · have Hv : Hid (escL (a :: x :: r) = some (11, 2)) := escL_name (by rw [h118]; rfl)
      have f118 := eqTT (c := x) (k := 118) (by omega)
      clear h118 h2 h97 h98 h102 h110 h114 h116
      go_enter Tryz.func56, Tryz.ntmps56
      go_wp2
      go_ret2
      exact vnGood (v := 11) (n := 2) hb0 (unhide Hv)
    have f118 := eqF (c := x) (k := 118) (by omega)
    by_cases h92 : x = 92
    · have Hv : Hid (escL (a :: x :: r) = some (x, 2)) := escL_name (by rw [h92]; rfl)
      have f92 := eqTT (c := x) (k := 92) (by omega)
      clear h92 h2 h97 h98 h102 h110 h114 h116 h118
      go_enter Tryz.func56, Tryz.ntmps56
      go_wp2
      go_ret2
      exact vnGood (v := x) (n := 2) hb0 (unhide Hv)
    have f92 := eqF (c := x) (k := 92) (by omega)
    by_cases h39 : x = 39
    · have Hv : Hid (escL (a :: x :: r) = some (x, 2)) := escL_name (by rw [h39]; rfl)
      have f39 := eqTT (c := x) (k := 39) (by omega)
      clear h39 h2 h97 h98 h102 h110 h114 h116 h118 h92
      go_enter Tryz.func56, Tryz.ntmps56
      go_wp2
      go_ret2
      exact vnGood (v := x) (n := 2) hb0 (unhide Hv)
    have f39 := eqF (c := x) (k := 39) (by omega)
    by_cases h34 : x = 34
    · have Hv : Hid (escL (a :: x :: r) = some (x, 2)) := escL_name (by rw [h34]; rfl)
      have f34 := eqTT (c := x) (k := 34) (by omega)
      clear h34 h2 h97 h98 h102 h110 h114 h116 h118 h92 h39
      go_enter Tryz.func56, Tryz.ntmps56
      go_wp2
      go_ret2
      exact vnGood (v := x) (n := 2) hb0 (unhide Hv)
    have f34 := eqF (c := x) (k := 34) (by omega)
    have hnv : nameV x = none := by unfold nameV; rw [if_neg h97, if_neg h98, if_neg h102, if_neg h110, if_neg h114, if_neg h116, if_neg h118, if_neg (by omega)]
    by_cases h120 : x = 120
    · have hv : escL (a :: x :: r) = fin (drun 16 2 ((strN s).drop 2) 0 0) 2 := by rw [unhide Hl]; exact escL_hex hnv (by omega)
      rw [hv]
      have f120 := eqTT (c := x) (k := 120) (by omega)
      clear hv hnv h120 h97 h98 h102 h110 h114 h116 h118 h92 h39 h34
      go_enter Tryz.func56, Tryz.ntmps56
      go_wp2_with fail
      refine (byBase_hex hE s hs h2).mono ?_
      rintro e w1 ⟨hb1, ⟨ho, rfl⟩ | ⟨v, n, ho, rfl⟩⟩
      · have Hb := hide hb1
        have Ho := hide ho
        clear hb1 ho h2
        go_wp2
        go_ret2
        exact vnBad (unhide Hb) (unhide Ho)
      · have Hb := hide hb1
        have Ho := hide ho
        clear hb1 ho h2
        go_wp2
        go_ret2
        exact vnGood (unhide Hb) (unhide Ho)
    have f120 := eqF (c := x) (k := 120) (by omega)
    by_cases h88 : x = 88
    · have hv : escL (a :: x :: r) = fin (drun 16 2 ((strN s).drop 2) 0 0) 2 := by rw [unhide Hl]; exact escL_hex hnv (by omega)
      rw [hv]
      have f88 := eqTT (c := x) (k := 88) (by omega)
      clear hv hnv h88 h97 h98 h102 h110 h114 h116 h118 h92 h39 h34 h120
      go_enter Tryz.func56, Tryz.ntmps56
      go_wp2_with fail
      refine (byBase_hex hE s hs h2).mono ?_
      rintro e w1 ⟨hb1, ⟨ho, rfl⟩ | ⟨v, n, ho, rfl⟩⟩
      · have Hb := hide hb1
        have Ho := hide ho
        clear hb1 ho h2
        go_wp2
        go_ret2
        exact vnBad (unhide Hb) (unhide Ho)
      · have Hb := hide hb1
        have Ho := hide ho
        clear hb1 ho h2
        go_wp2
        go_ret2
        exact vnGood (unhide Hb) (unhide Ho)
    have f88 := eqF (c := x) (k := 88) (by omega)
    have hv : escL (a :: x :: r) = fin (drun 8 3 ((strN s).drop 1) 0 0) 1 := by rw [unhide Hl]; exact escL_oct hnv (by omega)
    rw [hv]
    clear hv hnv h97 h98 h102 h110 h114 h116 h118 h92 h39 h34 h120 h88
    go_enter Tryz.func56, Tryz.ntmps56
    go_wp2_with fail
    refine (byBase_oct hE s hs (by omega)).mono ?_
    rintro e w1 ⟨hb1, ⟨ho, rfl⟩ | ⟨v, n, ho, rfl⟩⟩
    · have Hb := hide hb1
      have Ho := hide ho
      clear hb1 ho h2
      go_wp2
      go_ret2
      exact vnBad (unhide Hb) (unhide Ho)
    · have Hb := hide hb1
      have Ho := hide ho
      clear hb1 ho h2
      go_wp2
      go_ret2
      exact vnGood (unhide Hb) (unhide Ho)
  · have e0 : decide ((s.size : Int) < 2) = true := by simp; omega
    have Hv : Hid (escL (strN s) = none) := escL_short (by rw [strN_len]; omega)
    clear h2
    go_enter Tryz.func56, Tryz.ntmps56
    go_wp2
    go_ret2
    exact vnBad hb0 (unhide Hv)
set_option maxRecDepth 100000 in
set_option maxHeartbeats 1000000 in
theorem piece_any {W : World} (hE : HasE W) (s : ByteArray) (h0 : 0 < s.size) (hs : s.size ≤ 65536) : Calls Tryz.prog 40 #[.string s] W (VN W (pieceAt s 0)) := by
  have hb0 := Below.refl W.heap.size W
  obtain ⟨x, hx⟩ : ∃ x : Nat, s[0].toNat = x := ⟨_, rfl⟩
  have hbx : byteAt s 0 = x := (byteAt_eq s 0 h0).trans hx
  have hx2 : x < 256 := by rw [← hbx]; exact byteAt_lt s 0
  have hp : pieceAt s 0 = if x = 0 ∨ x = 10 then none else if x = 92 then escL (strN s) else some (x, 1) := by unfold pieceAt; rw [hbx]; rfl
  rw [hp]
  clear hp hbx
  by_cases c0 : x = 0
  · rw [if_pos (.inl c0)]
    have f0 := eqTT (c := x) (k := 0) (by omega)
    clear c0
    go_enter Tryz.func40, Tryz.ntmps40
    go_wp2
    go_ret2
    exact vnBad hb0 rfl
  have f0 := eqF (c := x) (k := 0) (by omega)
  by_cases c1 : x = 10
  · rw [if_pos (.inr c1)]
    have f1 := eqTT (c := x) (k := 10) (by omega)
    clear c0 c1
    go_enter Tryz.func40, Tryz.ntmps40
    go_wp2
    go_ret2
    exact vnBad hb0 rfl
  have f1 := eqF (c := x) (k := 10) (by omega)
  by_cases c2 : x = 92
  · rw [if_neg (by omega), if_pos c2]
    have f2 := eqTT (c := x) (k := 92) (by omega)
    clear c0 c1 c2
    go_enter Tryz.func40, Tryz.ntmps40
    go_wp2_with fail
    refine (escape_any hE s hs).mono ?_
    rintro e w1 ⟨hb1, ⟨ho, rfl⟩ | ⟨v, n, ho, rfl⟩⟩
    · have Hb := hide hb1
      have Ho := hide ho
      clear hb1 ho
      go_wp2
      go_ret2
      exact vnBad (unhide Hb) (unhide Ho)
    · have Hb := hide hb1
      have Ho := hide ho
      clear hb1 ho
      go_wp2
      go_ret2
      exact vnGood (unhide Hb) (unhide Ho)
  have f2 := eqF (c := x) (k := 92) (by omega)
  rw [if_neg (by omega), if_neg c2]
  clear c0 c1 c2
  go_enter Tryz.func40, Tryz.ntmps40
  go_wp2
  go_ret2
  exact vnGood (v := x) (n := 1) hb0 rfl
end Go.Proofs.YtdhncpeemcanlaaGreatDoor

namespace Go.Proofs.YtdhncpeemcanlaaGreatDoor
open Go.RowKit
attribute [local go_sem ↓] Go.wp_at_zero Go.wp_at_succ

theorem ltiF {c : Nat} {k : Int} (h : k ≤ (c : Int)) : decide ((c : Int) < k) = false := by simp; omega
theorem ltiT {c : Nat} {k : Int} (h : (c : Int) < k) : decide ((c : Int) < k) = true := by simp; omega
theorem eqT {c : Nat} {k : Int} (h : (c : Int) = k) : ((c : Int) == k) = true := by simp; omega
theorem len_in {s : ByteArray} {k c lo hi i y : Nat} {L H : Int} (q : LenOkAt s k c lo hi) (i1 : 1 ≤ i) (hic : i < 1 + c) (hb : byteAt s (k + i) = y) (hL : L = if i = 1 then (lo : Int) else 128) (hH : H = if i = 1 then (hi : Int) else 191) : L ≤ (y : Int) ∧ (y : Int) ≤ H := by
  have q1 := q.2 i i1 hic
  rw [hb] at q1
  by_cases h : i = 1
  · rw [if_pos h] at hL hH
    rw [if_pos h, if_pos h] at q1
    omega
  · rw [if_neg h] at hL hH
    rw [if_neg h, if_neg h] at q1
    omega
theorem len_next {s : ByteArray} {k lo hi i y : Nat} {L H : Int} (hb : byteAt s (k + i) = y) (hL : L = if i = 1 then (lo : Int) else 128) (hH : H = if i = 1 then (hi : Int) else 191) (h1 : L ≤ (y : Int)) (h2 : (y : Int) ≤ H)
    (hall : ∀ j, 1 ≤ j → j < i → (if j = 1 then lo else 128) ≤ byteAt s (k + j) ∧ byteAt s (k + j) ≤ (if j = 1 then hi else 191)) :
    ∀ j, 1 ≤ j → j < i + 1 → (if j = 1 then lo else 128) ≤ byteAt s (k + j) ∧ byteAt s (k + j) ≤ (if j = 1 then hi else 191) := by
  intro j j1 j2
  by_cases hj : j = i
  · subst hj
    rw [hb]
    by_cases h : j = 1
    · rw [if_pos h] at hL hH
      rw [if_pos h, if_pos h]
      omega
    · rw [if_neg h] at hL hH
      rw [if_neg h, if_neg h]
      omega
  · exact hall j j1 (by omega)
end Go.Proofs.YtdhncpeemcanlaaGreatDoor

namespace Go.Proofs.YtdhncpeemcanlaaGreatDoor
open Go.RowKit Go.Lib
attribute [local go_sem ↓] Go.wp_at_zero Go.wp_at_succ

/-- Appending a string's bytes: where the row then lies. -/
theorem append_str_at {P : Program} (w : World) (base : Nat) (t u ty e : TypeId) (i : TypeInfo) (ht : P.underlying t = some (.slice e)) (hu : P.underlying u = some .string) (hi : P.info? e = some i) (hz : i.zero = some (.int .u8 0))
    (hsize : i.size = 1) (hby : i.bytes = 1) (v : Value) (n : Nat) (xs : List Value) (hown : w.ownsRow base e 1 v n xs) (s : ByteArray)
    (h63 : n + s.size ≤ maxLen) (hbytes : n + s.size ≤ 140737488355328) (hbase : base ≤ w.heap.size) :
    ∃ v' w', (Builtin.append_ #[t, u] ty #[v, .string s]).run P w = .ok v' w' ∧ w'.ownsRow base e 1 v' (n + s.size) (xs ++ strCells s) ∧ w.grownBy w' v.ownBlock ∧ (v'.ownBlock = v.ownBlock ∨ v'.ownBlock = some w.heap.size) := by
  obtain ⟨v', w', hr, h2, h3, h4⟩ := run_append_own_string (P := P) w base t u ty e i ht hu hi hz hsize hby v n xs hown s h63 hbytes hbase
  refine ⟨v', w', hr, h2, h3, ?_⟩
  have hxl : xs.length = n := by simpa using hown.1
  unfold maxLen at h63
  have hown' := hown
  rcases hown'.2 with ⟨rfl, rfl⟩ | ⟨g, cap, cur, rfl, hbg, hg, hnc, hcm, hcs, htake⟩
  · by_cases hm : s.size = 0
    · exact .inl (by rw [h4.2 ⟨rfl, hm⟩])
    · have hr' := run_append_nil_string (P := P) w t u ty e i (.int .u8 0) ht hu hi hz s (by omega) (by omega) (by rw [hby]; omega)
      rw [hr] at hr'
      injection hr' with e1 e2
      exact .inr (by rw [e1]; rfl)
  · by_cases hroom : n + s.size ≤ cap
    · have hcs' : cur.size = cap := by simpa using hcs
      have hr' := run_append_room_string (P := P) w t u ty e i ht hu hi hsize g n cap cur hg s hroom (by omega)
      rw [hr] at hr'
      injection hr' with e1 e2
      exact .inl (by rw [e1]; rfl)
    · have holds : ∀ j x, xs[j]? = some x → w.cell? ((⟨g, 0, none⟩ : Addr).add j) = some x := hown.cells (g := g) rfl
      have hr' := run_append_grow_string (P := P) w t u ty e i (.int .u8 0) ht hu hi hz ⟨g, 0, none⟩ n cap xs (by rw [hsize]; simpa using hxl) holds s (by omega) (by omega) (by rw [hby]; exact growslice_fits (by omega) (by omega))
      rw [hr] at hr'
      injection hr' with e1 e2
      exact .inr (by rw [e1]; rfl)
theorem wpList_append_str_at {P : Program} {w : World} {ops : Array Oper} {rest : List Oper} {o : Oper} {a : Act} {Q : Exit → Act → World → Prop} (hgd : o.guard = none) (sl x : Operand) (t u : TypeId)
    (ho : o.op = .call { callee := .builtin .append, args := #[sl, x], argTypes := #[t, u] })
    (base : Nat) (e : TypeId) (i : TypeInfo) (ht : P.underlying t = some (.slice e)) (hu : P.underlying u = some .string) (hi : P.info? e = some i) (hz : i.zero = some (.int .u8 0))
    (hsize : i.size = 1) (hby : i.bytes = 1) (v : Value) (n : Nat) (xs : List Value) (hs : a.eval sl = v) (hown : w.ownsRow base e 1 v n xs) (s : ByteArray) (hx : a.eval x = .string s)
    (h63 : n + s.size ≤ maxLen) (hbytes : n + s.size ≤ 140737488355328) (hbase : base ≤ w.heap.size)
    (h : ∀ v' w', w'.ownsRow base e 1 v' (n + s.size) (xs ++ strCells s) → w.grownBy w' v.ownBlock → (v'.ownBlock = v.ownBlock ∨ v'.ownBlock = some w.heap.size) → wpList P ops Q rest (a.put o.dst v') w') : wpList P ops Q (o :: rest) a w := by
  refine wpList_plain hgd fun K hK => ?_
  obtain ⟨v', w', hr, h2, h3, h4⟩ := append_str_at (P := P) w base t u o.type e i ht hu hi hz hsize hby v n xs hown s h63 hbytes hbase
  unfold Oper.wp execOp
  simp only [ho, resolve, invoke, builtin, Sem.run_bind, Sem.run_pure, Result.andThen_ok, List.map_toArray, List.map_cons, List.map_nil, hs, hx, hr]
  exact hK _ _ (h v' w' h2 h3 h4)


theorem strCells_nb (s : ByteArray) : strCells s = nb (strN s) := by
  unfold strCells nb strN
  simp [List.map_map]
theorem cells_lit (w : World) (l : List Value) (t : TypeId) : ∀ j u, l[j]? = some u → (w.alloc (.cells l.toArray t)).cell? ((⟨w.heap.size, 0, none⟩ : Addr).add j) = some u := by
  intro j u h
  rw [Go.WideShapes.add_plain, cell_of_row _ _ _ _ _ _ (heap_new w _)]
  simpa using h
/-- The escape of a byte that needs one. -/
def esc (x : Nat) : List Nat := if x = 92 ∨ x = 34 then [92, x] else if x = 10 then [92, 110] else if x = 13 then [92, 114] else if x = 9 then [92, 116] else [92, 48 + x / 64, 48 + x / 8 % 8, 48 + x % 8]
theorem esc_len (x : Nat) : (esc x).length ≤ 4 := by
  unfold esc
  repeat' split
  all_goals simp
theorem esc_byt {x : Nat} (h : x < 256) : Byt (esc x) := by
  have key : ∀ k : Fin 256, (esc k.val).all (· < 256) = true := by decide +kernel
  intro y hy
  have := List.all_eq_true.1 (key ⟨x, h⟩) y hy
  simpa using this
theorem oct_facts {x : Nat} (h : x < 256) : bits .and .u8 ((x / 8 : Nat) : Int) 7 = ((x / 8 % 8 : Nat) : Int) ∧ bits .and .u8 ((x : Nat) : Int) 7 = ((x % 8 : Nat) : Int) := by
  have key : ∀ k : Fin 256, bits .and .u8 ((k.val / 8 : Nat) : Int) 7 = ((k.val / 8 % 8 : Nat) : Int) ∧ bits .and .u8 ((k.val : Nat) : Int) 7 = ((k.val % 8 : Nat) : Int) := by decide +kernel
  exact key ⟨x, h⟩
/-- Bytes of the call's own, written on. -/
def PutE (base : Nat) (W : World) (v : Value) (xs ys : List Nat) (e : Ending) (W' : World) : Prop := ∃ v', e = .returned v' ∧ Bytes base W' v' (xs ++ ys) ∧ Ext W v W' v'
theorem putE_lit {W w : World} {base n : Nat} {v v' : Value} {xs ys : List Nat} {cs : List Value} {ob : Obj} (hown : w.ownsRow base 5 1 v' n (nb xs ++ cs)) (hn : n = xs.length + ys.length) (hcs : cs = nb ys) (hg : (W.alloc ob).grownBy w v.ownBlock) (hat : v'.ownBlock = v.ownBlock ∨ v'.ownBlock = some (W.alloc ob).heap.size) :
    PutE base W v xs ys (.returned v') w := by
  subst hn hcs
  refine ⟨v', rfl, ?_, Ext.grown hg hat⟩
  unfold Bytes
  rw [nb_append, List.length_append]
  exact hown
theorem putE_str {W w : World} {base n : Nat} {v v' : Value} {xs ys : List Nat} {cs : List Value} (hown : w.ownsRow base 5 1 v' n (nb xs ++ cs)) (hn : n = xs.length + ys.length) (hcs : cs = nb ys) (hg : W.grownBy w v.ownBlock) (hat : v'.ownBlock = v.ownBlock ∨ v'.ownBlock = some W.heap.size) :
    PutE base W v xs ys (.returned v') w := by
  subst hn hcs
  refine ⟨v', rfl, ?_, Ext.grown0 hg hat⟩
  unfold Bytes
  rw [nb_append, List.length_append]
  exact hown
end Go.Proofs.YtdhncpeemcanlaaGreatDoor

namespace Go.Proofs.YtdhncpeemcanlaaGreatDoor
open Go.RowKit Go.Lib
attribute [local go_sem ↓] Go.wp_at_zero Go.wp_at_succ

theorem byteAt_strN (s : ByteArray) (k : Nat) (hk : k < s.size) : (strN s)[k]? = some (byteAt s k) := by
  obtain ⟨x, h1, _, h3⟩ := strN_ex s k hk
  rw [h1, byteAt_eq s k hk, h3]
theorem frm_hi {x c d e : Nat} (h : frm x = some (c, d, e)) (hx : 128 ≤ x) : 1 ≤ c := by
  unfold frm at h
  rw [if_neg (by omega)] at h
  repeat' split at h
  all_goals first | (cases h; done) | (have := Option.some.inj h; simp at this; omega)
theorem byteAt_take (s : ByteArray) (n i : Nat) (hn : n ≤ s.size) (hi : i < n) : byteAt (s.extract 0 n) i = byteAt s i := by
  have := byteAt_extract s 0 n i hn (by omega)
  rw [this]
  congr 1
  omega
theorem lenOk_take {s : ByteArray} {n c d e : Nat} (hn : n ≤ s.size) : LenOkAt (s.extract 0 n) 0 c d e ↔ (1 + c ≤ n ∧ LenOkAt s 0 c d e) := by
  have hz := extract_size s 0 n hn
  unfold LenOkAt
  rw [hz]
  constructor
  · rintro ⟨h1, h2⟩
    refine ⟨by omega, by omega, fun j j1 j2 => ?_⟩
    have := h2 j j1 j2
    rw [Nat.zero_add, byteAt_take s n j hn (by omega)] at this
    rw [Nat.zero_add]
    exact this
  · rintro ⟨h0, h1, h2⟩
    refine ⟨by omega, fun j j1 j2 => ?_⟩
    have := h2 j j1 j2
    rw [Nat.zero_add] at this
    rw [Nat.zero_add, byteAt_take s n j hn (by omega)]
    exact this
/-- The first n bytes are one character just where one of n bytes begins in front (n from 2 on, the first byte from 128 on, none of fewer bytes). -/
theorem utf_take {s : ByteArray} {n : Nat} (hn : n ≤ s.size) (h2 : 2 ≤ n) (h4 : n ≤ 4) (hx : 128 ≤ byteAt s 0) (hno : ∀ m, 2 ≤ m → m < n → ¬ chAt s 0 = m) :
    (chAt s 0 = n → utfAt (s.extract 0 n) 0 = -1) ∧ (¬ chAt s 0 = n → utfAt (s.extract 0 n) 0 = 0) := by
  have hz := extract_size s 0 n hn
  have hb := byteAt_take s n 0 hn (by omega)
  have key : chAt (s.extract 0 n) 0 = if chAt s 0 = n then n else 0 := by
    cases hf : frm (byteAt s 0) with
    | none => rw [chAt_none (by rw [hb]; exact hf), chAt_none hf, if_neg (by omega)]
    | some t =>
      obtain ⟨c, d, e⟩ := t
      have hc := frm_hi hf hx
      have hc3 := frm_le hf
      by_cases hok : LenOkAt s 0 c d e
      · have hs := chAt_ok hf hok
        by_cases hcn : 1 + c = n
        · rw [if_pos (by omega), chAt_ok (by rw [hb]; exact hf) ((lenOk_take hn).2 ⟨by omega, hok⟩)]; exact hcn
        · have h1 : n < 1 + c := by
            rcases Nat.lt_or_ge n (1 + c) with q | q
            · exact q
            · exact absurd hs (hno (1 + c) (by omega) (by omega))
          rw [if_neg (by omega), chAt_no (by rw [hb]; exact hf) (fun q => by have := ((lenOk_take hn).1 q).1; omega)]
      · rw [if_neg (by rw [chAt_no hf hok]; omega), chAt_no (by rw [hb]; exact hf) (fun q => hok ((lenOk_take hn).1 q).2)]
  constructor
  · intro h
    rw [if_pos h] at key
    rw [utf_step (by omega) (by omega), key, utf_end (by omega)]
  · intro h
    rw [if_neg h] at key
    rw [utf_bad (by omega) key]
    rfl
end Go.Proofs.YtdhncpeemcanlaaGreatDoor

namespace Go.Proofs.YtdhncpeemcanlaaGreatDoor
open Go.RowKit Go.Lib
attribute [local go_sem ↓] Go.wp_at_zero Go.wp_at_succ

theorem lenOk_drop {s : ByteArray} {k c d e : Nat} (hk : k < s.size) : LenOkAt (s.extract k s.size) 0 c d e ↔ LenOkAt s k c d e := by
  have hz := extract_size s k s.size (Nat.le_refl _)
  unfold LenOkAt
  rw [hz]
  constructor
  · rintro ⟨h1, h2⟩
    refine ⟨by omega, fun j j1 j2 => ?_⟩
    have := h2 j j1 j2
    rw [Nat.zero_add, byteAt_extract s k s.size j (Nat.le_refl _) (by omega)] at this
    exact this
  · rintro ⟨h1, h2⟩
    refine ⟨by omega, fun j j1 j2 => ?_⟩
    rw [Nat.zero_add, byteAt_extract s k s.size j (Nat.le_refl _) (by omega)]
    exact h2 j j1 j2
theorem byteAt_drop {s : ByteArray} {k : Nat} (hk : k < s.size) : byteAt (s.extract k s.size) 0 = byteAt s k := by rw [byteAt_extract s k s.size 0 (Nat.le_refl _) (by omega)]; rfl
theorem chAt_drop {s : ByteArray} {k : Nat} (hk : k < s.size) : chAt (s.extract k s.size) 0 = chAt s k := by
  have hb := byteAt_drop hk
  cases hf : frm (byteAt s k) with
  | none => rw [chAt_none (by rw [hb]; exact hf), chAt_none hf]
  | some t =>
    obtain ⟨c, d, e⟩ := t
    by_cases hok : LenOkAt s k c d e
    · rw [chAt_ok hf hok, chAt_ok (by rw [hb]; exact hf) ((lenOk_drop hk).2 hok)]
    · rw [chAt_no hf hok, chAt_no (by rw [hb]; exact hf) (fun q => hok ((lenOk_drop hk).1 q))]
theorem chAt_low {s : ByteArray} {k : Nat} (hk : k < s.size) (hx : byteAt s k < 128) : chAt s k = 1 :=
  chAt_ok (c := 0) (d := 0) (e := 0) (by unfold frm; rw [if_pos hx]) ⟨by omega, fun j j1 j2 => by omega⟩
/-- How many bytes stand for themselves at that place, 0 if an escape is needed. -/
noncomputable def plainK (s : ByteArray) (k : Nat) : Nat := if 128 ≤ byteAt s k then chAt s k else if byteAt s k < 32 ∨ byteAt s k = 127 ∨ byteAt s k = 34 ∨ byteAt s k = 92 then 0 else 1
theorem plainK_le {s : ByteArray} {k : Nat} (hk : k < s.size) : k + plainK s k ≤ s.size ∧ plainK s k ≤ 4 := by
  have := chAt_le s k (by omega)
  unfold plainK
  split
  · exact this
  · split <;> omega
def sub (s : ByteArray) (k n : Nat) : List Nat := ((strN s).drop k).take n
/-- What is written for what stands at that place, and how many bytes that is. -/
noncomputable def qs (s : ByteArray) (k : Nat) : List Nat := if plainK s k = 0 then esc (byteAt s k) else sub s k (plainK s k)
noncomputable def qn (s : ByteArray) (k : Nat) : Nat := if plainK s k = 0 then 1 else plainK s k
theorem qn_pos (s : ByteArray) (k : Nat) : 1 ≤ qn s k := by unfold qn; split <;> omega
theorem qn_le {s : ByteArray} {k : Nat} (hk : k < s.size) : k + qn s k ≤ s.size := by
  have := plainK_le hk
  unfold qn
  split <;> omega
theorem qs_len {s : ByteArray} {k : Nat} : (qs s k).length ≤ 4 * qn s k := by
  unfold qs qn
  split
  · have := esc_len (byteAt s k); omega
  · have : (sub s k (plainK s k)).length ≤ plainK s k := by unfold sub; rw [List.length_take]; omega
    omega
theorem qs_byt (s : ByteArray) (k : Nat) : Byt (qs s k) := by
  unfold qs
  split
  · exact esc_byt (byteAt_lt s k)
  · intro x hx
    unfold sub at hx
    exact strN_byt s x (List.mem_of_mem_drop (List.mem_of_mem_take hx))
/-- All that is written from that place on. -/
noncomputable def qAll (s : ByteArray) (k : Nat) : List Nat := if _h : k < s.size then qs s k ++ qAll s (k + qn s k) else []
termination_by s.size - k
decreasing_by have := qn_pos s k; omega
theorem qAll_end {s : ByteArray} {k : Nat} (h : ¬ k < s.size) : qAll s k = [] := by rw [qAll, dif_neg h]
theorem qAll_step {s : ByteArray} {k : Nat} (h : k < s.size) : qAll s k = qs s k ++ qAll s (k + qn s k) := by rw [qAll, dif_pos h]
theorem sub_extract (s : ByteArray) (k n : Nat) : strN (s.extract k (k + n)) = sub s k n := by
  unfold strN sub strN
  rw [Lib.extract_data]
  simp [List.map_take, List.map_drop]
theorem sub_len {s : ByteArray} {k n : Nat} (h : k + n ≤ s.size) : (sub s k n).length = n := by
  unfold sub
  rw [List.length_take, List.length_drop, strN_len]
  omega

theorem plainK_drop {s : ByteArray} {k : Nat} (hk : k < s.size) : plainK (s.extract k s.size) 0 = plainK s k := by
  unfold plainK
  rw [byteAt_drop hk, chAt_drop hk]
theorem bytes_one (W : World) (x : Nat) : Bytes W.heap.size (W.alloc (.cells #[.int .u8 (x : Int)] 5)) (.slice (some ⟨W.heap.size, 0, none⟩) 1 1) [x] :=
  ⟨rfl, .inr ⟨W.heap.size, 1, #[.int .u8 (x : Int)], rfl, Nat.le_refl _, heap_new _ _, Nat.le_refl _, by unfold maxLen; omega, rfl, rfl⟩⟩
end Go.Proofs.YtdhncpeemcanlaaGreatDoor

namespace Go.Proofs.YtdhncpeemcanlaaGreatDoor
open Go.RowKit Go.Lib
attribute [local go_sem ↓] Go.wp_at_zero Go.wp_at_succ

theorem Bytes.up {base : Nat} {W w : World} {v : Value} {l : List Nat} (h : Bytes base W v l) (hb : Below W.heap.size W w) : Bytes base w v l := by
  unfold Bytes at h ⊢
  obtain ⟨h1, ⟨rfl, h0⟩ | ⟨g, c, cur, rfl, h2, h3, h4⟩⟩ := h
  · exact ⟨h1, .inl ⟨rfl, h0⟩⟩
  · exact ⟨h1, .inr ⟨g, c, cur, rfl, h2, (hb.block g (Array.getElem?_eq_some_iff.1 h3).1).trans h3, h4⟩⟩
theorem byt_34 : Byt [34] := fun x hx => by rw [List.mem_singleton.1 hx]; decide
theorem Bytes.base_le {base : Nat} {W : World} {v : Value} {l : List Nat} (h : Bytes base W v l) : ∀ b, v.ownBlock = some b → base ≤ b := fun b hb => by
  unfold Bytes at h
  exact (h.lt b hb).1
theorem Bytes.shape {base : Nat} {W : World} {v : Value} {l : List Nat} (h : Bytes base W v l) : ∃ a n c, v = .slice a n c := by
  obtain ⟨a, c, rfl, _⟩ := h.has
  exact ⟨_, _, _, rfl⟩
end Go.Proofs.YtdhncpeemcanlaaGreatDoor
