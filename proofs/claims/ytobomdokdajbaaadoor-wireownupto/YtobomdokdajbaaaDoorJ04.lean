import Derived.Test.YtobomdokdajbaaaDoorWU
import Derived.Lib.AppendStr
import Derived.Laws.IdiomStrings

namespace Go.Proofs.YtobomdokdajbaaaDoor
open Go.RowKit Go.Lib
attribute [local go_sem ↓] Go.wp_at_zero Go.wp_at_succ

set_option maxRecDepth 100000 in
theorem len_151 (W : World) : Calls Tryd.prog 93 #[.int .u64 151] W fun e W' => e = .returned (.int .i64 8) ∧ W' = W := by
  go_enter Tryd.func93, Tryd.ntmps93
  go_wp2
  go_ret
  exact ⟨by kernel_rfl, rfl⟩
theorem size_150 (W : World) : Calls Tryd.prog 65 #[.int .i64 150] W fun e W' => e = .returned (.int .i64 2) ∧ W' = W := by
  have hor : bits BinOp.or IntKind.u64 150 1 = 151 := by decide +kernel
  go_enter Tryd.func65, Tryd.ntmps65
  go_wp2_with fail
  refine (len_151 W).mono ?_
  rintro e w' ⟨rfl, rfl⟩
  go_wp2
  go_ret
  exact ⟨rfl, rfl⟩
set_option maxRecDepth 100000 in
theorem len_9 (W : World) : Calls Tryd.prog 93 #[.int .u64 9] W fun e W' => e = .returned (.int .i64 4) ∧ W' = W := by
  go_enter Tryd.func93, Tryd.ntmps93
  go_wp2
  go_ret
  exact ⟨by kernel_rfl, rfl⟩
theorem size_8 (W : World) : Calls Tryd.prog 65 #[.int .i64 8] W fun e W' => e = .returned (.int .i64 1) ∧ W' = W := by
  have hor : bits BinOp.or IntKind.u64 8 1 = 9 := by decide +kernel
  go_enter Tryd.func65, Tryd.ntmps65
  go_wp2_with fail
  refine (len_9 W).mono ?_
  rintro e w' ⟨rfl, rfl⟩
  go_wp2
  go_ret
  exact ⟨rfl, rfl⟩
set_option maxRecDepth 100000 in
theorem len_17 (W : World) : Calls Tryd.prog 93 #[.int .u64 17] W fun e W' => e = .returned (.int .i64 5) ∧ W' = W := by
  go_enter Tryd.func93, Tryd.ntmps93
  go_wp2
  go_ret
  exact ⟨by kernel_rfl, rfl⟩
theorem size_16 (W : World) : Calls Tryd.prog 65 #[.int .i64 16] W fun e W' => e = .returned (.int .i64 1) ∧ W' = W := by
  have hor : bits BinOp.or IntKind.u64 16 1 = 17 := by decide +kernel
  go_enter Tryd.func65, Tryd.ntmps65
  go_wp2_with fail
  refine (len_17 W).mono ?_
  rintro e w' ⟨rfl, rfl⟩
  go_wp2
  go_ret
  exact ⟨rfl, rfl⟩
set_option maxRecDepth 100000 in
theorem len_3 (W : World) : Calls Tryd.prog 93 #[.int .u64 3] W fun e W' => e = .returned (.int .i64 2) ∧ W' = W := by
  go_enter Tryd.func93, Tryd.ntmps93
  go_wp2
  go_ret
  exact ⟨by kernel_rfl, rfl⟩
theorem size_2 (W : World) : Calls Tryd.prog 65 #[.int .i64 2] W fun e W' => e = .returned (.int .i64 1) ∧ W' = W := by
  have hor : bits BinOp.or IntKind.u64 2 1 = 3 := by decide +kernel
  go_enter Tryd.func65, Tryd.ntmps65
  go_wp2_with fail
  refine (len_3 W).mono ?_
  rintro e w' ⟨rfl, rfl⟩
  go_wp2
  go_ret
  exact ⟨rfl, rfl⟩

theorem tagSize_1 (W : World) : Calls Tryd.prog 64 #[.int .i64 1] W fun e W' => e = .returned (.int .i64 1) ∧ W' = W := by
  go_enter Tryd.func64, Tryd.ntmps64
  go_wp2_with fail
  refine (size_8 W).mono ?_
  rintro e w' ⟨rfl, rfl⟩
  go_wp2
  go_ret
  exact ⟨rfl, rfl⟩
theorem tagSize_2 (W : World) : Calls Tryd.prog 64 #[.int .i64 2] W fun e W' => e = .returned (.int .i64 1) ∧ W' = W := by
  go_enter Tryd.func64, Tryd.ntmps64
  go_wp2_with fail
  refine (size_16 W).mono ?_
  rintro e w' ⟨rfl, rfl⟩
  go_wp2
  go_ret
  exact ⟨rfl, rfl⟩

/-- Appending a string's bytes: where the row then lies. -/
theorem append_str_at {P : Program} (w : World) (base : Nat) (t u ty e : TypeId) (i : TypeInfo) (ht : P.underlying t = some (.slice e)) (hu : P.underlying u = some .string) (hi : P.info? e = some i) (hz : i.zero = some (.int .u8 0))
    (hsize : i.size = 1) (hby : i.bytes = 1) (v : Value) (n : Nat) (xs : List Value) (hown : w.ownsRow base e 1 v n xs) (s : ByteArray)
    (h63 : n + s.size ≤ maxLen) (hbytes : n + s.size ≤ 140737488355328) (hbase : base ≤ w.heap.size) :
    ∃ v' w', (Builtin.append_ #[t, u] ty #[v, .string s]).run P w = .ok v' w' ∧ w'.ownsRow base e 1 v' (n + s.size) (xs ++ strCells s) ∧ w.grownBy w' v.ownBlock ∧ (v'.ownBlock = v.ownBlock ∨ v'.ownBlock = some w.heap.size) := by
  obtain ⟨v', w', hr, h2, h3, h4⟩ := run_append_own_string (P := P) w base t u ty e i ht hu hi hz hsize hby v n xs hown s h63 hbytes hbase
  refine ⟨v', w', hr, h2, h3, ?_⟩
  have hxl : xs.length = n := by simpa using hown.1
  unfold maxLen at h63
  have hown' := hown
  rcases hown'.2 with ⟨rfl, rfl⟩ | ⟨g, cap, cur, rfl, hbg, hg, hnc, hcm, hcs, htake⟩
  · by_cases hm : s.size = 0
    · exact .inl (by rw [h4.2 ⟨rfl, hm⟩])
    · have hr' := run_append_nil_string (P := P) w t u ty e i (.int .u8 0) ht hu hi hz s (by omega) (by omega) (by rw [hby]; omega)
      rw [hr] at hr'
      injection hr' with e1 e2
      exact .inr (by rw [e1]; rfl)
  · by_cases hroom : n + s.size ≤ cap
    · have hcs' : cur.size = cap := by simpa using hcs
      have hr' := run_append_room_string (P := P) w t u ty e i ht hu hi hsize g n cap cur hg s hroom (by omega)
      rw [hr] at hr'
      injection hr' with e1 e2
      exact .inl (by rw [e1]; rfl)
    · have holds : ∀ j x, xs[j]? = some x → w.cell? ((⟨g, 0, none⟩ : Addr).add j) = some x := hown.cells (g := g) rfl
      have hr' := run_append_grow_string (P := P) w t u ty e i (.int .u8 0) ht hu hi hz ⟨g, 0, none⟩ n cap xs (by rw [hsize]; simpa using hxl) holds s (by omega) (by omega) (by rw [hby]; exact growslice_fits (by omega) (by omega))
      rw [hr] at hr'
      injection hr' with e1 e2
      exact .inr (by rw [e1]; rfl)
theorem wpList_append_str_at {P : Program} {w : World} {ops : Array Oper} {rest : List Oper} {o : Oper} {a : Act} {Q : Exit → Act → World → Prop} (hgd : o.guard = none) (sl x : Operand) (t u : TypeId)
    (ho : o.op = .call { callee := .builtin .append, args := #[sl, x], argTypes := #[t, u] })
    (base : Nat) (e : TypeId) (i : TypeInfo) (ht : P.underlying t = some (.slice e)) (hu : P.underlying u = some .string) (hi : P.info? e = some i) (hz : i.zero = some (.int .u8 0))
    (hsize : i.size = 1) (hby : i.bytes = 1) (v : Value) (n : Nat) (xs : List Value) (hs : a.eval sl = v) (hown : w.ownsRow base e 1 v n xs) (s : ByteArray) (hx : a.eval x = .string s)
    (h63 : n + s.size ≤ maxLen) (hbytes : n + s.size ≤ 140737488355328) (hbase : base ≤ w.heap.size)
    (h : ∀ v' w', w'.ownsRow base e 1 v' (n + s.size) (xs ++ strCells s) → w.grownBy w' v.ownBlock → (v'.ownBlock = v.ownBlock ∨ v'.ownBlock = some w.heap.size) → wpList P ops Q rest (a.put o.dst v') w') : wpList P ops Q (o :: rest) a w := by
  refine wpList_plain hgd fun K hK => ?_
  obtain ⟨v', w', hr, h2, h3, h4⟩ := append_str_at (P := P) w base t u o.type e i ht hu hi hz hsize hby v n xs hown s h63 hbytes hbase
  unfold Oper.wp execOp
  simp only [ho, resolve, invoke, builtin, Sem.run_bind, Sem.run_pure, Result.andThen_ok, List.map_toArray, List.map_cons, List.map_nil, hs, hx, hr]
  exact hK _ _ (h v' w' h2 h3 h4)

/-- A text's bytes. -/
def strB (s : ByteArray) : List Int := s.data.toList.map fun b => (b.toNat : Int)
theorem strB_cells (s : ByteArray) : strCells s = (strB s).map fun b => Value.int .u8 b := by simp [strCells, strB]
theorem strB_len (s : ByteArray) : (strB s).length = s.size := by simp [strB]

set_option maxRecDepth 100000 in
set_option maxHeartbeats 2000000 in
theorem putText_any {W : World} {base : Nat} {v : Value} {bs : List Int} (h : Bytes base W v bs) (hb : base ≤ W.heap.size) (hn : bs.length ≤ 1099511627776) (s : ByteArray) (hs : s.size ≤ 1099511627776) :
    Calls Tryd.prog 41 #[v, .string s] W fun e W' => ∃ v', e = .returned v' ∧ Bytes base W' v' (bs ++ (vint s.size ++ strB s)) ∧ Ext W v W' v' := by
  obtain ⟨i0, hi, hz0, hz1, hz2⟩ := info_parts Tryd.infoByte
  go_enter Tryd.func41, Tryd.ntmps41
  go_wp2_with fail
  refine (putVarint_any h hb hn _ s.size (by rw [wrapu_eq]; omega) (by omega)).mono ?_
  rintro e W1 ⟨v1, rfl, hB1, hE1⟩
  have hv := vint_ten (u := s.size) (by omega)
  have hlen : (bs ++ vint s.size).length ≤ 1099511627786 := by rw [List.length_append]; omega
  have hB1' : W1.ownsRow base 5 1 v1 (bs ++ vint s.size).length _ := hB1
  go_wp2_with (at_builtin; refine wpList_append_str_at rfl _ _ 24 9 rfl base 5 i0 Tryd.underlying24 Tryd.underlying9 hi hz0 hz1 hz2 _ _ _ rfl hB1' s rfl (by unfold maxLen; omega) (by omega) (by have := hE1.size; omega) ?_; intro v4 w4 hown4 hgrow4 hat4; have Hown := hide hown4; have Hgrow := hide hgrow4; have Hat := hide hat4; clear hown4 hgrow4 hat4)
  go_ret
  refine ⟨_, rfl, ?_, hE1.trans (Ext.grown0 (unhide Hgrow) (unhide Hat))⟩
  have := unhide Hown
  unfold Bytes
  simpa [strB_cells, strB_len, List.append_assoc, Nat.add_assoc] using this
end Go.Proofs.YtobomdokdajbaaaDoor

namespace Go.Proofs.YtobomdokdajbaaaDoor
open Go.RowKit
attribute [local go_sem ↓] Go.wp_at_zero Go.wp_at_succ

/-- The two records of the document's example. -/
def r1 : Rec := ⟨1, 0, 150, .empty, none, 0⟩
def r2 : Rec := ⟨2, 2, 0, ⟨#[104, 105]⟩, none, 0⟩
theorem ok1 : RecOk r1 1 2 (vint 150) := by
  refine ⟨by decide, by decide, by decide, tagSize_1, fun W => ?_, fun W => ?_, fun base W v bs h hb hl => ?_⟩
  · show Calls Tryd.prog 71 #[.agg #[.int .i64 1, .int .i64 0, .int .i64 150, .string .empty, .slice none 0 0]] W _
    go_enter Tryd.func71, Tryd.ntmps71
    go_wp2
    go_ret
    exact ⟨rfl, (Below.refl _ _).alloc (Nat.le_refl _) _⟩
  · show Calls Tryd.prog 72 #[.agg #[.int .i64 1, .int .i64 0, .int .i64 150, .string .empty, .slice none 0 0]] W _
    go_enter Tryd.func72, Tryd.ntmps72
    go_wp2_with fail
    refine (size_150 _).mono ?_
    rintro e w' ⟨rfl, rfl⟩
    go_wp2
    go_ret
    exact ⟨rfl, (Below.refl _ _).alloc (Nat.le_refl _) _⟩
  · show Calls Tryd.prog 73 #[v, .agg #[.int .i64 1, .int .i64 0, .int .i64 150, .string .empty, .slice none 0 0]] W _
    have hE0 := Ext.of_below ((Below.refl _ W).alloc (Nat.le_refl _) (.cells #[.int .i64 1, .int .i64 0, .int .i64 150, .string .empty, .slice none 0 0] 35)) v
    go_enter Tryd.func73, Tryd.ntmps73
    go_wp2_with fail
    refine (putVarint_any (h.alloc _) (by simp; omega) hl 150 150 (by decide +kernel) (by decide)).mono ?_
    rintro e w' ⟨v', rfl, hB, hE⟩
    go_wp2
    go_ret
    exact ⟨_, rfl, hB, hE0.trans hE⟩
theorem ok2 : RecOk r2 1 3 (vint 2 ++ [104, 105]) := by
  have hsz : (⟨#[104, 105]⟩ : ByteArray).size = 2 := rfl
  refine ⟨by decide, by decide, by decide, tagSize_2, fun W => ?_, fun W => ?_, fun base W v bs h hb hl => ?_⟩
  · show Calls Tryd.prog 80 #[.agg #[.int .i64 2, .int .i64 2, .int .i64 0, .string ⟨#[104, 105]⟩, .slice none 0 0]] W _
    go_enter Tryd.func80, Tryd.ntmps80
    go_wp2
    go_ret
    exact ⟨rfl, (Below.refl _ _).alloc (Nat.le_refl _) _⟩
  · show Calls Tryd.prog 81 #[.agg #[.int .i64 2, .int .i64 2, .int .i64 0, .string ⟨#[104, 105]⟩, .slice none 0 0]] W _
    have hst : ∀ V : World, Calls Tryd.prog 42 #[.string ⟨#[104, 105]⟩] V fun e W' => e = .returned (.int .i64 3) ∧ W' = V := fun V => by
      go_enter Tryd.func42, Tryd.ntmps42
      go_wp2_with fail
      refine (size_2 _).mono ?_
      rintro e w' ⟨rfl, rfl⟩
      go_wp2
      go_ret
      exact ⟨rfl, rfl⟩
    go_enter Tryd.func81, Tryd.ntmps81
    go_wp2_with fail
    refine (hst _).mono ?_
    rintro e w' ⟨rfl, rfl⟩
    go_wp2
    go_ret
    exact ⟨rfl, (Below.refl _ _).alloc (Nat.le_refl _) _⟩
  · show Calls Tryd.prog 82 #[v, .agg #[.int .i64 2, .int .i64 2, .int .i64 0, .string ⟨#[104, 105]⟩, .slice none 0 0]] W _
    have hE0 := Ext.of_below ((Below.refl _ W).alloc (Nat.le_refl _) (.cells #[.int .i64 2, .int .i64 2, .int .i64 0, .string ⟨#[104, 105]⟩, .slice none 0 0] 35)) v
    go_enter Tryd.func82, Tryd.ntmps82
    go_wp2_with fail
    refine (putText_any (h.alloc _) (by simp; omega) hl ⟨#[104, 105]⟩ (by decide)).mono ?_
    rintro e w' ⟨v', rfl, hB, hE⟩
    go_wp2
    go_ret
    exact ⟨_, rfl, hB, hE0.trans hE⟩
end Go.Proofs.YtobomdokdajbaaaDoor

namespace Go.Proofs.YtobomdokdajbaaaDoor
open Go.RowKit
attribute [local go_sem ↓] Go.wp_at_zero Go.wp_at_succ

set_option maxRecDepth 100000 in
set_option maxHeartbeats 4000000 in
theorem join_flat {W : World} {v : Value} {rs : List Rec} (h : HasR W v rs) (ts sz : Rec → Nat) (body : Rec → List Int) (hk : ∀ r ∈ rs, RecOk r (ts r) (sz r) (body r)) (n : Nat) (hn : (rs.map fun r => ts r + sz r).sum = n) (hn2 : n ≤ 1048576) (hlen : (joined body rs).length ≤ 1048576) :
    Calls Tryd.prog 11 #[v] W fun e W' => ∃ u, e = .returned (.tuple #[u, .int .i64 0]) ∧ Bytes W.heap.size W' u (joined body rs) ∧ Below W.heap.size W W' := by
  obtain ⟨i0, hi, hz0, hz1, hz2⟩ := info_parts Tryd.infoByte
  go_enter Tryd.func11, Tryd.ntmps11
  go_wp2_with fail
  refine (tooMany_flat h).mono ?_
  rintro e w1 ⟨rfl, hb1⟩
  have h1 := h.up hb1
  go_wp2_with fail
  refine (tooDeep_flat h1 (fun r hr => (hk r hr).kind.2.1) 63).mono ?_
  rintro e w2 ⟨rfl, hb2⟩
  have h2 := h1.up hb2
  have hB2 := hb1.trans (hb2.mono hb1.size)
  go_wp2_with fail
  refine (firstFault_flat h2 ts sz body hk).mono ?_
  rintro e w3 ⟨rfl, hb3⟩
  have h3 := h2.up hb3
  have hB3 := hB2.trans (hb3.mono hB2.size)
  go_wp2_with fail
  refine (sizeAll_flat h3 ts sz body hk (by omega)).mono ?_
  rintro e w4 ⟨rfl, hb4⟩
  have h4 := h3.up hb4
  have hB4 := hB3.trans (hb4.mono hB3.size)
  rw [hn]
  have hd : decide ((1048576 : Int) < (n : Int)) = false := by simp; omega
  clear h1 h2 h3
  go_wp2_with (at_make; refine wpList_make_own _ rfl _ _ 24 rfl W.heap.size 5 i0 (.int .u8 0) 1 Tryd.underlying24 hi hz0 hz1 .i64 .i64 (n : Int) n rfl rfl rfl (by rw [hz2]; omega) (by unfold maxLen; omega) hB4.size ?_; intro w5 hown5 hgrow5)
  have hb5 : Below w4.heap.size w4 w5 := ⟨hgrow5.os, hgrow5.tape, hgrow5.output, hgrow5.size, fun b hb => hgrow5.block b hb (by simp)⟩
  have h5 := h4.up hb5
  have hB5 := hB4.trans (hb5.mono hB4.size)
  have hby : Bytes W.heap.size w5 (.slice (some ⟨w4.heap.size, 0, none⟩) 0 n) [] := hown5
  refine (putAll_flat h5 hby hB5.size (fun hp g off c e => ?_) ts sz body hk (by simp; omega)).mono ?_
  · obtain ⟨a, c', e', _, h4'⟩ := h4
    obtain ⟨g', off', rfl, hg', _⟩ := h4' hp
    rw [e] at e'
    obtain ⟨⟨rfl, _⟩, _⟩ : (g = g' ∧ off = off') ∧ c = c' := by simpa using e'
    simp [Value.ownBlock]
    omega
  rintro e w6 ⟨u, rfl, hB6, hE6⟩
  have hbel : Below W.heap.size w5 w6 := hE6.below hB5.size (fun b hb => (hby.lt b hb).1)
  go_wp2
  go_ret2
  exact ⟨u, rfl, by simpa using hB6, hB5.trans hbel⟩
end Go.Proofs.YtobomdokdajbaaaDoor

namespace Go.Proofs.YtobomdokdajbaaaDoor
open Go.RowKit
attribute [local go_sem ↓] Go.wp_at_zero Go.wp_at_succ

/-- One block has turned, and there may be new ones. -/
structure Upd (W : World) (b : Nat) (o : Obj) (W' : World) : Prop where
  os : W'.os = W.os
  tape : W'.tape = W.tape
  output : W'.output = W.output
  size : W.heap.size ≤ W'.heap.size
  at' : W'.heap[b]? = some o
  far : ∀ k, k < W.heap.size → k ≠ b → W'.heap[k]? = W.heap[k]?
theorem Upd.below {W W' : World} {b : Nat} {o : Obj} (h : Upd W b o W') {n : Nat} (hn : n ≤ W.heap.size) (hb : n ≤ b) : Below n W W' :=
  ⟨h.os, h.tape, h.output, h.size, fun k hk => h.far k (by omega) (by omega)⟩
theorem upd_set {W : World} {b o : Nat} {cs : Array Value} {t : TypeId} (h : W.heap[b]? = some (.cells cs t (0, 0))) (n : Nat) (v : Value) : Upd W b (.cells (cs.setIfInBounds o v) t (0, 0)) ((W.drewN n).setCell ⟨b, o, none⟩ v) :=
  ⟨rfl, rfl, rfl, by rw [World.size_setCell]; exact Nat.le_refl _, heap_setCell_same _ b o cs t v h, fun k _ hk => heap_setCell_other (W.drewN n) _ k v hk⟩
theorem cells3_of {W : World} {b : Nat} {x y z : Value} {t : TypeId} (h : W.heap[b]? = some (.cells #[x, y, z] t (0, 0))) : W.cell? ⟨b, 0, none⟩ = some x ∧ W.cell? ⟨b, 1, none⟩ = some y ∧ W.cell? ⟨b, 2, none⟩ = some z ∧ W.frozen? ⟨b, 0, none⟩ = false ∧ W.frozen? ⟨b, 1, none⟩ = false ∧ W.frozen? ⟨b, 2, none⟩ = false := by
  unfold World.cell? World.frozen?
  rw [h]
  exact ⟨rfl, rfl, rfl, rfl, rfl, rfl⟩
def kb : ByteArray := ⟨#[8, 150, 1]⟩

set_option maxRecDepth 100000 in
set_option maxHeartbeats 2000000 in
theorem rvar8 {W : World} {b : Nat} (h : W.heap[b]? = some (.cells #[.string ⟨#[8, 150, 1]⟩, .int .i64 0, .bool true] 78 (0, 0))) :
    Calls Tryd.prog 51 #[.pointer (some ⟨b, 0, none⟩)] W fun e W' => e = .returned (.tuple #[.int .i64 8, .int .i64 0]) ∧ Upd W b (.cells #[.string ⟨#[8, 150, 1]⟩, .int .i64 1, .bool true] 78 (0, 0)) W' := by
  obtain ⟨c0, c1, c2, f0, f1, f2⟩ := cells3_of h
  have hsz : (⟨#[8, 150, 1]⟩ : ByteArray).size = 3 := rfl
  have g0 : ((⟨#[8, 150, 1]⟩ : ByteArray)[0]).toNat = 8 := rfl
  have g1 : ((⟨#[8, 150, 1]⟩ : ByteArray)[1]).toNat = 150 := rfl
  have g2 : ((⟨#[8, 150, 1]⟩ : ByteArray)[2]).toNat = 1 := rfl
  go_enter Tryd.func51, Tryd.ntmps51
  go_wp2
  go_quiet (fail)
  go_wp2
  refine wp_loop_rounds 1 ?_
  rw [rounds_succ]
  go_wp2
  go_ret2
  exact ⟨by kernel_rfl, upd_set (o := 1) h _ (.int .i64 1)⟩
set_option maxRecDepth 100000 in
set_option maxHeartbeats 2000000 in
theorem rvar150 {W : World} {b : Nat} (h : W.heap[b]? = some (.cells #[.string ⟨#[8, 150, 1]⟩, .int .i64 1, .bool true] 78 (0, 0))) :
    Calls Tryd.prog 51 #[.pointer (some ⟨b, 0, none⟩)] W fun e W' => e = .returned (.tuple #[.int .i64 150, .int .i64 0]) ∧ Upd W b (.cells #[.string ⟨#[8, 150, 1]⟩, .int .i64 3, .bool true] 78 (0, 0)) W' := by
  obtain ⟨c0, c1, c2, f0, f1, f2⟩ := cells3_of h
  have hsz : (⟨#[8, 150, 1]⟩ : ByteArray).size = 3 := rfl
  have g0 : ((⟨#[8, 150, 1]⟩ : ByteArray)[0]).toNat = 8 := rfl
  have g1 : ((⟨#[8, 150, 1]⟩ : ByteArray)[1]).toNat = 150 := rfl
  have g2 : ((⟨#[8, 150, 1]⟩ : ByteArray)[2]).toNat = 1 := rfl
  go_enter Tryd.func51, Tryd.ntmps51
  go_wp2
  go_quiet (fail)
  go_wp2
  refine wp_loop_rounds 2 ?_
  rw [rounds_succ]
  go_wp2
  rw [rounds_succ]
  go_wp2
  go_ret2
  exact ⟨by kernel_rfl, upd_set (o := 1) h _ (.int .i64 3)⟩

/-- The tag of the example's first byte. -/
theorem rtag {W : World} {b : Nat} (h : W.heap[b]? = some (.cells #[.string ⟨#[8, 150, 1]⟩, .int .i64 0, .bool true] 78 (0, 0))) :
    Calls Tryd.prog 57 #[.pointer (some ⟨b, 0, none⟩)] W fun e W' => e = .returned (.tuple #[.int .i64 1, .int .i64 0, .int .i64 0]) ∧ Upd W b (.cells #[.string ⟨#[8, 150, 1]⟩, .int .i64 1, .bool true] 78 (0, 0)) W' := by
  obtain ⟨c0, c1, c2, f0, f1, f2⟩ := cells3_of h
  have hand : bits BinOp.and IntKind.i64 8 7 = 0 := by decide +kernel
  go_enter Tryd.func57, Tryd.ntmps57
  go_wp2_with fail
  refine (rvar8 h).mono ?_
  rintro e w1 ⟨rfl, hU⟩
  go_wp2_with fail
  refine (tag_any w1 1 0).mono ?_
  rintro e w' ⟨rfl, he⟩
  obtain rfl : w1 = w' := he.symm
  rw [if_neg (by decide), if_neg (by decide)]
  go_wp2
  go_ret3
  exact ⟨rfl, hU⟩
theorem more0 {W : World} {b : Nat} {n : Nat} {r : Bool} (h : W.heap[b]? = some (.cells #[.string ⟨#[8, 150, 1]⟩, .int .i64 (n : Int), .bool true] 78 (0, 0))) (hr : r = decide ((n : Int) < 3)) :
    Calls Tryd.prog 46 #[.pointer (some ⟨b, 0, none⟩)] W fun e W' => e = .returned (.bool r) ∧ ∃ k, W' = W.drewN k := by
  obtain ⟨c0, c1, c2, f0, f1, f2⟩ := cells3_of h
  have hsz : (⟨#[8, 150, 1]⟩ : ByteArray).size = 3 := rfl
  go_enter Tryd.func46, Tryd.ntmps46
  go_wp2
  go_quiet (fail)
  go_wp2
  go_ret
  subst hr
  exact ⟨rfl, _, rfl⟩
end Go.Proofs.YtobomdokdajbaaaDoor
