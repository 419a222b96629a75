import Derived.Test.YtckpainohfhopaaGreatDoorJ09
import Derived.Maps.AppendAt
import Derived.Lib.AppendStr
import Derived.Test.YtckpainohfhopaaGreatDoorJ03
import Derived.Test.YtckpainohfhopaaGreatDoorJ04
import Derived.Test.YtckpainohfhopaaGreatDoorJ06
import Derived.Shelf.Strings.Search3
import Derived.Test.YtckpainohfhopaaGreatDoorChecked

namespace Go.Proofs.YtckpainohfhopaaGreatDoor
open Go.RowKit Go.Lib
attribute [local go_sem ↓] Go.wp_at_zero Go.wp_at_succ

/-- Appending a string's bytes: where the row then lies. -/
theorem append_str_at {P : Program} (w : World) (base : Nat) (t u ty e : TypeId) (i : TypeInfo) (ht : P.underlying t = some (.slice e)) (hu : P.underlying u = some .string) (hi : P.info? e = some i) (hz : i.zero = some (.int .u8 0))
    (hsize : i.size = 1) (hby : i.bytes = 1) (v : Value) (n : Nat) (xs : List Value) (hown : w.ownsRow base e 1 v n xs) (s : ByteArray)
    (h63 : n + s.size ≤ maxLen) (hbytes : n + s.size ≤ 140737488355328) (hbase : base ≤ w.heap.size) :
    ∃ v' w', (Builtin.append_ #[t, u] ty #[v, .string s]).run P w = .ok v' w' ∧ w'.ownsRow base e 1 v' (n + s.size) (xs ++ strCells s) ∧ w.grownBy w' v.ownBlock ∧ (v'.ownBlock = v.ownBlock ∨ v'.ownBlock = some w.heap.size) := by
  obtain ⟨v', w', hr, h2, h3, h4⟩ := run_append_own_string (P := P) w base t u ty e i ht hu hi hz hsize hby v n xs hown s h63 hbytes hbase
  refine ⟨v', w', hr, h2, h3, ?_⟩
  have hxl : xs.length = n := by simpa using hown.1
  unfold maxLen at h63
  have hown' := hown
  rcases hown'.2 with ⟨rfl, rfl⟩ | ⟨g, cap, cur, rfl, hbg, hg, hnc, hcm, hcs, htake⟩
  · by_cases hm : s.size = 0
    · exact .inl (by rw [h4.2 ⟨rfl, hm⟩])
    · have hr' := run_append_nil_string (P := P) w t u ty e i (.int .u8 0) ht hu hi hz s (by omega) (by omega) (by rw [hby]; omega)
      rw [hr] at hr'
      injection hr' with e1 e2
      exact .inr (by rw [e1]; rfl)
  · by_cases hroom : n + s.size ≤ cap
    · have hcs' : cur.size = cap := by simpa using hcs
      have hr' := run_append_room_string (P := P) w t u ty e i ht hu hi hsize g n cap cur hg s hroom (by omega)
      rw [hr] at hr'
      injection hr' with e1 e2
      exact .inl (by rw [e1]; rfl)
    · have holds : ∀ j x, xs[j]? = some x → w.cell? ((⟨g, 0, none⟩ : Addr).add j) = some x := hown.cells (g := g) rfl
      have hr' := run_append_grow_string (P := P) w t u ty e i (.int .u8 0) ht hu hi hz ⟨g, 0, none⟩ n cap xs (by rw [hsize]; simpa using hxl) holds s (by omega) (by omega) (by rw [hby]; exact growslice_fits (by omega) (by omega))
      rw [hr] at hr'
      injection hr' with e1 e2
      exact .inr (by rw [e1]; rfl)
theorem wpList_append_str_at {P : Program} {w : World} {ops : Array Oper} {rest : List Oper} {o : Oper} {a : Act} {Q : Exit → Act → World → Prop} (hgd : o.guard = none) (sl x : Operand) (t u : TypeId)
    (ho : o.op = .call { callee := .builtin .append, args := #[sl, x], argTypes := #[t, u] })
    (base : Nat) (e : TypeId) (i : TypeInfo) (ht : P.underlying t = some (.slice e)) (hu : P.underlying u = some .string) (hi : P.info? e = some i) (hz : i.zero = some (.int .u8 0))
    (hsize : i.size = 1) (hby : i.bytes = 1) (v : Value) (n : Nat) (xs : List Value) (hs : a.eval sl = v) (hown : w.ownsRow base e 1 v n xs) (s : ByteArray) (hx : a.eval x = .string s)
    (h63 : n + s.size ≤ maxLen) (hbytes : n + s.size ≤ 140737488355328) (hbase : base ≤ w.heap.size)
    (h : ∀ v' w', w'.ownsRow base e 1 v' (n + s.size) (xs ++ strCells s) → w.grownBy w' v.ownBlock → (v'.ownBlock = v.ownBlock ∨ v'.ownBlock = some w.heap.size) → wpList P ops Q rest (a.put o.dst v') w') : wpList P ops Q (o :: rest) a w := by
  refine wpList_plain hgd fun K hK => ?_
  obtain ⟨v', w', hr, h2, h3, h4⟩ := append_str_at (P := P) w base t u o.type e i ht hu hi hz hsize hby v n xs hown s h63 hbytes hbase
  unfold Oper.wp execOp
  simp only [ho, resolve, invoke, builtin, Sem.run_bind, Sem.run_pure, Result.andThen_ok, List.map_toArray, List.map_cons, List.map_nil, hs, hx, hr]
  exact hK _ _ (h v' w' h2 h3 h4)


theorem strCells_nb (s : ByteArray) : strCells s = nb (strN s) := by
  unfold strCells nb strN
  simp [List.map_map]
theorem cells_lit (w : World) (l : List Value) (t : TypeId) : ∀ j u, l[j]? = some u → (w.alloc (.cells l.toArray t)).cell? ((⟨w.heap.size, 0, none⟩ : Addr).add j) = some u := by
  intro j u h
  rw [Go.WideShapes.add_plain, cell_of_row _ _ _ _ _ _ (heap_new w _)]
  simpa using h
/-- The escape of a byte that needs one. -/
def esc (x : Nat) : List Nat := if x = 92 ∨ x = 34 then [92, x] else if x = 10 then [92, 110] else if x = 13 then [92, 114] else if x = 9 then [92, 116] else [92, 48 + x / 64, 48 + x / 8 % 8, 48 + x % 8]
theorem esc_len (x : Nat) : (esc x).length ≤ 4 := by
  unfold esc
  repeat' split
  all_goals simp
theorem esc_byt {x : Nat} (h : x < 256) : Byt (esc x) := by
  have key : ∀ k : Fin 256, (esc k.val).all (· < 256) = true := by decide +kernel
  intro y hy
  have := List.all_eq_true.1 (key ⟨x, h⟩) y hy
  simpa using this
theorem oct_facts {x : Nat} (h : x < 256) : bits .and .u8 ((x / 8 : Nat) : Int) 7 = ((x / 8 % 8 : Nat) : Int) ∧ bits .and .u8 ((x : Nat) : Int) 7 = ((x % 8 : Nat) : Int) := by
  have key : ∀ k : Fin 256, bits .and .u8 ((k.val / 8 : Nat) : Int) 7 = ((k.val / 8 % 8 : Nat) : Int) ∧ bits .and .u8 ((k.val : Nat) : Int) 7 = ((k.val % 8 : Nat) : Int) := by decide +kernel
  exact key ⟨x, h⟩
/-- Bytes of the call's own, written on. -/
def PutE (base : Nat) (W : World) (v : Value) (xs ys : List Nat) (e : Ending) (W' : World) : Prop := ∃ v', e = .returned v' ∧ Bytes base W' v' (xs ++ ys) ∧ Ext W v W' v'
theorem putE_lit {W w : World} {base n : Nat} {v v' : Value} {xs ys : List Nat} {cs : List Value} {ob : Obj} (hown : w.ownsRow base 5 1 v' n (nb xs ++ cs)) (hn : n = xs.length + ys.length) (hcs : cs = nb ys) (hg : (W.alloc ob).grownBy w v.ownBlock) (hat : v'.ownBlock = v.ownBlock ∨ v'.ownBlock = some (W.alloc ob).heap.size) :
    PutE base W v xs ys (.returned v') w := by
  subst hn hcs
  refine ⟨v', rfl, ?_, Ext.grown hg hat⟩
  unfold Bytes
  rw [nb_append, List.length_append]
  exact hown
theorem putE_str {W w : World} {base n : Nat} {v v' : Value} {xs ys : List Nat} {cs : List Value} (hown : w.ownsRow base 5 1 v' n (nb xs ++ cs)) (hn : n = xs.length + ys.length) (hcs : cs = nb ys) (hg : W.grownBy w v.ownBlock) (hat : v'.ownBlock = v.ownBlock ∨ v'.ownBlock = some W.heap.size) :
    PutE base W v xs ys (.returned v') w := by
  subst hn hcs
  refine ⟨v', rfl, ?_, Ext.grown0 hg hat⟩
  unfold Bytes
  rw [nb_append, List.length_append]
  exact hown
end Go.Proofs.YtckpainohfhopaaGreatDoor

namespace Go.Proofs.YtckpainohfhopaaGreatDoor
open Go.RowKit Go.Lib
attribute [local go_sem ↓] Go.wp_at_zero Go.wp_at_succ

theorem byteAt_strN (s : ByteArray) (k : Nat) (hk : k < s.size) : (strN s)[k]? = some (byteAt s k) := by
  obtain ⟨x, h1, _, h3⟩ := strN_ex s k hk
  rw [h1, byteAt_eq s k hk, h3]
theorem frm_hi {x c d e : Nat} (h : frm x = some (c, d, e)) (hx : 128 ≤ x) : 1 ≤ c := by
  unfold frm at h
  rw [if_neg (by omega)] at h
  repeat' split at h
  all_goals first | (cases h; done) | (have := Option.some.inj h; simp at this; omega)
theorem byteAt_take (s : ByteArray) (n i : Nat) (hn : n ≤ s.size) (hi : i < n) : byteAt (s.extract 0 n) i = byteAt s i := by
  have := byteAt_extract s 0 n i hn (by omega)
  rw [this]
  congr 1
  omega
theorem lenOk_take {s : ByteArray} {n c d e : Nat} (hn : n ≤ s.size) : LenOkAt (s.extract 0 n) 0 c d e ↔ (1 + c ≤ n ∧ LenOkAt s 0 c d e) := by
  have hz := extract_size s 0 n hn
  unfold LenOkAt
  rw [hz]
  constructor
  · rintro ⟨h1, h2⟩
    refine ⟨by omega, by omega, fun j j1 j2 => ?_⟩
    have := h2 j j1 j2
    rw [Nat.zero_add, byteAt_take s n j hn (by omega)] at this
    rw [Nat.zero_add]
    exact this
  · rintro ⟨h0, h1, h2⟩
    refine ⟨by omega, fun j j1 j2 => ?_⟩
    have := h2 j j1 j2
    rw [Nat.zero_add] at this
    rw [Nat.zero_add, byteAt_take s n j hn (by omega)]
    exact this
/-- The first n bytes are one character just where one of n bytes begins in front (n from 2 on, the first byte from 128 on, none of fewer bytes). -/
theorem utf_take {s : ByteArray} {n : Nat} (hn : n ≤ s.size) (h2 : 2 ≤ n) (h4 : n ≤ 4) (hx : 128 ≤ byteAt s 0) (hno : ∀ m, 2 ≤ m → m < n → ¬ chAt s 0 = m) :
    (chAt s 0 = n → utfAt (s.extract 0 n) 0 = -1) ∧ (¬ chAt s 0 = n → utfAt (s.extract 0 n) 0 = 0) := by
  have hz := extract_size s 0 n hn
  have hb := byteAt_take s n 0 hn (by omega)
  have key : chAt (s.extract 0 n) 0 = if chAt s 0 = n then n else 0 := by
    cases hf : frm (byteAt s 0) with
    | none => rw [chAt_none (by rw [hb]; exact hf), chAt_none hf, if_neg (by omega)]
    | some t =>
      obtain ⟨c, d, e⟩ := t
      have hc := frm_hi hf hx
      have hc3 := frm_le hf
      by_cases hok : LenOkAt s 0 c d e
      · have hs := chAt_ok hf hok
        by_cases hcn : 1 + c = n
        · rw [if_pos (by omega), chAt_ok (by rw [hb]; exact hf) ((lenOk_take hn).2 ⟨by omega, hok⟩)]; exact hcn
        · have h1 : n < 1 + c := by
            rcases Nat.lt_or_ge n (1 + c) with q | q
            · exact q
            · exact absurd hs (hno (1 + c) (by omega) (by omega))
          rw [if_neg (by omega), chAt_no (by rw [hb]; exact hf) (fun q => by have := ((lenOk_take hn).1 q).1; omega)]
      · rw [if_neg (by rw [chAt_no hf hok]; omega), chAt_no (by rw [hb]; exact hf) (fun q => hok ((lenOk_take hn).1 q).2)]
  constructor
  · intro h
    rw [if_pos h] at key
    rw [utf_step (by omega) (by omega), key, utf_end (by omega)]
  · intro h
    rw [if_neg h] at key
    rw [utf_bad (by omega) key]
    rfl
end Go.Proofs.YtckpainohfhopaaGreatDoor

namespace Go.Proofs.YtckpainohfhopaaGreatDoor
open Go.RowKit Go.Lib
attribute [local go_sem ↓] Go.wp_at_zero Go.wp_at_succ

theorem lenOk_drop {s : ByteArray} {k c d e : Nat} (hk : k < s.size) : LenOkAt (s.extract k s.size) 0 c d e ↔ LenOkAt s k c d e := by
  have hz := extract_size s k s.size (Nat.le_refl _)
  unfold LenOkAt
  rw [hz]
  constructor
  · rintro ⟨h1, h2⟩
    refine ⟨by omega, fun j j1 j2 => ?_⟩
    have := h2 j j1 j2
    rw [Nat.zero_add, byteAt_extract s k s.size j (Nat.le_refl _) (by omega)] at this
    exact this
  · rintro ⟨h1, h2⟩
    refine ⟨by omega, fun j j1 j2 => ?_⟩
    rw [Nat.zero_add, byteAt_extract s k s.size j (Nat.le_refl _) (by omega)]
    exact h2 j j1 j2
theorem byteAt_drop {s : ByteArray} {k : Nat} (hk : k < s.size) : byteAt (s.extract k s.size) 0 = byteAt s k := by rw [byteAt_extract s k s.size 0 (Nat.le_refl _) (by omega)]; rfl
theorem chAt_drop {s : ByteArray} {k : Nat} (hk : k < s.size) : chAt (s.extract k s.size) 0 = chAt s k := by
  have hb := byteAt_drop hk
  cases hf : frm (byteAt s k) with
  | none => rw [chAt_none (by rw [hb]; exact hf), chAt_none hf]
  | some t =>
    obtain ⟨c, d, e⟩ := t
    by_cases hok : LenOkAt s k c d e
    · rw [chAt_ok hf hok, chAt_ok (by rw [hb]; exact hf) ((lenOk_drop hk).2 hok)]
    · rw [chAt_no hf hok, chAt_no (by rw [hb]; exact hf) (fun q => hok ((lenOk_drop hk).1 q))]
theorem chAt_low {s : ByteArray} {k : Nat} (hk : k < s.size) (hx : byteAt s k < 128) : chAt s k = 1 :=
  chAt_ok (c := 0) (d := 0) (e := 0) (by unfold frm; rw [if_pos hx]) ⟨by omega, fun j j1 j2 => by omega⟩
/-- How many bytes stand for themselves at that place, 0 if an escape is needed. -/
noncomputable def plainK (s : ByteArray) (k : Nat) : Nat := if 128 ≤ byteAt s k then chAt s k else if byteAt s k < 32 ∨ byteAt s k = 127 ∨ byteAt s k = 34 ∨ byteAt s k = 92 then 0 else 1
theorem plainK_le {s : ByteArray} {k : Nat} (hk : k < s.size) : k + plainK s k ≤ s.size ∧ plainK s k ≤ 4 := by
  have := chAt_le s k (by omega)
  unfold plainK
  split
  · exact this
  · split <;> omega
def sub (s : ByteArray) (k n : Nat) : List Nat := ((strN s).drop k).take n
/-- What is written for what stands at that place, and how many bytes that is. -/
noncomputable def qs (s : ByteArray) (k : Nat) : List Nat := if plainK s k = 0 then esc (byteAt s k) else sub s k (plainK s k)
noncomputable def qn (s : ByteArray) (k : Nat) : Nat := if plainK s k = 0 then 1 else plainK s k
theorem qn_pos (s : ByteArray) (k : Nat) : 1 ≤ qn s k := by unfold qn; split <;> omega
theorem qn_le {s : ByteArray} {k : Nat} (hk : k < s.size) : k + qn s k ≤ s.size := by
  have := plainK_le hk
  unfold qn
  split <;> omega
theorem qs_len {s : ByteArray} {k : Nat} : (qs s k).length ≤ 4 * qn s k := by
  unfold qs qn
  split
  · have := esc_len (byteAt s k); omega
  · have : (sub s k (plainK s k)).length ≤ plainK s k := by unfold sub; rw [List.length_take]; omega
    omega
theorem qs_byt (s : ByteArray) (k : Nat) : Byt (qs s k) := by
  unfold qs
  split
  · exact esc_byt (byteAt_lt s k)
  · intro x hx
    unfold sub at hx
    exact strN_byt s x (List.mem_of_mem_drop (List.mem_of_mem_take hx))
/-- All that is written from that place on. -/
noncomputable def qAll (s : ByteArray) (k : Nat) : List Nat := if _h : k < s.size then qs s k ++ qAll s (k + qn s k) else []
termination_by s.size - k
decreasing_by have := qn_pos s k; omega
theorem qAll_end {s : ByteArray} {k : Nat} (h : ¬ k < s.size) : qAll s k = [] := by rw [qAll, dif_neg h]
theorem qAll_step {s : ByteArray} {k : Nat} (h : k < s.size) : qAll s k = qs s k ++ qAll s (k + qn s k) := by rw [qAll, dif_pos h]
theorem sub_extract (s : ByteArray) (k n : Nat) : strN (s.extract k (k + n)) = sub s k n := by
  unfold strN sub strN
  rw [Lib.extract_data]
  simp [List.map_take, List.map_drop]
theorem sub_len {s : ByteArray} {k n : Nat} (h : k + n ≤ s.size) : (sub s k n).length = n := by
  unfold sub
  rw [List.length_take, List.length_drop, strN_len]
  omega

theorem plainK_drop {s : ByteArray} {k : Nat} (hk : k < s.size) : plainK (s.extract k s.size) 0 = plainK s k := by
  unfold plainK
  rw [byteAt_drop hk, chAt_drop hk]
theorem bytes_one (W : World) (x : Nat) : Bytes W.heap.size (W.alloc (.cells #[.int .u8 (x : Int)] 5)) (.slice (some ⟨W.heap.size, 0, none⟩) 1 1) [x] :=
  ⟨rfl, .inr ⟨W.heap.size, 1, #[.int .u8 (x : Int)], rfl, Nat.le_refl _, heap_new _ _, Nat.le_refl _, by unfold maxLen; omega, rfl, rfl⟩⟩
end Go.Proofs.YtckpainohfhopaaGreatDoor

namespace Go.Proofs.YtckpainohfhopaaGreatDoor
open Go.RowKit Go.Lib
attribute [local go_sem ↓] Go.wp_at_zero Go.wp_at_succ

theorem Bytes.up {base : Nat} {W w : World} {v : Value} {l : List Nat} (h : Bytes base W v l) (hb : Below W.heap.size W w) : Bytes base w v l := by
  unfold Bytes at h ⊢
  obtain ⟨h1, ⟨rfl, h0⟩ | ⟨g, c, cur, rfl, h2, h3, h4⟩⟩ := h
  · exact ⟨h1, .inl ⟨rfl, h0⟩⟩
  · exact ⟨h1, .inr ⟨g, c, cur, rfl, h2, (hb.block g (Array.getElem?_eq_some_iff.1 h3).1).trans h3, h4⟩⟩
theorem byt_34 : Byt [34] := fun x hx => by rw [List.mem_singleton.1 hx]; decide
theorem Bytes.base_le {base : Nat} {W : World} {v : Value} {l : List Nat} (h : Bytes base W v l) : ∀ b, v.ownBlock = some b → base ≤ b := fun b hb => by
  unfold Bytes at h
  exact (h.lt b hb).1
theorem Bytes.shape {base : Nat} {W : World} {v : Value} {l : List Nat} (h : Bytes base W v l) : ∃ a n c, v = .slice a n c := by
  obtain ⟨a, c, rfl, _⟩ := h.has
  exact ⟨_, _, _, rfl⟩
end Go.Proofs.YtckpainohfhopaaGreatDoor

namespace Go.Proofs.YtckpainohfhopaaGreatDoor
open Go.RowKit Go.Lib
attribute [local go_sem ↓] Go.wp_at_zero Go.wp_at_succ

theorem escL_drop {s : ByteArray} {k : Nat} : strN (s.extract k s.size) = (strN s).drop k := by
  rw [strN_extract, List.take_of_length_le]
  rw [List.length_drop, strN_len]
  omega
theorem pieceAt_drop {s : ByteArray} {k : Nat} (hk : k < s.size) : pieceAt (s.extract k s.size) 0 = pieceAt s k := by
  unfold pieceAt
  rw [byteAt_drop hk, escL_drop, List.drop_zero]
theorem cls_quote {c : Nat} : cls c = 4 ↔ c = 39 ∨ c = 34 := by
  unfold cls
  constructor
  · intro h
    repeat' split at h
    all_goals first | assumption | omega
  · intro h
    rw [if_neg (by omega), if_neg (by unfold isLet; omega), if_neg (by unfold isDig; omega), if_pos h]
/-- The bytes of a string, and the place behind it. -/
def UQ (W : World) (o : Option (List Nat × Nat)) (e : Ending) (w : World) : Prop := Below W.heap.size W w ∧ ((o = none ∧ e = .returned (.tuple #[.slice none 0 0, .int .i64 0])) ∨ ∃ (l : List Nat) (n : Nat) (v : Value), o = some (l, n) ∧ e = .returned (.tuple #[v, .int .i64 (n : Int)]) ∧ Bytes W.heap.size w v l)
theorem uqBad {W w : World} {o : Option (List Nat × Nat)} (hb : Below W.heap.size W w) (h : o = none) : UQ W o (.returned (.tuple #[.slice none 0 0, .int .i64 0])) w := ⟨hb, .inl ⟨h, rfl⟩⟩
theorem uqGood {W w : World} {o : Option (List Nat × Nat)} {l : List Nat} {n : Nat} {v : Value} (hb : Below W.heap.size W w) (h : o = some (l, n)) (hv : Bytes W.heap.size w v l) : UQ W o (.returned (.tuple #[v, .int .i64 (n : Int)])) w := ⟨hb, .inr ⟨l, n, v, h, rfl, hv⟩⟩
theorem unqL_none {s : ByteArray} (h0 : ¬ s.size = 0) (h : ¬ (byteAt s 0 = 39 ∨ byteAt s 0 = 34)) : unqL s = none := by unfold unqL; rw [if_neg h0, if_neg h]
theorem unqL_some {s : ByteArray} (h0 : ¬ s.size = 0) (h : byteAt s 0 = 39 ∨ byteAt s 0 = 34) : unqL s = uqAt s (byteAt s 0) 1 := by unfold unqL; rw [if_neg h0, if_pos h]
set_option maxRecDepth 100000 in
set_option maxHeartbeats 2000000 in
theorem unquote_any {W : World} (hE : HasE W) (s : ByteArray) (hs : s.size ≤ 65536) : Calls Tryz.prog 86 #[.string s] W (UQ W (unqL s)) := by
  obtain ⟨i0, hi, hz0, hz1, hz2⟩ := info_parts Tryz.infoByte
  have hb0 := Below.refl W.heap.size W
  by_cases h0 : s.size = 0
  · have Hn : Hid (unqL s = none) := by show _ = _; unfold unqL; rw [if_pos h0]
    obtain rfl := isEmptyT h0
    go_enter Tryz.func86, Tryz.ntmps86
    go_wp2
    go_ret2
    exact uqBad hb0 (unhide Hn)
  · have e0 := isEmptyF h0
    obtain ⟨q, hq, hq2, gq⟩ := strN_ex s 0 (by omega)
    have hbq : byteAt s 0 = q := (byteAt_eq s 0 (by omega)).trans gq
    have Hbq := hide hbq
    clear hq hbq
    by_cases hqt : q = 39 ∨ q = 34
    · have hL : unqL s = uqAt s q 1 := by rw [unqL_some h0 (by rw [unhide Hbq]; exact hqt), unhide Hbq]
      rw [hL]
      have hc : cls q = 4 := cls_quote.2 hqt
      have s1 : (1 : Int) ≤ (s.size : Int) := by omega
      clear hL hqt
      go_enter Tryz.func86, Tryz.ntmps86
      go_wp2_with fail
      refine (classOf_any W q hq2).mono ?_
      rintro e w' ⟨rfl, he⟩
      obtain rfl : W = w' := he.symm
      rw [hc]
      have Hy0 : Hid (Bytes W.heap.size W (.slice none 0 0) []) := bytes_nil _ _
      go_wp2
      go_loopg [4, 5, 6, 7] (s.size - 1) (fun gk v4 v5 _ _ wr => ∃ (k : Nat) (pre : List Nat) (va : Option Addr) (vn vc : Nat), v4 = .slice va vn vc ∧ v5 = .int .i64 (k : Int) ∧ gk = s.size - k ∧ 1 ≤ k ∧ k ≤ s.size ∧ pre.length ≤ k ∧ Hid (Bytes W.heap.size wr (.slice va vn vc) pre) ∧ Hid (uqAt s q 1 = (uqAt s q k).map fun r => (pre ++ r.1, r.2)) ∧ Hid (Below W.heap.size W wr))
      case atStart => exact ⟨1, [], _, _, _, rfl, rfl, rfl, Nat.le_refl _, by omega, by simp, Hy0, by show _ = _; simp, hb0⟩
      case round =>
        obtain ⟨k, pre, va, vn, vc, rfl, rfl, hgk, hk1, hk, hpl, HY, Hu, HB⟩ := hrel
        have Hgk := hide hgk
        clear hgk Hy0 hc
        by_cases hlt : k < s.size
        · obtain ⟨x, hx⟩ : ∃ x : Nat, s[k].toNat = x := ⟨_, rfl⟩
          have hbx : byteAt s k = x := (byteAt_eq s k hlt).trans hx
          have hx2 : x < 256 := by rw [← hbx]; exact byteAt_lt s k
          have k0 : (0 : Int) ≤ (k : Int) := Int.natCast_nonneg _
          have k1 : (k : Int) < (s.size : Int) := by omega
          have Hbx := hide hbx
          clear hbx
          by_cases hxq : x = q
          · have Hr : Hid (uqAt s q 1 = some (pre, k + 1)) := by
              show _ = _
              rw [unhide Hu, uq_quote hlt ((unhide Hbx).trans hxq)]
              simp
            have fq : ((x : Int) == (q : Int)) = true := by simp; omega
            clear Hu hxq
            go_wp2
            go_quiet (fail)
            go_wp2
            go_ret2
            exact uqGood (n := k + 1) (below_drewN (unhide HB) _) (unhide Hr) (unhide HY)
          · have fq : ((x : Int) == (q : Int)) = false := by simp; omega
            have hz := extract_size s k s.size (Nat.le_refl _)
            have hpd := pieceAt_drop hlt
            have Hpd := hide hpd
            have Hxq := hide hxq
            clear hpd hxq
            go_wp2
            go_quiet (fail)
            go_wp2_with fail
            refine (piece_any (W := wr.drewN nq) (hE.up (below_drewN (unhide HB) _)) (s.extract k s.size) (by omega) (by omega)).mono ?_
            rintro e w2 ⟨hb2, ⟨ho, rfl⟩ | ⟨b, n, ho, rfl⟩⟩
            · rw [unhide Hpd] at ho
              have Hr : Hid (uqAt s q 1 = none) := by
                show _ = _
                rw [unhide Hu, uq_bad hlt (by rw [unhide Hbx]; exact unhide Hxq) ho]
                rfl
              have HB2 : Hid (Below W.heap.size W w2) := (below_drewN (unhide HB) _).trans (hb2.mono (unhide HB).size)
              clear ho hb2 hz Hu
              go_wp2
              go_ret2
              exact uqBad (unhide HB2) (unhide Hr)
            · rw [unhide Hpd] at ho
              obtain ⟨p1, p2, p3⟩ := pieceAt_pos ho hlt
              have Hr : Hid (uqAt s q 1 = (uqAt s q (k + n)).map fun r => ((pre ++ [b]) ++ r.1, r.2)) := by
                show _ = _
                rw [unhide Hu, uq_step hlt (by rw [unhide Hbx]; exact unhide Hxq) ho, Option.map_map]
                congr 1
                funext r
                simp
              have HB2 : Hid (Below W.heap.size W w2) := (below_drewN (unhide HB) _).trans (hb2.mono (unhide HB).size)
              have HY2 : Hid (Bytes W.heap.size w2 (.slice va vn vc) pre) := ((unhide HY).up (Below.refl _ _)).up ((below_drewN (Below.refl _ wr) _).trans hb2)
              have hsz2 : W.heap.size ≤ w2.heap.size := (unhide HB2).size
              have n0 : ((n : Int) == 0) = false := by simp; omega
              have O1 : Hid (pre.length + 1 ≤ maxLen) := by show _ ≤ _; unfold maxLen; omega
              have O2 : Hid ((pre.length + 1) * 1 ≤ 140737488355328) := by show _ ≤ _; omega
              clear ho hb2 hz Hu HY HB
              go_wp2_with (at_builtin; refine wpList_append_own_at _ rfl _ _ 94 rfl W.heap.size 5 i0 (.int .u8 0) 1 1 Tryz.underlying94 hi hz0 hz1 hz2 rfl (by decide) _ _ _ rfl ((unhide HY2).alloc _) ⟨w2.heap.size, 0, none⟩ 1 1 [.int .u8 (b : Int)] rfl rfl (cells_lit _ _ _) (by simp [Value.oneCell']) (unhide O1) (unhide O2) (by rw [World.size_alloc]; omega) ?_; intro v4 w4 hown4 hgrow4 _ hat4; have HP : Hid (PutE W.heap.size w2 (.slice va vn vc) pre [b] (.returned v4) w4) := putE_lit (ys := [b]) hown4 rfl rfl hgrow4 hat4; clear hown4 hgrow4 hat4)
              obtain ⟨v5, hv5, hby, hext⟩ := unhide HP
              obtain rfl : v4 = v5 := by simpa using hv5
              obtain ⟨va', vn', vc', rfl⟩ := hby.shape
              have HB3 : Hid (Below W.heap.size W w4) := (unhide HB2).trans (hext.below hsz2 (unhide HY2).base_le)
              have HY3 := hide hby
              clear hby hext hv5 HP
              go_roundg (s.size - (k + n))
              case measure => have := unhide Hgk; omega
              case rel => exact ⟨k + n, pre ++ [b], _, _, _, rfl, by go_num, rfl, by omega, by omega, by simp only [List.length_append, List.length_singleton]; omega, HY3, Hr, HB3⟩
        · have Hr : Hid (uqAt s q 1 = none) := by
            show _ = _
            rw [unhide Hu, uq_end hlt]
            rfl
          obtain rfl : k = s.size := by omega
          clear Hu
          go_wp2
          go_ret2
          exact uqBad (unhide HB) (unhide Hr)
    · have Hn : Hid (unqL s = none) := unqL_none h0 (by rw [unhide Hbq]; exact hqt)
      have hc : ((cls q : Int) != 4) = true := by
        have := mt cls_quote.1 hqt
        simp; omega
      clear hqt
      go_enter Tryz.func86, Tryz.ntmps86
      go_wp2_with fail
      refine (classOf_any W q hq2).mono ?_
      rintro e w' ⟨rfl, he⟩
      obtain rfl : W = w' := he.symm
      go_wp2
      go_ret2
      exact uqBad hb0 (unhide Hn)
end Go.Proofs.YtckpainohfhopaaGreatDoor

namespace Go.Proofs.YtckpainohfhopaaGreatDoor
open Go.RowKit
attribute [local go_sem ↓] Go.wp_at_zero Go.wp_at_succ

theorem cls_cases (c : Nat) : (cls c = 1 ∧ isBlk c) ∨ (¬ isBlk c ∧ ((cls c = 2 ∧ isLet c) ∨ (¬ isLet c ∧ ((cls c = 3 ∧ isDig c) ∨ (¬ isDig c ∧ ((cls c = 4 ∧ (c = 39 ∨ c = 34)) ∨ (¬ (c = 39 ∨ c = 34) ∧ ((cls c = 5 ∧ isSgn c) ∨ (¬ isSgn c ∧ ((cls c = 6 ∧ c = 47) ∨ (cls c = 0 ∧ ¬ c = 47)))))))))))  := by
  unfold cls isBlk
  by_cases h1 : (9 ≤ c ∧ c ≤ 13) ∨ c = 32
  · exact .inl ⟨by rw [if_pos h1], h1⟩
  · refine .inr ⟨h1, ?_⟩
    rw [if_neg h1]
    by_cases h2 : isLet c
    · exact .inl ⟨by rw [if_pos h2], h2⟩
    · refine .inr ⟨h2, ?_⟩
      rw [if_neg h2]
      by_cases h3 : isDig c
      · exact .inl ⟨by rw [if_pos h3], h3⟩
      · refine .inr ⟨h3, ?_⟩
        rw [if_neg h3]
        by_cases h4 : c = 39 ∨ c = 34
        · exact .inl ⟨by rw [if_pos h4], h4⟩
        · refine .inr ⟨h4, ?_⟩
          rw [if_neg h4]
          by_cases h5 : isSgn c
          · exact .inl ⟨by rw [if_pos h5], h5⟩
          · refine .inr ⟨h5, ?_⟩
            rw [if_neg h5]
            by_cases h6 : c = 47
            · exact .inl ⟨by rw [if_pos h6], h6⟩
            · exact .inr ⟨by rw [if_neg h6], h6⟩
theorem takeB {W : World} {B b : Nat} {s : ByteArray} {k n c : Nat} {v : Value} {xs : List Value} (I : ScanIn W B b s k n v xs) (hp : passF s s.size k = (k, true)) (ho : (oneF s k).2.2 = c) (hc : c ≠ 0) (kind m c' : Int) (hc' : c' = (c : Int)) :
    Calls Tryz.prog 79 #[.pointer (some ⟨b, 0, none⟩), .int .i64 kind, .int .i64 m, .int .i64 c'] W (StepP B b s k n xs W) := by
  subst hc'
  exact take_badP I hp ho hc kind m
theorem takeO {W : World} {B b : Nat} {s : ByteArray} {k n m t : Nat} {v : Value} {xs : List Value} (I : ScanIn W B b s k n v xs) (hp : passF s s.size k = (k, true)) (ho : oneF s k = (t, k + m, 0)) (t' m' : Int) (ht : t' = (t : Int)) (hm : m' = (m : Int)) :
    Calls Tryz.prog 79 #[.pointer (some ⟨b, 0, none⟩), .int .i64 t', .int .i64 m', .int .i64 0] W (StepP B b s k n xs W) := by
  subst ht hm
  exact take_okP I hp ho
set_option maxRecDepth 100000 in
theorem stepP_none {W : World} {B b : Nat} {s : ByteArray} {k n : Nat} {v : Value} {xs : List Value} (I : ScanIn W B b s k n v xs) (hp : passF s s.size k = (k, true)) (ho : (oneF s k).2.2 = 40) :
    Calls Tryz.prog 78 #[.pointer (some ⟨b, 0, none⟩)] W (StepP B b s k n xs W) := by
  have H := hide (takeB I hp ho (by decide) 0 0 40 rfl)
  clear I hp ho
  go_enter Tryz.func78, Tryz.ntmps78
  go_wp2_with fail
  refine (unhide H).mono ?_
  intro e w hq
  obtain ⟨c, rfl⟩ := hq.ret
  have Hq := hide hq
  clear hq
  go_wp2
  go_ret
  exact unhide Hq
set_option maxRecDepth 100000 in
theorem stepP_sign {W : World} {B b : Nat} {s : ByteArray} {k n : Nat} {v : Value} {xs : List Value} (I : ScanIn W B b s k n v xs) (hp : passF s s.size k = (k, true)) (ho : oneF s k = (4, k + 1, 0)) :
    Calls Tryz.prog 87 #[.pointer (some ⟨b, 0, none⟩)] W (StepP B b s k n xs W) := by
  have H := hide (takeO I hp ho 4 1 rfl rfl)
  clear I hp ho
  go_enter Tryz.func87, Tryz.ntmps87
  go_wp2_with fail
  refine (unhide H).mono ?_
  intro e w hq
  obtain ⟨c, rfl⟩ := hq.ret
  have Hq := hide hq
  clear hq
  go_wp2
  go_ret
  exact unhide Hq
theorem stepP_blank {W : World} {B b : Nat} {s : ByteArray} {k n : Nat} {v : Value} {xs : List Value} (I : ScanIn W B b s k n v xs) (h : isBlk (byteAt s k)) :
    Calls Tryz.prog 80 #[.pointer (some ⟨b, 0, none⟩)] W (StepP B b s k n xs W) := by
  refine (step_blank I.sc I.more I.size).mono ?_
  rintro e w ⟨rfl, rfl⟩
  have hmore := I.more
  refine ⟨(BX.refl _ _ _).set _ _, .inl ⟨rfl, k + 1, [], v, I.sc.at _, ?_, by omega, by omega, I.room, ?_⟩⟩
  · show World.ownsRow _ B 38 3 v n (xs ++ [])
    rw [List.append_nil]
    obtain ⟨h1, ⟨rfl, h0⟩ | ⟨g, c, cur, rfl, h2, h3, h4⟩⟩ := I.row
    · exact ⟨h1, .inl ⟨rfl, h0⟩⟩
    · refine ⟨h1, .inr ⟨g, c, cur, rfl, h2, (heap_setCell_other _ ⟨b, 1, none⟩ g _ ?_).trans h3, h4⟩⟩
      have := I.lo
      show ¬ g = b
      omega
  · rw [frontT_nil]
    exact tk_pass n (pass_blank I.more h)
set_option maxRecDepth 100000 in
theorem stepP_letter {W : World} {B b : Nat} {s : ByteArray} {k n : Nat} {v : Value} {xs : List Value} (I : ScanIn W B b s k n v xs) (hp : passF s s.size k = (k, true)) (ho : oneF s k = (1, endRow s k, 0)) :
    Calls Tryz.prog 81 #[.pointer (some ⟨b, 0, none⟩)] W (StepP B b s k n xs W) := by
  have hr := rest_any I.sc (Nat.le_of_lt I.more)
  have HI := hide I
  have hs := I.size
  have hk := I.more
  have Hp := hide hp
  have Ho := hide ho
  clear I hp ho
  go_enter Tryz.func81, Tryz.ntmps81
  go_wp2_with fail
  refine hr.mono ?_
  rintro e w1 ⟨rfl, n1, rfl⟩
  clear hr
  have hro := row_any (W.drewN n1) (s.extract k s.size) (by rw [ByteArray.size_extract]; omega)
  go_wp2_with fail
  refine hro.mono ?_
  rintro e w2 ⟨m, rfl, hw2, hn, h1, h2⟩
  obtain rfl : W.drewN n1 = w2 := hw2.symm
  clear hw2 hro
  obtain ⟨eE, hle⟩ := endRow_row (by omega) hn h1 h2
  have hb1 : Below W.heap.size W (W.drewN n1) := below_drewN (Below.refl _ _) n1
  have ht := takeO ((unhide HI).up hb1) (unhide Hp) (by rw [unhide Ho, eE]) 1 (m : Int) rfl rfl
  have Ht := hide ht
  have Hb1 := hide hb1
  clear ht hn h1 h2 hle eE hb1
  go_wp2_with fail
  refine (unhide Ht).mono ?_
  intro e w hq
  obtain ⟨c, rfl⟩ := hq.ret
  have Hq := hide (hq.from (unhide Hb1) (unhide HI).hi)
  clear hq
  go_wp2
  go_ret
  exact unhide Hq
set_option maxRecDepth 100000 in
theorem stepP_digit {W : World} {B b : Nat} {s : ByteArray} {k n : Nat} {v : Value} {xs : List Value} (hE : HasE W) (I : ScanIn W B b s k n v xs) (hp : passF s s.size k = (k, true)) (ho : oneF s k = if wv (strN (s.extract k (endRow s k))) = none then (0, 0, 41) else (2, endRow s k, 0)) :
    Calls Tryz.prog 83 #[.pointer (some ⟨b, 0, none⟩)] W (StepP B b s k n xs W) := by
  have hr := rest_any I.sc (Nat.le_of_lt I.more)
  have HI := hide I
  have HE := hide hE
  have hs := I.size
  have hk := I.more
  have Hp := hide hp
  have Ho := hide ho
  clear I hp ho hE
  go_enter Tryz.func83, Tryz.ntmps83
  go_wp2_with fail
  refine hr.mono ?_
  rintro e w1 ⟨rfl, n1, rfl⟩
  clear hr
  have hro := row_any (W.drewN n1) (s.extract k s.size) (by rw [ByteArray.size_extract]; omega)
  go_wp2_with fail
  refine hro.mono ?_
  rintro e w2 ⟨m, rfl, hw2, hn, h1, h2⟩
  obtain rfl : W.drewN n1 = w2 := hw2.symm
  clear hw2 hro
  obtain ⟨eE, hle⟩ := endRow_row (by omega) hn h1 h2
  have hb1 : Below W.heap.size W (W.drewN n1) := below_drewN (Below.refl _ _) n1
  have hr2 := rest_any ((unhide HI).up hb1).sc (Nat.le_of_lt hk)
  have hsz : (s.extract k s.size).size = s.size - k := by rw [ByteArray.size_extract]; omega
  have Hb1 := hide hb1
  have HeE := hide eE
  have hex := extract_two s k m hle
  have m0 : (0 : Int) ≤ (m : Int) := Int.natCast_nonneg _
  have m1 : (m : Int) ≤ ((s.size - k : Nat) : Int) := by omega
  clear hn h1 h2 hb1 eE
  go_wp2_with fail
  refine hr2.mono ?_
  rintro e w3 ⟨rfl, n2, rfl⟩
  clear hr2
  have hb2 : Below W.heap.size W (W.drewN (n1 + n2)) := below_drewN (Below.refl _ _) (n1 + n2)
  have hwo := worth_any ((unhide HE).up hb2) (s.extract k (k + m)) (by rw [ByteArray.size_extract]; omega)
  have Hb2 := hide hb2
  clear hb2
  go_wp2_with fail
  refine hwo.mono ?_
  rintro e w4 ⟨hb4, wn, wc, rfl, hu⟩
  have hb5 : Below W.heap.size W w4 := (unhide Hb2).trans hb4
  rcases hu with ⟨u, hu1, rfl, rfl⟩ | ⟨hu1, rfl, rfl⟩
  · have ht := takeO ((unhide HI).up hb5) (unhide Hp) (m := m) (t := 2) (by rw [unhide Ho, unhide HeE, hu1]; rfl) 2 (m : Int) rfl rfl
    have Ht := hide ht
    have Hb5 := hide hb5
    clear ht hb4 hb5 hu1 hwo
    go_wp2_with fail
    refine (unhide Ht).mono ?_
    intro e w hq
    obtain ⟨c, rfl⟩ := hq.ret
    have Hq := hide (hq.from (unhide Hb5) (unhide HI).hi)
    clear hq
    go_wp2
    go_ret
    exact unhide Hq
  · have ht := takeB ((unhide HI).up hb5) (unhide Hp) (c := 41) (by rw [unhide Ho, unhide HeE, hu1]; rfl) (by decide) 2 (m : Int) 41 rfl
    have Ht := hide ht
    have Hb5 := hide hb5
    clear ht hb4 hb5 hu1 hwo
    go_wp2_with fail
    refine (unhide Ht).mono ?_
    intro e w hq
    obtain ⟨c, rfl⟩ := hq.ret
    have Hq := hide (hq.from (unhide Hb5) (unhide HI).hi)
    clear hq
    go_wp2
    go_ret
    exact unhide Hq
end Go.Proofs.YtckpainohfhopaaGreatDoor
namespace Go.Proofs
open Go.Shelf
def Tryz.laysNI143_ren : Go.Shelf.Ren := ⟨fun | 143 => 118 | 219 => 138 | 217 => 114 | 225 => 165 | 224 => 166 | 267 => 167 | 266 => 133 | 314 => 180 | n => n, fun | 9 => 9 | 3 => 3 | 4 => 4 | 5 => 5 | 46 => 181 | 146 => 194 | 51 => 193 | n => n, fun | 1 => 1 | n => n⟩
theorem Tryz.laysNI143 : Go.Proofs.Lays.n143 Tryz.prog Tryz.laysNI143_ren := {
  mixed := by kernel_rfl
  f143 := Tryz.func118.trans (congrArg some (by kernel_rfl))
  f217 := Tryz.func114.trans (congrArg some (by kernel_rfl))
  f219 := Tryz.func138.trans (congrArg some (by kernel_rfl))
  f224 := Tryz.func166.trans (congrArg some (by kernel_rfl))
  f225 := Tryz.func165.trans (congrArg some (by kernel_rfl))
  f266 := Tryz.func133.trans (congrArg some (by kernel_rfl))
  f267 := Tryz.func167.trans (congrArg some (by kernel_rfl))
  f314 := Tryz.func180.trans (congrArg some (by kernel_rfl))
  t3 := Tryz.underlying3
  a3 := Tryz.isAgg3
  z3 := Tryz.sizeOf3
  v3 := Tryz.zeroValue3
  t4 := Tryz.underlying4
  a4 := Tryz.isAgg4
  z4 := Tryz.sizeOf4
  v4 := Tryz.zeroValue4
  t5 := Tryz.underlying5
  a5 := Tryz.isAgg5
  z5 := Tryz.sizeOf5
  v5 := Tryz.zeroValue5
  t9 := Tryz.underlying9
  a9 := Tryz.isAgg9
  z9 := Tryz.sizeOf9
  v9 := Tryz.zeroValue9
  t46 := Tryz.underlying181
  a46 := Tryz.isAgg181
  z46 := Tryz.sizeOf181
  v46 := Tryz.zeroValue181
  t51 := Tryz.underlying193
  a51 := Tryz.isAgg193
  z51 := Tryz.sizeOf193
  v51 := Tryz.zeroValue193
  t146 := Tryz.underlying194
  a146 := Tryz.isAgg194
  z146 := Tryz.sizeOf194
  v146 := Tryz.zeroValue194
  g1 := by kernel_rfl }
end Go.Proofs
