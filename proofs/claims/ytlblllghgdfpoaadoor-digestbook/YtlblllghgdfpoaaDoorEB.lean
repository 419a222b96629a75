import Derived.Test.YtlblllghgdfpoaaDoorJ01
import Derived.Test.YtlblllghgdfpoaaDoorJ01
import Derived.Laws.AppendOwnNone
import Derived.Deep.DeepAppendRoom

namespace Go.Proofs.YtlblllghgdfpoaaDoor
open Go.RowKit
attribute [local go_sem ↓] Go.wp_at_zero Go.wp_at_succ

/-- The mark of a list, at a place. -/
def mkB (i k : Nat) : Nat := if k % 4 = 0 then i % 256 else if k % 4 = 1 then i / 256 % 256 else if k % 4 = 2 then i / 65536 % 256 else i / 16777216 % 256
theorem mkB_lt (i k : Nat) : mkB i k < 256 := by
  unfold mkB
  split
  · omega
  · split
    · omega
    · split <;> omega
set_option maxRecDepth 100000 in
set_option maxHeartbeats 1000000 in
theorem mark_any (W : World) (i k : Nat) : Calls Tryd.prog 36 #[.int .i64 (i : Int), .int .i64 (k : Int)] W fun e w => e = .returned (.int .u8 (mkB i k : Int)) ∧ w = W := by
  have h4 : (k : Int).tmod 4 = ((k % 4 : Nat) : Int) := by rw [Int.tmod_eq_emod_of_nonneg (Int.natCast_nonneg _)]; omega
  obtain ⟨r, hr⟩ : ∃ r, k % 4 = r := ⟨_, rfl⟩
  have hr4 : r < 4 := by omega
  unfold mkB
  rw [hr] at h4 ⊢
  clear hr
  go_enter Tryd.func36, Tryd.ntmps36
  match r, hr4 with
  | 0, _ =>
    go_wp2
    go_ret
    exact ⟨by simp, rfl⟩
  | 1, _ =>
    go_wp2
    go_ret
    exact ⟨by simp, rfl⟩
  | 2, _ =>
    go_wp2
    go_ret
    exact ⟨by simp, rfl⟩
  | 3, _ =>
    go_wp2
    go_ret
    exact ⟨by simp, rfl⟩
/-- A list of marks. -/
def mkL (i n : Nat) : List Nat := (List.range n).map (mkB i)
theorem mkL_len (i n : Nat) : (mkL i n).length = n := by simp [mkL]
theorem mkL_at {i n k : Nat} (h : k < n) : (mkL i n)[k]? = some (mkB i k) := by simp [mkL, h]
theorem mkL_byt (i n : Nat) : Byt (mkL i n) := fun x hx => by
  obtain ⟨k, -, rfl⟩ := List.mem_map.1 hx
  exact mkB_lt i k
theorem mkL_succ (i n : Nat) : mkL i (n + 1) = mkL i n ++ [mkB i n] := by unfold mkL; rw [List.range_succ, List.map_append]; rfl
set_option maxRecDepth 100000 in
set_option maxHeartbeats 2000000 in
theorem marked_any (W : World) (i n : Nat) (hn : n ≤ 1099511627776) : Calls Tryd.prog 37 #[.int .i64 (i : Int), .int .i64 (n : Int)] W fun e w => ∃ v, e = .returned v ∧ Bytes W.heap.size w v (mkL i n) ∧ Below W.heap.size W w := by
  obtain ⟨i0, hi, hz0, hz1, hz2⟩ := info_parts Tryd.infoByte
  have H0 : Hid (Bytes W.heap.size W (.slice none 0 0) (mkL i 0) ∧ Below W.heap.size W W) := ⟨bytes_nil _ _, Below.refl _ _⟩
  go_enter Tryd.func37, Tryd.ntmps37
  go_wp2
  go_loopg [5, 6] n (fun gk v5 v6 wr => ∃ (k : Nat), v6 = .int .i64 (k : Int) ∧ gk = n - k ∧ k ≤ n ∧ Hid (Bytes W.heap.size wr v5 (mkL i k) ∧ Below W.heap.size W wr))
  case atStart => exact ⟨0, rfl, rfl, by omega, unhide H0⟩
  case round =>
    obtain ⟨k, rfl, hgk, hk, HI⟩ := hrel
    have Hgk := hide hgk
    clear hgk H0
    obtain ⟨a5, c5, rfl⟩ : ∃ a c, u5 = .slice a k c := by obtain ⟨a, c, e, _⟩ := (unhide HI).1.has; rw [mkL_len] at e; exact ⟨a, c, e⟩
    by_cases hlt : k < n
    · have Hlt := hide hlt
      have j0 : (k : Int) < (n : Int) := by omega
      have hs := (unhide HI).2.size
      have HR : Hid (wr.ownsRow W.heap.size 5 1 (.slice a5 k c5) k (nb (mkL i k))) := by have := (unhide HI).1; unfold Bytes at this; rw [mkL_len] at this; exact this
      clear hlt
      go_wp2_with fail
      refine (mark_any _ i k).mono ?_
      rintro e w' ⟨rfl, he⟩
      obtain rfl : wr = w' := he.symm
      clear he
      go_wp2_with (at_builtin; refine wpList_append_own_at _ rfl _ _ 29 rfl W.heap.size 5 i0 (.int .u8 0) 1 1 Tryd.underlying29 hi hz0 hz1 hz2 rfl (by decide) _ _ _ rfl ((unhide HR).alloc _) ⟨wr.heap.size, 0, none⟩ 1 1 [.int .u8 (mkB i k : Int)] rfl rfl (cell_one_new _ _ _) (by simp [Value.oneCell']) (by unfold maxLen; omega) (by omega) (by simp; omega) ?_; intro v9 w9 hown9 hgrow9 _ _; have HO := hide hown9; have Hb : Hid (Below W.heap.size W w9) := below_grow0 (unhide HI).2 hs hgrow9 (fun b hb => ((unhide HR).lt b hb).1); clear hown9 hgrow9)
      have HI2 : Hid (Bytes W.heap.size w9 v9 (mkL i (k + 1)) ∧ Below W.heap.size W w9) := ⟨by unfold Bytes; rw [mkL_len, mkL_succ, nb_append]; exact unhide HO, unhide Hb⟩
      clear HO Hb HR HI
      go_roundg (n - (k + 1))
      case measure => have := unhide Hgk; have := unhide Hlt; omega
      case rel => exact ⟨k + 1, by go_num, rfl, unhide Hlt, unhide HI2⟩
    · obtain rfl : k = n := by omega
      have j0 : ¬ (k : Int) < (k : Int) := by omega
      clear hlt hk Hgk
      go_wp2
      go_ret
      exact ⟨_, rfl, unhide HI⟩
theorem ownsRow_take {W : World} {bs e size g n m c : Nat} {xs news : List Value} (h : W.ownsRow bs e size (.slice (some ⟨g, 0, none⟩) (n + m) c) (n + m) (xs ++ news)) (hx : xs.length = n * size) : W.ownsRow bs e size (.slice (some ⟨g, 0, none⟩) n c) n xs := by
  refine ⟨hx, ?_⟩
  rcases h.2 with ⟨e, _⟩ | ⟨g', cap, cur, e, hb1, h2, h3, h4, h5, h6⟩
  · cases e
  · cases e
    refine .inr ⟨g, c, cur, rfl, hb1, h2, by omega, h4, h5, ?_⟩
    have := congrArg (List.take (n * size)) h6
    rw [List.take_take, Nat.min_eq_left (Nat.mul_le_mul_right _ (Nat.le_add_right n m)), ← hx, List.take_left] at this
    rw [← hx]
    exact this
section
variable {P : Program}
/-- append onto an own row that is kept beside: what came out; the old row as it was; its block written on with the new cells at most. -/
theorem run_append_keeps (w : World) (t ty : TypeId) (base : Nat) (e : TypeId) (i : TypeInfo) (z : Value) (size bytes : Nat) (ht : P.underlying t = some (.slice e)) (hi : P.info? e = some i) (hz : i.zero = some z)
    (hsize : i.size = size) (hby : i.bytes = bytes) (hzs : z.cells.size = size) (hsz : 0 < size)
    (v : Value) (n : Nat) (xs : List Value) (hown : w.ownsRow base e size v n xs)
    (ad : Addr) (m c : Nat) (news : List Value) (hl : news.length = m * size) (hnews : ∀ j u, news[j]? = some u → w.cell? (ad.add j) = some u) (h1 : ∀ u ∈ news, u.oneCell' = true)
    (hm : 0 < m) (h63 : n + m ≤ maxLen) (hbytes : (n + m) * bytes ≤ 140737488355328) (hbase : base ≤ w.heap.size) :
    ∃ g' c' w', (Builtin.append_ #[t, t] ty #[v, .slice (some ad) m c]).run P w = .ok (.slice (some ⟨g', 0, none⟩) (n + m) c') w' ∧ w'.ownsRow base e size (.slice (some ⟨g', 0, none⟩) (n + m) c') (n + m) (xs ++ news) ∧ w'.ownsRow base e size v n xs ∧ w.grownBy w' v.ownBlock ∧
      (v.ownBlock = some g' ∨ w.heap.size ≤ g') ∧ ∀ g j, v.ownBlock = some g → w'.cell? ⟨g, j, none⟩ = w.cell? ⟨g, j, none⟩ ∨ ∃ u, (xs ++ news)[j]? = some u ∧ w'.cell? ⟨g, j, none⟩ = some u := by
  have hlen : xs.length = n * size := hown.1
  rcases id hown.2 with ⟨rfl, rfl⟩ | ⟨g, cap, cur, rfl, hbg, hg, hnc, hcm, hcs, htake⟩
  · obtain ⟨v', w', hr, ho, hgr, _⟩ := run_append_own (P := P) w base t ty e i z size bytes ht hi hz hsize hby hzs hsz (.slice none 0 0) 0 xs hown ad m c news hl hnews h1 h63 hbytes hbase
    have hgr' : w.grownBy w' none := hgr
    rcases id ho.2 with ⟨_, h0⟩ | ⟨g', c', _, rfl, hb', _⟩
    · omega
    · obtain rfl : xs = [] := List.eq_nil_of_length_eq_zero (by simpa using hlen)
      refine ⟨g', c', w', hr, ho, World.ownsRow_nil _ _ _ _, hgr, ?_, fun g j e => by cases e⟩
      by_cases h : w.heap.size ≤ g'
      · exact .inr h
      · exfalso
        obtain ⟨v2, w2, hr2, ho2, hgr2, _⟩ := run_append_own (P := P) w w.heap.size t ty e i z size bytes ht hi hz hsize hby hzs hsz (.slice none 0 0) 0 [] (World.ownsRow_nil w _ e size) ad m c news hl hnews h1 h63 hbytes (Nat.le_refl _)
        rw [hr] at hr2
        simp only [Result.ok.injEq] at hr2
        obtain ⟨rfl, rfl⟩ := hr2
        exact h (ho2.lt g' rfl).1
  · by_cases hroom : n + m ≤ cap
    · obtain ⟨w', hr, ho, hgr⟩ := run_append_own_spare (P := P) w base t ty e i size ht hi hsize g n cap xs hown ad m c news hl hnews h1 hroom
      have hin : ∀ j, j < news.length → (w.cell? ⟨g, 0 + n * i.size + j, none⟩).isSome = true := fun j hj => by
        rw [cell_of_row _ _ _ _ _ _ hg]
        have : n * size + news.length ≤ cur.size := by rw [hl, hcs, ← Nat.add_mul]; exact Nat.mul_le_mul_right _ hroom
        rw [hsize, Array.getElem?_eq_getElem (by omega)]
        rfl
      have hr2 := run_append_room_cells (P := P) w t ty e i ht hi g 0 n cap ad m c news (by rw [hsize]; exact hl) hnews h1 hroom hin (fun j _ => World.ownsRow.frozenAt hown _)
      rw [hr] at hr2
      simp only [Result.ok.injEq, true_and] at hr2
      refine ⟨g, cap, w', hr, ho, ownsRow_take ho hlen, hgr, .inl rfl, fun g1 j e => ?_⟩
      obtain rfl : g = g1 := by simpa [Value.ownBlock] using e
      by_cases hj : j < (n + m) * size
      · refine .inr ?_
        have hlx : (xs ++ news).length = (n + m) * size := ho.1
        refine ⟨(xs ++ news)[j]'(by omega), List.getElem?_eq_getElem _, ?_⟩
        rw [World.ownsRow.cellAt ho j hj, List.getElem?_eq_getElem]
      · refine .inl ?_
        rw [hr2]
        refine World.cell?_setCells_out _ _ _ _ _ fun _ _ => .inr ?_
        rw [hsize, hl, Nat.zero_add, ← Nat.add_mul]
        show (n + m) * size ≤ j
        omega
    · obtain ⟨v', w', hr, ho, hgr⟩ := run_append_arg_grows (P := P) w t ty e i z size bytes ht hi hz hsize hby hzs hsz ⟨g, 0, none⟩ n cap xs hlen (hown.cells (g := g) rfl) ad m c news hl hnews (by omega) h63 hbytes
      rcases id ho.2 with ⟨_, h0⟩ | ⟨g', c', _, rfl, hb', _⟩
      · omega
      · refine ⟨g', c', w', hr, own_lower ho hbase, World.ownsRow.kept hown hgr (.inr (by simp [Value.ownBlock])), ⟨hgr.os, hgr.tape, hgr.output, hgr.size, fun k hk _ => hgr.block k hk (by simp)⟩, .inr hb', fun g1 j e => .inl ?_⟩
        obtain rfl : g = g1 := by simpa [Value.ownBlock] using e
        exact World.cell?_of_block (hgr.block g (hown.lt g rfl).2 (by simp))
theorem wpList_append_keeps {w : World} {ops : Array Oper} {rest : List Oper} {o : Oper} {a : Act} {Q : Exit → Act → World → Prop} (hgd : o.guard = none) (s x : Operand) (t : TypeId)
    (ho : o.op = .call { callee := .builtin .append, args := #[s, x], argTypes := #[t, t] })
    (base : Nat) (e : TypeId) (i : TypeInfo) (z : Value) (size bytes : Nat) (ht : P.underlying t = some (.slice e)) (hi : P.info? e = some i) (hz : i.zero = some z)
    (hsize : i.size = size) (hby : i.bytes = bytes) (hzs : z.cells.size = size) (hsz : 0 < size)
    (v : Value) (n : Nat) (xs : List Value) (hs : a.eval s = v) (hown : w.ownsRow base e size v n xs)
    (ad : Addr) (m c : Nat) (news : List Value) (hx : a.eval x = .slice (some ad) m c) (hl : news.length = m * size) (hnews : ∀ j u, news[j]? = some u → w.cell? (ad.add j) = some u) (h1 : ∀ u ∈ news, u.oneCell' = true)
    (hm : 0 < m) (h63 : n + m ≤ maxLen) (hbytes : (n + m) * bytes ≤ 140737488355328) (hbase : base ≤ w.heap.size)
    (h : ∀ g' c' w', w'.ownsRow base e size (.slice (some ⟨g', 0, none⟩) (n + m) c') (n + m) (xs ++ news) → w'.ownsRow base e size v n xs → w.grownBy w' v.ownBlock → (v.ownBlock = some g' ∨ w.heap.size ≤ g') → (∀ g j, v.ownBlock = some g → w'.cell? ⟨g, j, none⟩ = w.cell? ⟨g, j, none⟩ ∨ ∃ u, (xs ++ news)[j]? = some u ∧ w'.cell? ⟨g, j, none⟩ = some u) → wpList P ops Q rest (a.put o.dst (.slice (some ⟨g', 0, none⟩) (n + m) c')) w') :
    wpList P ops Q (o :: rest) a w := by
  refine wpList_plain hgd fun K hK => ?_
  obtain ⟨g', c', w', hr, h2, h3, h4, h5, h6⟩ := run_append_keeps (P := P) w t o.type base e i z size bytes ht hi hz hsize hby hzs hsz v n xs hown ad m c news hl hnews h1 hm h63 hbytes hbase
  unfold Oper.wp execOp
  simp only [ho, resolve, invoke, builtin, Sem.run_bind, Sem.run_pure, Result.andThen_ok, List.map_toArray, List.map_cons, List.map_nil, hs, hx, hr]
  exact hK _ _ (h g' c' w' h2 h3 h4 h5 h6)
end
/-- A row that lies in the block of a longer one stays as long as that one does. -/
theorem own_share {w w' : World} {B e n n' : Nat} {v r : Value} {xs ys : List Value} (hv : w.ownsRow B e 1 v n xs) (hr : w.ownsRow B e 1 r n' (xs ++ ys)) (hr' : w'.ownsRow B e 1 r n' (xs ++ ys)) (hb : r.ownBlock = v.ownBlock) : w'.ownsRow B e 1 v n xs := by
  obtain ⟨h1, ⟨rfl, h2⟩ | ⟨g, c, cur, rfl, h2, h3, h4, h5, h6, h7⟩⟩ := id hv
  · exact ⟨h1, .inl ⟨rfl, h2⟩⟩
  · obtain ⟨r1, ⟨rfl, r2⟩ | ⟨g2, c2, cur2, rfl, r2, r3, r4, r5, r6, r7⟩⟩ := id hr
    · cases hb
    · obtain rfl : g2 = g := Option.some.inj hb
      obtain ⟨q1, ⟨e, -⟩ | ⟨g3, c3, cur3, e, q2, q3, q4, q5, q6, q7⟩⟩ := id hr'
      · cases e
      · injection e with e1 e2 e3
        injection e1 with e1
        injection e1 with e1
        subst e1 e3
        have hcc : cur = cur2 := by have := h3.symm.trans r3; injection this with this; injection this
        subst hcc
        refine ⟨h1, .inr ⟨g2, c, cur3, rfl, h2, q3, h4, h5, by omega, ?_⟩⟩
        have hxl : xs.length = n * 1 := h1
        have := congrArg (List.take (n * 1)) q7
        have hle : n * 1 ≤ n' * 1 := by have : (xs ++ ys).length = n' * 1 := q1; rw [List.length_append] at this; omega
        rw [List.take_take, Nat.min_eq_left hle, ← hxl, List.take_left] at this
        rw [← hxl]
        exact this
/-- Bytes stay bytes. -/
def ByR (w w' : World) : Prop := ∀ (q j : Nat), (∃ x : Nat, x < 256 ∧ w.cell? ⟨q, j, none⟩ = some (.int .u8 (x : Int))) → ∃ x : Nat, x < 256 ∧ w'.cell? ⟨q, j, none⟩ = some (.int .u8 (x : Int))
theorem ByR.refl (w : World) : ByR w w := fun _ _ h => h
theorem ByR.trans {a b c : World} (h : ByR a b) (k : ByR b c) : ByR a c := fun q j e => k q j (h q j e)
/-- A list is grown, byte by byte. -/
structure GrA (w0 : World) (B : Nat) (v : Value) (xs ys : List Nat) (w : World) (r : Value) : Prop where
  rr : Bytes B w r (xs ++ ys)
  vv : Bytes B w v xs
  os : w.os = w0.os
  tape : w.tape = w0.tape
  output : w.output = w0.output
  size : w0.heap.size ≤ w.heap.size
  far : ∀ q, q < w0.heap.size → v.ownBlock ≠ some q → w.heap[q]? = w0.heap[q]?
  blk : r.ownBlock = v.ownBlock ∨ ∃ g, r.ownBlock = some g ∧ w0.heap.size ≤ g
  by_ : ByR w0 w
  old : ∀ b, v.ownBlock = some b → b < w0.heap.size
theorem nb_mem {l : List Nat} {u : Value} {j : Nat} (hl : Byt l) (h : (nb l)[j]? = some u) : ∃ x : Nat, x < 256 ∧ u = .int .u8 (x : Int) := by
  unfold nb at h
  rw [List.getElem?_map] at h
  obtain ⟨x, hx, rfl⟩ := Option.map_eq_some_iff.1 h
  exact ⟨x, hl x (List.mem_of_getElem? hx), rfl⟩
theorem GrA.step {w0 w w2 : World} {B g' c' n : Nat} {v r : Value} {xs ys : List Nat} {x : Nat} {o1 : Obj} (h : GrA w0 B v xs ys w r) (hx : Byt (xs ++ ys ++ [x])) (hn : (xs ++ ys).length = n)
    (h1 : w2.ownsRow B 5 1 (.slice (some ⟨g', 0, none⟩) (n + 1) c') (n + 1) (nb (xs ++ ys) ++ [.int .u8 (x : Int)])) (h2 : w2.ownsRow B 5 1 r n (nb (xs ++ ys))) (h3 : (w.alloc o1).grownBy w2 r.ownBlock) (h4 : r.ownBlock = some g' ∨ (w.alloc o1).heap.size ≤ g')
    (h5 : ∀ g j, r.ownBlock = some g → w2.cell? ⟨g, j, none⟩ = (w.alloc o1).cell? ⟨g, j, none⟩ ∨ ∃ u, (nb (xs ++ ys) ++ [.int .u8 (x : Int)])[j]? = some u ∧ w2.cell? ⟨g, j, none⟩ = some u) :
    GrA w0 B v xs (ys ++ [x]) w2 (.slice (some ⟨g', 0, none⟩) (n + 1) c') := by
  have s0 := h.size
  have s2 := h3.size
  rw [World.size_alloc] at s2 h4
  have key : ∀ q, q < w.heap.size → r.ownBlock ≠ some q → w2.heap[q]? = w.heap[q]? := fun q hq hn => (h3.block q (by rw [World.size_alloc]; omega) (fun e => hn e.symm)).trans (Below.heap_alloc w o1 q hq)
  have hrq : ∀ q, q < w0.heap.size → v.ownBlock ≠ some q → r.ownBlock ≠ some q := fun q hq hnv e => by
    rcases h.blk with e2 | ⟨g, e2, hg⟩
    · exact hnv (e2.symm.trans e)
    · have := Option.some.inj (e2.symm.trans e)
      omega
  refine ⟨?_, ?_, h3.os.trans h.os, h3.tape.trans h.tape, h3.output.trans h.output, by omega, fun q hq hnv => (key q (by omega) (hrq q hq hnv)).trans (h.far q hq hnv), ?_, fun q j hb => ?_, h.old⟩
  · unfold Bytes
    rw [← List.append_assoc, nb_append, List.length_append, hn]
    exact h1
  · rcases h.blk with e | ⟨g, e, hg⟩
    · have hr0 := h.rr
      unfold Bytes at hr0
      rw [nb_append, hn] at hr0
      have h2' := h2
      rw [nb_append] at h2'
      exact own_share h.vv hr0 h2' e
    · refine own_same h.vv (fun b eb => key b (by have := h.old b eb; omega) (fun er => ?_))
      have := h.old b eb
      have := Option.some.inj (e.symm.trans er)
      omega
  · rcases h4 with e | e
    · rcases h.blk with e2 | ⟨g, e2, hg⟩
      · exact .inl (e.symm.trans e2)
      · exact .inr ⟨g', rfl, by have := Option.some.inj (e.symm.trans e2); omega⟩
    · exact .inr ⟨g', rfl, by omega⟩
  · obtain ⟨y, hy, hc⟩ := h.by_ q j hb
    have hq : q < w.heap.size := World.block_lt_of_cell? w _ hc
    by_cases er : r.ownBlock = some q
    · rcases h5 q j er with e | ⟨u, hu, e⟩
      · exact ⟨y, hy, e.trans ((World.cell?_alloc_lt _ _ _ hq).trans hc)⟩
      · rw [← show nb ((xs ++ ys) ++ [x]) = nb (xs ++ ys) ++ [.int .u8 (x : Int)] from nb_append _ _] at hu
        obtain ⟨z, hz, rfl⟩ := nb_mem hx hu
        exact ⟨z, hz, e⟩
    · exact ⟨y, hy, (World.cell?_of_block (a := ⟨q, j, none⟩) (key q hq er)).trans hc⟩
set_option maxRecDepth 100000 in
set_option maxHeartbeats 2000000 in
theorem grown_any {W : World} {B : Nat} {v u : Value} {xs ms : List Nat} (h : Bytes B W v xs) (hB : B ≤ W.heap.size) (hu : HasB W u ms) (hn : ∀ b, u.ownBlock = some b → v.ownBlock ≠ some b) (hxb : Byt xs) (hmb : Byt ms) (hx : xs.length ≤ 1099511627776) (hm : ms.length ≤ 1099511627776) :
    Calls Tryd.prog 38 #[v, u] W fun e w => ∃ a c, e = .returned (.slice a (xs.length + ms.length) c) ∧ GrA W B v xs ms w (.slice a (xs.length + ms.length) c) := by
  obtain ⟨i0, hi, hz0, hz1, hz2⟩ := info_parts Tryd.infoByte
  obtain ⟨av, cv, rfl, -⟩ := id h.has
  obtain ⟨au, cu, rfl, hcu, h3⟩ := hu
  have H3 := hide h3
  have HN := hide hn
  have HX := hide hxb
  have HM := hide hmb
  have HB := hide hB
  have H0 : Hid (GrA W B (.slice av xs.length cv) xs [] W (.slice av xs.length cv)) := ⟨by rw [List.append_nil]; exact h, h, rfl, rfl, rfl, Nat.le_refl _, fun _ _ _ => rfl, .inl rfl, ByR.refl _, fun b e => (World.ownsRow.lt h b e).2⟩
  clear h3 hn hxb hmb hB h hcu
  go_enter Tryd.func38, Tryd.ntmps38
  go_wp2
  go_loopg [0, 5] ms.length (fun gk v0 v5 wr => ∃ (k : Nat) (a : Option Addr) (c : Nat), v5 = .int .i64 (k : Int) ∧ v0 = .slice a (xs.length + k) c ∧ gk = ms.length - k ∧ k ≤ ms.length ∧ Hid (GrA W B (.slice av xs.length cv) xs (ms.take k) wr (.slice a (xs.length + k) c)))
  case atStart => exact ⟨0, av, cv, rfl, rfl, rfl, by omega, by rw [List.take_zero]; exact unhide H0⟩
  case round =>
    obtain ⟨k, a, c, rfl, rfl, hgk, hk, HI⟩ := hrel
    have Hgk := hide hgk
    clear hgk H0
    by_cases hlt : k < ms.length
    · obtain ⟨g, off, rfl, hg, hc⟩ := unhide H3 (by omega)
      obtain ⟨x, hx0⟩ : ∃ x, ms[k]? = some x := ⟨_, List.getElem?_eq_getElem hlt⟩
      have hcl : wr.cell? ⟨g, off + k, none⟩ = some (.int .u8 (x : Int)) := (World.cell?_of_block (a := ⟨g, off + k, none⟩) ((unhide HI).far g hg (unhide HN g rfl))).trans (hc k x hx0)
      have hl : (xs ++ ms.take k).length = xs.length + k := by rw [List.length_append, List.length_take]; omega
      have HR : Hid (wr.ownsRow B 5 1 (.slice a (xs.length + k) c) (xs.length + k) (nb (xs ++ ms.take k))) := by have := (unhide HI).rr; unfold Bytes at this; rw [hl] at this; exact this
      have HBy : Hid (Byt (xs ++ ms.take k ++ [x])) := ((unhide HX).append (fun y hy => unhide HM y (List.mem_of_mem_take hy))).append (fun y hy => by rw [List.mem_singleton.1 hy]; exact (unhide HM).at hx0)
      have htk : Hid (ms.take (k + 1) = ms.take k ++ [x]) := by show _ = _; rw [List.take_add_one, hx0]; rfl
      have Hl := hide hl
      have Hlt := hide hlt
      have hs : B ≤ wr.heap.size := Nat.le_trans (unhide HB) (unhide HI).size
      have j0 : (0 : Int) ≤ (k : Int) := Int.natCast_nonneg _
      have j1 : (k : Int) < (ms.length : Int) := by omega
      clear hc hg hx0 hl hlt
      go_wp2_with (at_builtin; refine wpList_append_keeps rfl _ _ 29 rfl B 5 i0 (.int .u8 0) 1 1 Tryd.underlying29 hi hz0 hz1 hz2 rfl (by decide) _ _ _ rfl ((unhide HR).alloc _) ⟨wr.heap.size, 0, none⟩ 1 1 [.int .u8 (x : Int)] rfl rfl (cell_one_new _ _ _) (by simp [Value.oneCell']) (by decide) (by unfold maxLen; omega) (by omega) (by rw [World.size_alloc]; omega) ?_; intro g9 c9 w9 q1 q2 q3 q4 q5; have HI2 := hide ((unhide HI).step (unhide HBy) (unhide Hl) q1 q2 q3 q4 q5); clear q1 q2 q3 q4 q5)
      rw [← unhide htk] at HI2
      clear HR HBy htk Hl HI
      go_roundg (ms.length - (k + 1))
      case measure => have := unhide Hgk; have := unhide Hlt; omega
      case rel => exact ⟨k + 1, _, _, by go_num, rfl, rfl, unhide Hlt, unhide HI2⟩
    · obtain rfl : k = ms.length := by omega
      have j1 : ¬ (ms.length : Int) < (ms.length : Int) := by omega
      have HI2 : Hid (GrA W B (.slice av xs.length cv) xs ms wr (.slice a (xs.length + ms.length) c)) := by have := unhide HI; rw [List.take_length] at this; exact this
      clear hlt hk Hgk HI
      go_wp2
      go_ret
      exact ⟨_, _, rfl, unhide HI2⟩
end Go.Proofs.YtlblllghgdfpoaaDoor
