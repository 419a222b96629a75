import Derived.Test.YtadmamfekodkaaaDoorHY
import Derived.ArgAppend
import Derived.Maps.AppendAt
import Derived.Deep.DeepAppendRoom

namespace Go.Proofs.YtadmamfekodkaaaDoor
open Go.RowKit

theorem ownsRow_take {W : World} {bs e size g n m c : Nat} {xs news : List Value} (h : W.ownsRow bs e size (.slice (some ⟨g, 0, none⟩) (n + m) c) (n + m) (xs ++ news)) (hx : xs.length = n * size) : W.ownsRow bs e size (.slice (some ⟨g, 0, none⟩) n c) n xs := by
  refine ⟨hx, ?_⟩
  rcases h.2 with ⟨e, _⟩ | ⟨g', cap, cur, e, hb1, h2, h3, h4, h5, h6⟩
  · cases e
  · cases e
    refine .inr ⟨g, c, cur, rfl, hb1, h2, by omega, h4, h5, ?_⟩
    have := congrArg (List.take (n * size)) h6
    rw [List.take_take, Nat.min_eq_left (Nat.mul_le_mul_right _ (Nat.le_add_right n m)), ← hx, List.take_left] at this
    rw [← hx]
    exact this
section
variable {P : Program}
theorem run_append_keeps (w : World) (t ty : TypeId) (base : Nat) (e : TypeId) (i : TypeInfo) (z : Value) (size bytes : Nat) (ht : P.underlying t = some (.slice e)) (hi : P.info? e = some i) (hz : i.zero = some z)
    (hsize : i.size = size) (hby : i.bytes = bytes) (hzs : z.cells.size = size) (hsz : 0 < size)
    (v : Value) (n : Nat) (xs : List Value) (hown : w.ownsRow base e size v n xs)
    (ad : Addr) (m c : Nat) (news : List Value) (hl : news.length = m * size) (hnews : ∀ j u, news[j]? = some u → w.cell? (ad.add j) = some u) (h1 : ∀ u ∈ news, u.oneCell' = true)
    (hm : 0 < m) (h63 : n + m ≤ maxLen) (hbytes : (n + m) * bytes ≤ 140737488355328) (hbase : base ≤ w.heap.size) :
    ∃ g' c' w', (Builtin.append_ #[t, t] ty #[v, .slice (some ad) m c]).run P w = .ok (.slice (some ⟨g', 0, none⟩) (n + m) c') w' ∧ w'.ownsRow base e size (.slice (some ⟨g', 0, none⟩) (n + m) c') (n + m) (xs ++ news) ∧ w'.ownsRow base e size v n xs ∧ w.grownBy w' v.ownBlock ∧
      (v.ownBlock = some g' ∨ w.heap.size ≤ g') ∧ ∀ g j, v.ownBlock = some g → w'.cell? ⟨g, j, none⟩ = w.cell? ⟨g, j, none⟩ ∨ ∃ u, (xs ++ news)[j]? = some u ∧ w'.cell? ⟨g, j, none⟩ = some u := by
  have hlen : xs.length = n * size := hown.1
  rcases id hown.2 with ⟨rfl, rfl⟩ | ⟨g, cap, cur, rfl, hbg, hg, hnc, hcm, hcs, htake⟩
  · obtain ⟨v', w', hr, ho, hgr, _⟩ := run_append_own (P := P) w base t ty e i z size bytes ht hi hz hsize hby hzs hsz (.slice none 0 0) 0 xs hown ad m c news hl hnews h1 h63 hbytes hbase
    have hgr' : w.grownBy w' none := hgr
    rcases id ho.2 with ⟨_, h0⟩ | ⟨g', c', _, rfl, hb', _⟩
    · omega
    · obtain rfl : xs = [] := List.eq_nil_of_length_eq_zero (by simpa using hlen)
      refine ⟨g', c', w', hr, ho, World.ownsRow_nil _ _ _ _, hgr, ?_, fun g j e => by cases e⟩
      by_cases h : w.heap.size ≤ g'
      · exact .inr h
      · exfalso
        obtain ⟨v2, w2, hr2, ho2, hgr2, _⟩ := run_append_own (P := P) w w.heap.size t ty e i z size bytes ht hi hz hsize hby hzs hsz (.slice none 0 0) 0 [] (World.ownsRow_nil w _ e size) ad m c news hl hnews h1 h63 hbytes (Nat.le_refl _)
        rw [hr] at hr2
        simp only [Result.ok.injEq] at hr2
        obtain ⟨rfl, rfl⟩ := hr2
        exact h (ho2.lt g' rfl).1
  · by_cases hroom : n + m ≤ cap
    · obtain ⟨w', hr, ho, hgr⟩ := run_append_own_spare (P := P) w base t ty e i size ht hi hsize g n cap xs hown ad m c news hl hnews h1 hroom
      have hin : ∀ j, j < news.length → (w.cell? ⟨g, 0 + n * i.size + j, none⟩).isSome = true := fun j hj => by
        rw [cell_of_row _ _ _ _ _ _ hg]
        have : n * size + news.length ≤ cur.size := by rw [hl, hcs, ← Nat.add_mul]; exact Nat.mul_le_mul_right _ hroom
        rw [hsize, Array.getElem?_eq_getElem (by omega)]
        rfl
      have hr2 := run_append_room_cells (P := P) w t ty e i ht hi g 0 n cap ad m c news (by rw [hsize]; exact hl) hnews h1 hroom hin (fun j _ => World.ownsRow.frozenAt hown _)
      rw [hr] at hr2
      simp only [Result.ok.injEq, true_and] at hr2
      refine ⟨g, cap, w', hr, ho, ownsRow_take ho hlen, hgr, .inl rfl, fun g1 j e => ?_⟩
      obtain rfl : g = g1 := by simpa [Value.ownBlock] using e
      by_cases hj : j < (n + m) * size
      · refine .inr ?_
        have hlx : (xs ++ news).length = (n + m) * size := ho.1
        refine ⟨(xs ++ news)[j]'(by omega), List.getElem?_eq_getElem _, ?_⟩
        rw [World.ownsRow.cellAt ho j hj, List.getElem?_eq_getElem]
      · refine .inl ?_
        rw [hr2]
        refine World.cell?_setCells_out _ _ _ _ _ fun _ _ => .inr ?_
        rw [hsize, hl, Nat.zero_add, ← Nat.add_mul]
        show (n + m) * size ≤ j
        omega
    · obtain ⟨v', w', hr, ho, hgr⟩ := run_append_arg_grows (P := P) w t ty e i z size bytes ht hi hz hsize hby hzs hsz ⟨g, 0, none⟩ n cap xs hlen (hown.cells (g := g) rfl) ad m c news hl hnews (by omega) h63 hbytes
      rcases id ho.2 with ⟨_, h0⟩ | ⟨g', c', _, rfl, hb', _⟩
      · omega
      · refine ⟨g', c', w', hr, own_low ho hbase, World.ownsRow.kept hown hgr (.inr (by simp [Value.ownBlock])), ⟨hgr.os, hgr.tape, hgr.output, hgr.size, fun k hk _ => hgr.block k hk (by simp)⟩, .inr hb', fun g1 j e => .inl ?_⟩
        obtain rfl : g = g1 := by simpa [Value.ownBlock] using e
        exact World.cell?_of_block (hgr.block g (hown.lt g rfl).2 (by simp))
section
variable {ops : Array Oper} {Q : Exit → Act → World → Prop}
theorem wpList_append_keeps (w : World) {rest : List Oper} {o : Oper} {a : Act} (hgd : o.guard = none) (s x : Operand) (t : TypeId)
    (ho : o.op = .call { callee := .builtin .append, args := #[s, x], argTypes := #[t, t] })
    (base : Nat) (e : TypeId) (i : TypeInfo) (z : Value) (size bytes : Nat) (ht : P.underlying t = some (.slice e)) (hi : P.info? e = some i) (hz : i.zero = some z)
    (hsize : i.size = size) (hby : i.bytes = bytes) (hzs : z.cells.size = size) (hsz : 0 < size)
    (v : Value) (n : Nat) (xs : List Value) (hs : a.eval s = v) (hown : w.ownsRow base e size v n xs)
    (ad : Addr) (m c : Nat) (news : List Value) (hx : a.eval x = .slice (some ad) m c) (hl : news.length = m * size) (hnews : ∀ j u, news[j]? = some u → w.cell? (ad.add j) = some u) (h1 : ∀ u ∈ news, u.oneCell' = true)
    (hm : 0 < m) (h63 : n + m ≤ maxLen) (hbytes : (n + m) * bytes ≤ 140737488355328) (hbase : base ≤ w.heap.size)
    (h : ∀ g' c' w', w'.ownsRow base e size (.slice (some ⟨g', 0, none⟩) (n + m) c') (n + m) (xs ++ news) → w'.ownsRow base e size v n xs → w.grownBy w' v.ownBlock →
      (v.ownBlock = some g' ∨ w.heap.size ≤ g') → (∀ g j, v.ownBlock = some g → w'.cell? ⟨g, j, none⟩ = w.cell? ⟨g, j, none⟩ ∨ ∃ u, (xs ++ news)[j]? = some u ∧ w'.cell? ⟨g, j, none⟩ = some u) → wpList P ops Q rest (a.put o.dst (.slice (some ⟨g', 0, none⟩) (n + m) c')) w') :
    wpList P ops Q (o :: rest) a w := by
  refine wpList_plain hgd fun K hK => ?_
  obtain ⟨g', c', w', hr, h2, h3, h4, h5, h6⟩ := run_append_keeps (P := P) w t o.type base e i z size bytes ht hi hz hsize hby hzs hsz v n xs hown ad m c news hl hnews h1 hm h63 hbytes hbase
  unfold Oper.wp execOp
  simp only [ho, resolve, invoke, builtin, Sem.run_bind, Sem.run_pure, Result.andThen_ok, List.map_toArray, List.map_cons, List.map_nil, hs, hx, hr]
  exact hK _ _ (h g' c' w' h2 h3 h4 h5 h6)
end
end
theorem infoStrs : (Tryd.prog.info? 22).map (fun i => (i.zero, i.size, i.bytes)) = some (some (.slice none 0 0), 1, 24) := by kernel_rfl
/-- An own row of texts. -/
def Rs (B : Nat) (w : World) (v : Value) (xs : List Value) : Prop := w.ownsRow B 9 1 v xs.length xs
theorem Rs.up {B : Nat} {w w' : World} {v : Value} {xs : List Value} (h : Rs B w v xs) (hb : Below w.heap.size w w') : Rs B w' v xs := own_up h hb
theorem Rs.kept {B : Nat} {w w' : World} {v : Value} {xs : List Value} {row : Option Nat} (h : Rs B w v xs) (hg : w.grownBy w' row) (hne : v.ownBlock = none ∨ v.ownBlock ≠ row) : Rs B w' v xs := World.ownsRow.kept h hg hne
theorem Rs.low {B B' : Nat} {w : World} {v : Value} {xs : List Value} (h : Rs B w v xs) (hb : B' ≤ B) : Rs B' w v xs := own_low h hb
theorem Rs.form {B : Nat} {w : World} {v : Value} {xs : List Value} (h : Rs B w v xs) : ∃ a c, v = .slice a xs.length c := own_form h
theorem Rs.at' {B : Nat} {w : World} {v : Value} {xs : List Value} (h : Rs B w v xs) {i : Nat} {x : Value} (hx : xs[i]? = some x) : ∃ g c, v = .slice (some ⟨g, 0, none⟩) xs.length c ∧ w.cell? ⟨g, i, none⟩ = some x := by
  have hi : i < xs.length := (List.getElem?_eq_some_iff.1 hx).1
  obtain ⟨h1, ⟨rfl, h0⟩ | ⟨g, cap, cur, rfl, h2, h3⟩⟩ := id h
  · omega
  · have hc := World.ownsRow.cellAt h i (by omega)
    exact ⟨g, cap, rfl, hc.trans hx⟩
/-- Own rows of texts, apart, and the own row that holds them. -/
structure Al (B : Nat) (w : World) (v5 : Value) (zs : List (Value × List Value)) : Prop where
  row : w.ownsRow B 22 1 v5 zs.length (zs.map (·.1))
  each : ∀ z ∈ zs, Rs B w z.1 z.2 ∧ z.2.length ≤ 70000
  nd : ∀ (i j : Nat) (z y : Value × List Value), zs[i]? = some z → zs[j]? = some y → ∀ b, z.1.ownBlock = some b → y.1.ownBlock = some b → i = j
theorem row_ne {B B' n m : Nat} {w : World} {v5 v : Value} {xs ys : List Value} (h : w.ownsRow B 22 1 v5 n xs) (k : w.ownsRow B' 9 1 v m ys) : (v.ownBlock = none ∨ v.ownBlock ≠ v5.ownBlock) ∧ (v5.ownBlock = none ∨ v5.ownBlock ≠ v.ownBlock) := ⟨own_two h k (by decide), own_two k h (by decide)⟩
theorem Al.up {B : Nat} {w w' : World} {v5 : Value} {zs : List (Value × List Value)} (h : Al B w v5 zs) (hb : Below w.heap.size w w') : Al B w' v5 zs := ⟨own_up h.row hb, fun z hz => ⟨(h.each z hz).1.up hb, (h.each z hz).2⟩, h.nd⟩
theorem Al.form {B : Nat} {w : World} {v5 : Value} {zs : List (Value × List Value)} (h : Al B w v5 zs) : ∃ a c, v5 = .slice a zs.length c := own_form h.row
theorem Al.cell {B : Nat} {w : World} {v5 : Value} {zs : List (Value × List Value)} (h : Al B w v5 zs) {i : Nat} {z : Value × List Value} (hi : zs[i]? = some z) : ∃ g c, v5 = .slice (some ⟨g, 0, none⟩) zs.length c ∧ w.cell? ⟨g, i, none⟩ = some z.1 := by
  have hl : i < zs.length := (List.getElem?_eq_some_iff.1 hi).1
  obtain ⟨h1, ⟨rfl, h0⟩ | ⟨g, cap, cur, rfl, h2, h3⟩⟩ := id h.row
  · omega
  · have hc := World.ownsRow.cellAt h.row i (by omega)
    rw [List.getElem?_map, hi] at hc
    exact ⟨g, cap, rfl, hc⟩
theorem Al.lt {B : Nat} {w : World} {v5 : Value} {zs : List (Value × List Value)} (h : Al B w v5 zs) {z : Value × List Value} (hz : z ∈ zs) {b : Nat} (hb : z.1.ownBlock = some b) : B ≤ b ∧ b < w.heap.size := World.ownsRow.lt (h.each z hz).1 b hb
theorem Al.push {B : Nat} {w w' : World} {v v5 v5' : Value} {zs : List (Value × List Value)} {ks : List Value} {ob : Obj} (h : Al B w v5 zs) (hv : Rs B w v ks) (hl : ks.length ≤ 70000) (hn : ∀ z ∈ zs, ∀ b, z.1.ownBlock = some b → v.ownBlock ≠ some b)
    (hg : (w.alloc ob).grownBy w' v5.ownBlock) (ho : w'.ownsRow B 22 1 v5' (zs.length + 1) (zs.map (·.1) ++ [v])) : Al B w' v5' (zs ++ [(v, ks)]) := by
  have hgg : w.grownBy w' v5.ownBlock := (World.grownBy_alloc w ob _).trans hg
  have hall : ∀ z ∈ zs ++ [(v, ks)], Rs B w z.1 z.2 ∧ z.2.length ≤ 70000 := by
    intro z hz
    rcases List.mem_append.1 hz with hz | hz
    · exact h.each z hz
    · obtain rfl := List.mem_singleton.1 hz
      exact ⟨hv, hl⟩
  refine ⟨by simpa using ho, fun z hz => ⟨(hall z hz).1.kept hgg (row_ne h.row (hall z hz).1).1, (hall z hz).2⟩, fun i j z y hi hj b e1 e2 => ?_⟩
  by_cases h1 : i < zs.length
  · rw [List.getElem?_append_left h1] at hi
    by_cases h2 : j < zs.length
    · rw [List.getElem?_append_left h2] at hj
      exact h.nd i j z y hi hj b e1 e2
    · rw [List.getElem?_append_right (by omega)] at hj
      have hj1 : j - zs.length < 1 := (List.getElem?_eq_some_iff.1 hj).1
      obtain rfl : j = zs.length := by omega
      simp at hj
      subst hj
      exact absurd e2 (hn z (List.mem_of_getElem? hi) b e1)
  · rw [List.getElem?_append_right (by omega)] at hi
    have hi1 : i - zs.length < 1 := (List.getElem?_eq_some_iff.1 hi).1
    obtain rfl : i = zs.length := by omega
    simp at hi
    subst hi
    by_cases h2 : j < zs.length
    · rw [List.getElem?_append_left h2] at hj
      exact absurd e1 (hn y (List.mem_of_getElem? hj) b e2)
    · have hj1 : j < zs.length + 1 := by have := (List.getElem?_eq_some_iff.1 hj).1; simpa using this
      omega
theorem set_fst {i : Nat} {zs : List (Value × List Value)} {z : Value × List Value} {ks : List Value} (hi : zs[i]? = some z) : (zs.set i (z.1, ks)).map (·.1) = zs.map (·.1) := by
  have hil : i < zs.length := (List.getElem?_eq_some_iff.1 hi).1
  rw [List.map_set]
  refine List.ext_getElem? fun j => ?_
  rw [List.getElem?_set]
  split
  · next e =>
    subst e
    rw [if_pos (by simpa using hil), List.getElem?_map, hi]
    rfl
  · rfl
theorem Al.set {B i : Nat} {w w' : World} {v5 : Value} {zs : List (Value × List Value)} {z : Value × List Value} {ks : List Value} (h : Al B w v5 zs) (hi : zs[i]? = some z) (hg : w.grownBy w' z.1.ownBlock) (hr : Rs B w' z.1 ks) (hl : ks.length = z.2.length) : Al B w' v5 (zs.set i (z.1, ks)) := by
  have hil : i < zs.length := (List.getElem?_eq_some_iff.1 hi).1
  have hm : z ∈ zs := List.mem_of_getElem? hi
  have hat : ∀ (j : Nat) (y : Value × List Value), (zs.set i (z.1, ks))[j]? = some y → ∃ x : Value × List Value, zs[j]? = some x ∧ y.1 = x.1 := by
    intro j y hj
    rw [List.getElem?_set] at hj
    split at hj
    · next e =>
      subst e
      obtain rfl := Option.some.inj hj
      exact ⟨z, hi, rfl⟩
    · exact ⟨y, hj, rfl⟩
  refine ⟨?_, fun y hy => ?_, fun j k y x hj hk b e1 e2 => ?_⟩
  · rw [set_fst hi, List.length_set]
    exact World.ownsRow.kept h.row hg (row_ne h.row (h.each z hm).1).2
  · obtain ⟨j, hj⟩ := List.mem_iff_getElem?.1 hy
    rw [List.getElem?_set] at hj
    split at hj
    · next e =>
      subst e
      obtain rfl := Option.some.inj hj
      exact ⟨hr, by have := (h.each z hm).2; simp only; omega⟩
    · next e =>
      have hy' := List.mem_of_getElem? hj
      refine ⟨(h.each y hy').1.kept hg ?_, (h.each y hy').2⟩
      cases hb : y.1.ownBlock with
      | none => exact .inl rfl
      | some b => exact .inr fun q => e (h.nd i j z y hi hj b q.symm hb)
  · obtain ⟨y', h1, h2⟩ := hat j y hj
    obtain ⟨x', h3, h4⟩ := hat k x hk
    exact h.nd j k y' x' h1 h3 b (by rw [← h2]; exact e1) (by rw [← h4]; exact e2)
theorem Al.same {B i : Nat} {w w' : World} {v5 : Value} {zs : List (Value × List Value)} {z : Value × List Value} (h : Al B w v5 zs) (hi : zs[i]? = some z) (hg : w.grownBy w' z.1.ownBlock) (hr : Rs B w' z.1 z.2) : Al B w' v5 zs := by
  have := h.set hi hg hr rfl
  have e : zs.set i (z.1, z.2) = zs := by
    refine List.ext_getElem? fun j => ?_
    rw [List.getElem?_set]
    split
    · next e =>
      subst e
      rw [if_pos (List.getElem?_eq_some_iff.1 hi).1, hi]
    · rfl
  rwa [e] at this
/-- A block that is of none of them has changed. -/
theorem Al.far {B : Nat} {w w' : World} {v5 : Value} {zs : List (Value × List Value)} {row : Option Nat} (h : Al B w v5 zs) (hg : w.grownBy w' row) (h5 : v5.ownBlock = none ∨ v5.ownBlock ≠ row) (hz : ∀ z ∈ zs, z.1.ownBlock = none ∨ z.1.ownBlock ≠ row) : Al B w' v5 zs :=
  ⟨World.ownsRow.kept h.row hg h5, fun z hm => ⟨(h.each z hm).1.kept hg (hz z hm), (h.each z hm).2⟩, h.nd⟩
/-- The front of a row that lies in the same block. -/
theorem row_front {B : Nat} {w w' : World} {v u : Value} {xs ys : List Value} (h1 : Rs B w v xs) (h2 : Rs B w u (xs ++ ys)) (h3 : Rs B w' u (xs ++ ys)) (e : u.ownBlock = v.ownBlock) : Rs B w' v xs := by
  obtain ⟨p1, ⟨rfl, h0⟩ | ⟨g, c, cur1, rfl, r1, r2, r3, r4, r5, r6⟩⟩ := h1
  · exact ⟨p1, .inl ⟨rfl, h0⟩⟩
  · obtain ⟨p2, ⟨rfl, h0⟩ | ⟨g2, c2, cur2, rfl, s1, s2, s3, s4, s5, s6⟩⟩ := h2
    · cases e
    · obtain ⟨p3, ⟨q, h0⟩ | ⟨g3, c3, cur3, q, t1, t2, t3, t4, t5, t6⟩⟩ := h3
      · cases q
      · cases q
        obtain rfl : g2 = g := by simpa [Value.ownBlock] using e
        rw [r2] at s2
        simp only [Option.some.injEq, Obj.cells.injEq] at s2
        obtain ⟨rfl, _⟩ := s2
        obtain rfl : c = c2 := by omega
        refine ⟨p1, .inr ⟨g2, c, cur3, rfl, r1, t2, r3, r4, t5, ?_⟩⟩
        have := congrArg (List.take xs.length) t6
        rw [List.take_take, Nat.min_eq_left (by rw [List.length_append]; omega), List.take_left] at this
        rw [Nat.mul_one]
        exact this
theorem grown_two {W w w' : World} {r1 r2 : Option Nat} (h : W.grownBy w r1) (k : w.grownBy w' r2) (hr : r2 = none ∨ r2 = r1 ∨ ∃ b, r2 = some b ∧ W.heap.size ≤ b) : W.grownBy w' r1 :=
  ⟨k.os.trans h.os, k.tape.trans h.tape, k.output.trans h.output, Nat.le_trans h.size k.size, fun i hi hne => (k.block i (Nat.lt_of_lt_of_le hi h.size) (fun e => by
    rcases hr with q | q | ⟨b, q, q2⟩
    · rw [q] at e; cases e
    · exact hne (e.trans q)
    · rw [q] at e
      simp at e
      omega)).trans (h.block i hi hne)⟩
theorem grown_below {W w w' : World} {r : Option Nat} (h : W.grownBy w r) (k : Below w.heap.size w w') : W.grownBy w' r :=
  ⟨k.os.trans h.os, k.tape.trans h.tape, k.output.trans h.output, Nat.le_trans h.size k.size, fun i hi hne => (k.block i (Nat.lt_of_lt_of_le hi h.size)).trans (h.block i hi hne)⟩
/-- The row that grows, beside the one that it began as. -/
structure Gr (W : World) (B : Nat) (yv : Value) (ks ls : List Value) (w : World) (gv : Value) : Prop where
  long : Rs B w gv (ks ++ ls)
  old : Rs B w yv ks
  own : gv.ownBlock = yv.ownBlock ∨ ∃ b, gv.ownBlock = some b ∧ W.heap.size ≤ b
  grown : W.grownBy w yv.ownBlock
theorem Gr.start {W : World} {B : Nat} {yv : Value} {ks : List Value} (h : Rs B W yv ks) : Gr W B yv ks [] W yv := ⟨by rw [List.append_nil]; exact h, h, .inl rfl, World.grownBy.refl _ _⟩
theorem Gr.up {W w w' : World} {B : Nat} {yv gv : Value} {ks ls : List Value} (h : Gr W B yv ks ls w gv) (hb : Below w.heap.size w w') : Gr W B yv ks ls w' gv := ⟨h.long.up hb, h.old.up hb, h.own, grown_below h.grown hb⟩
theorem Gr.step {W w w' : World} {B g' c' n : Nat} {yv gv u : Value} {ks ls : List Value} (h : Gr W B yv ks ls w gv) (hyv : ∀ b, yv.ownBlock = some b → b < W.heap.size) (hn : n = ks.length + ls.length)
    (o1 : w'.ownsRow B 9 1 (.slice (some ⟨g', 0, none⟩) (n + 1) c') (n + 1) (ks ++ ls ++ [u])) (o2 : w'.ownsRow B 9 1 gv n (ks ++ ls)) (o3 : w.grownBy w' gv.ownBlock) (o4 : gv.ownBlock = some g' ∨ w.heap.size ≤ g') : Gr W B yv ks (ls ++ [u]) w' (.slice (some ⟨g', 0, none⟩) (n + 1) c') := by
  have e2 : Rs B w' gv (ks ++ ls) := by unfold Rs; rw [List.length_append, ← hn]; exact o2
  refine ⟨?_, ?_, ?_, ?_⟩
  · unfold Rs
    rw [← List.append_assoc, List.length_append, List.length_append, ← hn]
    exact o1
  · rcases h.own with q | ⟨b, q, hb⟩
    · exact row_front h.old h.long e2 q
    · refine h.old.kept o3 ?_
      cases hy : yv.ownBlock with
      | none => exact .inl rfl
      | some b' => exact .inr fun e => by have := hyv b' hy; rw [q] at e; have := Option.some.inj e; omega
  · rcases o4 with q | q
    · rcases h.own with p | p
      · exact .inl (by rw [← p, q]; rfl)
      · exact .inr ⟨g', rfl, by obtain ⟨b, p, hb⟩ := p; rw [q] at p; have := Option.some.inj p; omega⟩
    · exact .inr ⟨g', rfl, Nat.le_trans h.grown.size q⟩
  · refine grown_two h.grown o3 ?_
    rcases h.own with p | p
    · exact .inr (.inl p)
    · exact .inr (.inr p)
def moreV (i : Nat) : Value := .string (⟨#[109, 111, 114, 101, 32]⟩ ++ mkS i)
def keptV (i : Nat) : Value := .string (⟨#[107, 101, 112, 116, 32]⟩ ++ mkS i)
def moreL (i k : Nat) : List Value := List.replicate k (moreV i)
theorem moreL_succ (i k : Nat) : moreL i (k + 1) = moreL i k ++ [moreV i] := List.replicate_succ'
/-- The longer lists, and the own row that holds them. -/
structure Mz (B : Nat) (w : World) (v5 v6 : Value) (ys : List (Value × List Value)) (ms : List Value) : Prop where
  row : w.ownsRow B 22 1 v6 ms.length ms
  each : ∀ (j : Nat) (m : Value) (y : Value × List Value), ms[j]? = some m → ys[j]? = some y → Rs B w m (y.2 ++ moreL j 71)
  sep : ∀ (j : Nat) (m : Value), ms[j]? = some m → ∀ b, m.ownBlock = some b → b < w.heap.size ∧ ∀ (j' : Nat) (y : Value × List Value), ys[j']? = some y → y.1.ownBlock = some b → j' = j
  ne : ∀ b, v6.ownBlock = some b → v5.ownBlock ≠ some b
  le : ms.length ≤ ys.length
theorem Mz.start {B : Nat} {w : World} {v5 : Value} {ys : List (Value × List Value)} : Mz B w v5 (.slice none 0 0) ys [] := ⟨World.ownsRow_nil _ _ _ _, fun j m y h => by simp at h, fun j m h => by simp at h, fun b e => (by cases e), Nat.zero_le _⟩
theorem Mz.form {B : Nat} {w : World} {v5 v6 : Value} {ys : List (Value × List Value)} {ms : List Value} (h : Mz B w v5 v6 ys ms) : ∃ a c, v6 = .slice a ms.length c := own_form h.row
theorem Mz.up {B : Nat} {w w' : World} {v5 v6 : Value} {ys : List (Value × List Value)} {ms : List Value} (h : Mz B w v5 v6 ys ms) (hb : Below w.heap.size w w') : Mz B w' v5 v6 ys ms := ⟨own_up h.row hb, fun j m y h1 h2 => (h.each j m y h1 h2).up hb, fun j m hj b e => ⟨Nat.lt_of_lt_of_le (h.sep j m hj b e).1 hb.size, (h.sep j m hj b e).2⟩, h.ne, h.le⟩
theorem Mz.far {B i : Nat} {W w : World} {v5 v6 gv : Value} {ys : List (Value × List Value)} {ms ks ls : List Value} {y : Value × List Value} (h : Mz B W v5 v6 ys ms) (hy : ys[i]? = some y) (hml : ms.length = i) (hr : Rs B W y.1 ks) (hG : Gr W B y.1 ks ls w gv) : Mz B w v5 v6 ys ms := by
  refine ⟨World.ownsRow.kept h.row hG.grown (row_ne h.row hr).2, fun j m y' h1 h2 => (h.each j m y' h1 h2).kept hG.grown ?_, fun j m hj b e => ⟨Nat.lt_of_lt_of_le (h.sep j m hj b e).1 hG.grown.size, (h.sep j m hj b e).2⟩, h.ne, h.le⟩
  cases hb : m.ownBlock with
  | none => exact .inl rfl
  | some b =>
    refine .inr fun q => ?_
    have h3 := (h.sep j m h1 b hb).2 i y hy q.symm
    have h4 := (List.getElem?_eq_some_iff.1 h1).1
    omega
theorem Mz.push {B i : Nat} {W w w' : World} {v5 v6 v6' gv : Value} {ys : List (Value × List Value)} {ms : List Value} {y : Value × List Value} {ob : Obj} (h : Mz B W v5 v6 ys ms) (hA : Al B W v5 ys) (hy : ys[i]? = some y) (hml : ms.length = i) (hG : Gr W B y.1 y.2 (moreL i 71) w gv)
    (hg : (w.alloc ob).grownBy w' v6.ownBlock) (ho : w'.ownsRow B 22 1 v6' (ms.length + 1) (ms ++ [gv])) (hat : v6'.ownBlock = v6.ownBlock ∨ v6'.ownBlock = some (w.alloc ob).heap.size) : Mz B w' v5 v6' ys (ms ++ [gv]) ∧ Al B w' v5 ys := by
  have hgg : w.grownBy w' v6.ownBlock := (World.grownBy_alloc w ob _).trans hg
  have hM := h.far hy hml (hA.each y (List.mem_of_getElem? hy)).1 hG
  have hA2 : Al B w v5 ys := hA.same hy hG.grown hG.old
  have hil : i < ys.length := (List.getElem?_eq_some_iff.1 hy).1
  have h5 : v5.ownBlock = none ∨ v5.ownBlock ≠ v6.ownBlock := by
    cases hb : v5.ownBlock with
    | none => exact .inl rfl
    | some b => exact .inr fun q => h.ne b q.symm hb
  have hall : ∀ (j : Nat) (m : Value), (ms ++ [gv])[j]? = some m → (ms[j]? = some m ∧ j < ms.length) ∨ (j = i ∧ m = gv) := by
    intro j m hj
    by_cases hl : j < ms.length
    · rw [List.getElem?_append_left hl] at hj
      exact .inl ⟨hj, hl⟩
    · have hj1 : j < ms.length + 1 := by have := (List.getElem?_eq_some_iff.1 hj).1; simpa using this
      obtain rfl : j = ms.length := by omega
      rw [List.getElem?_append_right (Nat.le_refl _)] at hj
      simp at hj
      exact .inr ⟨by omega, hj.symm⟩
  refine ⟨⟨by simpa using ho, fun j m y' hj hy' => ?_, fun j m hj b e => ?_, fun b e => ?_, by rw [List.length_append]; simp; omega⟩, hA2.far hgg h5 (fun z hz => (row_ne hM.row (hA2.each z hz).1).1)⟩
  · rcases hall j m hj with ⟨hj, _⟩ | ⟨rfl, rfl⟩
    · exact (hM.each j m y' hj hy').kept hgg (row_ne hM.row (hM.each j m y' hj hy')).1
    · obtain rfl : y = y' := Option.some.inj (hy.symm.trans hy')
      exact hG.long.kept hgg (row_ne hM.row hG.long).1
  · rcases hall j m hj with ⟨hj, _⟩ | ⟨rfl, rfl⟩
    · exact ⟨Nat.lt_of_lt_of_le (hM.sep j m hj b e).1 hgg.size, (hM.sep j m hj b e).2⟩
    · refine ⟨Nat.lt_of_lt_of_le (World.ownsRow.lt hG.long b e).2 hgg.size, fun j' y' hy' e' => ?_⟩
      rcases hG.own with q | ⟨b', q, hb⟩
      · exact hA.nd j' j y' y hy' hy b e' (by rw [← q]; exact e)
      · have h1 := (hA.lt (List.mem_of_getElem? hy') e').2
        rw [q] at e
        have := Option.some.inj e
        omega
  · rcases hat with q | q
    · exact h.ne b (by rw [← q]; exact e)
    · intro e5
      have h1 := (World.ownsRow.lt hA2.row b e5).2
      rw [q, World.size_alloc] at e
      have := Option.some.inj e
      omega
end Go.Proofs.YtadmamfekodkaaaDoor
