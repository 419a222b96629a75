import Derived.Test.YtoojchjfmnbdpabDoorDVb
import Derived.Maps.AppendAt
namespace Go.Proofs.YtoojchjfmnbdpabDoor
open Go.RowKit

theorem ownsRow_cell {B n c ga : Nat} {e : TypeId} {W : World} {xs : List Value} (h : W.ownsRow B e 1 (.slice (some ⟨ga, 0, none⟩) n c) n xs) {j : Nat} {x : Value} (hj : xs[j]? = some x) : W.cell? ⟨ga, j, none⟩ = some x := by
  obtain ⟨_, ⟨q, _⟩ | ⟨g, cap, cur, e1, _, hg, _, _, _, ht⟩⟩ := h
  · cases q
  · injection e1 with e1 _ _
    injection e1 with e1
    injection e1 with e1
    subst e1
    rw [cell_of_row _ _ _ _ _ _ hg, ← Array.getElem?_toList]
    rw [← ht, List.getElem?_take] at hj
    split at hj
    · exact hj
    · cases hj
theorem ST.cellA {B n c ga : Nat} {W : World} {vh : Value} {hs : List Nat} {Hs : List (List Nat)} {us : List Value} {Ls : List (List Nat)} (h : ST B W (.slice (some ⟨ga, 0, none⟩) n c) vh hs Hs us Ls) (hn : n = hs.length) {j g : Nat} (hj : hs[j]? = some g) : W.cell? ⟨ga, j, none⟩ = some (.pointer (some ⟨g, 0, none⟩)) := by
  subst hn
  exact ownsRow_cell h.rowA (by rw [List.getElem?_map, hj]; rfl)
theorem ST.cellH {B n c gh : Nat} {W : World} {va : Value} {hs : List Nat} {Hs : List (List Nat)} {us : List Value} {Ls : List (List Nat)} (h : ST B W va (.slice (some ⟨gh, 0, none⟩) n c) hs Hs us Ls) (hn : n = hs.length) {j : Nat} {u : Value} (hj : us[j]? = some u) : W.cell? ⟨gh, j, none⟩ = some u := by
  have := h.rowH
  rw [h.lenU, ← hn] at this
  exact ownsRow_cell this hj
/-- A row of bytes that may be written. -/
def RowAt (W : World) (g n : Nat) : Prop := ∃ cur : Array Value, W.heap[g]? = some (.cells cur 5 (0, 0)) ∧ n ≤ cur.size
theorem RowAt.set {W : World} {g n : Nat} (h : RowAt W g n) (i : Nat) (v : Value) : RowAt (W.setCell ⟨g, i, none⟩ v) g n := by
  obtain ⟨cur, h1, h2⟩ := h
  exact ⟨cur.setIfInBounds i v, heap_setCell_same _ g i _ _ _ h1, by rw [Array.size_setIfInBounds]; exact h2⟩
theorem RowAt.frozen {W : World} {g n : Nat} (h : RowAt W g n) (i : Nat) : W.frozen? ⟨g, i, none⟩ = false := by
  obtain ⟨cur, h1, _⟩ := h
  exact row_frozen i h1
theorem RowAt.cell {W : World} {g n : Nat} (h : RowAt W g n) {i : Nat} (hi : i < n) : ∃ z, W.cell? ⟨g, i, none⟩ = some z := by
  obtain ⟨cur, h1, h2⟩ := h
  exact ⟨cur[i], by rw [cell_of_row _ _ _ _ _ _ h1]; exact Array.getElem?_eq_getElem (by omega)⟩
theorem RowAt.up {W w : World} {g n : Nat} (h : RowAt W g n) (hb : w.heap[g]? = W.heap[g]?) : RowAt w g n := by
  obtain ⟨cur, h1, h2⟩ := h
  exact ⟨cur, hb.trans h1, h2⟩
theorem Room.rowAt {W : World} {g : Nat} {l : List Nat} (h : Room W g l) : RowAt W g l.length := ⟨_, h, by simp⟩
theorem Bytes.rowAt {B : Nat} {W : World} {v : Value} {l : List Nat} (h : Bytes B W v l) (hp : 0 < l.length) : ∃ g c, v = .slice (some ⟨g, 0, none⟩) l.length c ∧ B ≤ g ∧ g < W.heap.size ∧ c ≤ 9223372036854775807 ∧ RowAt W g l.length := by
  have hlt := h.lt
  obtain ⟨_, ⟨_, h0⟩ | ⟨g, c, cur, rfl, h2, h3, h4, h5, h6, _⟩⟩ := h
  · omega
  · exact ⟨g, c, rfl, h2, (hlt g rfl).2, by unfold maxLen at h5; omega, cur, h3, by omega⟩
/-- Bytes appended to one's own, at a step of a drawn region. -/
theorem step_app_bytes {w : World} {ops : Array Oper} {o : Oper} {a : Act} {K : Act → World → Prop} {Q : Exit → Act → World → Prop} {E : Prop} (hgd : o.guard = none) (s x : Operand)
    (ho : o.op = .call { callee := .builtin .append, args := #[s, x], argTypes := #[28, 28] }) (base : Nat)
    (v : Value) (k : List Nat) (hs : a.eval s = v) (hown : Bytes base w v k) (u : Value) (l : List Nat) (hx : a.eval x = u) (hu : HasB w u l) (hn : k.length + l.length ≤ 140737488355328) (hbase : base ≤ w.heap.size)
    (h : ∀ v' w', Bytes base w' v' (k ++ l) → w.grownBy w' v.ownBlock → (v'.ownBlock = v.ownBlock ∨ v'.ownBlock = some w.heap.size) → K (a.put o.dst v') w') : if Region.wanted o (yielded ops a.tmps) = true then Oper.wp Tryd.prog o a w K Q else E := by
  have hw : Region.wanted o (yielded ops a.tmps) = true := by simp [Region.wanted, hgd]
  rw [if_pos hw]
  have key : ∃ v' w', (Builtin.append_ #[28, 28] o.type #[v, u]).run Tryd.prog w = .ok v' w' ∧ Bytes base w' v' (k ++ l) ∧ w.grownBy w' v.ownBlock ∧ (v'.ownBlock = v.ownBlock ∨ v'.ownBlock = some w.heap.size) := by
    obtain ⟨i0, hi, hz0, hz1, hz2⟩ := info_parts Tryd.infoByte
    obtain ⟨ua, uc, rfl, hm, h3⟩ := hu
    cases ua with
    | none =>
      have hc := hm.2.2 rfl
      have hl0 : l.length = 0 := by omega
      obtain rfl : l = [] := List.eq_nil_of_length_eq_zero hl0
      subst hc
      refine ⟨v, w, run_append_owned_none (P := Tryd.prog) (w := w) base 28 o.type 5 i0 1 Tryd.underlying28 hi v k.length (nb k) hown, ?_, ⟨rfl, rfl, rfl, Nat.le_refl _, fun _ _ _ => rfl⟩, .inl rfl⟩
      rw [List.append_nil]
      exact hown
    | some ad =>
      have hn2 : k.length + l.length ≤ maxLen := by unfold maxLen; omega
      obtain ⟨v', w', hr, h2, h3', _, h5⟩ := run_append_own_at (P := Tryd.prog) w base 28 o.type 5 i0 (.int .u8 0) 1 1 Tryd.underlying28 hi hz0 hz1 hz2 rfl (by decide) v k.length (nb k) hown ad l.length uc (nb l) (by rw [nb_len, Nat.mul_one]) (fun j y hj => by
        rw [nb_at] at hj
        obtain ⟨b, hb, rfl⟩ := Option.map_eq_some_iff.1 hj
        obtain ⟨g, off, e, hg, hc⟩ := h3 (by have := (List.getElem?_eq_some_iff.1 hb).1; omega)
        injection e with e
        subst e
        rw [Go.WideShapes.add_plain]
        exact hc j b hb) (nb_one l) hn2 (by omega) hbase
      refine ⟨v', w', hr, ?_, h3', h5⟩
      unfold Bytes
      rw [nb_append, List.length_append]
      exact h2
  obtain ⟨v', w', hr, h1, h2, h3⟩ := key
  unfold Oper.wp execOp
  simp only [ho, resolve, invoke, builtin, Sem.run_bind, Sem.run_pure, Result.andThen_ok, List.map_toArray, List.map_cons, List.map_nil, hs, hx, hr]
  exact h v' w' h1 h2 h3
end Go.Proofs.YtoojchjfmnbdpabDoor
