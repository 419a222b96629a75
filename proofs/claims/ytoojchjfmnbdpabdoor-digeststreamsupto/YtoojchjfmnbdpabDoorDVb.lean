import Derived.Test.YtoojchjfmnbdpabDoorDVa
import Derived.Test.YtoojchjfmnbdpabDoorDGJ
import Derived.Test.YtoojchjfmnbdpabDoorDSk
import Derived.Test.YtoojchjfmnbdpabDoorDTb
import Derived.Laws.AppendOwnNone
namespace Go.Proofs.YtoojchjfmnbdpabDoor
open Go.RowKit

def ptrH (h : Nat) : Value := .pointer (some ⟨h, 0, none⟩)
/-- Bytes that can be read, appended to bytes of one's own. -/
theorem wpList_app_bytes {w : World} {ops : Array Oper} {rest : List Oper} {o : Oper} {a : Act} {Q : Exit → Act → World → Prop} (hgd : o.guard = none) (s x : Operand)
    (ho : o.op = .call { callee := .builtin .append, args := #[s, x], argTypes := #[28, 28] }) (base : Nat)
    (v : Value) (k : List Nat) (hs : a.eval s = v) (hown : Bytes base w v k) (u : Value) (l : List Nat) (hx : a.eval x = u) (hu : HasB w u l) (hn : k.length + l.length ≤ 140737488355328) (hbase : base ≤ w.heap.size)
    (h : ∀ v' w', Bytes base w' v' (k ++ l) → w.grownBy w' v.ownBlock → (v'.ownBlock = v.ownBlock ∨ v'.ownBlock = some w.heap.size) → wpList Tryd.prog ops Q rest (a.put o.dst v') w') : wpList Tryd.prog ops Q (o :: rest) a w := by
  obtain ⟨i0, hi, hz0, hz1, hz2⟩ := info_parts Tryd.infoByte
  obtain ⟨ua, uc, rfl, hm, h3⟩ := hu
  cases ua with
  | none =>
    have hc := hm.2.2 rfl
    have hl0 : l.length = 0 := by omega
    obtain rfl : l = [] := List.eq_nil_of_length_eq_zero hl0
    subst hc
    refine wpList_append_own_none hgd s x 28 ho base 5 i0 1 Tryd.underlying28 hi v k.length (nb k) hs hown hx (h v w ?_ ⟨rfl, rfl, rfl, Nat.le_refl _, fun _ _ _ => rfl⟩ (.inl rfl))
    rw [List.append_nil]
    exact hown
  | some ad =>
    have hn2 : k.length + l.length ≤ maxLen := by unfold maxLen; omega
    refine wpList_append_own_at w hgd s x 28 ho base 5 i0 (.int .u8 0) 1 1 Tryd.underlying28 hi hz0 hz1 hz2 rfl (by decide) v k.length (nb k) hs hown ad l.length uc (nb l) hx (by rw [nb_len, Nat.mul_one]) (fun j y hj => ?_) (nb_one l) hn2 (by omega) hbase (fun v' w' hr hg _ hat => ?_)
    · rw [nb_at] at hj
      obtain ⟨b, hb, rfl⟩ := Option.map_eq_some_iff.1 hj
      obtain ⟨g, off, e, hg, hc⟩ := h3 (by have := (List.getElem?_eq_some_iff.1 hb).1; omega)
      injection e with e
      subst e
      rw [Go.WideShapes.add_plain]
      exact hc j b hb
    · refine h v' w' ?_ hg hat
      unfold Bytes
      rw [nb_append, List.length_append]
      exact hr
theorem ownsRow_keep {B n size : Nat} {e : TypeId} {v : Value} {xs : List Value} {W w : World} (h : W.ownsRow B e size v n xs) (hb : ∀ b, v.ownBlock = some b → w.heap[b]? = W.heap[b]?) : w.ownsRow B e size v n xs := by
  obtain ⟨h1, h2 | ⟨g, c, cur, rfl, h3, h4, h5⟩⟩ := h
  · exact ⟨h1, .inl h2⟩
  · exact ⟨h1, .inr ⟨g, c, cur, rfl, h3, (hb g rfl).trans h4, h5⟩⟩
theorem HashAt.keep {W w : World} {h : Nat} {L : List Nat} (hH : HashAt W h L) (hb : w.heap[h]? = W.heap[h]?) : HashAt w h L := by
  obtain ⟨r, h1, h2, h3, h4⟩ := hH
  exact ⟨r, h1, h2, h3, hb.trans h4⟩
/-- Hashes beside one another, each with what it holds, and lists beside them, all in blocks of their own. -/
structure ST (B : Nat) (W : World) (va vh : Value) (hs : List Nat) (Hs : List (List Nat)) (us : List Value) (Ls : List (List Nat)) : Prop where
  rowA : W.ownsRow B 24 1 va hs.length (hs.map ptrH)
  rowH : W.ownsRow B 28 1 vh us.length us
  lenH : Hs.length = hs.length
  lenU : us.length = hs.length
  lenL : Ls.length = hs.length
  hash : ∀ (j h : Nat) (L : List Nat), hs[j]? = some h → Hs[j]? = some L → HashAt W h L
  list : ∀ (j : Nat) (u : Value) (L : List Nat), us[j]? = some u → Ls[j]? = some L → Bytes B W u L
  nodup : hs.Nodup
  ge : ∀ h ∈ hs, B ≤ h
  ha : ∀ h ∈ hs, some h ≠ va.ownBlock ∧ some h ≠ vh.ownBlock
  ua : ∀ u ∈ us, ∀ b, u.ownBlock = some b → b ∉ hs ∧ some b ≠ va.ownBlock ∧ some b ≠ vh.ownBlock
  uu : ∀ (i j : Nat) (u u' : Value) (b : Nat), us[i]? = some u → us[j]? = some u' → u.ownBlock = some b → u'.ownBlock = some b → i = j
  vv : ∀ b, va.ownBlock = some b → vh.ownBlock ≠ some b
theorem ST.hashLt {B : Nat} {W : World} {va vh : Value} {hs : List Nat} {Hs : List (List Nat)} {us : List Value} {Ls : List (List Nat)} (h : ST B W va vh hs Hs us Ls) {j g : Nat} (hj : hs[j]? = some g) : g < W.heap.size := by
  have hjl := (List.getElem?_eq_some_iff.1 hj).1
  obtain ⟨L, hL⟩ : ∃ L, Hs[j]? = some L := ⟨_, List.getElem?_eq_getElem (by rw [h.lenH]; exact hjl)⟩
  exact (h.hash j g L hj hL).lt
theorem ST.listGet {B : Nat} {W : World} {va vh : Value} {hs : List Nat} {Hs : List (List Nat)} {us : List Value} {Ls : List (List Nat)} (h : ST B W va vh hs Hs us Ls) {u : Value} (hu : u ∈ us) : ∃ L, Bytes B W u L := by
  obtain ⟨j, hj⟩ := List.getElem?_of_mem hu
  have hjl := (List.getElem?_eq_some_iff.1 hj).1
  obtain ⟨L, hL⟩ : ∃ L, Ls[j]? = some L := ⟨_, List.getElem?_eq_getElem (by rw [h.lenL, ← h.lenU]; exact hjl)⟩
  exact ⟨L, h.list j u L hj hL⟩
theorem ST.keep {B : Nat} {W w : World} {va vh : Value} {hs : List Nat} {Hs : List (List Nat)} {us : List Value} {Ls : List (List Nat)} (h : ST B W va vh hs Hs us Ls) (hb : ∀ b, B ≤ b → b < W.heap.size → w.heap[b]? = W.heap[b]?) : ST B w va vh hs Hs us Ls where
  rowA := ownsRow_keep h.rowA fun b e => hb b (h.rowA.lt b e).1 (h.rowA.lt b e).2
  rowH := ownsRow_keep h.rowH fun b e => hb b (h.rowH.lt b e).1 (h.rowH.lt b e).2
  lenH := h.lenH
  lenU := h.lenU
  lenL := h.lenL
  hash := fun j g L hj hL => (h.hash j g L hj hL).keep (hb g (h.ge g (List.mem_of_getElem? hj)) (h.hashLt hj))
  list := fun j u L hj hL => ownsRow_keep (h.list j u L hj hL) fun b e => hb b ((h.list j u L hj hL).lt b e).1 ((h.list j u L hj hL).lt b e).2
  nodup := h.nodup
  ge := h.ge
  ha := h.ha
  ua := h.ua
  uu := h.uu
  vv := h.vv
theorem ST.up {B : Nat} {W w : World} {va vh : Value} {hs : List Nat} {Hs : List (List Nat)} {us : List Value} {Ls : List (List Nat)} (h : ST B W va vh hs Hs us Ls) (hb : Below W.heap.size W w) : ST B w va vh hs Hs us Ls := h.keep fun b _ hlt => hb.block b hlt
/-- One hash has become another. -/
theorem ST.hashSet {B : Nat} {W w : World} {va vh : Value} {hs : List Nat} {Hs : List (List Nat)} {us : List Value} {Ls : List (List Nat)} (h : ST B W va vh hs Hs us Ls) {j g : Nat} {L' : List Nat} (hj : hs[j]? = some g) (hfar : ∀ b, b < W.heap.size → b ≠ g → w.heap[b]? = W.heap[b]?) (hH : HashAt w g L') : ST B w va vh hs (Hs.set j L') us Ls where
  rowA := ownsRow_keep h.rowA fun b e => hfar b (h.rowA.lt b e).2 (fun q => (h.ha g (List.mem_of_getElem? hj)).1 (by rw [← q]; exact e.symm))
  rowH := ownsRow_keep h.rowH fun b e => hfar b (h.rowH.lt b e).2 (fun q => (h.ha g (List.mem_of_getElem? hj)).2 (by rw [← q]; exact e.symm))
  lenH := by rw [List.length_set]; exact h.lenH
  lenU := h.lenU
  lenL := h.lenL
  hash := fun i k L hi hL => by
    rw [List.getElem?_set] at hL
    by_cases e : j = i
    · subst e
      rw [hj] at hi
      obtain rfl := Option.some.inj hi
      rw [if_pos rfl, if_pos (by rw [h.lenH]; exact (List.getElem?_eq_some_iff.1 hj).1)] at hL
      obtain rfl := Option.some.inj hL
      exact hH
    · rw [if_neg e] at hL
      refine (h.hash i k L hi hL).keep (hfar k (h.hashLt hi) fun q => ?_)
      subst q
      obtain ⟨h1, h2⟩ := List.getElem?_eq_some_iff.1 hj
      obtain ⟨h3, h4⟩ := List.getElem?_eq_some_iff.1 hi
      exact e ((List.getElem_inj h.nodup).1 (h2.trans h4.symm))
  list := fun i u L hi hL => ownsRow_keep (h.list i u L hi hL) fun b e => hfar b ((h.list i u L hi hL).lt b e).2 (fun q => (h.ua u (List.mem_of_getElem? hi) b e).1 (by rw [q]; exact List.mem_of_getElem? hj))
  nodup := h.nodup
  ge := h.ge
  ha := h.ha
  ua := h.ua
  uu := h.uu
  vv := h.vv
/-- One list has grown, and its place in the row is written. -/
theorem ST.listSet {B gv c n : Nat} {W w1 : World} {va : Value} {hs : List Nat} {Hs : List (List Nat)} {us : List Value} {Ls : List (List Nat)} (h : ST B W va (.slice (some ⟨gv, 0, none⟩) n c) hs Hs us Ls) (hn : n = us.length) {j : Nat} {u u' : Value} {M : List Nat} (hu : us[j]? = some u) (hB : Bytes B w1 u' M) (hg : W.grownBy w1 u.ownBlock) (hat : u'.ownBlock = u.ownBlock ∨ u'.ownBlock = some W.heap.size) :
    ST B (w1.setCell ⟨gv, j, none⟩ u') va (.slice (some ⟨gv, 0, none⟩) n c) hs Hs (us.set j u') (Ls.set j M) := by
  subst hn
  have hum := List.mem_of_getElem? hu
  have hjl := (List.getElem?_eq_some_iff.1 hu).1
  have hvl := h.rowH.lt gv rfl
  have hun : ∀ b, u.ownBlock = some b → b ≠ gv := fun b e q => (h.ua u hum b e).2.2 (by rw [q]; rfl)
  have hu'n : ∀ b, u'.ownBlock = some b → b ≠ gv := fun b e q => by
    rcases hat with e2 | e2
    · exact hun b (e2 ▸ e) q
    · rw [e2] at e
      have := Option.some.inj e
      omega
  -- blocks other than gv and u's lie as they lay
  have hst : ∀ b, b < W.heap.size → b ≠ gv → some b ≠ u.ownBlock → (w1.setCell ⟨gv, j, none⟩ u').heap[b]? = W.heap[b]? := fun b hb n1 n2 => (heap_setCell_other w1 ⟨gv, j, none⟩ b u' (by simpa using n1)).trans (hg.block b hb n2)
  have hgv : w1.heap[gv]? = W.heap[gv]? := hg.block gv hvl.2 (fun e => hun gv e.symm rfl)
  have hnew : ∀ b, u'.ownBlock = some b → b ∉ hs ∧ some b ≠ va.ownBlock := fun b e => by
    rcases hat with e2 | e2
    · obtain ⟨q1, q2, _⟩ := h.ua u hum b (e2 ▸ e)
      exact ⟨q1, q2⟩
    · rw [e2] at e
      obtain rfl := Option.some.inj e
      refine ⟨fun q => ?_, fun q => ?_⟩
      · obtain ⟨i, hi⟩ := List.getElem?_of_mem q
        have := h.hashLt hi
        omega
      · have := (h.rowA.lt _ q.symm).2
        omega
  have hother : ∀ (i : Nat) (z : Value), us[i]? = some z → i ≠ j → ∀ b, z.ownBlock = some b → b < W.heap.size ∧ b ≠ gv ∧ some b ≠ u.ownBlock := fun i z hz hij b e => by
    obtain ⟨L, hL⟩ := h.listGet (List.mem_of_getElem? hz)
    exact ⟨(hL.lt b e).2, fun q => (h.ua z (List.mem_of_getElem? hz) b e).2.2 (by rw [q]; rfl), fun q => hij (h.uu i j z u b hz hu e q.symm)⟩
  obtain ⟨r1, r2 | ⟨g, cc, cur, e1, r3, r4, r5, r6, r7, r8⟩⟩ := id h.rowH
  · obtain ⟨q, _⟩ := r2
    cases q
  · injection e1 with e1 _ e3
    injection e1 with e1
    injection e1 with e1
    subst e1 e3
    refine ⟨?_, ?_, h.lenH, by rw [List.length_set]; exact h.lenU, by rw [List.length_set]; exact h.lenL, ?_, ?_, h.nodup, h.ge, h.ha, ?_, ?_, h.vv⟩
    · exact ownsRow_keep h.rowA fun b e => hst b (h.rowA.lt b e).2 (fun q => h.vv b e (by rw [q]; rfl)) (fun q => (h.ua u hum b q.symm).2.1 e.symm)
    · rw [List.length_set]
      refine ⟨by rw [List.length_set]; omega, .inr ⟨gv, c, cur.setIfInBounds j u', rfl, r3, ?_, r5, r6, by rw [Array.size_setIfInBounds]; exact r7, ?_⟩⟩
      · rw [heap_setCell_same _ gv j _ _ _ (hgv.trans r4)]
      · rw [Array.toList_setIfInBounds, List.take_set, r8]
    · intro i k L hi hL
      refine (h.hash i k L hi hL).keep (hst k (h.hashLt hi) (fun q => (h.ha k (List.mem_of_getElem? hi)).2 (by rw [q]; rfl)) (fun q => (h.ua u hum k q.symm).1 (List.mem_of_getElem? hi)))
    · intro i z L hz hL
      rw [List.getElem?_set] at hz hL
      by_cases e : j = i
      · rw [if_pos e, if_pos (by omega)] at hz
        rw [if_pos e, if_pos (by rw [h.lenL, ← h.lenU]; omega)] at hL
        obtain rfl := Option.some.inj hz
        obtain rfl := Option.some.inj hL
        exact ownsRow_keep hB fun b eb => heap_setCell_other w1 ⟨gv, j, none⟩ b u' (by simpa using hu'n b eb)
      · rw [if_neg e] at hz hL
        exact ownsRow_keep (h.list i z L hz hL) fun b eb => by
          obtain ⟨q1, q2, q3⟩ := hother i z hz (Ne.symm e) b eb
          exact hst b q1 q2 q3
    · intro z hz b eb
      obtain ⟨i, hi⟩ := List.getElem?_of_mem hz
      rw [List.getElem?_set] at hi
      by_cases e : j = i
      · rw [if_pos e, if_pos (by omega)] at hi
        obtain rfl := Option.some.inj hi
        obtain ⟨q1, q2⟩ := hnew b eb
        exact ⟨q1, q2, fun q => hu'n b eb (by injection q)⟩
      · rw [if_neg e] at hi
        exact h.ua z (List.mem_of_getElem? hi) b eb
    · intro i k z z' b hi hk ez ez'
      rw [List.getElem?_set] at hi hk
      have key : ∀ (i : Nat) (z : Value), us[i]? = some z → i ≠ j → z.ownBlock = some b → u'.ownBlock = some b → False := fun i z hz hij e1 e2 => by
        obtain ⟨q1, q2, q3⟩ := hother i z hz hij b e1
        rcases hat with e | e
        · exact q3 (e2.symm.trans e)
        · rw [e] at e2
          have := Option.some.inj e2
          omega
      by_cases e : j = i
      · rw [if_pos e, if_pos (by omega)] at hi
        obtain rfl := Option.some.inj hi
        by_cases e' : j = k
        · omega
        · rw [if_neg e'] at hk
          exact absurd ez (fun q => key k z' hk (Ne.symm e') ez' q)
      · rw [if_neg e] at hi
        by_cases e' : j = k
        · rw [if_pos e', if_pos (by omega)] at hk
          obtain rfl := Option.some.inj hk
          exact absurd ez' (fun q => key i z hi (Ne.symm e) ez q)
        · rw [if_neg e'] at hk
          exact h.uu i k z z' b hi hk ez ez'
/-- One more hash, and one more list. -/
theorem ST.push {B g : Nat} {W w1 w2 w3 : World} {va vh va' vh' b : Value} {hs : List Nat} {Hs : List (List Nat)} {us : List Value} {Ls : List (List Nat)} {L L' : List Nat} {o1 o2 : Obj} (h : ST B W va vh hs Hs us Ls) (hBs : B ≤ W.heap.size)
    (hb : Below W.heap.size W w1) (hg : W.heap.size ≤ g) (hH : HashAt w1 g L) (hBb : Bytes W.heap.size w1 b L') (hbg : ∀ k, b.ownBlock = some k → k ≠ g)
    (hA : w2.ownsRow B 24 1 va' (hs.length + 1) (hs.map ptrH ++ [ptrH g])) (gA : (w1.alloc o1).grownBy w2 va.ownBlock) (atA : va'.ownBlock = va.ownBlock ∨ va'.ownBlock = some (w1.alloc o1).heap.size)
    (hR : w3.ownsRow B 28 1 vh' (us.length + 1) (us ++ [b])) (gH : (w2.alloc o2).grownBy w3 vh.ownBlock) (atH : vh'.ownBlock = vh.ownBlock ∨ vh'.ownBlock = some (w2.alloc o2).heap.size) :
    ST B w3 va' vh' (hs ++ [g]) (Hs ++ [L]) (us ++ [b]) (Ls ++ [L']) := by
  have s1 := hb.size
  have sA : (w1.alloc o1).heap.size = w1.heap.size + 1 := World.size_alloc _ _
  have sH : (w2.alloc o2).heap.size = w2.heap.size + 1 := World.size_alloc _ _
  have s2 : w1.heap.size + 1 ≤ w2.heap.size := by have := gA.size; omega
  have lA : ∀ x, va.ownBlock = some x → x < W.heap.size := fun x e => (h.rowA.lt x e).2
  have lH : ∀ x, vh.ownBlock = some x → x < W.heap.size := fun x e => (h.rowH.lt x e).2
  have bA : ∀ x, va'.ownBlock = some x → va.ownBlock = some x ∨ w1.heap.size < x := fun x e => by
    rcases atA with q | q
    · exact .inl (q ▸ e)
    · rw [q] at e
      have := Option.some.inj e
      exact .inr (by omega)
  have bH : ∀ x, vh'.ownBlock = some x → vh.ownBlock = some x ∨ w2.heap.size < x := fun x e => by
    rcases atH with q | q
    · exact .inl (q ▸ e)
    · rw [q] at e
      have := Option.some.inj e
      exact .inr (by omega)
  have far : ∀ x, x < w1.heap.size → some x ≠ va.ownBlock → some x ≠ vh.ownBlock → w3.heap[x]? = w1.heap[x]? := fun x hx n1 n2 => by
    have e1 := (gA.block x (by omega) n1).trans (Below.heap_alloc w1 o1 x hx)
    have e2 := (gH.block x (by omega) n2).trans (Below.heap_alloc w2 o2 x (by omega))
    exact e2.trans e1
  have ng : ∀ x, va.ownBlock = some x ∨ vh.ownBlock = some x → x ≠ g := fun x e q => by
    rcases e with e | e
    · have := lA x e; omega
    · have := lH x e; omega
  have gl := hH.lt
  have hl : ∀ k ∈ hs, k < W.heap.size := fun k hk => by
    obtain ⟨i, hi⟩ := List.getElem?_of_mem hk
    exact h.hashLt hi
  have ul : ∀ u ∈ us, ∀ x, u.ownBlock = some x → x < W.heap.size := fun u hu x e => by
    obtain ⟨M, hM⟩ := h.listGet hu
    exact (hM.lt x e).2
  have nbA : ∀ x, b.ownBlock = some x → some x ≠ va.ownBlock ∧ some x ≠ vh.ownBlock := fun x e => by
    have := (hBb.lt x e).1
    exact ⟨fun q => by have := lA x q.symm; omega, fun q => by have := lH x q.symm; omega⟩
  refine ⟨?_, ?_, by simp [h.lenH], by simp [h.lenU], by simp [h.lenL], ?_, ?_, ?_, ?_, ?_, ?_, ?_, ?_⟩
  · rw [List.length_append, List.map_append]
    refine ownsRow_keep hA fun x e => (gH.block x (by have := (hA.lt x e).2; omega) (fun q => ?_)).trans (Below.heap_alloc w2 o2 x (hA.lt x e).2)
    rcases bA x e with e1 | e1
    · exact h.vv x e1 q.symm
    · have := lH x q.symm; omega
  · rw [List.length_append]
    exact hR
  · intro j k M hj hM
    by_cases e : j < hs.length
    · rw [List.getElem?_append_left e] at hj
      rw [List.getElem?_append_left (by rw [h.lenH]; exact e)] at hM
      have hkm := List.mem_of_getElem? hj
      exact ((h.hash j k M hj hM).keep (hb.block k (hl k hkm))).keep (far k (by have := hl k hkm; omega) (h.ha k hkm).1 (h.ha k hkm).2)
    · rw [List.getElem?_append_right (by omega)] at hj
      rw [List.getElem?_append_right (by rw [h.lenH]; omega), h.lenH] at hM
      have e0 : j - hs.length = 0 := by have := (List.getElem?_eq_some_iff.1 hj).1; simp at this; omega
      rw [e0] at hj hM
      simp at hj hM
      subst hj hM
      exact hH.keep (far g gl (fun q => ng g (.inl q.symm) rfl) (fun q => ng g (.inr q.symm) rfl))
  · intro j u M hj hM
    by_cases e : j < us.length
    · rw [List.getElem?_append_left e] at hj
      rw [List.getElem?_append_left (by rw [h.lenL, ← h.lenU]; exact e)] at hM
      have hum := List.mem_of_getElem? hj
      exact ownsRow_keep (h.list j u M hj hM) fun x ex => by
        have hx := ul u hum x ex
        exact (far x (by omega) (h.ua u hum x ex).2.1 (h.ua u hum x ex).2.2).trans (hb.block x hx)
    · rw [List.getElem?_append_right (by omega)] at hj
      rw [List.getElem?_append_right (by rw [h.lenL, ← h.lenU]; omega), h.lenL, ← h.lenU] at hM
      have e0 : j - us.length = 0 := by have := (List.getElem?_eq_some_iff.1 hj).1; simp at this; omega
      rw [e0] at hj hM
      simp at hj hM
      subst hj hM
      exact ownsRow_keep (hBb.lower hBs) fun x ex => far x (hBb.lt x ex).2 (nbA x ex).1 (nbA x ex).2
  · rw [List.nodup_append]
    refine ⟨h.nodup, by simp, fun x hx y hy e => ?_⟩
    rw [List.mem_singleton.1 hy] at e
    have := hl x hx
    omega
  · intro k hk
    rcases List.mem_append.1 hk with hk | hk
    · exact h.ge k hk
    · rw [List.mem_singleton.1 hk]; omega
  · intro k hk
    rcases List.mem_append.1 hk with hk | hk
    · refine ⟨fun q => ?_, fun q => ?_⟩
      · rcases bA k q.symm with e | e
        · exact (h.ha k hk).1 e.symm
        · have := hl k hk; omega
      · rcases bH k q.symm with e | e
        · exact (h.ha k hk).2 e.symm
        · have := hl k hk; omega
    · rw [List.mem_singleton.1 hk]
      refine ⟨fun q => ?_, fun q => ?_⟩
      · rcases bA g q.symm with e | e
        · exact ng g (.inl e) rfl
        · omega
      · rcases bH g q.symm with e | e
        · exact ng g (.inr e) rfl
        · omega
  · intro u hu x ex
    have hx1 : x < w1.heap.size := by
      rcases List.mem_append.1 hu with hu | hu
      · have := ul u hu x ex; omega
      · rw [List.mem_singleton.1 hu] at ex; exact (hBb.lt x ex).2
    have hold : x ∉ hs ∧ x ≠ g ∧ some x ≠ va.ownBlock ∧ some x ≠ vh.ownBlock := by
      rcases List.mem_append.1 hu with hu | hu
      · obtain ⟨q1, q2, q3⟩ := h.ua u hu x ex
        have := ul u hu x ex
        exact ⟨q1, by omega, q2, q3⟩
      · rw [List.mem_singleton.1 hu] at ex
        have := (hBb.lt x ex).1
        exact ⟨fun q => by have := hl x q; omega, hbg x ex, (nbA x ex).1, (nbA x ex).2⟩
    refine ⟨fun q => ?_, fun q => ?_, fun q => ?_⟩
    · rcases List.mem_append.1 q with q | q
      · exact hold.1 q
      · exact hold.2.1 (List.mem_singleton.1 q)
    · rcases bA x q.symm with e | e
      · exact hold.2.2.1 e.symm
      · omega
    · rcases bH x q.symm with e | e
      · exact hold.2.2.2 e.symm
      · omega
  · intro i j u u' x hi hj eu eu'
    have cls : ∀ (i : Nat) (u : Value), (us ++ [b])[i]? = some u → u.ownBlock = some x → (us[i]? = some u ∧ x < W.heap.size) ∨ (i = us.length ∧ W.heap.size ≤ x) := fun i u hi eu => by
      by_cases e : i < us.length
      · rw [List.getElem?_append_left e] at hi
        exact .inl ⟨hi, ul u (List.mem_of_getElem? hi) x eu⟩
      · rw [List.getElem?_append_right (by omega)] at hi
        have e0 : i - us.length = 0 := by have := (List.getElem?_eq_some_iff.1 hi).1; simp at this; omega
        rw [e0] at hi
        simp at hi
        subst hi
        exact .inr ⟨by omega, (hBb.lt x eu).1⟩
    rcases cls i u hi eu with ⟨c1, c2⟩ | ⟨c1, c2⟩ <;> rcases cls j u' hj eu' with ⟨d1, d2⟩ | ⟨d1, d2⟩
    · exact h.uu i j u u' x c1 d1 eu eu'
    · omega
    · omega
    · omega
  · intro x ex q
    rcases bA x ex with e | e <;> rcases bH x q with e' | e'
    · exact h.vv x e e'
    · have := lA x e; omega
    · have := lH x e'; omega
    · have := (hA.lt x ex).2; omega
end Go.Proofs.YtoojchjfmnbdpabDoor
