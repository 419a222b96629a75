import Derived.Test.YtobomdokdajbaaaDoorJ10

namespace Go.Proofs.YtobomdokdajbaaaDoor
open Go.RowKit
attribute [local go_sem ↓] Go.wp_at_zero Go.wp_at_succ

theorem rowSetB {B c i : Nat} {u : Value} {W : World} {e : TypeId} {z m : Nat} {v : Value} {xs : List Value} (h : W.ownsRow B e z v m xs) (hc : c < B) : (W.setCell ⟨c, i, none⟩ u).ownsRow B e z v m xs := by
  obtain ⟨h1, ⟨rfl, h0⟩ | ⟨g, cc, cur, rfl, h2, h3, h4⟩⟩ := h
  · exact ⟨h1, .inl ⟨rfl, h0⟩⟩
  · exact ⟨h1, .inr ⟨g, cc, cur, rfl, h2, (heap_setCell_other W ⟨c, i, none⟩ g u (by show g ≠ c; omega)).trans h3, h4⟩⟩
theorem SkSt.tag {W : World} {B b wb t k num : Nat} {s : ByteArray} {st : Bool} {depth : Int} {ar : List Nat} (h : SkSt W B b wb s st t depth k num ar) (t' : Nat) : SkSt (W.setCell ⟨wb, 1, none⟩ (.int .i64 (t' : Int))) B b wb s st t' depth k num ar := by
  obtain ⟨ag, h1, h2⟩ := h.wk
  exact ⟨(heap_setCell_other W ⟨wb, 1, none⟩ b _ (fun e => h.hne e.symm)).trans h.rd, ⟨ag, heap_setCell_same W wb 1 _ _ _ h1, rowSetB h2 h.hwb⟩, h.hb, h.hwb, h.hne, by rw [World.size_setCell]; exact h.hB⟩
theorem bz_set {B b wb i : Nat} {W : World} {u : Value} : BZ B b wb W (W.setCell ⟨wb, i, none⟩ u) := ⟨rfl, rfl, rfl, by rw [World.size_setCell]; exact Nat.le_refl _, fun q _ _ h2 => heap_setCell_other W ⟨wb, i, none⟩ q u h2⟩
theorem BZ.drewN {B b wb : Nat} {W w : World} (h : BZ B b wb W w) (n : Nat) : BZ B b wb W (w.drewN n) := ⟨h.os, h.tape, h.output, h.size, h.block⟩
/-- One step of the walk, by what the varint at the place is. -/
def stepR (s : ByteArray) (st : Bool) (depth : Int) (k num : Nat) (ar : List Nat) : (Nat × Nat) ⊕ Nat → (Nat × Nat × List Nat) ⊕ (Nat × Nat)
  | .inr c => .inr (c, k)
  | .inl (u, k') => if u / 8 < 1 ∨ 536870911 < u / 8 then .inr (24, k) else if 5 < u % 8 then .inr (23, k) else tkM s st depth k k' num ar (u / 8) (u % 8)
def stepM (s : ByteArray) (st : Bool) (depth : Int) (k num : Nat) (ar : List Nat) : (Nat × Nat × List Nat) ⊕ (Nat × Nat) := stepR s st depth k num ar (vAt s st k)
set_option maxRecDepth 100000 in
set_option maxHeartbeats 4000000 in
theorem wstep_skip {W : World} {B b wb t k num : Nat} {s : ByteArray} {st : Bool} {depth : Int} {ar : List Nat} (h : SkSt W B b wb s st t depth k num ar) (hk : k ≤ s.size) (hs : s.size ≤ 1048576) (har : ar.length ≤ 2097152) (hnum : ar = [] → num = 0) :
    Calls Tryd.prog 48 #[.pointer (some ⟨wb, 0, none⟩)] W fun e w => MA W B b wb s st k depth e w (stepM s st depth k num ar) := by
  unfold stepM
  have hlt : ∀ u k', vAt s st k = .inl (u, k') → u < 18446744073709551616 ∧ k < k' ∧ k' ≤ s.size := fun u k' h => vAt_lt h
  obtain ⟨S, hS⟩ : ∃ S, W.setCell ⟨wb, 1, none⟩ (.int .i64 (k : Int)) = S := ⟨_, rfl⟩
  have hSk : SkSt S B b wb s st k depth k num ar := by rw [← hS]; exact h.tag k
  have hSB : BZ B b wb W S := by rw [← hS]; exact bz_set
  have ht := rTag_any hSk.rd hk hs
  obtain ⟨R, hR⟩ : ∃ R, vAt s st k = R := ⟨_, rfl⟩
  rw [hR] at ht hlt ⊢
  obtain ⟨ag, h1, h2⟩ := h.wk
  obtain ⟨c0, c1, c2, c3, c4, c5, c6, f1⟩ := walk_cells h1
  obtain ⟨d0, d1, d2, _⟩ := cells3_of h.rd
  obtain ⟨ag', g1, g2⟩ := hSk.wk
  have e0 := (walk_cells g1).1
  have Ht := hide ht
  have Hlt := hide hlt
  have HS := hide hS
  have HSk := hide hSk
  have HSB := hide hSB
  have Hnum := hide hnum
  clear ht hlt hS hSk hSB hR h1 h2 h g1 g2 hnum
  go_enter Tryd.func48, Tryd.ntmps48
  go_wp2_with fail
  rw [unhide HS]
  refine (unhide Ht).mono ?_
  intro e w1 hq
  clear c0 c1 c2 c3 c4 c5 c6 f1 d0 d1 d2 Ht HS
  cases R with
  | inr c =>
    obtain ⟨rfl, hc, n1, rfl⟩ := hq
    have qc : ((c : Int) != 0) = true := by simp; omega
    have Hend : Hid (MA W B b wb s st k depth (.returned (.int .i64 (c : Int))) (S.drewN n1) (.inr (c, k))) := ⟨rfl, hc, (unhide HSk).rd, (unhide HSB).drewN n1⟩
    go_wp2
    go_ret
    exact unhide Hend
  | inl p =>
    obtain ⟨u, k'⟩ := p
    obtain ⟨hu, hk1, hk2⟩ := unhide Hlt u k' rfl
    replace hq : if u / 8 < 1 ∨ 536870911 < u / 8 then (e = .returned (.tuple #[.int .i64 0, .int .i64 0, .int .i64 24]) ∧ Upd S b (.cells #[.string s, .int .i64 (k : Int), .bool st] 78 (0, 0)) w1) else if 5 < u % 8 then (e = .returned (.tuple #[.int .i64 0, .int .i64 0, .int .i64 23]) ∧ Upd S b (.cells #[.string s, .int .i64 (k : Int), .bool st] 78 (0, 0)) w1) else (e = .returned (.tuple #[.int .i64 ((u / 8 : Nat) : Int), .int .i64 ((u % 8 : Nat) : Int), .int .i64 0]) ∧ Upd S b (.cells #[.string s, .int .i64 (k' : Int), .bool st] 78 (0, 0)) w1) := hq
    have HM : Hid (∀ e w, MA W B b wb s st k depth e w (if u / 8 < 1 ∨ 536870911 < u / 8 then .inr (24, k) else if 5 < u % 8 then .inr (23, k) else tkM s st depth k k' num ar (u / 8) (u % 8)) → MA W B b wb s st k depth e w (stepR s st depth k num ar (.inl (u, k')))) := fun e w h => h
    have h5 : u % 8 < 8 := Nat.mod_lt _ (by decide)
    generalize u / 8 = n at *
    generalize u % 8 = kd at *
    clear Hlt hu
    by_cases h24 : n < 1 ∨ 536870911 < n
    · rw [if_pos h24] at hq
      obtain ⟨rfl, hU⟩ := hq
      have Hend : Hid (MA W B b wb s st k depth (.returned (.int .i64 24)) w1 (stepR s st depth k num ar (.inl (u, k')))) := unhide HM _ _ (by rw [if_pos h24]; exact ⟨rfl, by decide, hU.at', (unhide HSB).trans (.ofU hU (unhide HSk).hB)⟩)
      clear HM hU h24 h5
      go_wp2
      go_ret
      exact unhide Hend
    · rw [if_neg h24] at hq
      by_cases h23 : 5 < kd
      · rw [if_pos h23] at hq
        obtain ⟨rfl, hU⟩ := hq
        have Hend : Hid (MA W B b wb s st k depth (.returned (.int .i64 23)) w1 (stepR s st depth k num ar (.inl (u, k')))) := unhide HM _ _ (by rw [if_neg h24, if_pos h23]; exact ⟨rfl, by decide, hU.at', (unhide HSB).trans (.ofU hU (unhide HSk).hB)⟩)
        clear HM hU h24 h23 h5
        go_wp2
        go_ret
        exact unhide Hend
      · rw [if_neg h23] at hq
        obtain ⟨rfl, hU⟩ := hq
        have hE : ∀ e w, MA w1 B b wb s st k depth e w (tkM s st depth k k' num ar n kd) → MA W B b wb s st k depth e w (stepR s st depth k num ar (.inl (u, k'))) := fun e w h => unhide HM e w (by rw [if_neg h24, if_neg h23]; exact h.of ((unhide HSB).trans (.ofU hU (unhide HSk).hB)))
        have hT := wtake_skip (n := n) (kd := kd) ((unhide HSk).upd hU) hk2 hs (by omega) har (fun e => by have := unhide Hnum e; omega)
        have HT := hide hT
        have HE := hide hE
        clear hT hE HM hU h24 h23 h5
        go_wp2_with fail
        refine (unhide HT).mono ?_
        intro e w2 hq
        obtain ⟨c, rfl⟩ := hq.ret
        have Hq := hide (unhide HE _ _ hq)
        clear hq HT HE
        go_wp2
        go_ret
        exact unhide Hq
#print axioms wstep_skip
end Go.Proofs.YtobomdokdajbaaaDoor

namespace Go.Proofs.YtobomdokdajbaaaDoor
open Go.RowKit
attribute [local go_sem ↓] Go.wp_at_zero Go.wp_at_succ

/-- The walk's run till no group is open. -/
def runM (s : ByteArray) (st : Bool) (depth : Int) : Nat → (Nat × Nat × List Nat) ⊕ (Nat × Nat) → Nat ⊕ (Nat × Nat)
  | _, .inr x => .inr x
  | 0, .inl (k, _, _) => .inl k
  | f + 1, .inl (k, num, ar) => if ar = [] then .inl k else runM s st depth f (stepM s st depth k num ar)
structure OkM (s : ByteArray) (k num : Nat) (ar : List Nat) : Prop where
  le : k ≤ s.size
  len : ar.length ≤ k + 1
  top : ar = [] → num = 0
  head : ar ≠ [] → ar.head? = some 0
theorem xAt_lt {s : ByteArray} {k n u k' : Nat} (h : xAt s k n = .inl (u, k')) : k ≤ k' ∧ k' ≤ s.size := by
  unfold xAt at h
  split at h
  · cases h
  · obtain ⟨-, rfl⟩ := Prod.mk.inj (Sum.inl.inj h)
    omega
theorem tAt_lt {s : ByteArray} {st : Bool} {k k' : Nat} {t : ByteArray} (h : tAt s st k = .inl (t, k')) : k ≤ k' ∧ k' ≤ s.size := by
  unfold tAt at h
  split at h
  · cases h
  · rename_i u k1 hv
    have := vAt_lt hv
    split at h
    · cases h
    · obtain ⟨-, rfl⟩ := Prod.mk.inj (Sum.inl.inj h)
      omega
theorem plc_inl {α : Type} {r : (α × Nat) ⊕ Nat} {k' : Nat} (h : plc r = .inl k') : ∃ u, r = .inl (u, k') := by
  match r, h with
  | .inl (u, _), h => exact ⟨u, by rw [Sum.inl.inj h]⟩
theorem tkM_ok {s : ByteArray} {st : Bool} {depth : Int} {t k num n kd k2 num2 : Nat} {ar ar2 : List Nat} (hk : k ≤ s.size) (hl : ar.length ≤ k) (ht : ar = [] → num = 0) (hh : ar ≠ [] → ar.head? = some 0) (h : tkM s st depth t k num ar n kd = .inl (k2, num2, ar2)) : k ≤ k2 ∧ OkM s k2 num2 ar2 := by
  unfold tkM at h
  split at h
  · split at h
    · cases h
    · obtain ⟨rfl, hp⟩ := Prod.mk.inj (Sum.inl.inj h)
      obtain ⟨rfl, rfl⟩ := Prod.mk.inj hp
      refine ⟨Nat.le_refl _, hk, by simp; omega, fun e => by simp at e, fun _ => ?_⟩
      cases ar with
      | nil => simp [ht rfl]
      | cons a ar => simpa using hh (by simp)
  · split at h
    · split at h
      · cases h
      · rcases List.eq_nil_or_concat ar with rfl | ⟨l, x, rfl⟩
        · simp at h
        · rw [List.concat_eq_append] at *
          simp only [List.getLast?_append, List.getLast?_singleton, Option.some_or, List.dropLast_concat] at h
          obtain ⟨rfl, hp⟩ := Prod.mk.inj (Sum.inl.inj h)
          obtain ⟨rfl, rfl⟩ := Prod.mk.inj hp
          refine ⟨Nat.le_refl _, hk, by simp at hl; omega, fun e => ?_, fun e => ?_⟩
          · subst e
            simpa using hh (by simp)
          · cases l with
            | nil => exact absurd rfl e
            | cons a l => simpa using hh (by simp)
    · generalize hr : (if kd = 0 then plc (vAt s st k) else if kd = 1 then plc (xAt s k 8) else if kd = 2 then plc (tAt s st k) else plc (xAt s k 4)) = r at h
      match r, h with
      | .inl k', h =>
        obtain ⟨rfl, hp⟩ := Prod.mk.inj (Sum.inl.inj h)
        obtain ⟨rfl, rfl⟩ := Prod.mk.inj hp
        have hkk : k ≤ k' ∧ k' ≤ s.size := by
          split at hr
          · obtain ⟨u, hu⟩ := plc_inl hr
            have := vAt_lt hu
            omega
          · split at hr
            · obtain ⟨u, hu⟩ := plc_inl hr
              exact xAt_lt hu
            · split at hr
              · obtain ⟨u, hu⟩ := plc_inl hr
                exact tAt_lt hu
              · obtain ⟨u, hu⟩ := plc_inl hr
                exact xAt_lt hu
        exact ⟨hkk.1, hkk.2, by omega, ht, hh⟩
      | .inr c, h => cases h
theorem stepM_ok {s : ByteArray} {st : Bool} {depth : Int} {k num k2 num2 : Nat} {ar ar2 : List Nat} (ho : OkM s k num ar) (h : stepM s st depth k num ar = .inl (k2, num2, ar2)) : k < k2 ∧ OkM s k2 num2 ar2 := by
  unfold stepM at h
  generalize hv : vAt s st k = r at h
  match r, h with
  | .inr c, h => cases h
  | .inl (u, k'), h =>
    obtain ⟨-, h1, h2⟩ := vAt_lt hv
    replace h : (if u / 8 < 1 ∨ 536870911 < u / 8 then .inr (24, k) else if 5 < u % 8 then .inr (23, k) else tkM s st depth k k' num ar (u / 8) (u % 8) : (Nat × Nat × List Nat) ⊕ (Nat × Nat)) = .inl (k2, num2, ar2) := h
    split at h
    · cases h
    · split at h
      · cases h
      · obtain ⟨q1, q2⟩ := tkM_ok h2 (by have := ho.len; omega) ho.top ho.head h
        exact ⟨by omega, q2⟩
set_option maxRecDepth 100000 in
theorem inGroup_any {W : World} {wb b m gc : Nat} {tag depth num0 : Int} {v : Value} {ga : Option Addr} (hw : WkS W wb b tag depth num0 v (.slice ga m gc)) :
    Calls Tryd.prog 47 #[.pointer (some ⟨wb, 0, none⟩)] W fun e W' => e = .returned (.bool (decide (0 < m))) ∧ W' = W := by
  obtain ⟨c0, c1, c2, c3, c4, c5, c6, f1⟩ := walk_cells hw
  go_enter Tryd.func47, Tryd.ntmps47
  go_wp2
  go_ret
  exact ⟨by first | rfl | simp, rfl⟩
set_option maxRecDepth 100000 in
theorem newWalk_skip {W : World} {b k : Nat} {s : ByteArray} {st : Bool} {depth : Int} (h : RdAt W b s k st) :
    Calls Tryd.prog 45 #[.pointer (some ⟨b, 0, none⟩), .int .i64 depth, .bool false] W fun e W' => e = .returned (.pointer (some ⟨W.heap.size, 0, none⟩)) ∧ SkSt W' (W.heap.size + 1) b W.heap.size s st k depth k 0 [] ∧ Below W.heap.size W W' := by
  obtain ⟨d0, d1, d2, _⟩ := cells3_of h
  have hb := (Array.getElem?_eq_some_iff.1 h).1
  have hnw := heap_alloc_new W (.cells #[.pointer (some ⟨b, 0, none⟩), .int .i64 (k : Int), .int .i64 depth, .bool false, .int .i64 0, .slice none 0 0, .slice none 0 0] 83)
  have hB : Below W.heap.size W (W.alloc (.cells #[.pointer (some ⟨b, 0, none⟩), .int .i64 (k : Int), .int .i64 depth, .bool false, .int .i64 0, .slice none 0 0, .slice none 0 0] 83)) := (Below.refl _ _).alloc (Nat.le_refl _) _
  have hS : SkSt (W.alloc (.cells #[.pointer (some ⟨b, 0, none⟩), .int .i64 (k : Int), .int .i64 depth, .bool false, .int .i64 0, .slice none 0 0, .slice none 0 0] 83)) (W.heap.size + 1) b W.heap.size s st k depth k 0 [] := ⟨(hB.block b hb).trans h, ⟨_, hnw, World.ownsRow_nil _ _ _ _⟩, by omega, by omega, by omega, by rw [World.size_alloc]; exact Nat.le_refl _⟩
  have HB := hide hB
  have HS := hide hS
  clear hnw hB hS h
  go_enter Tryd.func45, Tryd.ntmps45
  go_wp2
  go_ret
  exact ⟨rfl, unhide HS, unhide HB⟩
end Go.Proofs.YtobomdokdajbaaaDoor

namespace Go.Proofs.YtobomdokdajbaaaDoor
open Go.RowKit

def plcE (k : Nat) : Nat ⊕ Nat → Nat ⊕ (Nat × Nat)
  | .inl k' => .inl k'
  | .inr c => .inr (c, k)
/-- What is behind a tag that is no group's. -/
def bodyR (s : ByteArray) (st : Bool) (k kd : Nat) : Nat ⊕ Nat := if kd = 0 then plc (vAt s st k) else if kd = 1 then plc (xAt s k 8) else if kd = 2 then plc (tAt s st k) else plc (xAt s k 4)
/-- The reference's records: fuel, group, how many are open, place. -/
def recM (s : ByteArray) (st : Bool) (most : Int) : Nat → Nat → Nat → Nat → Nat ⊕ (Nat × Nat)
  | 0, _, _, k => .inr (0, k)
  | f + 1, g, o, k => if k = s.size then (if g = 0 then .inl k else .inr (20, k)) else
    match vAt s st k with
    | .inr c => .inr (c, k)
    | .inl (u, k') => if u / 8 < 1 ∨ 536870911 < u / 8 then .inr (24, k) else if 5 < u % 8 then .inr (23, k)
      else if u % 8 = 4 then (if u / 8 = g then .inl k' else .inr (25, k))
      else if u % 8 = 3 ∧ (o : Int) = most then .inr (4, k)
      else match (if u % 8 = 3 then recM s st most f (u / 8) (o + 1) k' else plcE k' (bodyR s st k' (u % 8))) with
        | .inr x => .inr x
        | .inl k2 => recM s st most f g o k2
theorem bodyR_lt {s : ByteArray} {st : Bool} {k kd k' : Nat} (h : bodyR s st k kd = .inl k') : k ≤ k' ∧ k' ≤ s.size := by
  unfold bodyR at h
  split at h
  · obtain ⟨u, hu⟩ := plc_inl h
    have := vAt_lt hu
    omega
  · split at h
    · obtain ⟨u, hu⟩ := plc_inl h
      exact xAt_lt hu
    · split at h
      · obtain ⟨u, hu⟩ := plc_inl h
        exact tAt_lt hu
      · obtain ⟨u, hu⟩ := plc_inl h
        exact xAt_lt hu
theorem runM_nil (s : ByteArray) (st : Bool) (depth : Int) (f k num : Nat) : runM s st depth f (.inl (k, num, [])) = .inl k := by
  cases f with
  | zero => rfl
  | succ f => rw [runM, if_pos rfl]
theorem runM_err (s : ByteArray) (st : Bool) (depth : Int) (f : Nat) (x : Nat × Nat) : runM s st depth f (.inr x) = .inr x := by cases f <;> rfl
/-- The fuel does not matter where there is enough. -/
theorem runM_fuel (s : ByteArray) (st : Bool) (depth : Int) : ∀ (f f' k num : Nat) (ar : List Nat), OkM s k num ar → s.size < k + f → s.size < k + f' → runM s st depth f (.inl (k, num, ar)) = runM s st depth f' (.inl (k, num, ar)) := by
  intro f
  induction f with
  | zero => intro f' k num ar ho h1 h2; have := ho.le; omega
  | succ f ih =>
    intro f' k num ar ho h1 h2
    obtain ⟨f', rfl⟩ : ∃ q, f' = q + 1 := ⟨f' - 1, by have := ho.le; omega⟩
    rw [runM, runM]
    by_cases ha : ar = []
    · rw [if_pos ha, if_pos ha]
    · rw [if_neg ha, if_neg ha]
      generalize hr : stepM s st depth k num ar = r
      match r, hr with
      | .inr x, _ => rw [runM_err, runM_err]
      | .inl (k2, num2, ar2), hr =>
        obtain ⟨q1, q2⟩ := stepM_ok ho hr
        exact ih f' k2 num2 ar2 q2 (by omega) (by omega)
theorem vAt_end (s : ByteArray) (st : Bool) : vAt s st s.size = .inr 20 := by
  unfold vAt
  rw [vGo, if_neg (Nat.lt_irrefl _)]
def goOn (s : ByteArray) (st : Bool) (depth : Int) (f num : Nat) (ar : List Nat) : Nat ⊕ (Nat × Nat) → Nat ⊕ (Nat × Nat)
  | .inr x => .inr x
  | .inl k2 => runM s st depth f (.inl (k2, num, ar))
theorem recM_lt (s : ByteArray) (st : Bool) (most : Int) : ∀ (F g o k k2 : Nat), g ≠ 0 → k ≤ s.size → recM s st most F g o k = .inl k2 → k < k2 ∧ k2 ≤ s.size := by
  intro F
  induction F with
  | zero => intro g o k k2 _ _ h; cases h
  | succ F ih =>
    intro g o k k2 hg hk h
    rw [recM] at h
    split at h
    · first | (cases h; done) | (rw [if_neg hg] at h; cases h)
    · split at h
      · cases h
      · rename_i u k' hv
        obtain ⟨-, v1, v2⟩ := vAt_lt hv
        split at h
        · cases h
        · rename_i h24
          split at h
          · cases h
          · split at h
            · split at h
              · obtain rfl := Sum.inl.inj h
                omega
              · cases h
            · split at h
              · cases h
              · split at h
                · cases h
                · rename_i k3 h3
                  have hk3 : k' ≤ k3 ∧ k3 ≤ s.size := by
                    split at h3
                    · have := ih _ _ _ _ (by omega) v2 h3
                      omega
                    · generalize hb : bodyR s st k' (u % 8) = r at h3
                      match r, h3 with
                      | .inl q, h3 =>
                        obtain rfl := Sum.inl.inj h3
                        exact bodyR_lt hb
                  have := ih _ _ _ _ hg hk3.2 h
                  omega
theorem rec_run (s : ByteArray) (st : Bool) (depth : Int) : ∀ (F g num k f f' : Nat) (ar : List Nat), OkM s k g (ar ++ [num]) → g ≠ 0 → (ar.length : Int) < depth → s.size < k + F → s.size < k + f → s.size < k + f' →
    runM s st depth f (.inl (k, g, ar ++ [num])) = goOn s st depth f' num ar (recM s st depth F g (ar.length + 1) k) := by
  intro F
  induction F with
  | zero => intro g num k f f' ar ho _ _ h1; have := ho.le; omega
  | succ F ih =>
    intro g num k f f' ar ho hg hd h1 h2 h3
    obtain ⟨f, rfl⟩ : ∃ q, f = q + 1 := ⟨f - 1, by have := ho.le; omega⟩
    rw [runM, if_neg (by simp), recM]
    have hlen := ho.len
    rw [List.length_append, List.length_singleton] at hlen
    have hstay : ∀ k2, k < k2 → k2 ≤ s.size → OkM s k2 g (ar ++ [num]) := fun k2 q1 q2 => ⟨q2, by rw [List.length_append, List.length_singleton]; omega, fun e => by simp at e, ho.head⟩
    by_cases hke : k = s.size
    · rw [if_pos hke, if_neg hg]
      have hv : vAt s st k = .inr 20 := by rw [hke]; exact vAt_end s st
      unfold stepM
      rw [hv]
      exact runM_err _ _ _ _ _
    · rw [if_neg hke]
      unfold stepM
      generalize hv : vAt s st k = r
      match r, hv with
      | .inr c, _ => exact runM_err _ _ _ _ _
      | .inl (u, k'), hv =>
        obtain ⟨-, v1, v2⟩ := vAt_lt hv
        show runM s st depth f (if u / 8 < 1 ∨ 536870911 < u / 8 then .inr (24, k) else if 5 < u % 8 then .inr (23, k) else tkM s st depth k k' g (ar ++ [num]) (u / 8) (u % 8)) = goOn s st depth f' num ar (if u / 8 < 1 ∨ 536870911 < u / 8 then .inr (24, k) else if 5 < u % 8 then .inr (23, k) else if u % 8 = 4 then (if u / 8 = g then .inl k' else .inr (25, k)) else if u % 8 = 3 ∧ ((ar.length + 1 : Nat) : Int) = depth then .inr (4, k) else match (if u % 8 = 3 then recM s st depth F (u / 8) (ar.length + 1 + 1) k' else plcE k' (bodyR s st k' (u % 8))) with | .inr x => .inr x | .inl k2 => recM s st depth F g (ar.length + 1) k2)
        by_cases h24 : u / 8 < 1 ∨ 536870911 < u / 8
        · rw [if_pos h24, if_pos h24]
          exact runM_err _ _ _ _ _
        · rw [if_neg h24, if_neg h24]
          by_cases h23 : 5 < u % 8
          · rw [if_pos h23, if_pos h23]
            exact runM_err _ _ _ _ _
          · rw [if_neg h23, if_neg h23]
            have htk := fun k2 num2 ar2 => tkM_ok (s := s) (st := st) (depth := depth) (t := k) (k := k') (num := g) (n := u / 8) (kd := u % 8) (k2 := k2) (num2 := num2) (ar := ar ++ [num]) (ar2 := ar2) v2 (by rw [List.length_append, List.length_singleton]; omega) (fun e => by simp at e) ho.head
            by_cases h4 : u % 8 = 4
            · rw [if_pos h4]
              by_cases hg2 : u / 8 = g
              · have ht : tkM s st depth k k' g (ar ++ [num]) (u / 8) (u % 8) = .inl (k', num, ar) := by
                  unfold tkM
                  rw [if_neg (by omega), if_pos h4, if_neg (by omega)]
                  simp
                rw [if_pos hg2, ht]
                exact runM_fuel s st depth f f' k' num ar (htk _ _ _ ht).2 (by omega) (by omega)
              · have ht : tkM s st depth k k' g (ar ++ [num]) (u / 8) (u % 8) = .inr (25, k) := by
                  unfold tkM
                  rw [if_neg (by omega), if_pos h4, if_pos (by omega)]
                rw [if_neg hg2, ht]
                exact runM_err _ _ _ _ _
            · rw [if_neg h4]
              by_cases h3 : u % 8 = 3
              · by_cases hm : ((ar.length + 1 : Nat) : Int) = depth
                · have ht : tkM s st depth k k' g (ar ++ [num]) (u / 8) (u % 8) = .inr (4, k) := by
                    unfold tkM
                    rw [if_pos h3, if_pos (by rw [List.length_append, List.length_singleton]; omega)]
                  rw [if_pos ⟨h3, hm⟩, ht]
                  exact runM_err _ _ _ _ _
                · have ht : tkM s st depth k k' g (ar ++ [num]) (u / 8) (u % 8) = .inl (k', u / 8, ar ++ [num] ++ [g]) := by
                    unfold tkM
                    rw [if_pos h3, if_neg (by rw [List.length_append, List.length_singleton]; omega)]
                  rw [if_neg (fun q => hm q.2), ht, if_pos h3]
                  have q := ih (u / 8) g k' f f (ar ++ [num]) (htk _ _ _ ht).2 (by omega) (by rw [List.length_append, List.length_singleton]; omega) (by omega) (by omega) (by omega)
                  rw [q, List.length_append, List.length_singleton]
                  generalize hr : recM s st depth F (u / 8) (ar.length + 1 + 1) k' = r2
                  match r2, hr with
                  | .inr x, _ => rfl
                  | .inl k2, hr =>
                    obtain ⟨w1, w2⟩ := recM_lt s st depth F _ _ _ _ (by omega) v2 hr
                    exact ih g num k2 f f' ar (hstay k2 (by omega) w2) hg hd (by omega) (by omega) (by omega)
              · have ht : tkM s st depth k k' g (ar ++ [num]) (u / 8) (u % 8) = plcM g (ar ++ [num]) k' (bodyR s st k' (u % 8)) := by
                  unfold tkM
                  rw [if_neg h3, if_neg h4]
                  rfl
                rw [if_neg (fun q => h3 q.1), if_neg h3, ht]
                generalize hr : bodyR s st k' (u % 8) = r2
                match r2, hr with
                | .inr c, _ => exact runM_err _ _ _ _ _
                | .inl k2, hr =>
                  have w := bodyR_lt hr
                  exact ih g num k2 f f' ar (hstay k2 (by omega) w.2) hg hd (by omega) (by omega) (by omega)
#print axioms rec_run
end Go.Proofs.YtobomdokdajbaaaDoor
