import Derived.Test.YtpmdfgoajffmeaaIPut
import Derived.Test.YtpmdfgoajffmeaaIRank

namespace Go.Proofs.Ytpmdfgoajffmeaa
open Go.RowKit
attribute [local go_sem ↓] Go.wp_at_zero Go.wp_at_succ

/-- The heap holds a map with the tree's entries, which rise. -/
def IsM (W : World) (m : Option Addr) (T : BT) : Prop := ∃ bm p, m = some ⟨bm, 0, none⟩ ∧ bm < W.heap.size ∧ W.cell? ⟨bm, 0, none⟩ = some (.pointer p) ∧ IsT W.heap.size W p T ∧ Srt T.io
theorem IsM.up {W w : World} (hb : Below W.heap.size W w) {m : Option Addr} {T : BT} (h : IsM W m T) : IsM w m T := by
  obtain ⟨bm, p, rfl, h1, h2, h3, h4⟩ := h
  exact ⟨bm, p, rfl, by have := hb.size; omega, (hb.cell (p := ⟨bm, 0, none⟩) h1).trans h2, h3.up hb, h4⟩
theorem cell1_new (W : World) (x : Value) (t : TypeId) : (W.alloc (.cells #[x] t)).cell? ⟨W.heap.size, 0, none⟩ = some x := by
  have h := World.alloc_heap_new W (.cells #[x] t)
  unfold World.cell?
  rw [h]
  rfl
theorem isM_new {W : World} {p : Option Addr} {T : BT} (h : IsT W.heap.size W p T) (hs : Srt T.io) (t : TypeId) : IsM (W.alloc (.cells #[.pointer p] t)) (some ⟨W.heap.size, 0, none⟩) T :=
  ⟨W.heap.size, p, rfl, by rw [World.size_alloc]; omega, cell1_new _ _ _, h.up ((Below.refl _ W).alloc (Nat.le_refl _) _), hs⟩
/-- A map is handed back whose entries are just those of which P holds. -/
def GivesMap (W : World) (P : Ent → Prop) (o : Ending) (W' : World) : Prop := ∃ m T', o = .returned (.pointer m) ∧ IsM W' m T' ∧ (∀ x, x ∈ T'.io ↔ P x) ∧ (Below W.heap.size W W' ∧ ∃ bm, m = some ⟨bm, 0, none⟩ ∧ W.heap.size ≤ bm)

set_option maxHeartbeats 1000000 in
theorem new_any (W : World) : Calls Try.prog 18 #[] W fun o W' => ∃ m, o = .returned (.pointer m) ∧ IsM W' m .leaf ∧ Below W.heap.size W W' := by
  have hm := isM_new (W := W) (p := none) (T := .leaf) rfl Srt.nil 52
  have hb : Below W.heap.size W (W.alloc (.cells #[.pointer none] 52)) := (Below.refl _ W).alloc (Nat.le_refl _) _
  go_enter Try.func18, Try.ntmps18
  go_wp2
  go_ret
  exact ⟨_, rfl, hm, hb⟩

set_option maxHeartbeats 1000000 in
theorem len_any {W : World} {m : Option Addr} {T : BT} (h : IsM W m T) : Calls Try.prog 7 #[.pointer m] W fun o W' => o = .returned (.int .i64 (T.io.length : Int)) ∧ W' = W := by
  obtain ⟨bm, p, rfl, h1, h2, h3, h4⟩ := h
  have H4 := hide h4
  clear h4
  go_enter Try.func7, Try.ntmps7
  go_wp2_with (go_at_call 20; refine (count_any (T := T) h3).mono ?_; rintro o w' ⟨rfl, rfl⟩)
  go_ret
  exact ⟨rfl, rfl⟩

set_option maxHeartbeats 1000000 in
theorem mput_any {W : World} {m : Option Addr} {T : BT} (e : Ent) (h : IsM W m T) (hsz : (T.io.length : Int) + 1 ≤ 1152921504606846976) :
    Calls Try.prog 6 #[.pointer m, .int .i64 e.1, .int .i64 e.2] W (GivesMap W fun x => x = e ∨ x ∈ T.io ∧ x.1 ≠ e.1) := by
  obtain ⟨bm, p, rfl, h1, h2, h3, h4⟩ := h
  have H4 := hide h4
  clear h4
  go_enter Try.func6, Try.ntmps6
  go_wp2_with (go_at_call 19; refine (put_any e T W p h3 (unhide H4) hsz).mono ?_; rintro o W1 ⟨p1, T1, rfl, ht1, hs1, hm1, hb1⟩; have Hs1 := hide hs1; have Hm1 := hide hm1; clear hs1 hm1)
  go_ret
  exact ⟨_, T1, rfl, isM_new ht1 (unhide Hs1) 52, unhide Hm1, hb1.alloc hb1.size _, _, rfl, hb1.size⟩

/-- What 'Get' tells: the value at the key, or nothing. -/
def GetSays (l : List Ent) (k : KT) (v : Int) (f : Bool) : Prop := (f = true ∧ (k, v) ∈ l) ∨ (f = false ∧ v = 0 ∧ ¬ HasKey l k)
set_option maxHeartbeats 1000000 in
theorem get_any {W : World} {m : Option Addr} {T : BT} (k : KT) (h : IsM W m T) :
    Calls Try.prog 21 #[.pointer m, .int .i64 k] W fun o W' => ∃ v f, o = .returned (.tuple #[.int .i64 v, .bool f]) ∧ GetSays T.io k v f ∧ W' = W := by
  obtain ⟨bm, p, rfl, h1, h2, h3, h4⟩ := h
  have H4 := hide h4
  clear h4
  go_enter Try.func21, Try.ntmps21
  go_wp2_with fail
  refine (find_any T W p k h3 (unhide H4)).mono ?_
  rintro o w' ⟨q, rfl, (⟨rfl, hno⟩ | ⟨b, x, rfl, hb, c0, c1, hx, hk⟩), he⟩
  · obtain rfl : W = w' := he.symm
    have Hno := hide hno
    clear hno
    go_wp2
    go_ret2
    exact ⟨0, false, rfl, .inr ⟨rfl, rfl, fun ⟨x, hx, e⟩ => unhide Hno x hx e⟩, rfl⟩
  · obtain rfl : W = w' := he.symm
    have Hk : Hid ((k, x.2) ∈ T.io) := by show _ ∈ _; rw [← hk]; exact hx
    clear hx hk
    go_wp2
    go_ret2
    exact ⟨x.2, true, rfl, .inl ⟨rfl, unhide Hk⟩, rfl⟩

set_option maxHeartbeats 1000000 in
theorem mrank_any {W : World} {m : Option Addr} {T : BT} (k : KT) (h : IsM W m T) (hsz : (T.io.length : Int) ≤ 1152921504606846976) :
    Calls Try.prog 16 #[.pointer m, .int .i64 k] W fun o W' => ∃ f : Bool, o = .returned (.tuple #[.int .i64 (rk k T.io : Int), .bool f]) ∧ (f = true ↔ HasKey T.io k) ∧ W' = W := by
  obtain ⟨bm, p, rfl, h1, h2, h3, h4⟩ := h
  have H4 := hide h4
  clear h4
  go_enter Try.func16, Try.ntmps16
  go_wp2_with (go_at_call 27; refine (rank_any T W p k h3 (unhide H4) hsz).mono ?_; rintro o w' ⟨f, rfl, hf, he⟩; obtain rfl : W = w' := he.symm; have Hf := hide hf; clear hf)
  go_ret2
  exact ⟨f, rfl, unhide Hf, rfl⟩
end Go.Proofs.Ytpmdfgoajffmeaa
