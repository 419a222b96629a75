import Derived.Test.YtphccijiniolcaaDoorWKJ
import Derived.Laws.IdiomStrings
namespace Go.Proofs.YtphccijiniolcaaDoor
open Go.RowKit
attribute [local go_sem ↓] Go.wp_at_zero Go.wp_at_succ

/-- One block has turned, and there may be new ones. -/
structure Upd (W : World) (b : Nat) (o : Obj) (W' : World) : Prop where
  os : W'.os = W.os
  tape : W'.tape = W.tape
  output : W'.output = W.output
  size : W.heap.size ≤ W'.heap.size
  at' : W'.heap[b]? = some o
  far : ∀ k, k < W.heap.size → k ≠ b → W'.heap[k]? = W.heap[k]?
theorem Upd.below {W W' : World} {b : Nat} {o : Obj} (h : Upd W b o W') {n : Nat} (hn : n ≤ W.heap.size) (hb : n ≤ b) : Below n W W' :=
  ⟨h.os, h.tape, h.output, h.size, fun k hk => h.far k (by omega) (by omega)⟩
theorem upd_set {W : World} {b o : Nat} {cs : Array Value} {t : TypeId} (h : W.heap[b]? = some (.cells cs t (0, 0))) (n : Nat) (v : Value) : Upd W b (.cells (cs.setIfInBounds o v) t (0, 0)) ((W.drewN n).setCell ⟨b, o, none⟩ v) :=
  ⟨rfl, rfl, rfl, by rw [World.size_setCell]; exact Nat.le_refl _, heap_setCell_same _ b o cs t v h, fun k _ hk => heap_setCell_other (W.drewN n) _ k v hk⟩
theorem cells3_of {W : World} {b : Nat} {x y z : Value} {t : TypeId} (h : W.heap[b]? = some (.cells #[x, y, z] t (0, 0))) : W.cell? ⟨b, 0, none⟩ = some x ∧ W.cell? ⟨b, 1, none⟩ = some y ∧ W.cell? ⟨b, 2, none⟩ = some z ∧ W.frozen? ⟨b, 0, none⟩ = false ∧ W.frozen? ⟨b, 1, none⟩ = false ∧ W.frozen? ⟨b, 2, none⟩ = false := by
  unfold World.cell? World.frozen?
  rw [h]
  exact ⟨rfl, rfl, rfl, rfl, rfl, rfl⟩
def kb : ByteArray := ⟨#[8, 150, 1]⟩

set_option maxRecDepth 100000 in
set_option maxHeartbeats 2000000 in
theorem rvar8 {W : World} {b : Nat} (h : W.heap[b]? = some (.cells #[.string ⟨#[8, 150, 1]⟩, .int .i64 0, .bool true] 70 (0, 0))) :
    Calls Tryd.prog 57 #[.pointer (some ⟨b, 0, none⟩)] W fun e W' => e = .returned (.tuple #[.int .i64 8, .int .i64 0]) ∧ Upd W b (.cells #[.string ⟨#[8, 150, 1]⟩, .int .i64 1, .bool true] 70 (0, 0)) W' := by
  obtain ⟨c0, c1, c2, f0, f1, f2⟩ := cells3_of h
  have hsz : (⟨#[8, 150, 1]⟩ : ByteArray).size = 3 := rfl
  have g0 : ((⟨#[8, 150, 1]⟩ : ByteArray)[0]).toNat = 8 := rfl
  have g1 : ((⟨#[8, 150, 1]⟩ : ByteArray)[1]).toNat = 150 := rfl
  have g2 : ((⟨#[8, 150, 1]⟩ : ByteArray)[2]).toNat = 1 := rfl
  go_enter Tryd.func57, Tryd.ntmps57
  go_wp2
  go_quiet (fail)
  go_wp2
  refine wp_loop_rounds 1 ?_
  rw [rounds_succ]
  go_wp2
  go_ret2
  exact ⟨by kernel_rfl, upd_set (o := 1) h _ (.int .i64 1)⟩
set_option maxRecDepth 100000 in
set_option maxHeartbeats 2000000 in
theorem rvar150 {W : World} {b : Nat} (h : W.heap[b]? = some (.cells #[.string ⟨#[8, 150, 1]⟩, .int .i64 1, .bool true] 70 (0, 0))) :
    Calls Tryd.prog 57 #[.pointer (some ⟨b, 0, none⟩)] W fun e W' => e = .returned (.tuple #[.int .i64 150, .int .i64 0]) ∧ Upd W b (.cells #[.string ⟨#[8, 150, 1]⟩, .int .i64 3, .bool true] 70 (0, 0)) W' := by
  obtain ⟨c0, c1, c2, f0, f1, f2⟩ := cells3_of h
  have hsz : (⟨#[8, 150, 1]⟩ : ByteArray).size = 3 := rfl
  have g0 : ((⟨#[8, 150, 1]⟩ : ByteArray)[0]).toNat = 8 := rfl
  have g1 : ((⟨#[8, 150, 1]⟩ : ByteArray)[1]).toNat = 150 := rfl
  have g2 : ((⟨#[8, 150, 1]⟩ : ByteArray)[2]).toNat = 1 := rfl
  go_enter Tryd.func57, Tryd.ntmps57
  go_wp2
  go_quiet (fail)
  go_wp2
  refine wp_loop_rounds 2 ?_
  rw [rounds_succ]
  go_wp2
  rw [rounds_succ]
  go_wp2
  go_ret2
  exact ⟨by kernel_rfl, upd_set (o := 1) h _ (.int .i64 3)⟩

/-- The tag of the example's first byte. -/
theorem rtag {W : World} {b : Nat} (h : W.heap[b]? = some (.cells #[.string ⟨#[8, 150, 1]⟩, .int .i64 0, .bool true] 70 (0, 0))) :
    Calls Tryd.prog 63 #[.pointer (some ⟨b, 0, none⟩)] W fun e W' => e = .returned (.tuple #[.int .i64 1, .int .i64 0, .int .i64 0]) ∧ Upd W b (.cells #[.string ⟨#[8, 150, 1]⟩, .int .i64 1, .bool true] 70 (0, 0)) W' := by
  obtain ⟨c0, c1, c2, f0, f1, f2⟩ := cells3_of h
  have hand : bits BinOp.and IntKind.i64 8 7 = 0 := by decide +kernel
  go_enter Tryd.func63, Tryd.ntmps63
  go_wp2_with fail
  refine (rvar8 h).mono ?_
  rintro e w1 ⟨rfl, hU⟩
  go_wp2_with fail
  refine (tag_any w1 1 0).mono ?_
  rintro e w' ⟨rfl, he⟩
  obtain rfl : w1 = w' := he.symm
  rw [if_neg (by decide), if_neg (by decide)]
  go_wp2
  go_ret3
  exact ⟨rfl, hU⟩
theorem more0 {W : World} {b : Nat} {n : Nat} {r : Bool} (h : W.heap[b]? = some (.cells #[.string ⟨#[8, 150, 1]⟩, .int .i64 (n : Int), .bool true] 70 (0, 0))) (hr : r = decide ((n : Int) < 3)) :
    Calls Tryd.prog 37 #[.pointer (some ⟨b, 0, none⟩)] W fun e W' => e = .returned (.bool r) ∧ ∃ k, W' = W.drewN k := by
  obtain ⟨c0, c1, c2, f0, f1, f2⟩ := cells3_of h
  have hsz : (⟨#[8, 150, 1]⟩ : ByteArray).size = 3 := rfl
  go_enter Tryd.func37, Tryd.ntmps37
  go_wp2
  go_quiet (fail)
  go_wp2
  go_ret
  subst hr
  exact ⟨rfl, _, rfl⟩
end Go.Proofs.YtphccijiniolcaaDoor
