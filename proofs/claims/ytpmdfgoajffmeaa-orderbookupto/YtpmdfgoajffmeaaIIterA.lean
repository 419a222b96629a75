import Derived.Test.YtpmdfgoajffmeaaIEach
import Derived.Test.YtpmdfgoajffmeaaIMapA
import Derived.Maps.AppendAt

namespace Go.Proofs.Ytpmdfgoajffmeaa
open Go.RowKit Go.Shelf
attribute [local go_sem] Oper.semAt_some

theorem grown_drew (w : World) (row : Option Nat) : w.grownBy w.drew row := ⟨rfl, rfl, rfl, Nat.le_refl _, fun _ _ _ => rfl⟩
theorem abides_drew {B : Nat} {J : List Ent → World → Prop} (h : AbidesFrom B J) : ∀ pre W, J pre W → J pre W.drew := fun pre W hJ => h pre W _ none hJ (grown_drew W none) (fun r e => by cases e)

set_option maxHeartbeats 1000000 in
theorem all1_in (F : Fence) (hd : F.depth = none) (n : Nat) (hA1 : F.fn 23) (hE : F.fn 24) (hro : F.round = none) (l Bt n₀ : Nat) (p0 : Option Addr) (T : BT) (J Jx : List Ent → World → Prop)
    (hdr : ∀ pre W, J pre W → J pre W.drew)
    (hY : ∀ pre x W, J pre W → pre.length < T.io.length → YieldAt F (n - 1) Try.prog l #[.int .i64 x.1, .int .i64 x.2] W fun e W' =>
      (e = .returned (.bool true) ∧ J (pre ++ [x]) W' ∧ Below n₀ W W') ∨ (e = .returned (.bool false) ∧ Jx (pre ++ [x]) W'))
    (W : World) (hBt : W.cell? ⟨Bt, 0, none⟩ = some (.pointer p0)) (hT : IsT n₀ W p0 T) (h0 : J [] W) :
    CallsIn F n Try.prog 23 #[.func (.yield l) #[] #[], .pointer (some ⟨Bt, 0, none⟩)] W fun e W' => (∃ v, e = .returned v) ∧
      ((∃ ys, ys = T.io ∧ J ys W') ∨ (∃ pre, pre <+: T.io ∧ Jx pre W')) := by
  have hdd : ∀ k : Nat, (F.depth.isSome = true → 1 ≤ k) := fun k h => by rw [hd] at h; cases h
  have hp := each_in F hd hE hro l n₀ T.io.length J Jx hdr (fun m pre x W hj hl => yieldAt_any hd m (hY pre x W hj hl)) T (n - 1) p0 [] W hT h0 (by simp)
  refine callsIn_of_wp Try.func23 rfl hA1 ?_ hro
  simp only [Try.ntmps23, List.size_toArray, List.length_cons, List.length_nil, Nat.reduceAdd, Nat.reduceSub, Array.replicate_succ, Array.replicate_zero, List.push_toArray, List.append_toArray, List.nil_append, List.cons_append]
  gi_wp2_with ((try refine ⟨hdd _, ?_⟩); gi_at_call 24; refine hp.mono ?_; clear hp; rintro e W1 (⟨rfl, hJ1, _⟩ | ⟨rfl, q, hq, hx⟩))
  · go_end0
    exact ⟨⟨_, rfl⟩, .inl ⟨_, rfl, by simpa using hJ1⟩⟩
  · go_end0
    exact ⟨⟨_, rfl⟩, .inr ⟨q, hq, by simpa using hx⟩⟩

set_option maxHeartbeats 1000000 in
/-- m.All(): the root is boxed; the function value captures the box. -/
theorem all_in (F : Fence) (n : Nat) (hA : F.fn 14) (hro : F.round = none) (bm : Nat) (p : Option Addr) (w : World) (hc : w.cell? ⟨bm, 0, none⟩ = some (.pointer p)) :
    CallsIn F n Try.prog 14 #[.pointer (some ⟨bm, 0, none⟩)] w fun e w' => e = .returned (.func (.func 23) #[] #[.pointer (some ⟨w.heap.size, 0, none⟩)]) ∧ w' = w.alloc (.cells #[.pointer p] 49) := by
  refine callsIn_of_wp Try.func14 rfl hA ?_ hro
  simp only [Try.ntmps14, List.size_toArray, List.length_cons, List.length_nil, Nat.reduceAdd, Nat.reduceSub, Array.replicate_succ, Array.replicate_zero, List.push_toArray, List.append_toArray, List.nil_append, List.cons_append]
  gi_wp2
  go_ret
  exact ⟨rfl, rfl⟩

/-- m.All() hands back a value that tells all entries, rising; or a front of them, where a round has said 'no more'. -/
theorem all_stops (F : Fence) (hd : F.depth = none) (n : Nat) (hA1 : F.fn 23) (hE : F.fn 24) (hro : F.round = none) (Bt n₀ : Nat) (p0 : Option Addr) (T : BT) (w : World) (hBt : Bt < w.heap.size) (hn₀ : n₀ ≤ w.heap.size)
    (hc : w.cell? ⟨Bt, 0, none⟩ = some (.pointer p0)) (hT : IsT n₀ w p0 T) :
    SeqStopsK F n Try.prog 23 #[.pointer (some ⟨Bt, 0, none⟩)] (fun x : Ent => #[.int .i64 x.1, Value.int .i64 x.2]) (Below n₀) (fun ys => ys = T.io) (fun pre => pre <+: T.io) T.io.length w := fun l J Jx W hW hJ _ hY h0 =>
  all1_in F hd n hA1 hE hro l Bt n₀ p0 T J Jx (abides_drew hJ) hY W ((hW.cell (p := ⟨Bt, 0, none⟩) hBt).trans hc) (hT.below (hW.mono hn₀)) h0
end Go.Proofs.Ytpmdfgoajffmeaa
