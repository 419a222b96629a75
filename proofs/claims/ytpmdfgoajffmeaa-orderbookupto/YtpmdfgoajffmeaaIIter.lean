import Derived.Test.YtpmdfgoajffmeaaIEachFrom
import Derived.Test.YtpmdfgoajffmeaaIMap
import Derived.Test.YtpmdfgoajffmeaaIIterA

namespace Go.Proofs.Ytpmdfgoajffmeaa
open Go.RowKit Go.Shelf
attribute [local go_sem] Oper.semAt_some

set_option maxHeartbeats 1000000 in
theorem from1_in (F : Fence) (hd : F.depth = none) (n : Nat) (hF1 : F.fn 25) (hE : F.fn 24) (hEF : F.fn 26) (hro : F.round = none) (l Bt Bk n₀ : Nat) (p0 : Option Addr) (k : KT) (T : BT) (J Jx : List Ent → World → Prop)
    (hdr : ∀ pre W, J pre W → J pre W.drew)
    (hY : ∀ pre x W, J pre W → pre.length < (ge k T.io).length → YieldAt F (n - 1) Try.prog l #[.int .i64 x.1, .int .i64 x.2] W fun e W' =>
      (e = .returned (.bool true) ∧ J (pre ++ [x]) W' ∧ Below n₀ W W') ∨ (e = .returned (.bool false) ∧ Jx (pre ++ [x]) W'))
    (W : World) (hBt : W.cell? ⟨Bt, 0, none⟩ = some (.pointer p0)) (hBk : W.cell? ⟨Bk, 0, none⟩ = some (.int .i64 k)) (hT : IsT n₀ W p0 T) (hs : Srt T.io) (h0 : J [] W) :
    CallsIn F n Try.prog 25 #[.func (.yield l) #[] #[], .pointer (some ⟨Bt, 0, none⟩), .pointer (some ⟨Bk, 0, none⟩)] W fun e W' => (∃ v, e = .returned v) ∧
      ((∃ ys, ys = ge k T.io ∧ J ys W') ∨ (∃ pre, pre <+: ge k T.io ∧ Jx pre W')) := by
  have hdd : ∀ k : Nat, (F.depth.isSome = true → 1 ≤ k) := fun k h => by rw [hd] at h; cases h
  have hp := fun W (hT : IsT n₀ W p0 T) (h0 : J [] W) => eachFrom_in F hd hE hEF hro l n₀ (ge k T.io).length J Jx hdr (fun m pre x W hj hl => yieldAt_any hd m (hY pre x W hj hl)) k (T.height + 1) T (by omega) (n - 1) p0 [] W hT hs h0 (by simp)
  have HT := hide hT
  have HP := hide hp
  have H0 := hide h0
  have HS := hide hs
  have Hdr := hide hdr
  clear hT hp hs hY h0 hdr
  refine callsIn_of_wp Try.func25 rfl hF1 ?_ hro
  simp only [Try.ntmps25, List.size_toArray, List.length_cons, List.length_nil, Nat.reduceAdd, Nat.reduceSub, Array.replicate_succ, Array.replicate_zero, List.push_toArray, List.append_toArray, List.nil_append, List.cons_append]
  gi_wp2_with ((try refine ⟨hdd _, ?_⟩); gi_at_call 26; refine (unhide HP _ ((unhide HT).below (Below.refl _ _)) (unhide H0)).mono ?_; rintro e W1 (⟨rfl, hJ1, _⟩ | ⟨rfl, q, hq, hx⟩))
  · go_end0
    exact ⟨⟨_, rfl⟩, .inl ⟨_, rfl, by simpa using hJ1⟩⟩
  · go_end0
    exact ⟨⟨_, rfl⟩, .inr ⟨q, hq, by simpa using hx⟩⟩

set_option maxHeartbeats 1000000 in
theorem from_in (F : Fence) (n : Nat) (hA : F.fn 15) (hro : F.round = none) (bm : Nat) (p : Option Addr) (k : KT) (w : World) (hc : w.cell? ⟨bm, 0, none⟩ = some (.pointer p)) (hb : bm < w.heap.size) :
    CallsIn F n Try.prog 15 #[.pointer (some ⟨bm, 0, none⟩), .int .i64 k] w fun e w' => e = .returned (.func (.func 25) #[] #[.pointer (some ⟨w.heap.size + 1, 0, none⟩), .pointer (some ⟨w.heap.size, 0, none⟩)]) ∧ w' = (w.alloc (.cells #[.int .i64 k] 3)).alloc (.cells #[.pointer p] 49) := by
  have hc' : (w.alloc (.cells #[.int .i64 k] 3)).cell? ⟨bm, 0, none⟩ = some (.pointer p) := (((Below.refl _ w).alloc (Nat.le_refl _) _).cell (p := ⟨bm, 0, none⟩) hb).trans hc
  refine callsIn_of_wp Try.func15 rfl hA ?_ hro
  simp only [Try.ntmps15, List.size_toArray, List.length_cons, List.length_nil, Nat.reduceAdd, Nat.reduceSub, Array.replicate_succ, Array.replicate_zero, List.push_toArray, List.append_toArray, List.nil_append, List.cons_append]
  gi_wp2
  go_ret
  exact ⟨rfl, rfl⟩

theorem from_stops (F : Fence) (hd : F.depth = none) (n : Nat) (hF1 : F.fn 25) (hE : F.fn 24) (hEF : F.fn 26) (hro : F.round = none) (Bt Bk n₀ : Nat) (p0 : Option Addr) (k : KT) (T : BT) (w : World) (hBt : Bt < w.heap.size) (hBk : Bk < w.heap.size) (hn₀ : n₀ ≤ w.heap.size)
    (hc : w.cell? ⟨Bt, 0, none⟩ = some (.pointer p0)) (hk : w.cell? ⟨Bk, 0, none⟩ = some (.int .i64 k)) (hT : IsT n₀ w p0 T) (hs : Srt T.io) :
    SeqStopsK F n Try.prog 25 #[.pointer (some ⟨Bt, 0, none⟩), .pointer (some ⟨Bk, 0, none⟩)] (fun x : Ent => #[.int .i64 x.1, Value.int .i64 x.2]) (Below n₀) (fun ys => ys = ge k T.io) (fun pre => pre <+: ge k T.io) (ge k T.io).length w := fun l J Jx W hW hJ _ hY h0 =>
  from1_in F hd n hF1 hE hEF hro l Bt Bk n₀ p0 k T J Jx (abides_drew hJ) hY W ((hW.cell (p := ⟨Bt, 0, none⟩) hBt).trans hc) ((hW.cell (p := ⟨Bk, 0, none⟩) hBk).trans hk) (hT.below (hW.mono hn₀)) hs h0
end Go.Proofs.Ytpmdfgoajffmeaa
