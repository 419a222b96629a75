import Derived.Test.YtpmdfgoajffmeaaIMapA
import Derived.Test.YtpmdfgoajffmeaaISift
import Derived.Test.YtpmdfgoajffmeaaIPlace
import Derived.Test.YtpmdfgoajffmeaaILaws0

namespace Go.Proofs.Ytpmdfgoajffmeaa
open Go.RowKit
attribute [local go_sem ↓] Go.wp_at_zero Go.wp_at_succ

set_option maxHeartbeats 1000000 in
theorem mdrop_any {W : World} {m : Option Addr} {T : BT} (k : KT) (h : IsM W m T) (hsz : (T.io.length : Int) ≤ 1152921504606846976) :
    Calls Try.prog 17 #[.pointer m, .int .i64 k] W (GivesMap W fun x => x ∈ T.io ∧ x.1 ≠ k) := by
  obtain ⟨bm, p, rfl, h1, h2, h3, h4⟩ := h
  have H4 := hide h4
  clear h4
  go_enter Try.func17, Try.ntmps17
  go_wp2_with fail
  refine (find_any T W p k h3 (unhide H4)).mono ?_
  rintro o w' ⟨q, rfl, (⟨rfl, hno⟩ | ⟨b, x, rfl, _, _, _, hx, hk⟩), he⟩
  · obtain rfl : W = w' := he.symm
    have Hno := hide hno
    clear hno
    go_wp2
    go_ret
    exact ⟨_, T, rfl, isM_new h3 (unhide H4) 52, fun x => ⟨fun hx => ⟨hx, unhide Hno x hx⟩, fun hx => hx.1⟩, (Below.refl _ _).alloc (Nat.le_refl _) _, _, rfl, Nat.le_refl _⟩
  · obtain rfl : W = w' := he.symm
    have Hk : Hid (HasKey T.io k) := ⟨x, hx, hk⟩
    clear hx hk
    go_wp2_with (go_at_call 29; refine (drop_any k T W p h3 (unhide H4) (unhide Hk) hsz).mono ?_; rintro o W1 ⟨p1, T1, rfl, ht1, hs1, hm1, hb1⟩; have Hs1 := hide hs1; have Hm1 := hide hm1; clear hs1 hm1)
    go_ret
    exact ⟨_, T1, rfl, isM_new ht1 (unhide Hs1) 52, unhide Hm1, hb1.alloc hb1.size _, _, rfl, hb1.size⟩

set_option maxRecDepth 100000 in
set_option maxHeartbeats 1000000 in
theorem mat_any {W : World} {m : Option Addr} {T : BT} (i : Int) (h : IsM W m T) (hsz : (T.io.length : Int) ≤ 1152921504606846976) (hi0 : -9223372036854775808 ≤ i) (hi1 : i ≤ 9223372036854775807) :
    Calls Try.prog 22 #[.pointer m, .int .i64 i] W fun o W' => ∃ x f, o = .returned (.tuple #[.int .i64 x.1, .int .i64 x.2, .bool f]) ∧ AtSays T.io i x f ∧ Below W.heap.size W W' := by
  obtain ⟨bm, p, rfl, h1, h2, h3, h4⟩ := h
  clear h4
  go_enter Try.func22, Try.ntmps22
  go_wp2_with fail
  refine (place_any T W p i h3 hsz hi0 hi1).mono ?_
  rintro o w' ⟨q, rfl, (⟨rfl, hno⟩ | ⟨b, x, rfl, hb, c0, c1, h0, hx⟩), he⟩
  · obtain rfl : W = w' := he.symm
    have Hno := hide hno
    clear hno
    go_wp2
    have hz := cell2_new W (.int .i64 0) (.int .i64 0) 54
    have hb0 : Below W.heap.size W (W.alloc (.cells #[.int .i64 0, .int .i64 0] 54)) := (Below.refl _ W).alloc (Nat.le_refl _) _
    generalize W.alloc (.cells #[.int .i64 0, .int .i64 0] 54) = W0 at *
    obtain ⟨z0, z1⟩ := hz
    go_region_held3 (fun w' => w'.cell? ⟨W.heap.size, 0, none⟩ = some (.int .i64 0) ∧ w'.cell? ⟨W.heap.size, 1, none⟩ = some (.int .i64 0)) (go_keep) (fail)
    go_wp2
    go_ret3
    exact ⟨(0, 0), false, rfl, .inr ⟨rfl, rfl, by simpa using unhide Hno⟩, hb0.drew⟩
  · obtain rfl : W = w' := he.symm
    have Hx := hide hx
    clear hx
    go_wp2
    go_region_held3 (fun w' => w'.cell? ⟨b, 0, none⟩ = some (.int .i64 x.1) ∧ w'.cell? ⟨b, 1, none⟩ = some (.int .i64 x.2)) (go_keep) (fail)
    go_wp2
    go_ret3
    exact ⟨x, true, rfl, .inl ⟨rfl, h0, unhide Hx⟩, (Below.refl _ _).drew⟩

end Go.Proofs.Ytpmdfgoajffmeaa
