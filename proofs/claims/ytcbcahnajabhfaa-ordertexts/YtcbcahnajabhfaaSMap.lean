import Derived.Test.YtcbcahnajabhfaaSMapA
import Derived.Test.YtcbcahnajabhfaaSSift
import Derived.Test.YtcbcahnajabhfaaSPlace
import Derived.Test.YtcbcahnajabhfaaSLaws0
namespace Go.Proofs.Ytcbcahnajabhfaa
open Go.RowKit
attribute [local go_sem] kless_eq keq_eq kne_eq kgeq_eq
attribute [local go_sem ↓] Go.wp_at_zero Go.wp_at_succ

set_option maxHeartbeats 1000000 in
theorem mdrop_any {W : World} {m : Option Addr} {T : BT} (k : KT) (h : IsM W m T) (hsz : (T.io.length : Int) ≤ 1152921504606846976) :
    Calls Try.prog 32 #[.pointer m, .string k] W (GivesMap W fun x => x ∈ T.io ∧ x.1 ≠ k) := by
  obtain ⟨bm, p, rfl, h1, h2, h3, h4⟩ := h
  have H4 := hide h4
  clear h4
  go_enter Try.func32, Try.ntmps32
  go_wp2_with fail
  refine (find_any T W p k h3 (unhide H4)).mono ?_
  rintro o w' ⟨q, rfl, (⟨rfl, hno⟩ | ⟨b, x, rfl, _, _, _, hx, hk⟩), he⟩
  · obtain rfl : W = w' := he.symm
    have Hno := hide hno
    clear hno
    go_wp2
    go_ret
    exact ⟨_, T, rfl, isM_new h3 (unhide H4) 54, fun x => ⟨fun hx => ⟨hx, unhide Hno x hx⟩, fun hx => hx.1⟩, (Below.refl _ _).alloc (Nat.le_refl _) _, _, rfl, Nat.le_refl _⟩
  · obtain rfl : W = w' := he.symm
    have Hk : Hid (HasKey T.io k) := ⟨x, hx, hk⟩
    clear hx hk
    go_wp2_with (go_at_call 45; refine (drop_any k T W p h3 (unhide H4) (unhide Hk) hsz).mono ?_; rintro o W1 ⟨p1, T1, rfl, ht1, hs1, hm1, hb1⟩; have Hs1 := hide hs1; have Hm1 := hide hm1; clear hs1 hm1)
    go_ret
    exact ⟨_, T1, rfl, isM_new ht1 (unhide Hs1) 54, unhide Hm1, hb1.alloc hb1.size _, _, rfl, hb1.size⟩

set_option maxRecDepth 100000 in
set_option maxHeartbeats 1000000 in
theorem mat_any {W : World} {m : Option Addr} {T : BT} (i : Int) (h : IsM W m T) (hsz : (T.io.length : Int) ≤ 1152921504606846976) (hi0 : -9223372036854775808 ≤ i) (hi1 : i ≤ 9223372036854775807) :
    Calls Try.prog 16 #[.pointer m, .int .i64 i] W fun o W' => ∃ x f, o = .returned (.tuple #[.string x.1, .int .i64 x.2, .bool f]) ∧ AtSays T.io i x f ∧ Below W.heap.size W W' := by
  obtain ⟨bm, p, rfl, h1, h2, h3, h4⟩ := h
  clear h4
  go_enter Try.func16, Try.ntmps16
  go_wp2_with fail
  refine (place_any T W p i h3 hsz hi0 hi1).mono ?_
  rintro o w' ⟨q, rfl, (⟨rfl, hno⟩ | ⟨b, x, rfl, hb, c0, c1, h0, hx⟩), he⟩
  · obtain rfl : W = w' := he.symm
    have Hno := hide hno
    clear hno
    go_wp2
    have hz := cell2_new W (.string ⟨#[]⟩) (.int .i64 0) 58
    have hb0 : Below W.heap.size W (W.alloc (.cells #[.string ⟨#[]⟩, .int .i64 0] 58)) := (Below.refl _ W).alloc (Nat.le_refl _) _
    generalize W.alloc (.cells #[.string ⟨#[]⟩, .int .i64 0] 58) = W0 at *
    obtain ⟨z0, z1⟩ := hz
    go_region_held3 (fun w' => w'.cell? ⟨W.heap.size, 0, none⟩ = some (.string ⟨#[]⟩) ∧ w'.cell? ⟨W.heap.size, 1, none⟩ = some (.int .i64 0)) (go_keep) (fail)
    go_wp2
    go_ret3
    exact ⟨((⟨#[]⟩ : ByteArray), 0), false, rfl, .inr ⟨rfl, rfl, by simpa using unhide Hno⟩, hb0.drew⟩
  · obtain rfl : W = w' := he.symm
    have Hx := hide hx
    clear hx
    go_wp2
    go_region_held3 (fun w' => w'.cell? ⟨b, 0, none⟩ = some (.string x.1) ∧ w'.cell? ⟨b, 1, none⟩ = some (.int .i64 x.2)) (go_keep) (fail)
    go_wp2
    go_ret3
    exact ⟨x, true, rfl, .inl ⟨rfl, h0, unhide Hx⟩, (Below.refl _ _).drew⟩

set_option maxRecDepth 100000 in
set_option maxHeartbeats 2000000 in
theorem join_any {W : World} {m k : Option Addr} {T U : BT} (h1 : IsM W m T) (h2 : IsM W k U) (hsz : (T.io.length : Int) + (U.io.length : Int) ≤ 1152921504606846976) :
    Calls Try.prog 34 #[.pointer m, .pointer k] W (GivesMap W (InU T.io U.io)) := by
  obtain ⟨bm, p, rfl, a1, a2, a3, a4⟩ := h1
  obtain ⟨bn, q, rfl, b1, b2, b3, b4⟩ := h2
  have HS : Hid (∀ w', Below W.heap.size W w' → (w'.cell? ⟨bm, 0, none⟩ = some (.pointer p) ∧ w'.cell? ⟨bn, 0, none⟩ = some (.pointer q)) ∧ Below W.heap.size W w') := fun w' h => ⟨⟨(h.cell (p := ⟨bm, 0, none⟩) a1).trans a2, (h.cell (p := ⟨bn, 0, none⟩) b1).trans b2⟩, h⟩
  have A4 := hide a4
  have B4 := hide b4
  clear a4 b4
  go_enter Try.func34, Try.ntmps34
  go_wp2
  go_region_held3 (fun w' => (w'.cell? ⟨bm, 0, none⟩ = some (.pointer p) ∧ w'.cell? ⟨bn, 0, none⟩ = some (.pointer q)) ∧ Below W.heap.size W w') ((refine HS.out _ ?_; first | exact (Below.refl _ _).drew | exact hB1 | exact hB1.alloc hB1.size _ | exact Below.refl _ _))
    (first
      | (go_at_call 46; refine (union_any U T _ _ _ (a3.up (Below.refl _ _).drew) (b3.up (Below.refl _ _).drew) (unhide A4) (unhide B4) hsz).mono ?_; rintro o W1 ⟨p1, T1, rfl, ht1, hs1, hm1, hb1⟩; have hB1 : Below W.heap.size W W1 := ((Below.refl _ W).drew).trans hb1; have Hs1 := hide hs1; have Hm1 := hide hm1; clear hs1 hm1))
  go_wp2
  go_ret
  exact ⟨_, T1, rfl, isM_new ht1 (unhide Hs1) 54, unhide Hm1, hB1.alloc hB1.size _, _, rfl, hB1.size⟩

set_option maxRecDepth 100000 in
set_option maxHeartbeats 2000000 in
theorem only_any {W : World} {m k : Option Addr} {T U : BT} (h1 : IsM W m T) (h2 : IsM W k U) (hsz : (T.io.length : Int) ≤ 1152921504606846976) (hsu : (U.io.length : Int) ≤ 1152921504606846976) :
    Calls Try.prog 36 #[.pointer m, .pointer k] W (GivesMap W (InS T.io U.io true)) := by
  obtain ⟨bm, p, rfl, a1, a2, a3, a4⟩ := h1
  obtain ⟨bn, q, rfl, b1, b2, b3, b4⟩ := h2
  have HS : Hid (∀ w', Below W.heap.size W w' → (w'.cell? ⟨bm, 0, none⟩ = some (.pointer p) ∧ w'.cell? ⟨bn, 0, none⟩ = some (.pointer q)) ∧ Below W.heap.size W w') := fun w' h => ⟨⟨(h.cell (p := ⟨bm, 0, none⟩) a1).trans a2, (h.cell (p := ⟨bn, 0, none⟩) b1).trans b2⟩, h⟩
  have A4 := hide a4
  have B4 := hide b4
  clear a4 b4
  go_enter Try.func36, Try.ntmps36
  go_wp2
  go_region_held3 (fun w' => (w'.cell? ⟨bm, 0, none⟩ = some (.pointer p) ∧ w'.cell? ⟨bn, 0, none⟩ = some (.pointer q)) ∧ Below W.heap.size W w') ((refine HS.out _ ?_; first | exact (Below.refl _ _).drew | exact hB1 | exact hB1.alloc hB1.size _ | exact Below.refl _ _))
    (first
      | (go_at_call 47; refine (sift_any true T U _ _ _ (a3.up (Below.refl _ _).drew) (b3.up (Below.refl _ _).drew) (unhide A4) (unhide B4) hsz hsu).mono ?_; rintro o W1 ⟨p1, T1, rfl, ht1, hs1, hm1, hb1⟩; have hB1 : Below W.heap.size W W1 := ((Below.refl _ W).drew).trans hb1; have Hs1 := hide hs1; have Hm1 := hide hm1; clear hs1 hm1))
  go_wp2
  go_ret
  exact ⟨_, T1, rfl, isM_new ht1 (unhide Hs1) 54, unhide Hm1, hB1.alloc hB1.size _, _, rfl, hB1.size⟩

set_option maxRecDepth 100000 in
set_option maxHeartbeats 2000000 in
theorem without_any {W : World} {m k : Option Addr} {T U : BT} (h1 : IsM W m T) (h2 : IsM W k U) (hsz : (T.io.length : Int) ≤ 1152921504606846976) (hsu : (U.io.length : Int) ≤ 1152921504606846976) :
    Calls Try.prog 38 #[.pointer m, .pointer k] W (GivesMap W (InS T.io U.io false)) := by
  obtain ⟨bm, p, rfl, a1, a2, a3, a4⟩ := h1
  obtain ⟨bn, q, rfl, b1, b2, b3, b4⟩ := h2
  have HS : Hid (∀ w', Below W.heap.size W w' → (w'.cell? ⟨bm, 0, none⟩ = some (.pointer p) ∧ w'.cell? ⟨bn, 0, none⟩ = some (.pointer q)) ∧ Below W.heap.size W w') := fun w' h => ⟨⟨(h.cell (p := ⟨bm, 0, none⟩) a1).trans a2, (h.cell (p := ⟨bn, 0, none⟩) b1).trans b2⟩, h⟩
  have A4 := hide a4
  have B4 := hide b4
  clear a4 b4
  go_enter Try.func38, Try.ntmps38
  go_wp2
  go_region_held3 (fun w' => (w'.cell? ⟨bm, 0, none⟩ = some (.pointer p) ∧ w'.cell? ⟨bn, 0, none⟩ = some (.pointer q)) ∧ Below W.heap.size W w') ((refine HS.out _ ?_; first | exact (Below.refl _ _).drew | exact hB1 | exact hB1.alloc hB1.size _ | exact Below.refl _ _))
    (first
      | (go_at_call 47; refine (sift_any false T U _ _ _ (a3.up (Below.refl _ _).drew) (b3.up (Below.refl _ _).drew) (unhide A4) (unhide B4) hsz hsu).mono ?_; rintro o W1 ⟨p1, T1, rfl, ht1, hs1, hm1, hb1⟩; have hB1 : Below W.heap.size W W1 := ((Below.refl _ W).drew).trans hb1; have Hs1 := hide hs1; have Hm1 := hide hm1; clear hs1 hm1))
  go_wp2
  go_ret
  exact ⟨_, T1, rfl, isM_new ht1 (unhide Hs1) 54, unhide Hm1, hB1.alloc hB1.size _, _, rfl, hB1.size⟩
end Go.Proofs.Ytcbcahnajabhfaa
