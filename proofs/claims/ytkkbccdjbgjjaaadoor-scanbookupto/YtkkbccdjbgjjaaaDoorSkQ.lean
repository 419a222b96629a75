import Derived.Test.YtkkbccdjbgjjaaaDoorSkP
import Derived.Test.YtkkbccdjbgjjaaaDoorSOJ

namespace Go.Proofs.YtkkbccdjbgjjaaaDoor
open Go.RowKit
attribute [local go_sem ↓] Go.wp_at_zero Go.wp_at_succ

set_option maxRecDepth 100000 in
set_option maxHeartbeats 8000000 in
theorem scanBook_any {V : World} {v : Value} {l : List ByteArray} (hF : HasF V) (hE : HasE V) (hM : HasM V) (hT0 : HasS V v l) (hn : l.length ≤ 1048576) :
    Calls Tryd.prog 3 #[v] V fun e W' => e = .returned (.bool true) ∧ Below V.heap.size V W' := by
  obtain ⟨a0, c0, rfl, _⟩ := id hT0
  have HF := hide hF
  have HE := hide hE
  have HM := hide hM
  have HT := hide hT0
  refine calls_of_wp Tryd.func3 sk_split ?_
  obtain ⟨tL, hL0⟩ : ∃ t, skLoop = t := ⟨_, rfl⟩
  obtain ⟨tC, hC0⟩ : ∃ t, skCheck2 = t := ⟨_, rfl⟩
  rw [hL0, hC0]
  unfold skWith
  dsimp only [Tryd.f3]
  simp only [List.size_toArray, List.length_cons, List.length_nil, Nat.reduceAdd, Nat.reduceSub, Array.replicate_succ, Array.replicate_zero, List.push_toArray, List.append_toArray, List.nil_append, List.cons_append]
  clear hF hE hM hT0
  go_wp2_with fail
  refine (head_any (unhide HF) (unhide HE) (unhide HM)).mono ?_
  rintro e w1 ⟨rfl, hb1⟩
  have HB1 := hide hb1
  clear hb1
  go_wp2
  rw [← hL0]
  refine loop_any (unhide HF) (unhide HE) (unhide HM) (unhide HT) hn (unhide HB1) rfl ⟨rfl, rfl, rfl, trivial⟩ ?_
  intro W2 v3 us hS hul hb2 tm hsz hchk
  have HS := hide hS
  have HB2 := hide hb2
  obtain ⟨u, rfl⟩ := frame160 hsz
  obtain ⟨e0, e3, _⟩ := hchk
  replace e0 : u 0 = .slice a0 l.length c0 := Option.some.inj e0
  replace e3 : u 3 = v3 := Option.some.inj e3
  rw [e0, e3]
  clear e0 e3 hS hb2
  go_wp2
  rw [← hC0]
  refine check_all2 (p0 := .slice a0 l.length c0) (p4 := u 4) (p5 := u 5) (unhide HS) hul rfl ⟨rfl, rfl, rfl, rfl, trivial⟩ ?_
  intro W3 hb3 tm hsz hchk
  have HB3 : Hid (Below V.heap.size V W3) := (unhide HB2).trans (hb3.mono (unhide HB2).size)
  obtain ⟨z, rfl⟩ := frame160 hsz
  obtain ⟨e0, _⟩ := hchk
  replace e0 : z 0 = .slice a0 l.length c0 := Option.some.inj e0
  rw [e0]
  clear e0 hb3
  go_wp2_with fail
  refine (owned_any ((unhide HF).up (unhide HB3)) ((unhide HE).up (unhide HB3)) ((unhide HM).up (unhide HB3) (unhide HM).1) ((unhide HT).up (unhide HB3)) hn).mono ?_
  rintro e w4 ⟨rfl, hb4⟩
  have HB4 : Hid (Below V.heap.size V w4) := (unhide HB3).trans (hb4.mono (unhide HB3).size)
  clear hb4
  go_wp2
  go_ret
  exact ⟨rfl, unhide HB4⟩
theorem scanBook_row {V : World} {v : Value} {l : List ByteArray} (hF : HasF V) (hE : HasE V) (hM : HasM V) (hT : HasS V v l) (_ : ∀ s ∈ l, s.size ≤ 1048576) (hn : l.length ≤ 1048576) :
    Calls Tryd.prog 3 #[v] V fun e W' => e = .returned (.bool true) ∧ Below V.heap.size V W' := scanBook_any hF hE hM hT hn
end Go.Proofs.YtkkbccdjbgjjaaaDoor
