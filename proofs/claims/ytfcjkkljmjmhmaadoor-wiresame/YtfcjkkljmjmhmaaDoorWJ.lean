import Derived.Test.YtfcjkkljmjmhmaaDoorWK
namespace Go.Proofs.YtfcjkkljmjmhmaaDoor
open Go.RowKit
attribute [local go_sem ↓] Go.wp_at_zero Go.wp_at_succ

set_option maxRecDepth 100000 in
set_option maxHeartbeats 4000000 in
theorem join_flat {W : World} {v : Value} {rs : List Rec} (h : HasR W v rs) (ts sz : Rec → Nat) (body : Rec → List Int) (hk : ∀ r ∈ rs, RecOk r (ts r) (sz r) (body r)) (n : Nat) (hn : (rs.map fun r => ts r + sz r).sum = n) (hn2 : n ≤ 1048576) (hlen : (joined body rs).length ≤ 1048576) :
    Calls Tryd.prog 24 #[v] W fun e W' => ∃ u, e = .returned (.tuple #[u, .int .i64 0]) ∧ Bytes W.heap.size W' u (joined body rs) ∧ Below W.heap.size W W' := by
  obtain ⟨i0, hi, hz0, hz1, hz2⟩ := info_parts Tryd.infoByte
  go_enter Tryd.func24, Tryd.ntmps24
  go_wp2_with fail
  refine (tooMany_flat h).mono ?_
  rintro e w1 ⟨rfl, hb1⟩
  have h1 := h.up hb1
  go_wp2_with fail
  refine (tooDeep_flat h1 (fun r hr => (hk r hr).kind.2.1) 63).mono ?_
  rintro e w2 ⟨rfl, hb2⟩
  have h2 := h1.up hb2
  have hB2 := hb1.trans (hb2.mono hb1.size)
  go_wp2_with fail
  refine (firstFault_flat h2 ts sz body hk).mono ?_
  rintro e w3 ⟨rfl, hb3⟩
  have h3 := h2.up hb3
  have hB3 := hB2.trans (hb3.mono hB2.size)
  go_wp2_with fail
  refine (sizeAll_flat h3 ts sz body hk (by omega)).mono ?_
  rintro e w4 ⟨rfl, hb4⟩
  have h4 := h3.up hb4
  have hB4 := hB3.trans (hb4.mono hB3.size)
  rw [hn]
  have hd : decide ((1048576 : Int) < (n : Int)) = false := by simp; omega
  clear h1 h2 h3
  go_wp2_with (at_make; refine wpList_make_own _ rfl _ _ 23 rfl W.heap.size 5 i0 (.int .u8 0) 1 Tryd.underlying23 hi hz0 hz1 .i64 .i64 (n : Int) n rfl rfl rfl (by rw [hz2]; omega) (by unfold maxLen; omega) hB4.size ?_; intro w5 hown5 hgrow5)
  have hb5 : Below w4.heap.size w4 w5 := ⟨hgrow5.os, hgrow5.tape, hgrow5.output, hgrow5.size, fun b hb => hgrow5.block b hb (by simp)⟩
  have h5 := h4.up hb5
  have hB5 := hB4.trans (hb5.mono hB4.size)
  have hby : Bytes W.heap.size w5 (.slice (some ⟨w4.heap.size, 0, none⟩) 0 n) [] := hown5
  refine (putAll_flat h5 hby hB5.size (fun hp g off c e => ?_) ts sz body hk (by simp; omega)).mono ?_
  · obtain ⟨a, c', e', _, h4'⟩ := h4
    obtain ⟨g', off', rfl, hg', _⟩ := h4' hp
    rw [e] at e'
    obtain ⟨⟨rfl, _⟩, _⟩ : (g = g' ∧ off = off') ∧ c = c' := by simpa using e'
    simp [Value.ownBlock]
    omega
  rintro e w6 ⟨u, rfl, hB6, hE6⟩
  have hbel : Below W.heap.size w5 w6 := hE6.below hB5.size (fun b hb => (hby.lt b hb).1)
  go_wp2
  go_ret2
  exact ⟨u, rfl, by simpa using hB6, hB5.trans hbel⟩
end Go.Proofs.YtfcjkkljmjmhmaaDoor
