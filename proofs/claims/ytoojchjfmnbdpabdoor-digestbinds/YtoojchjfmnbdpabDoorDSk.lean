import Derived.Test.YtoojchjfmnbdpabDoorDSi
import Derived.Test.YtoojchjfmnbdpabDoorDSj
namespace Go.Proofs.YtoojchjfmnbdpabDoor
open Go.RowKit
attribute [local go_sem ↓] Go.wp_at_zero Go.wp_at_succ

theorem HashAt.lt {W : World} {h : Nat} {L : List Nat} (hH : HashAt W h L) : h < W.heap.size := by
  obtain ⟨r, _, _, _, hb⟩ := hH
  exact (Array.getElem?_eq_some_iff.1 hb).1
theorem HashAt.same {A B : World} {h : Nat} {L : List Nat} (hH : HashAt A h L) (e : B.heap[h]? = A.heap[h]?) : HashAt B h L := by
  obtain ⟨r, h1, h2, h3, hb⟩ := hH
  exact ⟨r, h1, h2, h3, e.trans hb⟩
theorem HashAt.up {A B : World} {h : Nat} {L : List Nat} (hH : HashAt A h L) (hb : Below A.heap.size A B) : HashAt B h L := hH.same (hb.block h hH.lt)
theorem HashAt.count {W : World} {h : Nat} {L : List Nat} (hH : HashAt W h L) : W.cell? ⟨h, 72, none⟩ = some (.int .i64 ((L.length : Nat) : Int)) := by
  obtain ⟨r, hr, _, _, hblk⟩ := hH
  rw [cell_of_row _ _ _ _ _ _ hblk, List.getElem?_toArray]
  unfold hashCells
  rw [List.getElem?_append_right (by simp [St.list]), List.getElem?_append_right (by simp [St.list, hr])]
  simp [St.list, hr]
theorem HashAt.now {W : World} {h : Nat} {L : List Nat} (hH : HashAt W h L) : Arr W h (stOf L).list := by
  have hlt := hH.lt
  obtain ⟨r, hr, _, _, hblk⟩ := hH
  obtain ⟨g1, _, g3⟩ := hash_range W h _ _ _ hr hblk
  exact ⟨g1, g3, hlt⟩

theorem Bytes.base {b b' : Nat} {W : World} {v : Value} {l : List Nat} (h : Bytes b W v l) (hb : b' ≤ b) : Bytes b' W v l := by
  obtain ⟨h1, h2 | ⟨g, c, cur, e1, e2, e3⟩⟩ := h
  · exact ⟨h1, .inl h2⟩
  · exact ⟨h1, .inr ⟨g, c, cur, e1, Nat.le_trans hb e2, e3⟩⟩
set_option maxRecDepth 100000 in
set_option maxHeartbeats 2000000 in
theorem hsum_any {W : World} (hK : HasK W) {h : Nat} {L : List Nat} (hH : HashAt W h L) (hn : L.length ≤ 562949953421312) :
    Calls Tryd.prog 15 #[.pointer (some ⟨h, 0, none⟩)] W fun e W' => ∃ v', e = .returned v' ∧ Bytes W.heap.size W' v' (sha L) ∧ Below W.heap.size W W' := by
  go_enter Tryd.func15, Tryd.ntmps15
  go_wp2_with fail
  refine (fork_any hH).mono ?_
  rintro e w1 ⟨rfl, hF, hb1⟩
  have hF1 := hF.lt
  have hc := (hH.up hb1).count
  go_wp2_with fail
  refine (padding_any w1 L.length (by omega)).mono ?_
  rintro e w2 ⟨v2, rfl, hP, hb2⟩
  have hb02 : Below W.heap.size W w2 := hb1.trans (hb2.mono hb1.size)
  have hF2 := hF.up hb2
  have hpl : (padding L.length).length ≤ 72 := by rw [padding_len]; have := zeros_lt L.length; omega
  clear hc
  go_wp2_with fail
  refine (add_any (hK.up hb02) hF2 (by have := hK.1; omega) hP.has ?_ (padding_byt _) (by omega)).mono ?_
  · intro g off n c hv _
    have := (World.ownsRow.lt hP g (by rw [hv]; rfl)).1
    omega
  rintro e w3 ⟨rfl, hF3, hO3⟩
  have hb03 : Below W.heap.size W w3 := hb02.trans (hO3.below (by have := hb02.size; omega) (Nat.le_refl _))
  obtain ⟨sm, hsm⟩ : ∃ sm, stOf (L ++ padding L.length) = sm := ⟨_, rfl⟩
  have hok : sm.Ok := by rw [← hsm]; exact stOf_ok _
  have hsh : sha L = sm.bytes := by unfold sha; rw [hsm]
  have hnow := hF3.now
  rw [hsm] at hnow
  have Hsh := hide hsh
  have hs3 := hb03.size
  clear hsm hsh hF3 hF2 hF hO3 hP
  obtain ⟨sa, sb, sc, sd, se, sf, sg, sh⟩ := sm
  obtain ⟨⟨c0, c1, c2, c3, c4, c5, c6, c7⟩, _⟩ := eight hnow
  go_wp2_with fail
  refine (bytesOf_any w3 ⟨sa, sb, sc, sd, se, sf, sg, sh⟩ hok).mono ?_
  rintro e w4 ⟨v4, rfl, hB4, hb4⟩
  go_wp2
  go_ret
  refine ⟨_, rfl, ?_, hb03.trans (hb4.mono hs3)⟩
  rw [unhide Hsh]
  exact hB4.base hs3
end Go.Proofs.YtoojchjfmnbdpabDoor
