import Derived.Test.YthodjkeppobcmaaDoorUX
import Derived.Shelf.Strings.Builder1

namespace Go.Proofs.YthodjkeppobcmaaDoor
open Go.RowKit Go.Lib
attribute [local go_sem ↓] Go.wp_at_zero Go.wp_at_succ

set_option maxRecDepth 100000 in
set_option maxHeartbeats 1000000 in
theorem xutf8_any (W : World) (s : ByteArray) (hs : s.size ≤ 140737488351232) :
    Calls Tryd.prog 18 #[.string s] W fun e w => e = .returned (.int .i64 (utfAt s 0)) ∧ w = W := by
  go_enter Tryd.func18, Tryd.ntmps18
  go_wp2
  go_loopg [3, 4] s.size (fun gk v3 _ wr => ∃ (k : Nat), v3 = .int .i64 (k : Int) ∧ gk = s.size - k ∧ k ≤ s.size ∧ wr = W ∧ Hid (utfAt s 0 = utfAt s k))
  case atStart => exact ⟨0, rfl, rfl, by omega, rfl, rfl⟩
  case round =>
    obtain ⟨k, rfl, hgk, hk, rfl, Hu⟩ := hrel
    have Hgk := hide hgk
    clear hgk
    by_cases hlt : k < s.size
    · go_wp2_with fail
      refine (follow_any wr s k hlt hs).mono ?_
      rintro e w2 ⟨rfl, he⟩
      obtain rfl : wr = w2 := he.symm
      obtain ⟨q1, q2⟩ := chAt_le s k hk
      by_cases h0 : chAt s k = 0
      · have Hr : Hid (utfAt s 0 = (k : Int)) := (unhide Hu).trans (utf_bad hlt h0)
        rw [h0]
        clear h0 q1 q2
        go_wp2
        go_ret
        exact ⟨by rw [unhide Hr]; rfl, rfl⟩
      · have Hr : Hid (utfAt s 0 = utfAt s (k + chAt s k)) := (unhide Hu).trans (utf_step hlt h0)
        obtain ⟨n, hn⟩ : ∃ n, n = chAt s k := ⟨_, rfl⟩
        rw [← hn] at h0 q1 q2 Hr ⊢
        have n0 : ((n : Int) == 0) = false := by simp; omega
        clear hn
        go_wp2
        go_roundg (s.size - (k + n))
        case measure => have := unhide Hgk; omega
        case rel => exact ⟨k + n, by go_num, rfl, by omega, rfl, Hr⟩
    · have Hr : Hid (utfAt s 0 = -1) := (unhide Hu).trans (utf_end hlt)
      obtain rfl : k = s.size := by omega
      go_wp2
      go_ret
      exact ⟨by rw [unhide Hr]; rfl, rfl⟩
end Go.Proofs.YthodjkeppobcmaaDoor

namespace Go.Proofs.YthodjkeppobcmaaDoor
open Go.RowKit
attribute [local go_sem ↓] Go.wp_at_zero Go.wp_at_succ

theorem set_block {W : World} {b j : Nat} {cs : Array Value} {t : TypeId} (h : W.heap[b]? = some (.cells cs t (0, 0))) (u : Value) : (W.setCell ⟨b, j, none⟩ u).heap[b]? = some (.cells (cs.toList.set j u).toArray t (0, 0)) ∧ W.grownBy (W.setCell ⟨b, j, none⟩ u) (some b) := by
  have hr : W.ownsRow 0 t cs.size (.slice (some ⟨b, 0, none⟩) 1 1) 1 cs.toList := ⟨by simp, .inr ⟨b, 1, cs, rfl, Nat.zero_le _, h, Nat.le_refl _, by unfold maxLen; omega, by simp, by rw [Nat.one_mul]; exact List.take_of_length_le (by simp)⟩⟩
  obtain ⟨h1, h2⟩ := World.ownsRow.stored hr j u
  refine ⟨?_, h2⟩
  rcases h1.2 with ⟨e, _⟩ | ⟨g', c, cur, e, _, h4, _, _, h5, h6⟩
  · cases e
  · cases e
    rw [h4]
    have e2 : cur.toList = cs.toList.set j u := by
      rw [← h6, List.take_of_length_le]
      rw [Array.length_toList, h5]
      simp
    have e3 : cur = (cs.toList.set j u).toArray := by rw [← e2]
    rw [e3]
theorem sizeBuilder : (Tryd.prog.info? 33).map (·.size) = some 2 := by kernel_rfl
theorem liesBuilder : liesAt Tryd.prog Tryd.prog.depth 33 (2 / Tryd.prog.cellsOf 33) 0 33 1 = true := by kernel_rfl
theorem infoByteB : (Tryd.prog.info? 5).map (fun i => (i.zero, i.size, i.bytes)) = some (some (.int .u8 0), 1, 1) := by kernel_rfl
set_option maxRecDepth 100000 in
set_option maxHeartbeats 1000000 in
theorem copyCheck_used (b : Nat) (w : World) (h0 : w.cell? ⟨b, 0, none⟩ = some (.pointer (some ⟨b, 0, none⟩))) : Calls Tryd.prog 17 #[.pointer (some ⟨b, 0, none⟩)] w fun e w' => e = .returned (.tuple #[]) ∧ w' = w := by
  obtain ⟨j, hj, _⟩ := Option.map_eq_some_iff.1 sizeBuilder
  go_enter Tryd.func17, Tryd.ntmps17
  go_wp2
  rw [Lib.run_neq_ptr_same w _ Tryd.underlying30 hj]
  go_wp2
  go_end0
  exact ⟨rfl, rfl⟩
set_option maxRecDepth 100000 in
set_option maxHeartbeats 1000000 in
theorem copyCheck_fresh (b : Nat) (w : World) (h0 : w.cell? ⟨b, 0, none⟩ = some (.pointer none)) (hsh : w.shape? b = some (33, 2)) (hfz : w.frozen? ⟨b, 0, none⟩ = false) :
    Calls Tryd.prog 17 #[.pointer (some ⟨b, 0, none⟩)] w fun e w' => e = .returned (.tuple #[]) ∧ w' = w.setCell ⟨b, 0, none⟩ (.pointer (some ⟨b, 0, none⟩)) := by
  obtain ⟨j, hj, hjs⟩ := Option.map_eq_some_iff.1 sizeBuilder
  go_enter Tryd.func17, Tryd.ntmps17
  go_wp2
  rw [Lib.run_to_unsafe w ⟨b, 0, none⟩ Tryd.underlying30 Tryd.underlying62 hj (by rw [hjs]; decide) hsh (Nat.zero_lt_succ 1)]
  simp only [Result.andThen]
  rw [Oper.upon_value]
  go_wp2
  rw [run_callFunc_extern Tryd.func30 (by kernel_rfl) (by kernel_rfl) (by kernel_rfl) (e := Extern.AbiNoEscape.same) (by kernel_rfl)]
  rw [Lib.run_noEscape]
  simp only [Result.andThen]
  rw [Oper.upon_value]
  go_wp2
  rw [Lib.run_from_unsafe w ⟨b, 0, none⟩ Tryd.underlying62 Tryd.underlying30 hj hsh liesBuilder]
  simp only [Result.andThen]
  rw [Oper.upon_value]
  go_wp2
  go_end0
  exact ⟨rfl, rfl⟩
theorem copyCheck_any (B b : Nat) (bs : List Value) (w : World) (h : Lib.IsBuilder 33 5 B b bs w) :
    Calls Tryd.prog 17 #[.pointer (some ⟨b, 0, none⟩)] w fun e w' => e = .returned (.tuple #[]) ∧ (Lib.BuilderAt 33 5 B b (.pointer (some ⟨b, 0, none⟩)) bs w' ∧ Below B w w') := by
  rcases h with h | h
  · refine (copyCheck_fresh b w h.cell0 h.shape h.frozen0).mono ?_
    rintro e w' ⟨rfl, rfl⟩
    exact ⟨rfl, h.used _, (Below.refl B w).setCell (p := ⟨b, 0, none⟩) h.1 _⟩
  · refine (copyCheck_used b w h.cell0).mono ?_
    rintro e w' ⟨rfl, rfl⟩
    exact ⟨rfl, h, Below.refl B _⟩
/-- Behind an append onto the builder's own bytes: they are stored, and the builder holds them. -/
theorem put_any {B b : Nat} {bs bs' : List Value} {w1 w2 : World} {v v' : Value} (hB : B ≤ b) (hbk : w1.heap[b]? = some (.cells #[.pointer (some ⟨b, 0, none⟩), v] 33 (0, 0))) (hown : w1.ownsRow B 5 1 v bs.length bs) (hne : v.ownBlock ≠ some b) (hg : w1.grownBy w2 v.ownBlock) (ho : w2.ownsRow B 5 1 v' bs'.length bs') :
    (w2.cell? ⟨b, 0, none⟩ = some (.pointer (some ⟨b, 0, none⟩)) ∧ w2.cell? ⟨b, 1, none⟩ = some v ∧ w2.frozen? ⟨b, 1, none⟩ = false) ∧ Lib.BuilderAt 33 5 B b (.pointer (some ⟨b, 0, none⟩)) bs' (w2.setCell ⟨b, 1, none⟩ v') ∧ Below B w1 (w2.setCell ⟨b, 1, none⟩ v') := by
  have hl : b < w1.heap.size := (Array.getElem?_eq_some_iff.1 hbk).1
  have hb2 := (hg.block b hl (fun e => hne e.symm)).trans hbk
  obtain ⟨k1, k2⟩ := set_block (j := 1) hb2 v'
  have hn : v'.ownBlock ≠ some b := fun e => by
    rcases ho.2 with ⟨rfl, _⟩ | ⟨g, cap, cur, rfl, _, h2, _⟩
    · cases e
    · obtain rfl : g = b := by simpa [Value.ownBlock] using e
      rw [h2] at hb2
      simp at hb2
  have hlo : Below B w1 w2 := ⟨hg.os, hg.tape, hg.output, hg.size, fun k hk => hg.block k (by omega) (fun e => by have := (hown.lt k e.symm).1; omega)⟩
  refine ⟨⟨?_, ?_, by simp [World.frozen?, hb2]⟩, ⟨hB, v', k1, ho.kept k2 ?_, hn⟩, hlo.trans ⟨k2.os, k2.tape, k2.output, k2.size, fun k hk => k2.block k (by have := hg.size; omega) (by simp; omega)⟩⟩
  · rw [cell_of_row _ _ _ _ _ _ hb2]; rfl
  · rw [cell_of_row _ _ _ _ _ _ hb2]; rfl
  · cases e : v'.ownBlock with
    | none => exact .inl rfl
    | some k => exact .inr (fun q => hn (e.trans q))
theorem sl_form {B n : Nat} {w : World} {v : Value} {xs : List Value} (h : w.ownsRow B 5 1 v n xs) : ∃ a l c, v = .slice a l c := by
  rcases h.2 with ⟨rfl, _⟩ | ⟨g, cap, _, rfl, _⟩
  · exact ⟨_, _, _, rfl⟩
  · exact ⟨_, _, _, rfl⟩
set_option maxRecDepth 100000 in
set_option maxHeartbeats 1000000 in
theorem writeString_any (B b : Nat) (bs : List Value) (s : ByteArray) (w : World) (h : Lib.IsBuilder 33 5 B b bs w) (hlen : bs.length + s.size ≤ 140737488355328) (hBw : B ≤ w.heap.size) :
    Calls Tryd.prog 8 #[.pointer (some ⟨b, 0, none⟩), .string s] w fun e w' => e = .returned (.tuple #[.int .i64 s.size, .nilIface]) ∧ (Lib.BuilderAt 33 5 B b (.pointer (some ⟨b, 0, none⟩)) (bs ++ Lib.strCells s) w' ∧ Below B w w') := by
  obtain ⟨i0, hi, hz0, hz1, hz2⟩ := info_parts infoByteB
  have hc := hide (copyCheck_any B b bs w h)
  clear h
  go_enter Tryd.func8, Tryd.ntmps8
  go_wp2_with fail
  refine (unhide hc).mono ?_
  rintro e w1 ⟨rfl, ⟨hB, v, hbk, hown, hne⟩, hb1⟩
  have s1 := hb1.size
  have c1 : w1.cell? ⟨b, 1, none⟩ = some v := by rw [cell_of_row _ _ _ _ _ _ hbk]; rfl
  have Hb1 := hide hb1
  have Hown := hide hown
  have Hbk := hide hbk
  have Hne := hide hne
  clear hb1 hown hbk hne hc
  go_wp2_with (at_builtin; refine Lib.wpList_append_own_string _ rfl _ _ 31 9 rfl B 5 i0 Tryd.underlying31 Tryd.underlying9 hi hz0 hz1 hz2 _ _ _ rfl (unhide Hown) s rfl (by unfold maxLen; omega) (by omega) (by omega) ?_; intro v' w2 ho hg _; obtain ⟨⟨d0, d1, f1⟩, hput⟩ := put_any (bs' := bs ++ Lib.strCells s) hB (unhide Hbk) (unhide Hown) (unhide Hne) hg (by rw [List.length_append, Lib.strCells_length]; exact ho); have Hput := hide hput; obtain ⟨a', l', c', rfl⟩ := sl_form ho; clear ho hg hput)
  go_ret2
  exact ⟨rfl, (unhide Hput).1, (unhide Hb1).trans (unhide Hput).2⟩
end Go.Proofs.YthodjkeppobcmaaDoor
