import Derived.Test.YtafhombogmilmaaDoorWLen
import Derived.Test.YtafhombogmilmaaDoorXVa
namespace Go.Proofs.YtafhombogmilmaaDoor
open Go.RowKit Go.Lib
attribute [local go_sem ↓] Go.wp_at_zero Go.wp_at_succ

theorem sizeText_any (W : World) (s : ByteArray) (hs : s.size ≤ 1099511627776) : Calls Tryd.prog 20 #[.string s] W fun e W' => e = .returned (.int .i64 (((vint s.size).length + s.size : Nat) : Int)) ∧ W' = W := by
  have hb := vint_ten (u := s.size) (by omega)
  have hw : wrap64 (((vint s.size).length : Int) + (s.size : Int)) = (((vint s.size).length + s.size : Nat) : Int) := by rw [wrap64_small (by omega) (by omega)]; omega
  go_enter Tryd.func20, Tryd.ntmps20
  go_wp2_with fail
  refine (sizeVarint_any W (s.size : Int) s.size (by rw [wrapu_eq]; clear hw; omega) (by clear hw; omega)).mono ?_
  rintro e w' ⟨rfl, he⟩
  obtain rfl : W = w' := he.symm
  clear hb
  go_wp2
  go_ret
  exact ⟨retI hw, rfl⟩

/-- What Text answers. -/
def TextU (W : World) (s : ByteArray) (e : Ending) (W' : World) : Prop := ∃ v' c, e = .returned (.tuple #[v', .int .i64 c]) ∧ (s.size ≤ 1048576 ∧ c = 0 ∧ Bytes W.heap.size W' v' (vint s.size ++ strB s) ∨ 1048576 < s.size ∧ c = 2 ∧ v' = .slice none 0 0) ∧ Below W.heap.size W W'

set_option maxRecDepth 100000 in
set_option maxHeartbeats 4000000 in
theorem textU (W : World) (s : ByteArray) : Calls Tryd.prog 5 #[.string s] W (TextU W s) := by
  obtain ⟨i0, hi, hz0, hz1, hz2⟩ := info_parts Tryd.infoByte
  by_cases h : s.size ≤ 1048576
  · have hd : decide ((1048576 : Int) < (s.size : Int)) = false := by simp; omega
    have hb := vint_ten (u := s.size) (by omega)
    obtain ⟨n, hn⟩ : ∃ n : Nat, n = (vint s.size).length + s.size := ⟨_, rfl⟩
    have hn2 : n ≤ 1048586 := by omega
    go_enter Tryd.func5, Tryd.ntmps5
    go_wp2_with fail
    refine (sizeText_any W s (by omega)).mono ?_
    rintro e w' ⟨rfl, he⟩
    obtain rfl : W = w' := he.symm
    rw [← hn]
    clear hn hb
    go_wp2_with (at_make; refine wpList_make_own _ rfl _ _ 24 rfl W.heap.size 5 i0 (.int .u8 0) 1 Tryd.underlying24 hi hz0 hz1 .i64 .i64 (n : Int) n rfl rfl rfl (by rw [hz2]; omega) (by unfold maxLen; omega) (Nat.le_refl _) ?_; intro w5 hown5 hgrow5)
    have hb5 : Below W.heap.size W w5 := ⟨hgrow5.os, hgrow5.tape, hgrow5.output, hgrow5.size, fun b hb => hgrow5.block b hb (by simp)⟩
    have hby : Bytes W.heap.size w5 (.slice (some ⟨W.heap.size, 0, none⟩) 0 n) [] := hown5
    refine (putText_any hby hb5.size (by simp) s (by omega)).mono ?_
    rintro e w6 ⟨v6, rfl, hB6, hE6⟩
    have hbel : Below W.heap.size w5 w6 := hE6.below hb5.size (fun b hb => (World.ownsRow.lt hby b hb).1)
    go_wp2
    go_ret2
    exact ⟨_, _, rfl, .inl ⟨h, rfl, by simpa using hB6⟩, hb5.trans hbel⟩
  · have hd : (1048576 : Int) < (s.size : Int) := by omega
    have h' : 1048576 < s.size := by omega
    clear h
    go_enter Tryd.func5, Tryd.ntmps5
    go_wp2
    go_ret2
    exact ⟨_, _, rfl, .inr ⟨h', rfl, rfl⟩, Below.refl _ _⟩

set_option maxRecDepth 100000 in
set_option maxHeartbeats 4000000 in
theorem xtextU (W : World) (s : ByteArray) : Calls Tryd.prog 6 #[.string s] W (TextU W s) := by
  obtain ⟨i0, hi, hz0, hz1, hz2⟩ := info_parts Tryd.infoByte
  by_cases h : s.size ≤ 1048576
  · have hd : decide ((1048576 : Int) < (s.size : Int)) = false := by simp; omega
    have hb := vint_ten (u := s.size) (by omega)
    go_enter Tryd.func6, Tryd.ntmps6
    go_wp2_with fail
    refine (xvarint_any W (s.size : Int) (rng_nat (by omega))).mono ?_
    rintro e w1 ⟨v1, rfl, hB1, hb1⟩
    rw [un_nat (by omega)] at hB1
    have hB1' : w1.ownsRow W.heap.size 5 1 v1 (vint s.size).length _ := hB1
    have hz := hb1.size
    go_wp2_with (at_builtin; refine wpList_append_str_at rfl _ _ 24 9 rfl W.heap.size 5 i0 Tryd.underlying24 Tryd.underlying9 hi hz0 hz1 hz2 _ _ _ rfl hB1' s rfl (by unfold maxLen; omega) (by omega) hz ?_; intro v4 w4 hown4 hgrow4 hat4; have Hown := hide hown4; have Hgrow := hide hgrow4; have Hat := hide hat4; clear hown4 hgrow4 hat4)
    go_ret2
    have hE := (Ext.grown0 (unhide Hgrow) (unhide Hat)).below (n := W.heap.size) hz (fun b hb => (World.ownsRow.lt hB1' b hb).1)
    refine ⟨_, _, rfl, .inl ⟨h, rfl, ?_⟩, hb1.trans hE⟩
    have := unhide Hown
    unfold Bytes
    simpa [strB_cells, strB_len, List.append_assoc, Nat.add_assoc] using this
  · have hd : (1048576 : Int) < (s.size : Int) := by omega
    have h' : 1048576 < s.size := by omega
    clear h
    go_enter Tryd.func6, Tryd.ntmps6
    go_wp2
    go_ret2
    exact ⟨_, _, rfl, .inr ⟨h', rfl, rfl⟩, Below.refl _ _⟩
end Go.Proofs.YtafhombogmilmaaDoor
