import Derived.Test.YtoojchjfmnbdpabDoorDSJ
namespace Go.Proofs.YtoojchjfmnbdpabDoor
open Go.RowKit
attribute [local go_sem ↓] Go.wp_at_zero Go.wp_at_succ

theorem run_ok : ∀ (n : Nat) (s : St) (l : List Nat), s.Ok → (run n s l).Ok
  | 0, _, _, h => h
  | n + 1, s, l, _ => run_ok n _ _ ⟨Nat.mod_lt _ (by decide), Nat.mod_lt _ (by decide), Nat.mod_lt _ (by decide), Nat.mod_lt _ (by decide), Nat.mod_lt _ (by decide), Nat.mod_lt _ (by decide), Nat.mod_lt _ (by decide), Nat.mod_lt _ (by decide)⟩
theorem st0_ok : st0.Ok := by constructor <;> decide
theorem stOf_ok (l : List Nat) : (stOf l).Ok := run_ok _ _ _ st0_ok
theorem run_append : ∀ (n : Nat) (s : St) (a b : List Nat), a.length = 64 * n → run (n + 1) s (a ++ b) = block (run n s a) (wordsL 16 (b.take 64))
  | 0, s, a, b, h => by
    obtain rfl : a = [] := List.eq_nil_of_length_eq_zero (by omega)
    simp [run]
  | n + 1, s, a, b, h => by
    show run (n + 1) (block s (wordsL 16 ((a ++ b).take 64))) ((a ++ b).drop 64) = _
    rw [List.take_append_of_le_length (by omega), List.drop_append_of_le_length (by omega), run_append n _ (a.drop 64) b (by rw [List.length_drop]; omega)]
    rfl
theorem run_prefix : ∀ (n : Nat) (s : St) (a b : List Nat), 64 * n ≤ a.length → run n s (a ++ b) = run n s a
  | 0, _, _, _, _ => rfl
  | n + 1, s, a, b, h => by
    show run n (block s (wordsL 16 ((a ++ b).take 64))) ((a ++ b).drop 64) = _
    rw [List.take_append_of_le_length (by omega), List.drop_append_of_le_length (by omega), run_prefix n _ (a.drop 64) b (by rw [List.length_drop]; omega)]
    rfl
/-- No block is filled. -/
theorem stOf_more (a b : List Nat) (h : (a ++ b).length / 64 = a.length / 64) : stOf (a ++ b) = stOf a := by
  unfold stOf
  rw [h]
  exact run_prefix _ _ _ _ (by omega)
/-- A block is filled. -/
theorem stOf_full (a b : List Nat) (h : (a ++ b).length = 64 * (a.length / 64) + 64) : stOf (a ++ b) = block (stOf a) (wordsL 16 ((a ++ b).drop (64 * (a.length / 64)))) := by
  unfold stOf
  generalize hn : a.length / 64 = n at *
  have hq : (a ++ b).length / 64 = n + 1 := by omega
  rw [hq]
  have e1 : a ++ b = a.take (64 * n) ++ (a ++ b).drop (64 * n) := by
    conv => lhs; rw [← List.take_append_drop (64 * n) (a ++ b)]
    rw [List.take_append_of_le_length (by omega)]
  have e2 : ((a ++ b).drop (64 * n)).take 64 = (a ++ b).drop (64 * n) := List.take_of_length_le (by rw [List.length_drop]; omega)
  rw [e1, run_append n st0 _ _ (by rw [List.length_take]; omega), ← e1, e2]
  congr 1
  have e3 := run_prefix n st0 (a.take (64 * n)) (a.drop (64 * n)) (by rw [List.length_take]; omega)
  rw [List.take_append_drop] at e3
  exact e3.symm
/-- A hash's cells. -/
def hashCells (s : St) (r : List Nat) (n : Nat) : List Value := nw s.list ++ (nb r ++ [.int .i64 (n : Int)])
def HashAt (W : World) (h : Nat) (L : List Nat) : Prop := ∃ r : List Nat, r.length = 64 ∧ Byt r ∧ r.take (L.length % 64) = L.drop (64 * (L.length / 64)) ∧ W.heap[h]? = some (.cells (hashCells (stOf L) r L.length).toArray 65 (0, 0))
theorem hash_len (s : St) (r : List Nat) (n : Nat) (h : r.length = 64) : (hashCells s r n).length = 73 := by unfold hashCells; simp [h, St.list]
/-- The bytes that are copied. -/
theorem splice_hash (s : St) (r c : List Nat) (n o : Nat) (hr : r.length = 64) (hc : o + c.length ≤ 64) : splice (hashCells s r n) (8 + o) (nb c) = hashCells s (splice r o c) n := by
  unfold splice hashCells
  have hs : (nw s.list).length = 8 := by simp [St.list]
  rw [List.take_append, List.take_of_length_le (l := nw s.list) (by omega), hs, show 8 + o - 8 = o by omega, List.take_append_of_le_length (by rw [nb_len]; omega), List.drop_append, List.drop_eq_nil_of_le (by rw [nb_len]; omega), hs, nb_len, show 8 + o + c.length - 8 = o + c.length by omega, List.drop_append_of_le_length (by rw [nb_len]; omega)]
  unfold nb
  simp
theorem splice_len {α : Type} (r c : List α) (o : Nat) (h : o + c.length ≤ r.length) : (splice r o c).length = r.length := by unfold splice; simp; omega
end Go.Proofs.YtoojchjfmnbdpabDoor
