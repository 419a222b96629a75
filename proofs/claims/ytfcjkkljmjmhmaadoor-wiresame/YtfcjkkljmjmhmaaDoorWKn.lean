import Derived.Test.YtfcjkkljmjmhmaaDoorW9
namespace Go.Proofs.YtfcjkkljmjmhmaaDoor
open Go.RowKit
attribute [local go_sem ↓] Go.wp_at_zero Go.wp_at_succ

theorem hasB_lit {W : World} {g : Nat} {bs : List Int} {t : TypeId} {fr : Nat × Nat} (h : W.heap[g]? = some (.cells ((bs.map fun b => Value.int .u8 b).toArray) t fr)) (hl : bs.length ≤ 100) (n c : Nat) (hn : n = bs.length) : HasB W (.slice (some ⟨g, 0, none⟩) n c) bs := by
  subst hn
  refine ⟨_, _, rfl, by unfold maxLen; omega, fun _ => ⟨g, 0, rfl, (Array.getElem?_eq_some_iff.1 h).1, fun i b hb => ?_⟩⟩
  rw [Nat.zero_add, cell_of_row _ _ _ _ _ _ h]
  simp [hb]
theorem hasR_one {W : World} {g : Nat} {t : TypeId} {fr : Nat × Nat} (h : W.heap[g]? = some (.cells #[.int .i64 1, .int .i64 0, .int .i64 150, .string .empty, .slice none 0 0] t fr)) (c : Nat) : HasR W (.slice (some ⟨g, 0, none⟩) 1 c) [⟨1, 0, 150, .empty, none, 0⟩] := by
  refine ⟨_, _, rfl, by simp, fun _ => ⟨g, 0, rfl, (Array.getElem?_eq_some_iff.1 h).1, fun i r hr => ?_⟩⟩
  match i, hr with
  | 0, hr =>
    obtain rfl : _ = r := by simpa using hr
    refine ⟨?_, ?_, ?_, ?_, ?_⟩ <;> exact cell_of_row _ _ _ _ _ _ h
theorem hasR_two {W : World} {g : Nat} {t : TypeId} {fr : Nat × Nat} (h : W.heap[g]? = some (.cells #[.int .i64 1, .int .i64 0, .int .i64 150, .string .empty, .slice none 0 0, .int .i64 2, .int .i64 2, .int .i64 0, .string ⟨#[104, 105]⟩, .slice none 0 0] t fr)) (c : Nat) : HasR W (.slice (some ⟨g, 0, none⟩) 2 c) [r1, r2] := by
  refine ⟨_, _, rfl, by simp, fun _ => ⟨g, 0, rfl, (Array.getElem?_eq_some_iff.1 h).1, fun i r hr => ?_⟩⟩
  match i, hr with
  | 0, hr =>
    obtain rfl : _ = r := by simpa using hr
    refine ⟨?_, ?_, ?_, ?_, ?_⟩ <;> exact cell_of_row _ _ _ _ _ _ h
  | 1, hr =>
    obtain rfl : _ = r := by simpa using hr
    refine ⟨?_, ?_, ?_, ?_, ?_⟩ <;> exact cell_of_row _ _ _ _ _ _ h

def szOf (r : Rec) : Nat := if r.kind = 0 then 2 else 3
def bodyOf (r : Rec) : List Int := if r.kind = 0 then vint 150 else vint 2 ++ [104, 105]
theorem ok_both : ∀ r ∈ [r1, r2], RecOk r ((fun _ => 1) r) (szOf r) (bodyOf r) := by
  intro r hr
  simp at hr
  rcases hr with rfl | rfl
  · exact ok1
  · exact ok2
theorem v300 : vint 300 = [172, 2] := by rw [vint, if_neg (by decide), vint, if_pos (by decide)]; rfl
theorem v130 : vint (8 * 16 + 2) = [130, 1] := by rw [vint, if_neg (by decide), vint, if_pos (by decide)]; rfl
theorem v150 : vint 150 = [150, 1] := by rw [vint, if_neg (by decide), vint, if_pos (by decide)]; rfl
theorem v8 : vint 8 = [8] := by rw [vint, if_pos (by decide)]; rfl
theorem v18 : vint 18 = [18] := by rw [vint, if_pos (by decide)]; rfl
theorem v2 : vint 2 = [2] := by rw [vint, if_pos (by decide)]; rfl
theorem low1 : lows 1 4 = [1, 0, 0, 0] := by decide
theorem joined12 : joined bodyOf [r1, r2] = [8, 150, 1, 18, 2, 104, 105] := by
  simp [joined, bodyOf, r1, r2, v8, v18, v150, v2]
theorem sum12 : (([r1, r2].map fun r => (fun _ => 1) r + szOf r).sum) = 7 := by decide

set_option maxRecDepth 100000 in
set_option maxHeartbeats 2000000 in
theorem read1 {W : World} {g : Nat} {off cap : Nat} (h0 : W.cell? ⟨g, off, none⟩ = some (.int .u8 8)) :
    Calls Tryd.prog 17 #[.slice (some ⟨g, off, none⟩) 1 cap, .bool true] W fun e W' => e = .returned (.tuple #[.pointer (some ⟨W.heap.size, 0, none⟩), .int .i64 0]) ∧ Below W.heap.size W W' := by
  have hcv : (convert 23 9 (.slice (some ⟨g, off, none⟩) 1 cap)).run Tryd.prog W = .ok (.string ⟨#[8]⟩) W :=
    run_convert_bytes_back (P := Tryd.prog) W 23 9 5 ⟨g, off, none⟩ cap [8] Tryd.underlying23 Tryd.underlying5 Tryd.underlying9 (fun j hj => by
      rw [Go.WideShapes.add_plain]
      match j, hj with
      | 0, _ => exact h0)
  have hB : Below W.heap.size W (W.alloc (.cells #[.string ⟨#[8]⟩, .int .i64 0, .bool true] 77)) := (Below.refl _ _).alloc (Nat.le_refl _) _
  go_enter Tryd.func17, Tryd.ntmps17
  go_wp2
  go_ret2
  exact ⟨rfl, hB⟩
end Go.Proofs.YtfcjkkljmjmhmaaDoor
