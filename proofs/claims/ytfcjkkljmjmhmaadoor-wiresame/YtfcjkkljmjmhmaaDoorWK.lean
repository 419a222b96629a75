import Derived.Test.YtfcjkkljmjmhmaaDoorWL
namespace Go.Proofs.YtfcjkkljmjmhmaaDoor
open Go.RowKit
attribute [local go_sem ↓] Go.wp_at_zero Go.wp_at_succ

/-- The two records of the document's example. -/
def r1 : Rec := ⟨1, 0, 150, .empty, none, 0⟩
def r2 : Rec := ⟨2, 2, 0, ⟨#[104, 105]⟩, none, 0⟩
theorem ok1 : RecOk r1 1 2 (vint 150) := by
  refine ⟨by decide, by decide, by decide, tagSize_1, fun W => ?_, fun W => ?_, fun base W v bs h hb hl => ?_⟩
  · show Calls Tryd.prog 78 #[.agg #[.int .i64 1, .int .i64 0, .int .i64 150, .string .empty, .slice none 0 0]] W _
    go_enter Tryd.func78, Tryd.ntmps78
    go_wp2
    go_ret
    exact ⟨rfl, (Below.refl _ _).alloc (Nat.le_refl _) _⟩
  · show Calls Tryd.prog 79 #[.agg #[.int .i64 1, .int .i64 0, .int .i64 150, .string .empty, .slice none 0 0]] W _
    go_enter Tryd.func79, Tryd.ntmps79
    go_wp2_with fail
    refine (size_150 _).mono ?_
    rintro e w' ⟨rfl, rfl⟩
    go_wp2
    go_ret
    exact ⟨rfl, (Below.refl _ _).alloc (Nat.le_refl _) _⟩
  · show Calls Tryd.prog 80 #[v, .agg #[.int .i64 1, .int .i64 0, .int .i64 150, .string .empty, .slice none 0 0]] W _
    have hE0 := Ext.of_below ((Below.refl _ W).alloc (Nat.le_refl _) (.cells #[.int .i64 1, .int .i64 0, .int .i64 150, .string .empty, .slice none 0 0] 36)) v
    go_enter Tryd.func80, Tryd.ntmps80
    go_wp2_with fail
    refine (putVarint_any (h.alloc _) (by simp; omega) hl 150 150 (by decide +kernel) (by decide)).mono ?_
    rintro e w' ⟨v', rfl, hB, hE⟩
    go_wp2
    go_ret
    exact ⟨_, rfl, hB, hE0.trans hE⟩
theorem ok2 : RecOk r2 1 3 (vint 2 ++ [104, 105]) := by
  have hsz : (⟨#[104, 105]⟩ : ByteArray).size = 2 := rfl
  refine ⟨by decide, by decide, by decide, tagSize_2, fun W => ?_, fun W => ?_, fun base W v bs h hb hl => ?_⟩
  · show Calls Tryd.prog 87 #[.agg #[.int .i64 2, .int .i64 2, .int .i64 0, .string ⟨#[104, 105]⟩, .slice none 0 0]] W _
    go_enter Tryd.func87, Tryd.ntmps87
    go_wp2
    go_ret
    exact ⟨rfl, (Below.refl _ _).alloc (Nat.le_refl _) _⟩
  · show Calls Tryd.prog 88 #[.agg #[.int .i64 2, .int .i64 2, .int .i64 0, .string ⟨#[104, 105]⟩, .slice none 0 0]] W _
    have hst : ∀ V : World, Calls Tryd.prog 60 #[.string ⟨#[104, 105]⟩] V fun e W' => e = .returned (.int .i64 3) ∧ W' = V := fun V => by
      go_enter Tryd.func60, Tryd.ntmps60
      go_wp2_with fail
      refine (size_2 _).mono ?_
      rintro e w' ⟨rfl, rfl⟩
      go_wp2
      go_ret
      exact ⟨rfl, rfl⟩
    go_enter Tryd.func88, Tryd.ntmps88
    go_wp2_with fail
    refine (hst _).mono ?_
    rintro e w' ⟨rfl, rfl⟩
    go_wp2
    go_ret
    exact ⟨rfl, (Below.refl _ _).alloc (Nat.le_refl _) _⟩
  · show Calls Tryd.prog 89 #[v, .agg #[.int .i64 2, .int .i64 2, .int .i64 0, .string ⟨#[104, 105]⟩, .slice none 0 0]] W _
    have hE0 := Ext.of_below ((Below.refl _ W).alloc (Nat.le_refl _) (.cells #[.int .i64 2, .int .i64 2, .int .i64 0, .string ⟨#[104, 105]⟩, .slice none 0 0] 36)) v
    go_enter Tryd.func89, Tryd.ntmps89
    go_wp2_with fail
    refine (putText_any (h.alloc _) (by simp; omega) hl ⟨#[104, 105]⟩ (by decide)).mono ?_
    rintro e w' ⟨v', rfl, hB, hE⟩
    go_wp2
    go_ret
    exact ⟨_, rfl, hB, hE0.trans hE⟩
end Go.Proofs.YtfcjkkljmjmhmaaDoor
