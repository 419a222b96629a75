import Derived.Test.YthodjkeppobcmaaDoorKE
import Derived.Test.YthodjkeppobcmaaDoorJ21
import Derived.Outline

namespace Go.Proofs.YthodjkeppobcmaaDoor
open Go.RowKit Go.Lib
attribute [local go_sem ↓] Go.wp_at_zero Go.wp_at_succ

theorem strG_le (L : List Nat) : ∀ (f i e : Nat), strG L f i = some e → i < e ∧ e ≤ L.length := by
  intro f
  induction f with
  | zero => intro i e h; cases h
  | succ f ih =>
    intro i e h
    unfold strG at h
    split at h
    · split at h
      · cases h
      · split at h
        · cases h; omega
        · split at h
          · split at h
            · cases h
            · have := ih _ _ h; omega
          · have := ih _ _ h; omega
    · cases h
theorem wrE_le {L : List Nat} {a : Nat} (h : a ≤ L.length) : a ≤ wrE L a ∧ wrE L a ≤ L.length := by
  unfold wrE
  have key : ∀ (k : Nat) (l : List Nat), (L.drop a).take k = l → l.length = k → a + k ≤ L.length := fun k l e hl => by
    have := congrArg List.length e
    rw [List.length_take, List.length_drop, hl] at this
    omega
  split
  · rename_i q; have := key 4 _ q rfl; omega
  · split
    · rename_i q; have := key 5 _ q rfl; omega
    · split
      · rename_i q; have := key 4 _ q rfl; omega
      · omega
theorem isSg_0 {L : List Nat} {a : Nat} (h : isSg (bt L a) = true) : a < L.length := bt_lt (fun e => by rw [e] at h; cases h)
theorem tkE_le {s : ByteArray} {a : Nat} (h : a ≤ s.size) : a ≤ tkE (strN s) a ∧ tkE (strN s) a ≤ s.size := by
  unfold tkE
  split
  · have := isSg_0 (by assumption)
    rw [strN_len] at this
    omega
  · split
    · have := wrE_le (L := strN s) (a := a) (by rw [strN_len]; exact h)
      rw [strN_len] at this
      exact this
    · split
      · exact numE_le h
      · split
        · cases hq : strE (strN s) a with
          | none => simp; exact h
          | some e =>
            have := strG_le _ _ _ _ hq
            rw [strN_len] at this
            simp
            omega
        · omega
/-- Which function looks for a token's end. -/
def bgF (c : Nat) : Nat := if isSg c = true then 45 else if isWd c = true then 46 else if isNm c = true then 47 else if c = 34 then 48 else 49
set_option maxRecDepth 100000 in
theorem ends_any {W : World} (hE : HasE W) (s : ByteArray) (a : Nat) (ha : a ≤ s.size) (hs : s.size ≤ 67108864) : Calls Tryd.prog (bgF (bt (strN s) a)) #[.string s, .int .i64 (a : Int)] W fun e w => e = .returned (.int .i64 (tkE (strN s) a : Int)) ∧ Below W.heap.size W w := by
  have hb := Below.refl W.heap.size W
  have hl := strN_len s
  unfold bgF tkE
  split
  · clear hE
    go_enter Tryd.func45, Tryd.ntmps45
    go_wp2
    go_ret
    exact ⟨by go_num, hb⟩
  · split
    · refine (word_any W s a ha hs).mono ?_
      rintro e w ⟨rfl, rfl⟩
      exact ⟨rfl, hb⟩
    · split
      · rename_i q
        have hlt : a < s.size := by
          rw [← hl]
          exact bt_lt (fun e => by rw [e] at q; cases q)
        refine (number_any W s a hlt hs).mono ?_
        rintro e w ⟨rfl, rfl⟩
        exact ⟨rfl, hb⟩
      · split
        · rename_i q
          have hlt : a < s.size := bt_in q (by omega)
          exact string_any hE s a hlt hs
        · clear hE
          go_enter Tryd.func49, Tryd.ntmps49
          go_wp2
          go_ret
          exact ⟨rfl, hb⟩
end Go.Proofs.YthodjkeppobcmaaDoor

namespace Go.Proofs.YthodjkeppobcmaaDoor
open Go.RowKit Go.Lib
attribute [local go_sem ↓] Go.wp_at_zero Go.wp_at_succ

set_option maxRecDepth 100000 in
set_option maxHeartbeats 2000000 in
theorem begins_any (W : World) (c : Nat) : Calls Tryd.prog 40 #[.int .u8 (c : Int)] W fun e w => e = .returned (.func (.func (bgF c)) #[] #[]) ∧ w = W := by
  by_cases h : c = 123 ∨ c = 125 ∨ c = 91 ∨ c = 93 ∨ c = 58 ∨ c = 44 ∨ c = 116 ∨ c = 102 ∨ c = 110 ∨ c = 45 ∨ c = 48 ∨ c = 49 ∨ c = 50 ∨ c = 51 ∨ c = 52 ∨ c = 53 ∨ c = 54 ∨ c = 55 ∨ c = 56 ∨ c = 57 ∨ c = 34
  · rcases h with h | h | h | h | h | h | h | h | h | h | h | h | h | h | h | h | h | h | h | h | h
    all_goals (
      subst h
      go_enter Tryd.func40, Tryd.ntmps40
      go_wp2
      go_ret
      exact ⟨rfl, rfl⟩)
  · have hb : bgF c = 49 := by
      unfold bgF isSg isWd isNm isDg
      rw [if_neg (by simp; omega), if_neg (by simp; omega), if_neg (by simp; omega), if_neg (by omega)]
    rw [hb]
    have e123 : ((c : Int) == 123) = false := by simp; omega
    have e125 : ((c : Int) == 125) = false := by simp; omega
    have e91 : ((c : Int) == 91) = false := by simp; omega
    have e93 : ((c : Int) == 93) = false := by simp; omega
    have e58 : ((c : Int) == 58) = false := by simp; omega
    have e44 : ((c : Int) == 44) = false := by simp; omega
    have e116 : ((c : Int) == 116) = false := by simp; omega
    have e102 : ((c : Int) == 102) = false := by simp; omega
    have e110 : ((c : Int) == 110) = false := by simp; omega
    have e45 : ((c : Int) == 45) = false := by simp; omega
    have e48 : ((c : Int) == 48) = false := by simp; omega
    have e49 : ((c : Int) == 49) = false := by simp; omega
    have e50 : ((c : Int) == 50) = false := by simp; omega
    have e51 : ((c : Int) == 51) = false := by simp; omega
    have e52 : ((c : Int) == 52) = false := by simp; omega
    have e53 : ((c : Int) == 53) = false := by simp; omega
    have e54 : ((c : Int) == 54) = false := by simp; omega
    have e55 : ((c : Int) == 55) = false := by simp; omega
    have e56 : ((c : Int) == 56) = false := by simp; omega
    have e57 : ((c : Int) == 57) = false := by simp; omega
    have e34 : ((c : Int) == 34) = false := by simp; omega
    clear h hb
    go_enter Tryd.func40, Tryd.ntmps40
    go_wp2
    go_ret
    exact ⟨rfl, rfl⟩
def scC (s : ByteArray) (a bb op : Nat) : Array Value := #[.string s, .int .i64 (a : Int), .func (.func 7) #[] #[.pointer (some ⟨bb, 0, none⟩)], .int .i64 (op : Int)]
/-- What lies elsewhere stays, but bytes. -/
def Kq (U : World) (bb b : Nat) (w : World) : Prop := ∀ d cs ty fr, d ≠ bb → d ≠ b → U.heap[d]? = some (.cells cs ty fr) → ty ≠ 5 → w.heap[d]? = some (.cells cs ty fr)
def Fw (V : World × World) (bb b : Nat) (w : World) : Prop := Below V.1.heap.size V.1 w ∧ Kq V.2 bb b w
theorem Fw.grown {V : World × World} {bb b : Nat} {W w : World} (h : Fw V bb b W) (hg : W.grownBy w (some b)) (hb : V.1.heap.size ≤ b) : Fw V bb b w :=
  ⟨h.1.grown hg h.1.size (fun k e => by simp at e; omega), fun d cs ty fr h1 h2 h3 h4 => (hg.block d (Array.getElem?_eq_some_iff.1 (h.2 d cs ty fr h1 h2 h3 h4)).1 (by simpa using h2)).trans (h.2 d cs ty fr h1 h2 h3 h4)⟩
theorem Fw.up {V : World × World} {bb b : Nat} {W w : World} (h : Fw V bb b W) (hb : Below W.heap.size W w) : Fw V bb b w :=
  ⟨h.1.trans (hb.mono h.1.size), fun d cs ty fr h1 h2 h3 h4 => (hb.block d (Array.getElem?_eq_some_iff.1 (h.2 d cs ty fr h1 h2 h3 h4)).1).trans (h.2 d cs ty fr h1 h2 h3 h4)⟩
theorem Fw.kp {V : World × World} {bb b : Nat} {W w : World} (h : Fw V bb b W) (hb : Below V.1.heap.size W w) (hk : Kp bb W w) : Fw V bb b w :=
  ⟨h.1.trans hb, fun d cs ty fr h1 h2 h3 h4 => hk d cs ty fr h1 (h.2 d cs ty fr h1 h2 h3 h4) h4⟩
/-- A scanner in memory, and the builder that it tells. -/
structure Sc (V : World × World) (s : ByteArray) (bb b a op : Nat) (out : List Nat) (W : World) : Prop where
  blk : W.heap[b]? = some (.cells (scC s a bb op) 50 (0, 0))
  bld : BI V.1.heap.size bb out W
  ne : bb ≠ b
  lo : V.1.heap.size ≤ b ∧ V.1.heap.size ≤ bb
  bel : Fw V bb b W
  le : a ≤ s.size
  len : out.length ≤ a
  op : op ≤ 200
theorem BI.kept {B bb b : Nat} {L : List Nat} {W w : World} {cs : Array Value} {t : TypeId} {fr : Nat × Nat} (h : BI B bb L W) (hg : W.grownBy w (some b)) (hb : W.heap[b]? = some (.cells cs t fr)) (ht : t ≠ 5) (hn : bb ≠ b) : BI B bb L w := by
  have key : ∀ {p : Value}, Lib.BuilderAt 33 5 B bb p (nb L) W → Lib.BuilderAt 33 5 B bb p (nb L) w := by
    rintro p ⟨h1, v, hbk, hown, hne⟩
    refine ⟨h1, v, (hg.block bb (Array.getElem?_eq_some_iff.1 hbk).1 (by simpa using hn)).trans hbk, hown.kept hg ?_, hne⟩
    rcases hown.2 with ⟨rfl, _⟩ | ⟨g, cap, cur, rfl, _, h4, _⟩
    · exact .inl rfl
    · refine .inr (fun e => ?_)
      obtain rfl : g = b := by simpa [Value.ownBlock] using e
      rw [h4] at hb
      simp at hb
      exact ht hb.2.1.symm
  rcases h with h | h
  · exact .inl (key h)
  · exact .inr (key h)
theorem Sc.at {V : World × World} {s : ByteArray} {bb b a op : Nat} {out : List Nat} {W : World} (h : Sc V s bb b a op out W) (a' : Nat) (h1 : a ≤ a') (h2 : a' ≤ s.size) : Sc V s bb b a' op out (W.setCell ⟨b, 1, none⟩ (.int .i64 (a' : Int))) := by
  obtain ⟨k1, k2⟩ := set_block (j := 1) h.blk (.int .i64 (a' : Int))
  exact ⟨k1, h.bld.kept k2 h.blk (by decide) h.ne, h.ne, h.lo, h.bel.grown k2 h.lo.1, h2, Nat.le_trans h.len h1, h.op⟩
theorem Sc.opn {V : World × World} {s : ByteArray} {bb b a op : Nat} {out : List Nat} {W : World} (h : Sc V s bb b a op out W) (op' : Nat) (h1 : op' ≤ 200) : Sc V s bb b a op' out (W.setCell ⟨b, 3, none⟩ (.int .i64 (op' : Int))) := by
  obtain ⟨k1, k2⟩ := set_block (j := 3) h.blk (.int .i64 (op' : Int))
  exact ⟨k1, h.bld.kept k2 h.blk (by decide) h.ne, h.ne, h.lo, h.bel.grown k2 h.lo.1, h.le, h.len, h1⟩
theorem Sc.drew {V : World × World} {s : ByteArray} {bb b a op : Nat} {out : List Nat} {W : World} (h : Sc V s bb b a op out W) : Sc V s bb b a op out W.drew := ⟨h.blk, h.bld, h.ne, h.lo, ⟨⟨h.bel.1.os, h.bel.1.tape, h.bel.1.output, h.bel.1.size, h.bel.1.block⟩, h.bel.2⟩, h.le, h.len, h.op⟩
theorem Sc.cells {V : World × World} {s : ByteArray} {bb b a op : Nat} {out : List Nat} {W : World} (h : Sc V s bb b a op out W) : W.cell? ⟨b, 0, none⟩ = some (.string s) ∧ W.cell? ⟨b, 1, none⟩ = some (.int .i64 (a : Int)) ∧ W.cell? ⟨b, 2, none⟩ = some (.func (.func 7) #[] #[.pointer (some ⟨bb, 0, none⟩)]) ∧ W.cell? ⟨b, 3, none⟩ = some (.int .i64 (op : Int)) ∧ (∀ j, W.frozen? ⟨b, j, none⟩ = false) := by
  have := h.blk
  refine ⟨?_, ?_, ?_, ?_, fun j => by simp [World.frozen?, this]⟩ <;> rw [cell_of_row _ _ _ _ _ _ this] <;> rfl
theorem skB_le {s : ByteArray} {a : Nat} (h : a ≤ s.size) : a ≤ skB (strN s) a ∧ skB (strN s) a ≤ s.size := ⟨tw_ge _ _ _, by rw [← strN_len]; exact tw_le (by rw [strN_len]; exact h)⟩
end Go.Proofs.YthodjkeppobcmaaDoor
