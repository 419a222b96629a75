import Derived.Test.YtdhncpeemcanlaaGreatDoorJ14
import Derived.WalkSmall

namespace Go.Proofs.YtdhncpeemcanlaaGreatDoor
open Go.RowKit
attribute [local go_sem ↓] Go.wp_at_zero Go.wp_at_succ

def Tk.val (t : Tk) : Value := .agg #[.int .i64 t.kind, .int .i64 t.spot, .string t.text]
theorem sizeTok : (Tryz.prog.info? 29).map (·.size) = some 3 := by kernel_rfl
/-- Tokens that can be read, from some place on; not in block b. -/
def HasTk (W : World) (lo b : Nat) (v : Value) (ts : List Tk) : Prop := ∃ (a : Option Addr) (c : Nat), v = .slice a ts.length c ∧ ts.length ≤ c ∧ c ≤ maxLen ∧ (0 < ts.length → ∃ g off, a = some ⟨g, off, none⟩ ∧ g < lo ∧ g ≠ b ∧ ∀ i t, ts[i]? = some t → W.cell? ⟨g, off + i * 3, none⟩ = some (.int .i64 t.kind) ∧ W.cell? ⟨g, off + i * 3 + 1, none⟩ = some (.int .i64 t.spot) ∧ W.cell? ⟨g, off + i * 3 + 2, none⟩ = some (.string t.text))
theorem HasTk.far {W w : World} {lo b : Nat} {v : Value} {ts : List Tk} (h : HasTk W lo b v ts) (hl : lo ≤ W.heap.size) (hg : W.grownBy w (some b)) : HasTk w lo b v ts := by
  obtain ⟨a, c, rfl, h1, h2, h3⟩ := h
  refine ⟨a, c, rfl, h1, h2, fun hp => ?_⟩
  obtain ⟨g, off, rfl, h4, h5, h6⟩ := h3 hp
  have e : ∀ j, w.cell? ⟨g, j, none⟩ = W.cell? ⟨g, j, none⟩ := fun j => World.cell?_of_block (a := ⟨g, j, none⟩) (hg.block g (by omega) (by simpa using h5))
  refine ⟨g, off, rfl, h4, h5, fun i t ht => ?_⟩
  rw [e, e, e]
  exact h6 i t ht
theorem HasTk.up {W w : World} {lo b : Nat} {v : Value} {ts : List Tk} (h : HasTk W lo b v ts) (hb : Below lo W w) : HasTk w lo b v ts := by
  obtain ⟨a, c, rfl, h1, h2, h3⟩ := h
  refine ⟨a, c, rfl, h1, h2, fun hp => ?_⟩
  obtain ⟨g, off, rfl, h4, h5, h6⟩ := h3 hp
  have e : ∀ j, w.cell? ⟨g, j, none⟩ = W.cell? ⟨g, j, none⟩ := fun j => hb.cell (p := ⟨g, j, none⟩) h4
  refine ⟨g, off, rfl, h4, h5, fun i t ht => ?_⟩
  rw [e, e, e]
  exact h6 i t ht
/-- Where a reader stands. -/
structure PSt where
  ts : List Tk
  en : Tk
  bg : Bool
  dc : Nat
  op : Nat
def PSt.here (s : PSt) : Tk := s.ts.headD s.en
def PSt.ahead (s : PSt) (n : Nat) : Tk := s.ts.getD n s.en
def RdC (v : Value) (s : PSt) : Array Value := #[v, .int .i64 s.en.kind, .int .i64 s.en.spot, .string s.en.text, .bool s.bg, .int .i64 (s.dc : Int), .int .i64 (s.op : Int)]
/-- A reader in memory; it and its tokens lie below lo. -/
def Rd (lo : Nat) (W : World) (b : Nat) (s : PSt) : Prop := ∃ v, W.heap[b]? = some (.cells (RdC v s) 97 (0, 0)) ∧ HasTk W lo b v s.ts ∧ (b < lo ∧ lo ≤ W.heap.size) ∧ s.dc ≤ 4096 ∧ s.op ≤ 32 ∧ s.en.kind = 5
theorem Rd.lt {lo : Nat} {W : World} {b : Nat} {s : PSt} (h : Rd lo W b s) : b < W.heap.size := by
  obtain ⟨v, h1, _⟩ := h
  exact (Array.getElem?_eq_some_iff.1 h1).1
theorem Rd.low {lo : Nat} {W : World} {b : Nat} {s : PSt} (h : Rd lo W b s) : b < lo ∧ lo ≤ W.heap.size := by
  obtain ⟨v, _, _, h3, _⟩ := h
  exact h3
theorem Rd.up' {lo : Nat} {W w : World} {b : Nat} {s : PSt} (h : Rd lo W b s) (hb : Below lo W w) : Rd lo w b s := by
  have hl := h.low
  obtain ⟨v, h1, h2, h3, h4⟩ := h
  exact ⟨v, (hb.block b hl.1).trans h1, h2.up hb, ⟨hl.1, Nat.le_trans hl.2 hb.size⟩, h4⟩
theorem Rd.up {lo : Nat} {W w : World} {b : Nat} {s : PSt} (h : Rd lo W b s) (hb : Below W.heap.size W w) : Rd lo w b s := h.up' (hb.mono h.low.2)
set_option maxRecDepth 100000 in
set_option maxHeartbeats 1000000 in
theorem ahead_any {W : World} {lo b n : Nat} {s : PSt} (h : Rd lo W b s) (hn : n ≤ 1048576) : Calls Tryz.prog 75 #[.pointer (some ⟨b, 0, none⟩), .int .i64 (n : Int)] W fun e w => e = .returned (s.ahead n).val ∧ Below W.heap.size W w := by
  have hlt := h.lt
  have hlow := h.low.2
  obtain ⟨v, h1, h2, _⟩ := h
  obtain ⟨a, c, rfl, hc, hm, h3⟩ := h2
  have Hr := hide h1
  have hb0 := hide (Below.refl W.heap.size W)
  obtain ⟨t, ht⟩ : ∃ t, s.ahead n = t := ⟨_, rfl⟩
  obtain ⟨kd, sp, tx⟩ := t
  have Ht := hide ht
  have c0 : W.cell? ⟨b, 0, none⟩ = some (.slice a s.ts.length c) := by rw [cell_of_row _ _ _ _ _ _ h1]; rfl
  have Hend : Hid (W.cell? ⟨b, 1, none⟩ = some (.int .i64 s.en.kind) ∧ W.cell? ⟨b, 2, none⟩ = some (.int .i64 s.en.spot) ∧ W.cell? ⟨b, 3, none⟩ = some (.string s.en.text)) := by
    refine ⟨?_, ?_, ?_⟩ <;> rw [cell_of_row _ _ _ _ _ _ h1] <;> rfl
  clear h1 ht
  by_cases hlt2 : n < s.ts.length
  · obtain ⟨g, off, rfl, hg, hne, hx⟩ := h3 (by omega)
    have hg2 : g < W.heap.size := by omega
    clear hg hlow
    have hat : s.ts[n]? = some ⟨kd, sp, tx⟩ := by
      have := unhide Ht
      unfold PSt.ahead at this
      rw [List.getD_eq_getElem?_getD, List.getElem?_eq_getElem hlt2] at this
      rw [List.getElem?_eq_getElem hlt2]
      exact congrArg some this
    obtain ⟨x1, x2, x3⟩ := hx n _ hat
    simp only at x1 x2 x3
    have hd : decide ((n : Int) < (s.ts.length : Int)) = true := by simp; omega
    have n0 : (0 : Int) ≤ (n : Int) := Int.natCast_nonneg _
    have n1 : (n : Int) < (s.ts.length : Int) := by omega
    clear hx hat h3 hm
    go_enter Tryz.func75, Tryz.ntmps75
    go_wp2
    refine bodyPost_ret (results_cell_row rfl _ _ W.heap.size 29 #[.int .i64 kd, .int .i64 sp, .string tx] (0, 0) _ rfl (heap_new _ _) Tryz.underlying29 rfl sizeTok) rfl ⟨?_, (unhide hb0).alloc (Nat.le_refl _) _⟩
    rw [unhide Ht]
    rfl
  · have hd : decide ((n : Int) < (s.ts.length : Int)) = false := by simp; omega
    have hat : s.en = ⟨kd, sp, tx⟩ := by
      have := unhide Ht
      unfold PSt.ahead at this
      rw [List.getD_eq_getElem?_getD, List.getElem?_eq_none (by omega)] at this
      exact this
    obtain ⟨x1, x2, x3⟩ := unhide Hend
    rw [hat] at x1 x2 x3
    simp only at x1 x2 x3
    clear hat h3 hm
    go_enter Tryz.func75, Tryz.ntmps75
    go_wp2
    refine bodyPost_ret (results_cell_row rfl _ _ W.heap.size 29 #[.int .i64 kd, .int .i64 sp, .string tx] (0, 0) _ rfl (heap_new _ _) Tryz.underlying29 rfl sizeTok) rfl ⟨?_, (unhide hb0).alloc (Nat.le_refl _) _⟩
    rw [unhide Ht]
    rfl
theorem PSt.ahead0 (s : PSt) : s.ahead 0 = s.here := by
  unfold PSt.ahead PSt.here
  cases s.ts <;> rfl
theorem tok_block {bs g : Nat} {w : World} {t : Tk} (h : RowT bs w (.slice (some ⟨g, 0, none⟩) 1 1) [t]) : w.heap[g]? = some (.cells #[.int .i64 t.kind, .int .i64 t.spot, .string t.text] 29 (0, 0)) := by
  rcases h.2 with ⟨e, _⟩ | ⟨g', c, cur, e, _, h2, _, _, h5, h6⟩
  · cases e
  · cases e
    rw [h2]
    have e2 : cur.toList = kcells [t] := by
      rw [← h6, List.take_of_length_le]
      rw [Array.length_toList, h5]
      simp
    have e3 : cur = (kcells [t]).toArray := by rw [← e2]
    rw [e3]
    rfl
theorem tok_row {g : Nat} {w : World} {t : Tk} (h : w.heap[g]? = some (.cells #[.int .i64 t.kind, .int .i64 t.spot, .string t.text] 29 (0, 0))) : RowT 0 w (.slice (some ⟨g, 0, none⟩) 1 1) [t] :=
  ⟨rfl, .inr ⟨g, 1, _, rfl, Nat.zero_le _, h, Nat.le_refl _, by unfold maxLen; omega, rfl, rfl⟩⟩
/-- Nought in a block of its own. -/
def tok0 : Tk := ⟨0, 0, ⟨#[]⟩⟩
theorem below_new {W V w : World} {g : Nat} (hb : Below W.heap.size W V) (hg : V.grownBy w (some g)) (hl : W.heap.size ≤ g) : Below W.heap.size W w :=
  hb.grown hg hb.size (fun k e => by simp at e; omega)
set_option maxRecDepth 100000 in
theorem here_any {W : World} {lo b : Nat} {s : PSt} (h : Rd lo W b s) : Calls Tryz.prog 51 #[.pointer (some ⟨b, 0, none⟩)] W fun e w => e = .returned s.here.val ∧ Below W.heap.size W w := by
  have hb0 := (Below.refl W.heap.size W).alloc (Nat.le_refl _) (.cells #[.int .i64 0, .int .i64 0, .string ⟨#[]⟩] 29)
  have hc := ahead_any (n := 0) (h.up hb0) (by omega)
  rw [s.ahead0] at hc
  have HC := hide hc
  obtain ⟨t, ht⟩ : ∃ t, s.here = t := ⟨_, rfl⟩
  rw [ht] at HC ⊢
  clear hc ht h
  obtain ⟨kd, sp, tx⟩ := t
  unfold Tk.val at HC
  simp only at HC
  have Hb0 := hide hb0
  have hW : (W.alloc (.cells #[.int .i64 0, .int .i64 0, .string ⟨#[]⟩] 29)).heap[W.heap.size]? = some (.cells #[.int .i64 0, .int .i64 0, .string ⟨#[]⟩] 29 (0, 0)) := heap_new _ _
  have HW := hide hW
  have hsz := World.size_alloc W (.cells #[.int .i64 0, .int .i64 0, .string ⟨#[]⟩] 29)
  have Hsz := hide hsz
  clear hb0 hW hsz
  go_enter Tryz.func51, Tryz.ntmps51
  go_wp2_with fail
  refine (unhide HC).mono ?_
  rintro e w1 ⟨rfl, hb1⟩
  have hr : RowT 0 w1 (.slice (some ⟨W.heap.size, 0, none⟩) 1 1) [tok0] := tok_row ((hb1.block W.heap.size (by rw [unhide Hsz]; omega)).trans (unhide HW))
  have HB1 : Hid (Below W.heap.size W w1) := (unhide Hb0).trans (hb1.mono (unhide Hb0).size)
  obtain ⟨y1, y2, y3⟩ := hr.cell (i := 0) (t := tok0) rfl
  have f1 := hr.frozenAt 0
  have f2 := hr.frozenAt 1
  have f3 := hr.frozenAt 2
  obtain ⟨r1, r2⟩ := hr.set 0 ⟨kd, sp, tx⟩
  have R1 := hide (tok_block r1)
  have R2 := hide (below_new (unhide HB1) r2 (Nat.le_refl _))
  simp only [Nat.zero_mul, Nat.zero_add, tok0] at y1 y2 y3 R1 R2
  clear hr hb1 HC HW Hsz r1 r2
  go_wp2
  refine bodyPost_ret (results_cell_row rfl _ _ W.heap.size 29 #[.int .i64 kd, .int .i64 sp, .string tx] (0, 0) _ rfl (unhide R1) Tryz.underlying29 rfl sizeTok) rfl ⟨rfl, unhide R2⟩
theorem klist {a b : ByteArray} (h : a.toList = b.toList) : a = b := by
  rw [ByteArray.toList_eq, ByteArray.toList_eq] at h
  cases a with | mk d => cases b with | mk e => cases d; cases e; simp_all
def pisB (t : Tk) (k : Int) (x : ByteArray) : Bool := t.kind == k && (t.text.toList == x.toList)
set_option maxRecDepth 100000 in
theorem is_any (W : World) (t : Tk) (k : Int) (x : ByteArray) : Calls Tryz.prog 86 #[t.val, .int .i64 k, .string x] W fun e w => e = .returned (.bool (pisB t k x)) ∧ Below W.heap.size W w := by
  obtain ⟨kd, sp, tx⟩ := t
  unfold Tk.val pisB
  simp only
  have hb0 := hide ((Below.refl W.heap.size W).alloc (Nat.le_refl _) (.cells #[.int .i64 kd, .int .i64 sp, .string tx] 29))
  by_cases h1 : kd = k
  · subst h1
    go_enter Tryz.func86, Tryz.ntmps86
    go_wp2
    go_ret
    exact ⟨by simp, unhide hb0⟩
  · have e1 : (kd == k) = false := by simp [h1]
    go_enter Tryz.func86, Tryz.ntmps86
    go_wp2
    go_ret
    exact ⟨by simp [e1], unhide hb0⟩
theorem field_any (w : World) (t : Tk) : (Instr.field 29 t.val 0).run Tryz.prog w = .ok (.int .i64 t.kind) w ∧ (Instr.field 29 t.val 1).run Tryz.prog w = .ok (.int .i64 t.spot) w := by
  unfold Tk.val
  refine ⟨?_, ?_⟩ <;> simp [Instr.field, run_underlying Tryz.underlying29, asAgg, go_sem]
/-- What is thrown. -/
def flt (er sp : Int) : Ending := .panicked [{ v := .iface 36 (.agg #[.int .i64 er, .int .i64 0, .int .i64 sp, .string ⟨#[]⟩]), recovered := false }]
set_option maxRecDepth 100000 in
theorem fail_any {W : World} {lo b : Nat} {s : PSt} (h : Rd lo W b s) (er : Int) : Calls Tryz.prog 60 #[.pointer (some ⟨b, 0, none⟩), .int .i64 er] W fun e w => e = flt er s.here.spot ∧ Below W.heap.size W w := by
  have hc := hide (here_any h)
  clear h
  obtain ⟨t, ht⟩ : ∃ t, s.here = t := ⟨_, rfl⟩
  rw [ht] at hc ⊢
  obtain ⟨kd, sp, tx⟩ := t
  unfold Tk.val at hc
  simp only at hc
  clear ht
  have hf : ∀ w, (Instr.field 29 (.agg #[.int .i64 kd, .int .i64 sp, .string tx]) 1).run Tryz.prog w = .ok (.int .i64 sp) w := fun w => (field_any w ⟨kd, sp, tx⟩).2
  go_enter Tryz.func60, Tryz.ntmps60
  go_wp2_with fail
  refine (unhide hc).mono ?_
  rintro e w1 ⟨rfl, hb1⟩
  have Hb1 := hide hb1
  clear hb1 hc
  go_wp2
  exact ⟨rfl, rfl, unhide Hb1⟩
end Go.Proofs.YtdhncpeemcanlaaGreatDoor

namespace Go.Proofs.YtdhncpeemcanlaaGreatDoor
open Go.RowKit
attribute [local go_sem ↓] Go.wp_at_zero Go.wp_at_succ

theorem set_block {W : World} {b j : Nat} {cs : Array Value} {t : TypeId} (h : W.heap[b]? = some (.cells cs t (0, 0))) (u : Value) : (W.setCell ⟨b, j, none⟩ u).heap[b]? = some (.cells (cs.toList.set j u).toArray t (0, 0)) ∧ W.grownBy (W.setCell ⟨b, j, none⟩ u) (some b) := by
  have hr : W.ownsRow 0 t cs.size (.slice (some ⟨b, 0, none⟩) 1 1) 1 cs.toList := ⟨by simp, .inr ⟨b, 1, cs, rfl, Nat.zero_le _, h, Nat.le_refl _, by unfold maxLen; omega, by simp, by rw [Nat.one_mul]; exact List.take_of_length_le (by simp)⟩⟩
  obtain ⟨h1, h2⟩ := World.ownsRow.stored hr j u
  refine ⟨?_, h2⟩
  rcases h1.2 with ⟨e, _⟩ | ⟨g', c, cur, e, _, h4, _, _, h5, h6⟩
  · cases e
  · cases e
    rw [h4]
    have e2 : cur.toList = cs.toList.set j u := by
      rw [← h6, List.take_of_length_le]
      rw [Array.length_toList, h5]
      simp
    have e3 : cur = (cs.toList.set j u).toArray := by rw [← e2]
    rw [e3]
/-- What a call over a reader comes to. -/
def PR {α : Type} (lo b : Nat) (W : World) (ret : α → Value) (r : Except (Int × Int) (α × PSt)) (e : Ending) (w : World) : Prop := match r with
  | .error x => e = flt x.1 x.2 ∧ W.grownBy w (some b)
  | .ok (a, s') => e = .returned (ret a) ∧ Rd lo w b s' ∧ W.grownBy w (some b)
def noV {α : Type} (_ : α) : Value := .tuple #[]
theorem Rd.cells {W : World} {lo b : Nat} {s : PSt} (h : Rd lo W b s) : ∃ v, HasTk W lo b v s.ts ∧ W.heap[b]? = some (.cells (RdC v s) 97 (0, 0)) ∧ W.cell? ⟨b, 0, none⟩ = some v ∧ W.cell? ⟨b, 4, none⟩ = some (.bool s.bg) ∧ W.cell? ⟨b, 5, none⟩ = some (.int .i64 (s.dc : Int)) ∧ W.cell? ⟨b, 6, none⟩ = some (.int .i64 (s.op : Int)) ∧ ∀ j, W.frozen? ⟨b, j, none⟩ = false := by
  obtain ⟨v, h1, h2, _⟩ := h
  refine ⟨v, h2, h1, ?_, ?_, ?_, ?_, fun j => ?_⟩
  · rw [cell_of_row _ _ _ _ _ _ h1]; rfl
  · rw [cell_of_row _ _ _ _ _ _ h1]; rfl
  · rw [cell_of_row _ _ _ _ _ _ h1]; rfl
  · rw [cell_of_row _ _ _ _ _ _ h1]; rfl
  · simp [World.frozen?, h1]
set_option maxRecDepth 100000 in
theorem begin_any {W : World} {lo b : Nat} {s : PSt} (h : Rd lo W b s) : Calls Tryz.prog 88 #[.pointer (some ⟨b, 0, none⟩)] W (PR lo b W noV (.ok ((), { s with bg := true }))) := by
  have hd := h
  obtain ⟨v, h1, h2, c0, c4, c5, c6, hf⟩ := h.cells
  obtain ⟨k1, k2⟩ := set_block (j := 4) h2 (.bool true)
  have f4 := hf 4
  have Hend : Hid (PR lo b W noV (.ok ((), { s with bg := true })) (.returned (.tuple #[])) (W.setCell ⟨b, 4, none⟩ (.bool true))) := by
    obtain ⟨_, _, _, h3⟩ := hd
    exact ⟨rfl, ⟨v, k1, h1.far h3.1.2 k2, ⟨h3.1.1, Nat.le_trans h3.1.2 k2.size⟩, h3.2⟩, k2⟩
  clear hd h h1 h2 k1 k2 hf c0 c5 c6
  go_enter Tryz.func88, Tryz.ntmps88
  go_wp2
  go_end0
  exact unhide Hend
def pnextF (s : PSt) : Except (Int × Int) (Unit × PSt) := if s.bg = true ∧ s.dc = 4096 then .error (54, s.here.spot) else .ok ((), { s with ts := s.ts.tail, bg := false, dc := if s.bg = true then s.dc + 1 else s.dc })
/-- Behind the first token. -/
theorem HasTk.tail {W : World} {lo b c : Nat} {a : Option Addr} {ts : List Tk} (h : HasTk W lo b (.slice a ts.length c) ts) (hp : 0 < ts.length) : ∃ g off, a = some ⟨g, off, none⟩ ∧ ∀ a', (a' = some ⟨g, off + 3, none⟩ ∨ c = 1) → HasTk W lo b (.slice a' (ts.length - 1) (c - 1)) ts.tail := by
  obtain ⟨a0, c0, e, h1, h2, h3⟩ := h
  simp only [Value.slice.injEq] at e
  obtain ⟨rfl, _, rfl⟩ := e
  obtain ⟨g, off, rfl, h4, h5, h6⟩ := h3 hp
  refine ⟨g, off, rfl, fun a' ha => ⟨a', c - 1, by rw [List.length_tail], by rw [List.length_tail]; omega, by omega, fun hp2 => ?_⟩⟩
  rw [List.length_tail] at hp2
  have ha' : a' = some ⟨g, off + 3, none⟩ := ha.elim id (fun e => by omega)
  refine ⟨g, off + 3, ha', h4, h5, fun i t ht => ?_⟩
  have := h6 (i + 1) t (by rw [← ht, List.getElem?_tail])
  rw [show off + 3 + i * 3 = off + (i + 1) * 3 by omega]
  exact this
set_option maxRecDepth 100000 in
set_option maxHeartbeats 2000000 in
theorem next_any {W : World} {lo b : Nat} {s : PSt} (h : Rd lo W b s) (hp : 0 < s.ts.length) : Calls Tryz.prog 65 #[.pointer (some ⟨b, 0, none⟩)] W (PR lo b W noV (pnextF s)) := by
  have hfail := hide (fail_any h 54)
  have hd := h
  obtain ⟨v, h1, h2, c0, c4, c5, c6, hf⟩ := h.cells
  obtain ⟨a, c, rfl, hc, hm, _⟩ := id h1
  obtain ⟨g, off, rfl, htl⟩ := h1.tail hp
  have f0 := hf 0
  have f4 := hf 4
  have f5 := hf 5
  obtain ⟨_, _, _, hlo, hdc, hop⟩ := hd
  cases hbg : s.bg with
  | false =>
    rw [hbg] at c4
    have hE : ∀ a', (a' = some (⟨g, off + 3, none⟩ : Addr) ∨ c = 1) → PR lo b W noV (pnextF s) (.returned (.tuple #[])) (W.setCell ⟨b, 0, none⟩ (.slice a' (s.ts.length - 1) (c - 1))) := fun a' ha => by
      obtain ⟨k1, k2⟩ := set_block (j := 0) h2 (.slice a' (s.ts.length - 1) (c - 1))
      unfold pnextF
      rw [hbg, if_neg (by simp)]
      refine ⟨rfl, ⟨_, k1.trans ?_, (htl a' ha).far hlo.2 k2, ⟨hlo.1, Nat.le_trans hlo.2 k2.size⟩, hdc, hop⟩, k2⟩
      simp [RdC, hbg]
    have HE := hide hE
    obtain ⟨L, hL⟩ : ∃ L, s.ts.length = L := ⟨_, rfl⟩
    rw [hL] at hp hc c0 HE
    have hL1 : (1 : Int) ≤ (L : Int) := by omega
    have hc1 : (1 : Int) ≤ (c : Int) := by omega
    clear hE h h1 h2 hf hfail htl hbg hL
    by_cases hc2 : c = 1
    · subst hc2
      obtain rfl : L = 1 := by omega
      go_enter Tryz.func65, Tryz.ntmps65
      go_wp2
      go_end0
      exact unhide HE _ (.inr (by simp))
    · go_enter Tryz.func65, Tryz.ntmps65
      go_wp2
      go_end0
      exact unhide HE _ (.inl rfl)
  | true =>
    rw [hbg] at c4
    by_cases hd4 : s.dc = 4096
    · have hE : ∀ w, Below W.heap.size W w → PR lo b W noV (pnextF s) (flt 54 s.here.spot) w := fun w hb => by
        unfold pnextF
        rw [if_pos ⟨hbg, hd4⟩]
        exact ⟨rfl, hb.os, hb.tape, hb.output, hb.size, fun k hk _ => hb.block k hk⟩
      have HE := hide hE
      rw [hd4] at c5
      clear hE h h1 h2 hf htl hbg
      go_enter Tryz.func65, Tryz.ntmps65
      go_wp2_with fail
      refine (unhide hfail).mono ?_
      rintro e w1 ⟨rfl, hb1⟩
      exact ⟨rfl, unhide HE w1 hb1⟩
    · have hE : ∀ a', (a' = some (⟨g, off + 3, none⟩ : Addr) ∨ c = 1) → PR lo b W noV (pnextF s) (.returned (.tuple #[])) (((W.setCell ⟨b, 5, none⟩ (.int .i64 ((s.dc : Int) + 1))).setCell ⟨b, 4, none⟩ (.bool false)).setCell ⟨b, 0, none⟩ (.slice a' (s.ts.length - 1) (c - 1))) := fun a' ha => by
        obtain ⟨k1, k2⟩ := set_block (j := 5) h2 (.int .i64 ((s.dc : Int) + 1))
        obtain ⟨k3, k4⟩ := set_block (j := 4) k1 (.bool false)
        obtain ⟨k5, k6⟩ := set_block (j := 0) k3 (.slice a' (s.ts.length - 1) (c - 1))
        unfold pnextF
        rw [hbg, if_neg (by simp [hd4])]
        refine ⟨rfl, ⟨_, k5.trans ?_, (htl a' ha).far hlo.2 ((k2.trans k4).trans k6), ⟨hlo.1, Nat.le_trans hlo.2 ((k2.trans k4).trans k6).size⟩, by simp only [if_true]; omega, hop⟩, (k2.trans k4).trans k6⟩
        simp [RdC]
      have HE := hide hE
      obtain ⟨L, hL⟩ : ∃ L, s.ts.length = L := ⟨_, rfl⟩
      rw [hL] at hp hc c0 HE
      have hL1 : (1 : Int) ≤ (L : Int) := by omega
      have hc1 : (1 : Int) ≤ (c : Int) := by omega
      have hd5 : ((s.dc : Int) == 4096) = false := beq_eq_false_iff_ne.2 (by omega)
      clear hE h h1 h2 hf hfail htl hbg hL
      by_cases hc2 : c = 1
      · subst hc2
        obtain rfl : L = 1 := by omega
        go_enter Tryz.func65, Tryz.ntmps65
        go_wp2
        go_end0
        exact unhide HE _ (.inr (by simp))
      · go_enter Tryz.func65, Tryz.ntmps65
        go_wp2
        go_end0
        exact unhide HE _ (.inl rfl)
/-- What is thrown where a token may not stand. -/
def wrongE (s : PSt) : Int × Int := (if s.here.kind = 5 then 51 else 50, s.here.spot)
theorem below_grown {W w : World} (b : Nat) (hb : Below W.heap.size W w) : W.grownBy w (some b) := ⟨hb.os, hb.tape, hb.output, hb.size, fun k hk _ => hb.block k hk⟩
set_option maxRecDepth 100000 in
theorem wrong_any {W : World} {lo b : Nat} {s : PSt} (h : Rd lo W b s) : Calls Tryz.prog 46 #[.pointer (some ⟨b, 0, none⟩)] W fun e w => e = flt (wrongE s).1 (wrongE s).2 ∧ Below W.heap.size W w := by
  have hc := hide (here_any h)
  have hF : Hid (∀ w er, Below W.heap.size W w → Calls Tryz.prog 60 #[.pointer (some ⟨b, 0, none⟩), .int .i64 er] w fun e w' => e = flt er s.here.spot ∧ Below w.heap.size w w') := fun w er hb => fail_any (h.up hb) er
  unfold wrongE
  clear h
  obtain ⟨t, ht⟩ : ∃ t, s.here = t := ⟨_, rfl⟩
  rw [ht] at hc hF ⊢
  obtain ⟨kd, sp, tx⟩ := t
  unfold Tk.val at hc
  simp only at hc hF ⊢
  clear ht
  have hf : ∀ w, (Instr.field 29 (.agg #[.int .i64 kd, .int .i64 sp, .string tx]) 0).run Tryz.prog w = .ok (.int .i64 kd) w := fun w => (field_any w ⟨kd, sp, tx⟩).1
  by_cases h5 : kd = 5
  · subst h5
    rw [if_pos rfl]
    go_enter Tryz.func46, Tryz.ntmps46
    go_wp2_with fail
    refine (unhide hc).mono ?_
    rintro e w1 ⟨rfl, hb1⟩
    have Hb1 := hide hb1
    clear hb1 hc
    go_wp2_with fail
    refine (unhide hF w1 51 (unhide Hb1)).mono ?_
    rintro e w2 ⟨rfl, hb2⟩
    exact ⟨rfl, rfl, (unhide Hb1).trans (hb2.mono (unhide Hb1).size)⟩
  · rw [if_neg h5]
    have e5 : (kd == 5) = false := beq_eq_false_iff_ne.2 h5
    go_enter Tryz.func46, Tryz.ntmps46
    go_wp2_with fail
    refine (unhide hc).mono ?_
    rintro e w1 ⟨rfl, hb1⟩
    have Hb1 := hide hb1
    clear hb1 hc
    go_wp2_with fail
    refine (unhide hF w1 50 (unhide Hb1)).mono ?_
    rintro e w2 ⟨rfl, hb2⟩
    exact ⟨rfl, rfl, (unhide Hb1).trans (hb2.mono (unhide Hb1).size)⟩
set_option maxRecDepth 100000 in
theorem refuse_any {W : World} {lo b : Nat} {s : PSt} (h : Rd lo W b s) : Calls Tryz.prog 74 #[.pointer (some ⟨b, 0, none⟩)] W fun e w => e = flt 52 s.here.spot ∧ Below W.heap.size W w := by
  have hF := hide (fail_any h 52)
  clear h
  go_enter Tryz.func74, Tryz.ntmps74
  go_wp2_with fail
  refine (unhide hF).mono ?_
  rintro e w2 ⟨rfl, hb2⟩
  exact ⟨rfl, rfl, hb2⟩
end Go.Proofs.YtdhncpeemcanlaaGreatDoor
