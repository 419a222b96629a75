import Derived.Test.YtdhncpeemcanlaaGreatDoorPcA

namespace Go.Proofs.YtdhncpeemcanlaaGreatDoor
open Go.RowKit
attribute [local go_sem ↓] Go.wp_at_zero Go.wp_at_succ

set_option maxRecDepth 100000 in
theorem isEnd_any (W : World) (kd sp : Int) (tx : ByteArray) : Calls Tryz.prog 44 #[.agg #[.int .i64 kd, .int .i64 sp, .string tx]] W fun e w => e = .returned (.bool (kd == 5)) ∧ Below W.heap.size W w := by
  have hb0 := hide ((Below.refl W.heap.size W).alloc (Nat.le_refl _) (.cells #[.int .i64 kd, .int .i64 sp, .string tx] 29))
  go_enter Tryz.func44, Tryz.ntmps44
  go_wp2
  go_ret
  exact ⟨rfl, unhide hb0⟩
/-- The place of the first end, from k on. -/
def endAt (ts : List Tk) : Nat → Nat → Option Nat
  | 0, _ => none
  | n + 1, k => match ts[k]? with
    | none => none
    | some t => if (t.kind == 5) = true then some k else endAt ts n (k + 1)
def idxV : Option Nat → Value
  | some k => .int .i64 (k : Int)
  | none => .int .i64 (-1)
def IxJ (W : World) (ts : List Tk) (v : Value) (R0 : Option Nat) (n : Nat) (a : Act) (w : World) : Prop := ∃ (u : Nat → Value) (k : Nat), a = ⟨#[v, .func (.func 44) #[] #[], u 2, u 3, u 4, u 5, u 6, .int .i64 (ts.length : Int), .int .i64 (k : Int), u 9, u 10, u 11, u 12, u 13, u 14, u 15, u 16, u 17, u 18], []⟩ ∧ Below W.heap.size W w ∧ k + n = ts.length + 1 ∧ endAt ts n k = R0
def IxP (W : World) (R0 : Option Nat) (e : Ending) (w : World) : Prop := e = .returned (idxV R0) ∧ Below W.heap.size W w
set_option maxRecDepth 100000 in
set_option maxHeartbeats 4000000 in
theorem indexF_any {W : World} {v : Value} {ts : List Tk} (h : HasTk W W.heap.size W.heap.size v ts) (hn : ts.length ≤ 16384) : Calls Tryz.prog 43 #[v, .func (.func 44) #[] #[]] W (IxP W (endAt ts (ts.length + 1) 0)) := by
  obtain ⟨a, c, rfl, hc, hm, h3⟩ := h
  have H3 := hide h3
  have HB := hide (Below.refl W.heap.size W)
  obtain ⟨R0, hR0⟩ : ∃ R0, endAt ts (ts.length + 1) 0 = R0 := ⟨_, rfl⟩
  rw [hR0]
  have HR0 := hide hR0
  clear h3 hR0
  go_enter Tryz.func43, Tryz.ntmps43
  go_wp2
  refine wp_loop_count (IxJ W ts (.slice a ts.length c) R0) ?_ (ts.length + 1) _ _ ⟨fun i => [undef, undef, undef, undef, .int .i64 0, undef, .slice a ts.length c].getD i undef, 0, rfl, unhide HB, by omega, unhide HR0⟩
  obtain ⟨Q, hQ⟩ : ∃ Q, bodyPost Tryz.prog Tryz.f43 (IxP W R0) = Q := ⟨_, rfl⟩
  rw [hQ]
  clear HR0 HB
  rintro n _ wr ⟨u, k, rfl, hb, hk, hR⟩
  have Hb := hide hb
  have HR := hide hR
  by_cases hlt : k < ts.length
  · obtain ⟨g, off, rfl, hg, hne, hx⟩ := unhide H3 (by omega)
    obtain ⟨⟨kd, sp, tx⟩, ht⟩ : ∃ t, ts[k]? = some t := ⟨_, List.getElem?_eq_getElem hlt⟩
    obtain ⟨x1, x2, x3⟩ := hx k _ ht
    simp only at x1 x2 x3
    have y1 : wr.cell? ⟨g, off + k * 3, none⟩ = some (.int .i64 kd) := (hb.cell (p := ⟨g, off + k * 3, none⟩) hg).trans x1
    have y2 : wr.cell? ⟨g, off + k * 3 + 1, none⟩ = some (.int .i64 sp) := (hb.cell (p := ⟨g, off + k * 3 + 1, none⟩) hg).trans x2
    have y3 : wr.cell? ⟨g, off + k * 3 + 2, none⟩ = some (.string tx) := (hb.cell (p := ⟨g, off + k * 3 + 2, none⟩) hg).trans x3
    obtain ⟨n, rfl⟩ : ∃ m, n = m + 1 := ⟨n - 1, by omega⟩
    have HEq : Hid (R0 = if (kd == 5) = true then some k else endAt ts n (k + 1)) := by
      show _ = _
      rw [← unhide HR]
      conv => lhs; unfold endAt
      rw [ht]
    have Hk := hide hk
    obtain ⟨L, hL⟩ : ∃ L, ts.length = L := ⟨_, rfl⟩
    have HL := hide hL
    rw [hL] at hlt hn hc ⊢
    have n0 : (0 : Int) ≤ (k : Int) := Int.natCast_nonneg _
    have n1 : (k : Int) < (L : Int) := by omega
    have hd : decide ((k : Int) < (L : Int)) = true := by simp; omega
    have HC := hide (isEnd_any wr kd sp tx)
    clear hx ht x1 x2 x3 hb hR hk hL H3 hg hne HR
    go_wp2_with fail
    refine (unhide HC).mono ?_
    rintro e w2 ⟨rfl, hb2⟩
    have Hb2 := hide ((unhide Hb).trans (hb2.mono (unhide Hb).size))
    clear hb2 HC Hb y1 y2 y3
    cases h5 : (kd == 5) with
    | true =>
      have HE : Hid (idxV R0 = .int .i64 (k : Int)) := by show _ = _; rw [unhide HEq, if_pos h5]; rfl
      clear h5
      go_wp2
      rw [← hQ]
      go_ret
      exact ⟨(congrArg Ending.returned (unhide HE)).symm, unhide Hb2⟩
    | false =>
      have HE : Hid (endAt ts n (k + 1) = R0) := by show _ = _; rw [unhide HEq, if_neg (by rw [h5]; simp)]
      have hk2 : k + 1 ≤ 20000 := by omega
      clear h5
      go_wp2
      refine ⟨n, rfl, fun i => [undef, undef, u 2, u 3, u 4, .int .i64 (k : Int), u 6, undef, undef, .bool true, .int .i64 (k : Int), .func (.func 44) #[] #[], .slice (some ⟨g, off, none⟩) L c, .int .i64 (k : Int), .pointer (some ⟨g, off + k * 3, none⟩), .agg #[.int .i64 kd, .int .i64 sp, .string tx], .bool false, u 17, .int .i64 ((k : Int) + 1)].getD i undef, k + 1, ?_, unhide Hb2, by have := unhide Hk; omega, unhide HE⟩
      rw [unhide HL]
      rfl
  · have hd : decide (k < ts.length) = false := by simp; omega
    have HE : Hid (idxV R0 = .int .i64 (-1)) := by
      show _ = _
      rw [← hR]
      cases n with
      | zero => rfl
      | succ n =>
        unfold endAt
        rw [List.getElem?_eq_none (by omega)]
        rfl
    obtain ⟨L, hL⟩ : ∃ L, ts.length = L := ⟨_, rfl⟩
    rw [hL] at hlt hn hc hd ⊢
    clear hb hR hk hL H3 HR hlt
    go_wp2
    try rw [← hQ]
    go_ret
    exact ⟨(congrArg Ending.returned (unhide HE)).symm, unhide Hb⟩
end Go.Proofs.YtdhncpeemcanlaaGreatDoor

namespace Go.Proofs.YtdhncpeemcanlaaGreatDoor
open Go.RowKit
attribute [local go_sem ↓] Go.wp_at_zero Go.wp_at_succ

theorem endAt_ok (ts : List Tk) : ∀ (n j k : Nat), endAt ts n j = some k → ∃ t, ts[k]? = some t ∧ t.kind = 5
  | 0, _, _, h => by cases h
  | n + 1, j, k, h => by
    unfold endAt at h
    cases ht : ts[j]? with
    | none => rw [ht] at h; cases h
    | some t =>
      rw [ht] at h
      simp only at h
      split at h
      · rename_i hk
        obtain rfl := Option.some.inj h
        exact ⟨t, ht, eq_of_beq hk⟩
      · exact endAt_ok ts n (j + 1) k h
/-- Where a reader begins. -/
def startF (ts : List Tk) : PSt := match endAt ts (ts.length + 1) 0 with
  | some k => ⟨ts.take k, ts.getD k tok0, false, 0, 0⟩
  | none => match ts.getLast? with
    | some t => ⟨ts, ⟨5, wrap64 (t.spot + (t.text.size : Int)), ⟨#[]⟩⟩, false, 0, 0⟩
    | none => ⟨ts, ⟨5, 0, ⟨#[]⟩⟩, false, 0, 0⟩
def NrP (W : World) (ts : List Tk) (e : Ending) (w : World) : Prop := ∃ b, e = .returned (.pointer (some ⟨b, 0, none⟩)) ∧ W.heap.size ≤ b ∧ Below W.heap.size W w ∧ Rd w.heap.size w b (startF ts)
theorem HasTk.take {W : World} {lo b k c : Nat} {a : Option Addr} {ts : List Tk} (h : HasTk W lo b (.slice a ts.length c) ts) (hk : k ≤ ts.length) : HasTk W lo b (.slice a k c) (ts.take k) := by
  obtain ⟨a0, c0, e, h1, h2, h3⟩ := h
  simp only [Value.slice.injEq] at e
  obtain ⟨rfl, _, rfl⟩ := e
  have hl : (ts.take k).length = k := by rw [List.length_take]; omega
  refine ⟨a, c, by rw [hl], by omega, h2, fun hp => ?_⟩
  obtain ⟨g, off, e, h4, h5, h6⟩ := h3 (by omega)
  refine ⟨g, off, e, h4, h5, fun i t ht => h6 i t ?_⟩
  rw [List.getElem?_take] at ht
  split at ht
  · exact ht
  · cases ht
theorem HasTk.new {W w : World} {lo b lo' b' : Nat} {v : Value} {ts : List Tk} (h : HasTk W lo b v ts) (hb : Below lo W w) (hl : lo ≤ lo') (hb' : lo ≤ b') : HasTk w lo' b' v ts := by
  obtain ⟨a, c, rfl, h1, h2, h3⟩ := h
  refine ⟨a, c, rfl, h1, h2, fun hp => ?_⟩
  obtain ⟨g, off, rfl, h4, h5, h6⟩ := h3 hp
  have e : ∀ j, w.cell? ⟨g, j, none⟩ = W.cell? ⟨g, j, none⟩ := fun j => hb.cell (p := ⟨g, j, none⟩) h4
  refine ⟨g, off, rfl, by omega, by omega, fun i t ht => ?_⟩
  rw [e, e, e]
  exact h6 i t ht
theorem nr_done {W w : World} {v : Value} {ts ts' : List Tk} {en : Tk} (h : HasTk W W.heap.size W.heap.size v ts') (hb : Below W.heap.size W w) (hk : en.kind = 5) (hs : startF ts = ⟨ts', en, false, 0, 0⟩) : NrP W ts (.returned (.pointer (some ⟨w.heap.size, 0, none⟩))) (w.alloc (.cells #[v, .int .i64 en.kind, .int .i64 en.spot, .string en.text, .bool false, .int .i64 0, .int .i64 0] 97)) := by
  have hb2 := hb.alloc hb.size (.cells #[v, .int .i64 en.kind, .int .i64 en.spot, .string en.text, .bool false, .int .i64 0, .int .i64 0] 97)
  have hsz := World.size_alloc w (.cells #[v, .int .i64 en.kind, .int .i64 en.spot, .string en.text, .bool false, .int .i64 0, .int .i64 0] 97)
  refine ⟨w.heap.size, rfl, hb.size, hb2, ?_⟩
  rw [hs]
  exact ⟨v, heap_new _ _, h.new hb2 (by have := hb.size; omega) hb.size, ⟨by omega, Nat.le_refl _⟩, by simp only; omega, by simp only; omega, hk⟩
set_option maxRecDepth 100000 in
set_option maxHeartbeats 4000000 in
theorem newReader_any {W : World} {v : Value} {ts : List Tk} (h : HasTk W W.heap.size W.heap.size v ts) (hn : ts.length ≤ 16384) : Calls Tryz.prog 36 #[v] W (NrP W ts) := by
  have HC := hide (indexF_any h hn)
  have HH := hide h
  obtain ⟨a, c, rfl, hc, hm, h3⟩ := h
  cases hend : endAt ts (ts.length + 1) 0 with
  | some k =>
    rw [hend] at HC
    obtain ⟨⟨kd, sp, tx⟩, ht, h5⟩ := endAt_ok ts _ _ _ hend
    have hlt : k < ts.length := (List.getElem?_eq_some_iff.1 ht).1
    obtain ⟨g, off, rfl, hg, hne, hx⟩ := h3 (by omega)
    obtain ⟨x1, x2, x3⟩ := hx k _ ht
    simp only at x1 x2 x3 h5
    subst h5
    have HS : Hid (startF ts = ⟨ts.take k, ⟨5, sp, tx⟩, false, 0, 0⟩) := by
      show _ = _
      unfold startF
      rw [hend]
      simp only
      rw [List.getD_eq_getElem?_getD, ht]
      rfl
    have HT := hide ((unhide HH).take (k := k) (by omega))
    have Hx := hide (show W.cell? ⟨g, off + k * 3, none⟩ = _ ∧ W.cell? ⟨g, off + k * 3 + 1, none⟩ = _ ∧ W.cell? ⟨g, off + k * 3 + 2, none⟩ = _ from ⟨x1, x2, x3⟩)
    have Hg := hide hg
    have n0 : (0 : Int) ≤ (k : Int) := Int.natCast_nonneg _
    obtain ⟨L, hL⟩ : ∃ L, ts.length = L := ⟨_, rfl⟩
    rw [hL] at hlt hc hn HC ⊢
    have n1 : (k : Int) < (L : Int) := by omega
    have n2 : (k : Int) ≤ (c : Int) := by omega
    have n3 : k ≤ c := by omega
    clear hend ht hx x1 x2 x3 h3 hg hL HH
    go_enter Tryz.func36, Tryz.ntmps36
    go_wp2_with fail
    refine (unhide HC).mono ?_
    rintro e w1 ⟨rfl, hb1⟩
    unfold idxV
    obtain ⟨x1, x2, x3⟩ := unhide Hx
    have y1 := (hb1.cell (p := ⟨g, off + k * 3, none⟩) (unhide Hg)).trans x1
    have y2 := (hb1.cell (p := ⟨g, off + k * 3 + 1, none⟩) (unhide Hg)).trans x2
    have y3 := (hb1.cell (p := ⟨g, off + k * 3 + 2, none⟩) (unhide Hg)).trans x3
    have Hb1 := hide hb1
    clear x1 x2 x3 hb1 HC Hx
    go_wp2
    go_region
    all_goals (try go_wp2)
    all_goals go_ret
    all_goals exact nr_done (unhide HT) (below_drewN (unhide Hb1) _) rfl (unhide HS)
  | none =>
    rw [hend] at HC
    cases hlast : ts.getLast? with
    | none =>
      have hnil : ts = [] := by
        rw [List.getLast?_eq_none_iff] at hlast
        exact hlast
      subst hnil
      have HS : Hid (startF [] = ⟨[], ⟨5, 0, ⟨#[]⟩⟩, false, 0, 0⟩) := rfl
      simp only [List.length_nil] at HC HH ⊢
      clear hend hlast h3 hn hc hm
      go_enter Tryz.func36, Tryz.ntmps36
      go_wp2_with fail
      refine (unhide HC).mono ?_
      rintro e w1 ⟨rfl, hb1⟩
      unfold idxV
      have HB := hide (hb1.alloc hb1.size (.cells #[.int .i64 5, .int .i64 0, .string ⟨#[]⟩] 29))
      clear hb1 HC
      go_wp2
      go_ret
      have := nr_done (ts := []) (unhide HH) (unhide HB) (en := ⟨5, 0, ⟨#[]⟩⟩) rfl (unhide HS)
      rw [World.size_alloc] at this
      exact this
    | some t =>
      obtain ⟨kd, sp, tx⟩ := t
      obtain ⟨k, hk⟩ : ∃ k, ts.length = k + 1 := by
        cases ts with
        | nil => cases hlast
        | cons t r => exact ⟨r.length, rfl⟩
      have ht : ts[k]? = some ⟨kd, sp, tx⟩ := by
        rw [List.getLast?_eq_getElem?] at hlast
        rw [← hlast, hk]
        rfl
      obtain ⟨g, off, rfl, hg, hne, hx⟩ := h3 (by omega)
      obtain ⟨x1, x2, x3⟩ := hx k _ ht
      simp only at x1 x2 x3
      have HS : Hid (startF ts = ⟨ts, ⟨5, wrap64 (sp + (tx.size : Int)), ⟨#[]⟩⟩, false, 0, 0⟩) := by
        show _ = _
        unfold startF
        rw [hend, hlast]
      have Hx := hide (show W.cell? ⟨g, off + k * 3, none⟩ = _ ∧ W.cell? ⟨g, off + k * 3 + 1, none⟩ = _ ∧ W.cell? ⟨g, off + k * 3 + 2, none⟩ = _ from ⟨x1, x2, x3⟩)
      have Hg := hide hg
      obtain ⟨L, hL⟩ : ∃ L, ts.length = L := ⟨_, rfl⟩
      have HL := hide hL
      rw [hL] at hk hc hn HC ⊢
      have n0 : (0 : Int) ≤ (k : Int) := Int.natCast_nonneg _
      have n1 : (k : Int) < (L : Int) := by omega
      have n2 : (L : Int) - 1 = (k : Int) := by omega
      have n3 : 0 < L := by omega
      clear hend hlast ht hx x1 x2 x3 h3 hg hL hk
      go_enter Tryz.func36, Tryz.ntmps36
      go_wp2_with fail
      refine (unhide HC).mono ?_
      rintro e w1 ⟨rfl, hb1⟩
      unfold idxV
      obtain ⟨x1, x2, x3⟩ := unhide Hx
      have y1 := (hb1.cell (p := ⟨g, off + k * 3, none⟩) (unhide Hg)).trans x1
      have y2 := (hb1.cell (p := ⟨g, off + k * 3 + 1, none⟩) (unhide Hg)).trans x2
      have y3 := (hb1.cell (p := ⟨g, off + k * 3 + 2, none⟩) (unhide Hg)).trans x3
      have hgw : g < w1.heap.size := Nat.lt_of_lt_of_le (unhide Hg) hb1.size
      have hb1' := hb1
      clear x1 x2 x3 hb1 HC Hx
      have HB := hide ((hb1'.alloc hb1'.size (.cells #[.int .i64 5, .int .i64 (wrap64 (sp + (tx.size : Int))), .string ⟨#[]⟩] 29)).alloc (by rw [World.size_alloc]; have := hb1'.size; omega) (.cells #[.int .i64 kd, .int .i64 sp, .string tx] 29))
      clear hb1'
      go_wp2
      go_ret
      have hfin := nr_done (ts := ts) (unhide HH) (unhide HB) (en := ⟨5, wrap64 (sp + (tx.size : Int)), ⟨#[]⟩⟩) rfl (unhide HS)
      simp only [World.size_alloc] at hfin
      rw [unhide HL] at hfin
      exact hfin
end Go.Proofs.YtdhncpeemcanlaaGreatDoor
