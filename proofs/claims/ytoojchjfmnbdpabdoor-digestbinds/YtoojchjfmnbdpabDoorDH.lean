import Derived.Test.YtoojchjfmnbdpabDoorDB
namespace Go.Proofs.YtoojchjfmnbdpabDoor
open Go.RowKit
attribute [local go_sem ↓] Go.wp_at_zero Go.wp_at_succ

theorem str_dec {l l' : List Nat} (hl : Byt l) (hl' : Byt l') : ((ofN l).toList == (ofN l').toList) = decide (l = l') := by
  rw [ByteArray.toList_eq, ByteArray.toList_eq]
  by_cases e : l = l'
  · subst e; simp
  · have : (ofN l).data.toList ≠ (ofN l').data.toList := fun q => e (ofN_inj hl hl' (by
      cases h1 : ofN l; cases h2 : ofN l'; rw [h1, h2] at q; congr 1; exact Array.toList_inj.1 q))
    rw [decide_eq_false e]
    exact beq_eq_false_iff_ne.2 this
theorem retB {a b : Bool} (h : a = b) : Ending.returned (.bool a) = .returned (.bool b) := by rw [h]
theorem same_any {W : World} {v u : Value} {l l' : List Nat} (h : HasB W v l) (h' : HasB W u l') (hl : Byt l) (hl' : Byt l') :
    Calls Tryd.prog 16 #[v, u] W fun o W' => o = .returned (.bool (decide (l = l'))) ∧ W' = W := by
  have c1 := conv_any h hl
  have c2 := conv_any h' hl'
  go_enter Tryd.func16, Tryd.ntmps16
  go_wp2
  go_ret
  exact ⟨retB (str_dec hl hl'), rfl⟩

def m6 : List Nat := [171, 171, 171, 171, 171, 171]
/-- Bytes with marked room behind them. -/
def Room (W : World) (g : Nat) (l : List Nat) : Prop := W.heap[g]? = some (.cells (nb (l ++ m6)).toArray 5 (0, 0))
theorem Room.lt {W : World} {g : Nat} {l : List Nat} (h : Room W g l) : g < W.heap.size := (Array.getElem?_eq_some_iff.1 h).1
theorem Room.has {W : World} {g : Nat} {l : List Nat} (h : Room W g l) (hl : l.length ≤ 281474976710656) : HasB W (.slice (some ⟨g, 0, none⟩) l.length (l.length + 6)) l := by
  refine ⟨_, _, rfl, ⟨by omega, by unfold maxLen; omega, nofun⟩, fun _ => ⟨g, 0, rfl, h.lt, fun i b hb => ?_⟩⟩
  rw [Nat.zero_add, cell_of_row _ _ _ _ _ _ h]
  have : i < l.length := (List.getElem?_eq_some_iff.1 hb).1
  rw [List.getElem?_toArray, nb_at, List.getElem?_append_left this, hb]
  rfl
theorem Room.up {W w : World} {g : Nat} {l : List Nat} (h : Room W g l) (hb : Below W.heap.size W w) : Room w g l := (hb.block g h.lt).trans h
theorem Room.cell {W : World} {g : Nat} {l : List Nat} (h : Room W g l) {i b : Nat} (hb : (l ++ m6)[i]? = some b) : W.cell? ⟨g, i, none⟩ = some (.int .u8 (b : Int)) := by
  rw [cell_of_row _ _ _ _ _ _ h, List.getElem?_toArray, nb_at, hb]
  rfl

theorem made_row {W : World} {base g n : Nat} (h : W.ownsRow base 5 1 (.slice (some ⟨g, 0, none⟩) n n) n (madeCells (Value.cells (.int .u8 0)) (n * 1)).toList) : W.heap[g]? = some (.cells (nb (List.replicate n 0)).toArray 5 (0, 0)) := by
  obtain ⟨_, ⟨h0, _⟩ | ⟨g', c, cur, e, _, hg, _, _, hs, ht⟩⟩ := h
  · simp at h0
  · simp only [Value.slice.injEq, Option.some.injEq, Addr.mk.injEq] at e
    obtain ⟨⟨rfl, _⟩, _, rfl⟩ := e
    rw [hg]
    have e1 : (madeCells (Value.cells (.int .u8 0)) (n * 1)).toList = nb (List.replicate n 0) := by
      rw [show Value.cells (.int .u8 0) = #[.int .u8 0] from rfl, toList_madeCells_one]
      simp [nb]
    rw [e1, List.take_of_length_le (by simp; omega)] at ht
    rw [← ht]
theorem set_row {W : World} {g i : Nat} {l : List Nat} {t : TypeId} (h : W.heap[g]? = some (.cells (nb l).toArray t (0, 0))) (b : Nat) : (W.setCell ⟨g, i, none⟩ (.int .u8 (b : Int))).heap[g]? = some (.cells (nb (l.set i b)).toArray t (0, 0)) := by
  rw [heap_setCell_same _ g i _ t _ h]
  congr 2
  simp [nb, List.map_set]
theorem row_cell {W : World} {g i : Nat} {l : List Nat} {t : TypeId} {fr : Nat × Nat} (h : W.heap[g]? = some (.cells (nb l).toArray t fr)) {b : Nat} (hb : l[i]? = some b) : W.cell? ⟨g, i, none⟩ = some (.int .u8 (b : Int)) := by
  rw [cell_of_row _ _ _ _ _ _ h, List.getElem?_toArray, nb_at, hb]
  rfl
theorem row_frozen {W : World} {g : Nat} (i : Nat) {cs : Array Value} {t : TypeId} (h : W.heap[g]? = some (.cells cs t (0, 0))) : W.frozen? ⟨g, i, none⟩ = false := by
  unfold World.frozen?
  rw [h]
  simp
theorem src_of {W w : World} {a : Option Addr} {l : List Nat} (h3 : 0 < l.length → ∃ g off, a = some ⟨g, off, none⟩ ∧ g < W.heap.size ∧ ∀ (i b : Nat), l[i]? = some b → W.cell? ⟨g, off + i, none⟩ = some (.int .u8 (b : Int))) (hb : Below W.heap.size W w) (hp : 0 < (nb l).length) : ∃ ad, a = some ad ∧ ∀ j v, (nb l)[j]? = some v → w.cell? (ad.add j) = some v := by
  obtain ⟨g, off, rfl, hg, hc⟩ := h3 (by simpa using hp)
  refine ⟨_, rfl, fun j v hj => ?_⟩
  rw [nb_at] at hj
  obtain ⟨b, hb', rfl⟩ := Option.map_eq_some_iff.1 hj
  rw [Go.WideShapes.add_plain]
  exact (hb.cell (p := ⟨g, off + j, none⟩) hg).trans (hc j b hb')
theorem copy_run {P : Program} {w w0 : World} {dT sT ty elem : TypeId} (hu : P.underlying dT = some (.slice elem)) (hsz : (P.info? elem).map (·.size) = some 1) (dp sp : Option Addr) (dLen dCap sLen sCap : Nat)
    (g off : Nat) (cur : List Value) (t : TypeId) (hg : w.heap[g]? = some (.cells cur.toArray t (0, 0))) (cs : List Value) (hn : cs.length = Nat.min sLen dLen)
    (hpos : 0 < cs.length → dp = some ⟨g, off, none⟩ ∧ ∃ ad, sp = some ad ∧ ∀ j v, cs[j]? = some v → w.cell? (ad.add j) = some v)
    (hfit : off + cs.length ≤ cur.length) (h1 : ∀ v ∈ cs, v.oneCell' = true) (B : Nat) (hb : Below B w0 w) (hBg : B ≤ g) :
    ∃ w', (Builtin.copy_ #[dT, sT] ty #[.slice dp dLen dCap, .slice sp sLen sCap]).run P w = .ok (goInt cs.length) w' ∧ w'.heap[g]? = some (.cells (splice cur off cs).toArray t (0, 0)) ∧ Below B w0 w' ∧ w'.heap.size = w.heap.size := by
  by_cases h0 : cs.length = 0
  · obtain rfl : cs = [] := List.eq_nil_of_length_eq_zero h0
    exact ⟨w, run_copy_none (P := P) w dT sT ty elem dp sp dLen dCap sLen sCap hu hsz (by simpa using hn.symm), by simpa [splice] using hg, hb, rfl⟩
  · obtain ⟨rfl, ad, rfl, hsrc⟩ := hpos (by omega)
    exact ⟨_, run_copy_row (P := P) w dT sT ty elem g off dLen dCap ad sLen sCap cur.toArray t cs hu hsz hg hn hsrc (by simpa using hfit) h1, by simpa [splice] using setRow_heap w g _ _ t _ hg, below_setRow hb hBg _, by simp [World.setRow]⟩

theorem six : ∀ k < 6, (List.replicate k 171 ++ List.replicate (6 - k) 0)[k]? = some 0 := by decide
theorem six_set : ∀ k < 6, (List.replicate k 171 ++ List.replicate (6 - k) 0).set k 171 = List.replicate (k + 1) 171 ++ List.replicate (6 - (k + 1)) 0 := by decide
set_option maxRecDepth 100000 in
set_option maxHeartbeats 4000000 in
theorem roomy_any {W : World} {v : Value} {l : List Nat} (h : HasB W v l) (hn : l.length ≤ 140737488351232) :
    Calls Tryd.prog 12 #[v] W fun e W' => e = .returned (.slice (some ⟨W.heap.size, 0, none⟩) l.length (l.length + 6)) ∧ Room W' W.heap.size l ∧ Below W.heap.size W W' := by
  obtain ⟨i0, hi, hz0, hz1, hz2⟩ := info_parts Tryd.infoByte
  obtain ⟨a, c, rfl, hm, h3⟩ := h
  have H3 := hide h3
  clear h3 hm
  have hsz : (Tryd.prog.info? 5).map (·.size) = some 1 := by rw [hi]; simp [hz1]
  go_enter Tryd.func12, Tryd.ntmps12
  go_wp2_with (at_make; refine wpList_make_full _ rfl _ _ 28 rfl W.heap.size 5 i0 (.int .u8 0) 1 Tryd.underlying28 hi hz0 hz1 .i64 .i64 _ _ (l.length + 6) rfl rfl (by first | rfl | simp) (by first | rfl | simp) (by rw [hz2]; omega) (by unfold maxLen; omega) (Nat.le_refl _) ?_; intro w5 hown5 hgrow5; have Hr := hide (made_row hown5); have Hb : Hid (Below W.heap.size W w5) := ⟨hgrow5.os, hgrow5.tape, hgrow5.output, hgrow5.size, fun b hb => hgrow5.block b hb (by simp)⟩; clear hown5 hgrow5)
  obtain ⟨w6, hrun, hr6, hb6, _⟩ := copy_run (P := Tryd.prog) (w := w5) (w0 := W) (dT := 28) (sT := 28) (ty := 3) Tryd.underlying28 hsz (some ⟨W.heap.size, 0, none⟩) a (l.length + 6) (l.length + 6) l.length c W.heap.size 0 (nb (List.replicate (l.length + 6) 0)) 5 (unhide Hr) (nb l) (by rw [nb_len]; exact (Nat.min_eq_left (by omega)).symm) (fun hp => ⟨rfl, src_of (unhide H3) (unhide Hb) hp⟩) (by simp) (nb_one l) W.heap.size (unhide Hb) (Nat.le_refl _)
  rw [hrun]
  have e6 : splice (nb (List.replicate (l.length + 6) 0)) 0 (nb l) = nb (l ++ (List.replicate 0 171 ++ List.replicate (6 - 0) 0)) := by
    simp [splice, nb]
  rw [e6] at hr6
  clear hrun Hr Hb e6 H3
  go_wp2
  go_loopg [4] 6 (fun gk v4 wr => ∃ (k : Nat), v4 = .int .i64 ((l.length + k : Nat) : Int) ∧ gk = 6 - k ∧ k ≤ 6 ∧ wr.heap[W.heap.size]? = some (.cells (nb (l ++ (List.replicate k 171 ++ List.replicate (6 - k) 0))).toArray 5 (0, 0)) ∧ Below W.heap.size W wr)
  case atStart => exact ⟨0, rfl, rfl, by omega, hr6, hb6⟩
  case round =>
    clear hr6 hb6
    obtain ⟨k, rfl, hgk, hk, hr, hB⟩ := hrel
    have Hgk := hide hgk
    clear hgk
    by_cases hlt : k < 6
    · have hcell : wr.cell? ⟨W.heap.size, l.length + k, none⟩ = some (.int .u8 ((0 : Nat) : Int)) := row_cell hr (by
        rw [List.getElem?_append_right (by omega), show l.length + k - l.length = k by omega]
        exact six k hlt)
      have hfr := row_frozen (l.length + k) hr
      have hlt' : ((l.length + k : Nat) : Int) < ((l.length + 6 : Nat) : Int) := by omega
      obtain ⟨j, hj⟩ : ∃ j : Nat, j = l.length + k := ⟨_, rfl⟩
      rw [← hj] at hcell hfr hlt' ⊢
      have hj0 : (0 : Int) ≤ (j : Int) := Int.natCast_nonneg _
      have hj1 : j < 140737488351238 := by omega
      have Hj := hide hj
      have Hr := hide hr
      clear hj hr
      go_wp2
      go_roundg (6 - (k + 1))
      case measure => have := unhide Hgk; omega
      case rel =>
        have e := unhide Hj
        refine ⟨k + 1, by subst e; go_num, rfl, by omega, ?_, below_set hB (Nat.le_refl _) _ _⟩
        have := set_row (i := j) (unhide Hr) 171
        rw [e, List.set_append, if_neg (by omega), show l.length + k - l.length = k by omega, six_set k hlt] at this
        rw [e]
        exact this
    · obtain rfl : k = 6 := by omega
      go_wp2
      go_ret
      exact ⟨rfl, hr, hB⟩

set_option maxRecDepth 100000 in
set_option maxHeartbeats 4000000 in
theorem kept_any {W : World} {g : Nat} {u : Value} {l : List Nat} (h : Room W g l) (h' : HasB W u l) (hl : Byt l) (hn : l.length ≤ 140737488351232) :
    Calls Tryd.prog 14 #[.slice (some ⟨g, 0, none⟩) l.length (l.length + 6), u] W fun e W' => e = .returned (.bool true) ∧ Below W.heap.size W W' := by
  have hu := h'
  obtain ⟨a, c, rfl, hm, h3⟩ := h'
  clear hm h3
  have Hu := hide hu
  have H := hide h
  clear hu h
  go_enter Tryd.func14, Tryd.ntmps14
  go_wp2
  go_loopg [6] 6 (fun gk v4 wr => ∃ (k : Nat), v4 = .int .i64 ((l.length + k : Nat) : Int) ∧ gk = 6 - k ∧ k ≤ 6 ∧ Below W.heap.size W wr)
  case atStart => exact ⟨0, rfl, rfl, by omega, Below.refl _ _⟩
  case round =>
    obtain ⟨k, rfl, hgk, hk, hB⟩ := hrel
    have Hgk := hide hgk
    clear hgk
    by_cases hlt : k < 6
    · have hcell : wr.cell? ⟨g, l.length + k, none⟩ = some (.int .u8 ((171 : Nat) : Int)) := ((unhide H).up hB).cell (by
        rw [List.getElem?_append_right (by omega), show l.length + k - l.length = k by omega]
        exact (show ∀ k < 6, m6[k]? = some 171 by decide) k hlt)
      have hlt' : ((l.length + k : Nat) : Int) < ((l.length + 6 : Nat) : Int) := by omega
      obtain ⟨j, hj⟩ : ∃ j : Nat, j = l.length + k := ⟨_, rfl⟩
      rw [← hj] at hcell hlt' ⊢
      have hj0 : (0 : Int) ≤ (j : Int) := Int.natCast_nonneg _
      have hj1 : j < 140737488351238 := by omega
      have Hj := hide hj
      clear hj
      go_wp2
      go_roundg (6 - (k + 1))
      case measure => have := unhide Hgk; omega
      case rel =>
        have e := unhide Hj
        exact ⟨k + 1, by subst e; go_num, rfl, by omega, hB⟩
    · obtain rfl : k = 6 := by omega
      go_wp2_with fail
      refine (same_any (((unhide H).up hB).has (by omega)) ((unhide Hu).up hB) hl hl).mono ?_
      rintro e w' ⟨rfl, he⟩
      obtain rfl : wr = w' := he.symm
      go_wp2
      go_ret
      exact ⟨by simp, hB⟩
end Go.Proofs.YtoojchjfmnbdpabDoor
