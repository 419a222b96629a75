import Derived.Test.YtadmamfekodkaaaDoorHT
import Derived.Test.YtadmamfekodkaaaDoorHQ

namespace Go.Proofs.YtadmamfekodkaaaDoor
open Go.RowKit
attribute [local go_sem ↓] Go.wp_at_zero Go.wp_at_succ

def m70 : List Nat := List.replicate 70 7
/-- Bytes with marked room behind them. -/
def Room (W : World) (g : Nat) (l : List Nat) : Prop := W.heap[g]? = some (.cells (nb (l ++ m70)).toArray 5 (0, 0))
theorem Room.lt {W : World} {g : Nat} {l : List Nat} (h : Room W g l) : g < W.heap.size := (Array.getElem?_eq_some_iff.1 h).1
theorem Room.has {W : World} {g : Nat} {l : List Nat} (h : Room W g l) (hl : l.length ≤ 281474976710656) : HasB W (.slice (some ⟨g, 0, none⟩) l.length (l.length + 70)) l := by
  refine ⟨_, _, rfl, ⟨by omega, by unfold maxLen; omega, nofun⟩, fun _ => ⟨g, 0, rfl, h.lt, fun i b hb => ?_⟩⟩
  rw [Nat.zero_add, cell_of_row _ _ _ _ _ _ h]
  have : i < l.length := (List.getElem?_eq_some_iff.1 hb).1
  rw [List.getElem?_toArray, nb_at, List.getElem?_append_left this, hb]
  rfl
theorem Room.up {W w : World} {g : Nat} {l : List Nat} (h : Room W g l) (hb : Below W.heap.size W w) : Room w g l := (hb.block g h.lt).trans h
theorem Room.cell {W : World} {g : Nat} {l : List Nat} (h : Room W g l) {i b : Nat} (hb : (l ++ m70)[i]? = some b) : W.cell? ⟨g, i, none⟩ = some (.int .u8 (b : Int)) := by
  rw [cell_of_row _ _ _ _ _ _ h, List.getElem?_toArray, nb_at, hb]
  rfl
theorem made_row {W : World} {base g n : Nat} (h : W.ownsRow base 5 1 (.slice (some ⟨g, 0, none⟩) n n) n (madeCells (Value.cells (.int .u8 0)) (n * 1)).toList) : W.heap[g]? = some (.cells (nb (List.replicate n 0)).toArray 5 (0, 0)) := by
  obtain ⟨_, ⟨h0, _⟩ | ⟨g', c, cur, e, _, hg, _, _, hs, ht⟩⟩ := h
  · simp at h0
  · simp only [Value.slice.injEq, Option.some.injEq, Addr.mk.injEq] at e
    obtain ⟨⟨rfl, _⟩, _, rfl⟩ := e
    rw [hg]
    have e1 : (madeCells (Value.cells (.int .u8 0)) (n * 1)).toList = nb (List.replicate n 0) := by
      rw [show Value.cells (.int .u8 0) = #[.int .u8 0] from rfl, toList_madeCells_one]
      simp [nb]
    rw [e1, List.take_of_length_le (by simp; omega)] at ht
    rw [← ht]
theorem set_row {W : World} {g i : Nat} {l : List Nat} {t : TypeId} (h : W.heap[g]? = some (.cells (nb l).toArray t (0, 0))) (b : Nat) : (W.setCell ⟨g, i, none⟩ (.int .u8 (b : Int))).heap[g]? = some (.cells (nb (l.set i b)).toArray t (0, 0)) := by
  rw [heap_setCell_same _ g i _ t _ h]
  congr 2
  simp [nb, List.map_set]
theorem row_cell {W : World} {g i : Nat} {l : List Nat} {t : TypeId} {fr : Nat × Nat} (h : W.heap[g]? = some (.cells (nb l).toArray t fr)) {b : Nat} (hb : l[i]? = some b) : W.cell? ⟨g, i, none⟩ = some (.int .u8 (b : Int)) := by
  rw [cell_of_row _ _ _ _ _ _ h, List.getElem?_toArray, nb_at, hb]
  rfl
theorem row_frozen {W : World} {g : Nat} (i : Nat) {cs : Array Value} {t : TypeId} (h : W.heap[g]? = some (.cells cs t (0, 0))) : W.frozen? ⟨g, i, none⟩ = false := by
  unfold World.frozen?
  rw [h]
  simp
theorem src_of {W w : World} {a : Option Addr} {l : List Nat} (h3 : 0 < l.length → ∃ g off, a = some ⟨g, off, none⟩ ∧ g < W.heap.size ∧ ∀ (i b : Nat), l[i]? = some b → W.cell? ⟨g, off + i, none⟩ = some (.int .u8 (b : Int))) (hb : Below W.heap.size W w) (hp : 0 < (nb l).length) : ∃ ad, a = some ad ∧ ∀ j v, (nb l)[j]? = some v → w.cell? (ad.add j) = some v := by
  obtain ⟨g, off, rfl, hg, hc⟩ := h3 (by simpa using hp)
  refine ⟨_, rfl, fun j v hj => ?_⟩
  rw [nb_at] at hj
  obtain ⟨b, hb', rfl⟩ := Option.map_eq_some_iff.1 hj
  rw [Go.WideShapes.add_plain]
  exact (hb.cell (p := ⟨g, off + j, none⟩) hg).trans (hc j b hb')
theorem copy_run {P : Program} {w w0 : World} {dT sT ty elem : TypeId} (hu : P.underlying dT = some (.slice elem)) (hsz : (P.info? elem).map (·.size) = some 1) (dp sp : Option Addr) (dLen dCap sLen sCap : Nat)
    (g off : Nat) (cur : List Value) (t : TypeId) (hg : w.heap[g]? = some (.cells cur.toArray t (0, 0))) (cs : List Value) (hn : cs.length = Nat.min sLen dLen)
    (hpos : 0 < cs.length → dp = some ⟨g, off, none⟩ ∧ ∃ ad, sp = some ad ∧ ∀ j v, cs[j]? = some v → w.cell? (ad.add j) = some v)
    (hfit : off + cs.length ≤ cur.length) (h1 : ∀ v ∈ cs, v.oneCell' = true) (B : Nat) (hb : Below B w0 w) (hBg : B ≤ g) :
    ∃ w', (Builtin.copy_ #[dT, sT] ty #[.slice dp dLen dCap, .slice sp sLen sCap]).run P w = .ok (goInt cs.length) w' ∧ w'.heap[g]? = some (.cells (splice cur off cs).toArray t (0, 0)) ∧ Below B w0 w' ∧ w'.heap.size = w.heap.size := by
  by_cases h0 : cs.length = 0
  · obtain rfl : cs = [] := List.eq_nil_of_length_eq_zero h0
    exact ⟨w, run_copy_none (P := P) w dT sT ty elem dp sp dLen dCap sLen sCap hu hsz (by simpa using hn.symm), by simpa [splice] using hg, hb, rfl⟩
  · obtain ⟨rfl, ad, rfl, hsrc⟩ := hpos (by omega)
    exact ⟨_, run_copy_row (P := P) w dT sT ty elem g off dLen dCap ad sLen sCap cur.toArray t cs hu hsz hg hn hsrc (by simpa using hfit) h1, by simpa [splice] using setRow_heap w g _ _ t _ hg, below_setRow hb hBg _, by simp [World.setRow]⟩

theorem seven : ∀ k < 70, (List.replicate k 7 ++ List.replicate (70 - k) 0)[k]? = some 0 := by decide +kernel
theorem seven_set : ∀ k < 70, (List.replicate k 7 ++ List.replicate (70 - k) 0).set k 7 = List.replicate (k + 1) 7 ++ List.replicate (70 - (k + 1)) 0 := by decide +kernel
theorem seven_at : ∀ k < 70, m70[k]? = some 7 := by decide +kernel
set_option maxRecDepth 100000 in
set_option maxHeartbeats 4000000 in
theorem quotes_core {W : World} (hE : HasE W) {v : Value} {l0 : List Nat} (h : HasB W v l0) (hl : Byt l0) (_hn : l0.length ≤ 140737488351232) : Calls Tryd.prog 4 #[v] W fun e w => e = .returned (.bool true) ∧ Below W.heap.size W w := by
  obtain ⟨i0, hi, hz0, hz1, hz2⟩ := info_parts Tryd.infoByte
  have hsz : (Tryd.prog.info? 5).map (·.size) = some 1 := by rw [hi]; simp [hz1]
  have HE := hide hE
  have H0 := hide h
  have HL0 := hide hl
  obtain ⟨a, c, rfl, hm, -⟩ := h
  have hm1 := hm.1
  clear hE hl hm
  go_enter Tryd.func4, Tryd.ntmps4
  go_upto_if 12 with fail
  go_cut [0] (fun v0 wx => W = wx ∧ ∃ (l : List Nat) (a : Option Addr) (c : Nat), v0 = .slice a l.length c ∧ l.length ≤ 16000 ∧ Hid (HasB W (.slice a l.length c) l) ∧ Hid (Byt l))
  case first =>
    by_cases hb : 16000 < l0.length
    · have f1 : decide ((16000 : Int) < (l0.length : Int)) = true := by simp; omega
      obtain ⟨a', c', e, ht⟩ := (unhide H0).take 16000 (by omega)
      cases e
      have Ht := hide ht
      have hc16 : (16000 : Int) ≤ (c : Int) := by omega
      have Hb := hide hb
      clear ht hb
      rw [f1]
      go_wp2
      go_meet
      have e : (l0.take 16000).length = 16000 := by rw [List.length_take]; have := unhide Hb; omega
      exact ⟨rfl, l0.take 16000, a, c, by rw [e], by omega, by rw [e]; exact Ht, fun x hx => unhide HL0 x (List.mem_of_mem_take hx)⟩
    · have f1 : decide ((16000 : Int) < (l0.length : Int)) = false := by simp; omega
      have Hb := hide hb
      clear hb
      rw [f1]
      go_wp2
      go_meet
      exact ⟨rfl, l0, a, c, rfl, by have := unhide Hb; omega, H0, HL0⟩
  case rest =>
    obtain ⟨rfl, l, a, c, rfl, hn, HL, HBy⟩ := hcut
    have h3 : Hid (0 < l.length → ∃ g off, a = some ⟨g, off, none⟩ ∧ g < W.heap.size ∧ ∀ (i b : Nat), l[i]? = some b → W.cell? ⟨g, off + i, none⟩ = some (.int .u8 (b : Int))) := by
      obtain ⟨a', c', e, -, h3⟩ := unhide HL
      cases e
      exact h3
    clear H0 HL0 hm1
    go_wp2_with (at_make; refine wpList_make_full _ rfl _ _ 30 rfl W.heap.size 5 i0 (.int .u8 0) 1 Tryd.underlying30 hi hz0 hz1 .i64 .i64 _ _ (l.length + 70) rfl rfl (by first | rfl | simp) (by first | rfl | simp) (by rw [hz2]; omega) (by unfold maxLen; omega) (Nat.le_refl _) ?_; intro w5 hown5 hgrow5; have Hr := hide (made_row hown5); have Hb : Hid (Below W.heap.size W w5) := ⟨hgrow5.os, hgrow5.tape, hgrow5.output, hgrow5.size, fun b hb => hgrow5.block b hb (by simp)⟩; clear hown5 hgrow5)
    obtain ⟨w6, hrun, hr6, hb6, _⟩ := copy_run (P := Tryd.prog) (w := w5) (w0 := W) (dT := 30) (sT := 30) (ty := 3) Tryd.underlying30 hsz (some ⟨W.heap.size, 0, none⟩) a (l.length + 70) (l.length + 70) l.length c W.heap.size 0 (nb (List.replicate (l.length + 70) 0)) 5 (unhide Hr) (nb l) (by rw [nb_len]; exact (Nat.min_eq_left (by omega)).symm) (fun hp => ⟨rfl, src_of (unhide h3) (unhide Hb) hp⟩) (by simp) (nb_one l) W.heap.size (unhide Hb) (Nat.le_refl _)
    rw [hrun]
    have e6 : splice (nb (List.replicate (l.length + 70) 0)) 0 (nb l) = nb (l ++ (List.replicate 0 7 ++ List.replicate (70 - 0) 0)) := by
      simp [splice, nb]
    rw [e6] at hr6
    clear hrun Hr Hb e6 h3
    have HR6 := hide hr6
    have HB6 := hide hb6
    clear hr6 hb6
    go_wp2
    go_loopg [4] 70 (fun gk v4 wr => ∃ (k : Nat), v4 = .int .i64 ((l.length + k : Nat) : Int) ∧ gk = 70 - k ∧ k ≤ 70 ∧ Hid (wr.heap[W.heap.size]? = some (.cells (nb (l ++ (List.replicate k 7 ++ List.replicate (70 - k) 0))).toArray 5 (0, 0))) ∧ Hid (Below W.heap.size W wr))
    case atStart => exact ⟨0, rfl, rfl, by omega, HR6, HB6⟩
    case round =>
      clear HR6 HB6
      obtain ⟨k, rfl, hgk, hk, HR, HB⟩ := hrel
      have Hgk := hide hgk
      clear hgk
      by_cases hlt : k < 70
      · have hcell : wr.cell? ⟨W.heap.size, l.length + k, none⟩ = some (.int .u8 ((0 : Nat) : Int)) := row_cell (unhide HR) (by
          rw [List.getElem?_append_right (by omega), show l.length + k - l.length = k by omega]
          exact seven k hlt)
        have hfr := row_frozen (l.length + k) (unhide HR)
        have hlt' : ((l.length + k : Nat) : Int) < ((l.length + 70 : Nat) : Int) := by omega
        obtain ⟨j, hj⟩ : ∃ j : Nat, j = l.length + k := ⟨_, rfl⟩
        rw [← hj] at hcell hfr hlt' ⊢
        have hj0 : (0 : Int) ≤ (j : Int) := Int.natCast_nonneg _
        have hj1 : j < 20000 := by omega
        have Hj := hide hj
        have Hlt := hide hlt
        clear hj hlt
        go_wp2
        go_roundg (70 - (k + 1))
        case measure => have := unhide Hgk; have := unhide Hlt; omega
        case rel =>
          have e := unhide Hj
          have hlt := unhide Hlt
          refine ⟨k + 1, by subst e; go_num, rfl, by omega, ?_, below_set (unhide HB) (Nat.le_refl _) _ _⟩
          show _ = _
          have := set_row (i := j) (unhide HR) 7
          rw [e, List.set_append, if_neg (by omega), show l.length + k - l.length = k by omega, seven_set k hlt] at this
          rw [e]
          exact this
      · obtain rfl : k = 70 := by omega
        have hRm : Room wr W.heap.size l := by
          have := unhide HR
          rw [show List.replicate 70 7 ++ List.replicate (70 - 70) 0 = m70 from rfl] at this
          exact this
        obtain ⟨q, hq⟩ : ∃ q, W.heap.size = q := ⟨_, rfl⟩
        rw [hq] at hRm
        have HRm := hide hRm
        have Hq := hide hq
        have hHb := hRm.has (by omega)
        have HQ := hide (hQuote_any hHb (unhide HBy) (by omega))
        have hn70 : (l.length : Int) ≤ ((l.length + 70 : Nat) : Int) := by omega
        clear hRm hHb HR Hgk
        rw [hq]
        clear hq
        go_wp2_with fail
        refine (unhide HQ).mono ?_
        rintro e w1 ⟨rfl, b1⟩
        have HL1 := hide ((unhide HL).up (unhide HB))
        have HL2 := hide ((unhide HL1).up b1)
        have HRm1 := hide ((unhide HRm).up b1)
        have HB1 := hide ((unhide HB).trans (b1.mono (unhide HB).size))
        have HX := hide (xQuote_any (unhide HL2) (unhide HBy) (by omega))
        clear b1 HQ HL1 HRm
        go_wp2_with fail
        refine (unhide HX).mono ?_
        rintro e w2 ⟨rfl, b2⟩
        have hL3 := (unhide HL2).up b2
        have hRm2 := (unhide HRm1).up b2
        have HB2 := hide ((unhide HB1).trans (b2.mono (unhide HB1).size))
        have cv1 := conv_any (hRm2.has (by omega)) (unhide HBy)
        have cv2 := conv_any hL3 (unhide HBy)
        have HL3 := hide hL3
        have HRm2 := hide hRm2
        clear b2 HX HL2 HRm1 hL3 hRm2 HB1
        go_wp2
        go_loopg [7] 70 (fun gk v7 wr2 => ∃ (k m : Nat), v7 = .int .i64 ((l.length + k : Nat) : Int) ∧ gk = 70 - k ∧ k ≤ 70 ∧ wr2 = w2.drewN m)
        case atStart => exact ⟨0, 0, rfl, rfl, by omega, rfl⟩
        case round =>
          obtain ⟨k, m, rfl, hgk, hk, rfl⟩ := hrel
          have Hgk := hide hgk
          clear hgk cv1 cv2
          by_cases hlt : k < 70
          · have hcell : (w2.drewN m).cell? ⟨q, l.length + k, none⟩ = some (.int .u8 ((7 : Nat) : Int)) := (unhide HRm2).cell (by
              rw [List.getElem?_append_right (by omega), show l.length + k - l.length = k by omega]
              exact seven_at k hlt)
            have hlt' : ((l.length + k : Nat) : Int) < ((l.length + 70 : Nat) : Int) := by omega
            obtain ⟨j, hj⟩ : ∃ j : Nat, j = l.length + k := ⟨_, rfl⟩
            rw [← hj] at hcell hlt' ⊢
            have hj0 : (0 : Int) ≤ (j : Int) := Int.natCast_nonneg _
            have hj1 : j < 20000 := by omega
            have Hj := hide hj
            have Hlt := hide hlt
            clear hj hlt
            go_wp2
            go_roundg (70 - (k + 1))
            case measure => have := unhide Hgk; have := unhide Hlt; omega
            case rel =>
              have e := unhide Hj
              have := unhide Hlt
              exact ⟨k + 1, m, by subst e; go_num, rfl, by omega, rfl⟩
          · obtain rfl : k = 70 := by omega
            have hb2 : Below W.heap.size W (w2.drewN m) := below_drewN (unhide HB2) m
            have hL4 : HasB (w2.drewN m) (.slice a l.length c) l := (unhide HL3).up (below_drewN (Below.refl _ _) m)
            obtain ⟨w3, hw3⟩ : ∃ x, w2.drewN m = x := ⟨_, rfl⟩
            rw [hw3] at hb2 hL4 ⊢
            have HB3 := hide hb2
            have HL4 := hide hL4
            have HW := hide (hWords_any ((unhide HE).up hb2) (ofN (quoteL l)))
            rw [wR_quote (unhide HBy) hn] at HW
            clear hw3 hb2 hL4 HB2 HL3 HRm2 Hgk
            go_wp2_with fail
            refine (unhide HW).mono ?_
            rintro e w4 ⟨v, rfl, ho, hb⟩
            obtain ⟨g, c4, rfl, hc⟩ := one_str ho
            have hL5 := (unhide HL4).up hb
            have HB4 := hide ((unhide HB3).trans (hb.mono (unhide HB3).size))
            have cv3 : ∀ n, (convert 30 9 (.slice a l.length c)).run Tryd.prog (w4.drewN n) = .ok (.string (ofN l)) (w4.drewN n) := fun n => conv_any (hL5.up (below_drewN (Below.refl _ _) n)) (unhide HBy)
            clear ho hb HW HL4 HB3 hL5
            go_wp2
            go_quiet (fail)
            go_wp2
            go_ret
            exact ⟨rfl, below_drewN (unhide HB4) _⟩
end Go.Proofs.YtadmamfekodkaaaDoor
