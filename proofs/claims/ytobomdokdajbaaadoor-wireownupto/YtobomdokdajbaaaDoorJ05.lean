import Derived.Test.YtobomdokdajbaaaDoorJ04
import Derived.Deep.RegionLaw

namespace Go.Proofs.YtobomdokdajbaaaDoor
open Go.RowKit
attribute [local go_sem ↓] Go.wp_at_zero Go.wp_at_succ

def bAt (s : ByteArray) (i : Nat) : Nat := if h : i < s.size then s[i].toNat else 0
theorem bAt_lt (s : ByteArray) (i : Nat) : bAt s i < 256 := by
  unfold bAt
  split
  · exact UInt8.toNat_lt _
  · decide
theorem bAt_eq {s : ByteArray} {i : Nat} (h : i < s.size) : bAt s i = s[i].toNat := by unfold bAt; rw [dif_pos h]
/-- A varint, from its byte of the number i on. -/
def vGo (s : ByteArray) (st : Bool) : Nat → Nat → Nat → Nat → (Nat × Nat) ⊕ Nat
  | 0, _, _, _ => .inr 20
  | f + 1, i, k, v => if k < s.size then
      if i = 9 ∧ 1 < bAt s k then .inr 21
      else if 127 < bAt s k then vGo s st f (i + 1) (k + 1) (v + (bAt s k - 128) * 128 ^ i)
      else if st = true ∧ 0 < i ∧ bAt s k = 0 then .inr 22
      else .inl (v + bAt s k * 128 ^ i, k + 1)
    else .inr 20
def vAt (s : ByteArray) (st : Bool) (k : Nat) : (Nat × Nat) ⊕ Nat := vGo s st 10 0 k 0
/-- A reader in memory. -/
def RdAt (W : World) (b : Nat) (s : ByteArray) (k : Nat) (st : Bool) : Prop := W.heap[b]? = some (.cells #[.string s, .int .i64 (k : Int), .bool st] 78 (0, 0))
def VarA (W : World) (b : Nat) (s : ByteArray) (st : Bool) (e : Ending) (W' : World) : (Nat × Nat) ⊕ Nat → Prop
  | .inl (u, k') => e = .returned (.tuple #[.int .i64 (wrap64 (u : Int)), .int .i64 0]) ∧ Upd W b (.cells #[.string s, .int .i64 (k' : Int), .bool st] 78 (0, 0)) W'
  | .inr c => e = .returned (.tuple #[.int .i64 0, .int .i64 (c : Int)]) ∧ c ≠ 0 ∧ ∃ n, W' = W.drewN n
theorem and127 {c : Nat} (h : c < 256) : bits .and .u8 (c : Int) 127 = ((c % 128 : Nat) : Int) := by
  have : ∀ x : Fin 256, bits .and .u8 (x.val : Int) 127 = ((x.val % 128 : Nat) : Int) := by decide +kernel
  exact this ⟨c, h⟩
theorem u64_wrapN (n : Int) (h0 : 0 ≤ n) (h : n < 2 ^ 64) : IntKind.u64.wrap n = n := by rw [wrapu_eq]; omega
theorem pow128 (i : Nat) : 128 ^ i = 2 ^ (7 * i) := by rw [Nat.pow_mul]
theorem v_bound {v x i : Nat} (hi : i ≤ 9) (hx : x < 128) (h9 : i = 9 → x ≤ 1) (hv : v < 128 ^ i) : v + x * 128 ^ i < 18446744073709551616 ∧ (i ≤ 8 → v + x * 128 ^ i < 128 ^ (i + 1)) := by
  by_cases h : i = 9
  · subst h
    have h2 := h9 rfl
    have e : (128 : Nat) ^ 9 = 9223372036854775808 := by decide
    rw [e] at hv ⊢
    exact ⟨by omega, fun q => absurd q (by decide)⟩
  · have h1 : v + x * 128 ^ i < 128 ^ (i + 1) := by
      have : (x + 1) * 128 ^ i ≤ 128 * 128 ^ i := Nat.mul_le_mul_right _ (by omega)
      rw [Nat.pow_succ, Nat.mul_comm (128 ^ i) 128]
      rw [Nat.add_mul, Nat.one_mul] at this
      omega
    have h2 : (128 : Nat) ^ (i + 1) ≤ 128 ^ 9 := Nat.pow_le_pow_right (by decide) (by omega)
    have e : (128 : Nat) ^ 9 = 9223372036854775808 := by decide
    exact ⟨by omega, fun _ => h1⟩
theorem or_next {v x i : Nat} (hv : v < 128 ^ i) (hb : v + x * 128 ^ i < 18446744073709551616) : bits .or .u64 (v : Int) (IntKind.u64.wrap ((x : Int) * 2 ^ (7 * i))) = ((v + x * 128 ^ i : Nat) : Int) := by
  have e1 : (x : Int) * 2 ^ (7 * i) = ((x * 128 ^ i : Nat) : Int) := by rw [pow128]; push_cast; rfl
  rw [e1, u64_wrapN _ (Int.natCast_nonneg _) (by have : x * 128 ^ i < 18446744073709551616 := by omega
                                                 exact_mod_cast this), (bits_nat .u64 64 (by decide) u64_wrapN v (x * 128 ^ i) (by omega) (by omega)).2]
  congr 1
  rw [Nat.or_comm, pow128, Nat.mul_comm, ← Nat.two_pow_add_eq_or_of_lt (by rw [← pow128]; exact hv)]
  omega
set_option maxRecDepth 100000 in
set_option maxHeartbeats 8000000 in
theorem rVarint_any {W : World} {b : Nat} {s : ByteArray} {k : Nat} {st : Bool} (h : RdAt W b s k st) (hk : k ≤ s.size) (hs : s.size ≤ 1048576) :
    Calls Tryd.prog 51 #[.pointer (some ⟨b, 0, none⟩)] W fun e W' => VarA W b s st e W' (vAt s st k) := by
  obtain ⟨R, hR⟩ : ∃ R, vAt s st k = R := ⟨_, rfl⟩
  rw [hR]
  have HR0 : Hid (vGo s st 10 0 k 0 = R) := hR
  have Hh := hide h
  obtain ⟨c0, c1, c2, f0, f1, f2⟩ := cells3_of h
  clear h hR
  go_enter Tryd.func51, Tryd.ntmps51
  go_wp2
  go_quiet (fail)
  go_wp2
  go_loopg [4, 5, 6, 7] 10 (fun gk v4 v5 v6 _ wr => ∃ (i j v : Nat), v4 = .int .u64 (v : Int) ∧ v5 = .int .i64 (i : Int) ∧ v6 = .int .i64 (j : Int) ∧ gk = 10 - i ∧ i ≤ 9 ∧ j ≤ s.size ∧ wr = W.drewN nq ∧ Hid (v < 128 ^ i) ∧ Hid (vGo s st (10 - i) i j v = R))
  case atStart => exact ⟨0, k, 0, rfl, rfl, rfl, rfl, by omega, hk, rfl, by show 0 < 1; decide, HR0⟩
  case round =>
    clear HR0
    obtain ⟨i, j, v, rfl, rfl, rfl, hgk, hi, hj, rfl, Hv, HR⟩ := hrel
    have Hgk := hide hgk
    clear hgk
    by_cases hlt : j < s.size
    · obtain ⟨x, hx⟩ : ∃ x : Nat, s[j].toNat = x := ⟨_, rfl⟩
      have hbx : bAt s j = x := (bAt_eq hlt).trans hx
      have hx2 : x < 256 := by rw [← hbx]; exact bAt_lt s j
      have j0 : (0 : Int) ≤ (j : Int) := Int.natCast_nonneg _
      have j1 : (j : Int) < (s.size : Int) := by omega
      have ha := and127 hx2
      have hst : vGo s st (10 - i) i j v = if i = 9 ∧ 1 < x then .inr 21 else if 127 < x then vGo s st (10 - (i + 1)) (i + 1) (j + 1) (v + (x - 128) * 128 ^ i) else if st = true ∧ 0 < i ∧ x = 0 then .inr 22 else .inl (v + x * 128 ^ i, j + 1) := by
        rw [show 10 - i = (10 - (i + 1)) + 1 by omega, vGo, if_pos hlt, hbx]
      have Hst := hide ((unhide HR).symm.trans hst)
      clear hst hbx
      by_cases h9 : i = 9 ∧ 1 < x
      · obtain ⟨rfl, h91⟩ := h9
        have hr := unhide Hst
        rw [if_pos ⟨rfl, h91⟩] at hr
        subst hr
        have dx : decide ((1 : Int) < (x : Int)) = true := by simp; omega
        clear Hst HR
        go_wp2
        go_ret2
        exact ⟨rfl, by decide, _, rfl⟩
      · have hr := unhide Hst
        rw [if_neg h9] at hr
        have hvb := v_bound (v := v) (x := x % 128) (i := i) hi (by omega) (fun e => by have q9 := fun q => h9 ⟨e, q⟩; omega) (unhide Hv)
        have hor := or_next (x := x % 128) (unhide Hv) hvb.1
        have ecast : ((x % 128 : Nat) : Int) = (x : Int) % 128 := by omega
        rw [ecast] at hor
        obtain ⟨nv, hnv⟩ : ∃ nv, v + x % 128 * 128 ^ i = nv := ⟨_, rfl⟩
        rw [hnv] at hor hvb
        have Hnv := hide hnv
        have Hvb := hide hvb
        have hr9 : ((i : Int) == 9) = false ∨ (((i : Int) == 9) = true ∧ decide ((1 : Int) < (x : Int)) = false) := by
          by_cases q : i = 9
          · exact .inr ⟨by simp; omega, by simp; omega⟩
          · exact .inl (beq_eq_false_iff_ne.2 (by omega))
        clear Hst HR hvb hnv ecast
        by_cases hc : 127 < x
        · have dc : decide ((127 : Int) < (x : Int)) = true := by simp; omega
          rw [if_pos hc] at hr
          have hi8 : i ≤ 8 := by
            by_cases q : i = 9
            · have := h9
              omega
            · omega
          have HR2 : Hid (vGo s st (10 - (i + 1)) (i + 1) (j + 1) nv = R) := by
            show _ = _
            rw [hr, ← unhide Hnv, show x - 128 = x % 128 by omega]
          have Hv2 : Hid (nv < 128 ^ (i + 1)) := (unhide Hvb).2 hi8
          clear hr h9 hi
          rcases hr9 with g1 | ⟨g1, g2⟩
          all_goals (
            go_wp2
            go_roundg (10 - (i + 1))
            case measure => have := unhide Hgk; omega
            case rel => exact ⟨i + 1, j + 1, nv, rfl, by go_num, by go_num, rfl, by omega, by omega, rfl, Hv2, HR2⟩)
        · have dc : decide ((127 : Int) < (x : Int)) = false := by simp; omega
          rw [if_neg hc] at hr
          by_cases h22 : st = true ∧ 0 < i ∧ x = 0
          · rw [if_pos h22] at hr
            subst hr
            obtain ⟨rfl, h23, rfl⟩ := h22
            have di : decide (0 < (i : Int)) = true := by simp; omega
            clear h9
            rcases hr9 with g1 | ⟨g1, g2⟩
            all_goals (
              go_wp2
              go_ret2
              exact ⟨rfl, by decide, _, rfl⟩)
          · rw [if_neg h22] at hr
            have hx128 : x % 128 = x := by omega
            have Hnv2 : Hid (v + x * 128 ^ i = nv) := by have := unhide Hnv; rw [hx128] at this; exact this
            subst hr
            have Hend : Hid (VarA W b s st (.returned (.tuple #[.int .i64 (wrap64 (nv : Int)), .int .i64 0])) ((W.drewN nq).setCell ⟨b, 1, none⟩ (.int .i64 ((j + 1 : Nat) : Int))) (.inl (v + x * 128 ^ i, j + 1))) := by
              rw [unhide Hnv2]
              exact ⟨rfl, upd_set (o := 1) (unhide Hh) nq (.int .i64 ((j + 1 : Nat) : Int))⟩
            have hs22 : st = false ∨ (st = true ∧ i = 0) ∨ (st = true ∧ 0 < i ∧ ¬ x = 0) := by
              cases st with
              | false => exact .inl rfl
              | true =>
                by_cases q : i = 0
                · exact .inr (.inl ⟨rfl, q⟩)
                · exact .inr (.inr ⟨rfl, by omega, fun e => h22 ⟨rfl, by omega, e⟩⟩)
            clear h22 h9 hx128
            rcases hs22 with rfl | ⟨rfl, q0⟩ | ⟨rfl, q1, q2⟩
            · rcases hr9 with g1 | ⟨g1, g2⟩
              all_goals (
                go_wp2
                go_ret2
                exact unhide Hend)
            · have z1 : decide (0 < (i : Int)) = false := by simp; omega
              have z2 : decide (0 < i) = false := by simp; omega
              have g1 : ((i : Int) == 9) = false := beq_eq_false_iff_ne.2 (by omega)
              clear hr9 q0
              go_wp2
              go_ret2
              exact unhide Hend
            · have q3 : ((x : Int) == 0) = false := beq_eq_false_iff_ne.2 (by omega)
              have q4 : decide (0 < (i : Int)) = true := by simp; omega
              rcases hr9 with g1 | ⟨g1, g2⟩
              all_goals (
                go_wp2
                go_ret2
                exact unhide Hend)
    · obtain rfl : j = s.size := by omega
      have hr := unhide HR
      rw [show 10 - i = (10 - (i + 1)) + 1 by omega, vGo, if_neg hlt] at hr
      subst hr
      clear HR hlt
      go_wp2
      go_ret2
      exact ⟨rfl, by decide, _, rfl⟩
end Go.Proofs.YtobomdokdajbaaaDoor

namespace Go.Proofs.YtobomdokdajbaaaDoor
open Go.RowKit
attribute [local go_sem ↓] Go.wp_at_zero Go.wp_at_succ

theorem written5 {cur : Array Value} {a b c d e : Value} (h : 5 ≤ cur.size) : (written cur 0 [a, b, c, d, e])[0]? = some a ∧ (written cur 0 [a, b, c, d, e])[1]? = some b ∧ (written cur 0 [a, b, c, d, e])[2]? = some c ∧ (written cur 0 [a, b, c, d, e])[3]? = some d ∧ (written cur 0 [a, b, c, d, e])[4]? = some e := by
  have h0 : 0 < cur.size := by omega
  have h1 : 1 < cur.size := by omega
  have h2 : 2 < cur.size := by omega
  have h3 : 3 < cur.size := by omega
  have h4 : 4 < cur.size := by omega
  simp [written, h0, h1, h2, h3, h4]
theorem add_done {W V w3 : World} {wb g3 cap : Nat} {cur : Array Value} {p0 p1 p2 p3 p4 p6 : Value} (r : Rec) (hV : Below W.heap.size W V) (hwb : wb < W.heap.size) (hWw : W.heap[wb]? = some (.cells #[p0, p1, p2, p3, p4, .slice none 0 0, p6] 83 (0, 0)))
    (ho : w3.os = V.os) (ht : w3.tape = V.tape) (hp : w3.output = V.output) (hsz : V.heap.size ≤ w3.heap.size) (hk : ∀ b, b < V.heap.size → w3.heap[b]? = V.heap[b]?) (hcur : w3.heap[g3]? = some (.cells cur 35 (0, 0))) (hcs : 5 ≤ cur.size) (hg : V.heap.size ≤ g3) :
    Upd W wb (.cells #[p0, p1, p2, p3, p4, .slice (some ⟨g3, 0, none⟩) 1 cap, p6] 83 (0, 0)) ((w3.setCells g3 0 [.int .i64 (r.number : Int), .int .i64 (r.kind : Int), .int .i64 r.num, .string r.text, .slice r.ia 0 r.ic]).setCell ⟨wb, 5, none⟩ (.slice (some ⟨g3, 0, none⟩) 1 cap)) ∧
    HasR ((w3.setCells g3 0 [.int .i64 (r.number : Int), .int .i64 (r.kind : Int), .int .i64 r.num, .string r.text, .slice r.ia 0 r.ic]).setCell ⟨wb, 5, none⟩ (.slice (some ⟨g3, 0, none⟩) 1 cap)) (.slice (some ⟨g3, 0, none⟩) 1 cap) [r] := by
  have hVz := hV.size
  obtain ⟨q1, q2⟩ := heap_setCells (t := 35) (g := g3) [.int .i64 (r.number : Int), .int .i64 (r.kind : Int), .int .i64 r.num, .string r.text, .slice r.ia 0 r.ic] 0 w3 cur hcur
  have hB := below_setCells (n := V.heap.size) (g := g3) (A := w3) hg [.int .i64 (r.number : Int), .int .i64 (r.kind : Int), .int .i64 r.num, .string r.text, .slice r.ia 0 r.ic] 0 w3 (Below.refl _ _)
  generalize w3.setCells g3 0 [.int .i64 (r.number : Int), .int .i64 (r.kind : Int), .int .i64 r.num, .string r.text, .slice r.ia 0 r.ic] = Y at *
  have hYw : Y.heap[wb]? = some (.cells #[p0, p1, p2, p3, p4, .slice none 0 0, p6] 83 (0, 0)) := (hB.block wb (by omega)).trans ((hk wb (by omega)).trans ((hV.block wb hwb).trans hWw))
  have hYg : g3 < Y.heap.size := by
    have := (Array.getElem?_eq_some_iff.1 q1).1
    exact this
  have hZg := (heap_setCell_other Y ⟨wb, 5, none⟩ g3 (.slice (some ⟨g3, 0, none⟩) 1 cap) (by show g3 ≠ wb; omega)).trans q1
  refine ⟨⟨hB.os.trans (ho.trans hV.os), hB.tape.trans (ht.trans hV.tape), hB.output.trans (hp.trans hV.output), ?_, heap_setCell_same Y wb 5 _ _ _ hYw, fun k hk' hn => ?_⟩, ?_⟩
  · rw [World.size_setCell]
    have := hB.size
    have := hsz
    omega
  · exact (heap_setCell_other Y ⟨wb, 5, none⟩ k _ hn).trans ((hB.block k (by omega)).trans ((hk k (by omega)).trans (hV.block k hk')))
  · refine ⟨some ⟨g3, 0, none⟩, cap, rfl, by simp, fun _ => ⟨g3, 0, rfl, by rw [World.size_setCell]; exact hYg, fun i x hx => ?_⟩⟩
    cases i with
    | zero =>
      obtain rfl : r = x := by simpa using hx
      simp only [Nat.zero_add, Nat.zero_mul]
      obtain ⟨w0, w1, w2, w3', w4⟩ := written5 (a := .int .i64 (r.number : Int)) (b := .int .i64 (r.kind : Int)) (c := .int .i64 r.num) (d := .string r.text) (e := .slice r.ia 0 r.ic) hcs
      exact ⟨(cell_of_row _ _ _ _ _ _ hZg).trans w0, (cell_of_row _ _ _ _ _ _ hZg).trans w1, (cell_of_row _ _ _ _ _ _ hZg).trans w2, (cell_of_row _ _ _ _ _ _ hZg).trans w3', (cell_of_row _ _ _ _ _ _ hZg).trans w4⟩
    | succ i => simp at hx

theorem add_nest {W V w3 : World} {wb g3 cap : Nat} {cur : Array Value} {p0 p1 p2 p3 p4 p6 : Value} (r : Rec) (hV : Below W.heap.size W V) (hwb : wb < W.heap.size) (hWw : W.heap[wb]? = some (.cells #[p0, p1, p2, p3, p4, .slice none 0 0, p6] 83 (0, 0)))
    (ho : w3.os = V.os) (ht : w3.tape = V.tape) (hp : w3.output = V.output) (hsz : V.heap.size ≤ w3.heap.size) (hk : ∀ b, b < V.heap.size → w3.heap[b]? = V.heap[b]?) (hcur : w3.heap[g3]? = some (.cells cur 35 (0, 0))) (hcs : 5 ≤ cur.size) (hg : V.heap.size ≤ g3) :
    ∃ v, v = Value.slice (some ⟨g3, 0, none⟩) 1 cap ∧ Upd W wb (.cells #[p0, p1, p2, p3, p4, v, p6] 83 (0, 0)) ((((((w3.setCell ⟨g3, 0, none⟩ (.int .i64 (r.number : Int))).setCell ⟨g3, 1, none⟩ (.int .i64 (r.kind : Int))).setCell ⟨g3, 2, none⟩ (.int .i64 r.num)).setCell ⟨g3, 3, none⟩ (.string r.text)).setCell ⟨g3, 4, none⟩ (.slice r.ia 0 r.ic)).setCell ⟨wb, 5, none⟩ (.slice (some ⟨g3, 0, none⟩) 1 cap)) ∧
    HasR ((((((w3.setCell ⟨g3, 0, none⟩ (.int .i64 (r.number : Int))).setCell ⟨g3, 1, none⟩ (.int .i64 (r.kind : Int))).setCell ⟨g3, 2, none⟩ (.int .i64 r.num)).setCell ⟨g3, 3, none⟩ (.string r.text)).setCell ⟨g3, 4, none⟩ (.slice r.ia 0 r.ic)).setCell ⟨wb, 5, none⟩ (.slice (some ⟨g3, 0, none⟩) 1 cap)) v [r] := by
  have := add_done (cap := cap) r hV hwb hWw ho ht hp hsz hk hcur hcs hg
  simp only [World.setCells, Nat.zero_add, Nat.reduceAdd] at this
  exact ⟨_, rfl, this.1, this.2⟩
theorem add_done2 {W V w3 : World} {wb g3 cap : Nat} {cur : Array Value} {p0 p1 p2 p3 p4 p6 : Value} (r : Rec) (hV : Below W.heap.size W V) (hwb : wb < W.heap.size) (hWw : W.heap[wb]? = some (.cells #[p0, p1, p2, p3, p4, .slice none 0 0, p6] 83 (0, 0)))
    (ho : w3.os = V.os) (ht : w3.tape = V.tape) (hp : w3.output = V.output) (hsz : V.heap.size ≤ w3.heap.size) (hk : ∀ b, b < V.heap.size → w3.heap[b]? = V.heap[b]?) (hcur : w3.heap[g3]? = some (.cells cur 35 (0, 0))) (hcs : 5 ≤ cur.size) (hg : V.heap.size ≤ g3) :
    Upd W wb (.cells #[p0, p1, p2, p3, p4, (.slice (some ⟨g3, 0, none⟩) 1 cap), p6] 83 (0, 0)) ((w3.setCell ⟨wb, 5, none⟩ (.slice (some ⟨g3, 0, none⟩) 1 cap)).setCells g3 0 [.int .i64 (r.number : Int), .int .i64 (r.kind : Int), .int .i64 r.num, .string r.text, .slice r.ia 0 r.ic]) ∧ HasR ((w3.setCell ⟨wb, 5, none⟩ (.slice (some ⟨g3, 0, none⟩) 1 cap)).setCells g3 0 [.int .i64 (r.number : Int), .int .i64 (r.kind : Int), .int .i64 r.num, .string r.text, .slice r.ia 0 r.ic]) (.slice (some ⟨g3, 0, none⟩) 1 cap) [r] := by
  have hVz := hV.size
  have hw3 : w3.heap[wb]? = some (.cells #[p0, p1, p2, p3, p4, .slice none 0 0, p6] 83 (0, 0)) := (hk wb (by omega)).trans ((hV.block wb hwb).trans hWw)
  have hY1 := heap_setCell_same w3 wb 5 _ _ (.slice (some ⟨g3, 0, none⟩) 1 cap) hw3
  have hYo : ∀ k, k ≠ wb → (w3.setCell ⟨wb, 5, none⟩ (.slice (some ⟨g3, 0, none⟩) 1 cap)).heap[k]? = w3.heap[k]? := fun k hn => heap_setCell_other w3 ⟨wb, 5, none⟩ k (.slice (some ⟨g3, 0, none⟩) 1 cap) hn
  have hYz : (w3.setCell ⟨wb, 5, none⟩ (.slice (some ⟨g3, 0, none⟩) 1 cap)).heap.size = w3.heap.size := World.size_setCell _ _ _
  have hYB : (w3.setCell ⟨wb, 5, none⟩ (.slice (some ⟨g3, 0, none⟩) 1 cap)).os = w3.os ∧ (w3.setCell ⟨wb, 5, none⟩ (.slice (some ⟨g3, 0, none⟩) 1 cap)).tape = w3.tape ∧ (w3.setCell ⟨wb, 5, none⟩ (.slice (some ⟨g3, 0, none⟩) 1 cap)).output = w3.output := ⟨rfl, rfl, rfl⟩
  generalize (w3.setCell ⟨wb, 5, none⟩ (.slice (some ⟨g3, 0, none⟩) 1 cap)) = Y at *
  obtain ⟨q1, q2⟩ := heap_setCells (t := 35) (g := g3) [.int .i64 (r.number : Int), .int .i64 (r.kind : Int), .int .i64 r.num, .string r.text, .slice r.ia 0 r.ic] 0 Y cur ((hYo g3 (by omega)).trans hcur)
  have hB := below_setCells (n := V.heap.size) (g := g3) (A := Y) hg [.int .i64 (r.number : Int), .int .i64 (r.kind : Int), .int .i64 r.num, .string r.text, .slice r.ia 0 r.ic] 0 Y (Below.refl _ _)
  generalize Y.setCells g3 0 [.int .i64 (r.number : Int), .int .i64 (r.kind : Int), .int .i64 r.num, .string r.text, .slice r.ia 0 r.ic] = Z at *
  have hZs := hB.size
  have hg3 := (Array.getElem?_eq_some_iff.1 q1).1
  refine ⟨⟨hB.os.trans (hYB.1.trans (ho.trans hV.os)), hB.tape.trans (hYB.2.1.trans (ht.trans hV.tape)), hB.output.trans (hYB.2.2.trans (hp.trans hV.output)), by have := hsz; omega, (q2 wb (by omega)).trans hY1, fun k hk' hn => ?_⟩, ?_⟩
  · exact (q2 k (by omega)).trans ((hYo k hn).trans ((hk k (by omega)).trans (hV.block k hk')))
  · refine ⟨some ⟨g3, 0, none⟩, cap, rfl, by simp, fun _ => ⟨g3, 0, rfl, hg3, fun i x hx => ?_⟩⟩
    cases i with
    | zero =>
      obtain rfl : r = x := by simpa using hx
      simp only [Nat.zero_add, Nat.zero_mul]
      obtain ⟨w0, w1, w2, w3', w4⟩ := written5 (a := .int .i64 (r.number : Int)) (b := .int .i64 (r.kind : Int)) (c := .int .i64 r.num) (d := .string r.text) (e := .slice r.ia 0 r.ic) hcs
      exact ⟨(cell_of_row _ _ _ _ _ _ q1).trans w0, (cell_of_row _ _ _ _ _ _ q1).trans w1, (cell_of_row _ _ _ _ _ _ q1).trans w2, (cell_of_row _ _ _ _ _ _ q1).trans w3', (cell_of_row _ _ _ _ _ _ q1).trans w4⟩
    | succ i => simp at hx
theorem add_nest2 {W V w3 : World} {wb g3 cap : Nat} {cur : Array Value} {p0 p1 p2 p3 p4 p6 : Value} (r : Rec) (hV : Below W.heap.size W V) (hwb : wb < W.heap.size) (hWw : W.heap[wb]? = some (.cells #[p0, p1, p2, p3, p4, .slice none 0 0, p6] 83 (0, 0)))
    (ho : w3.os = V.os) (ht : w3.tape = V.tape) (hp : w3.output = V.output) (hsz : V.heap.size ≤ w3.heap.size) (hk : ∀ b, b < V.heap.size → w3.heap[b]? = V.heap[b]?) (hcur : w3.heap[g3]? = some (.cells cur 35 (0, 0))) (hcs : 5 ≤ cur.size) (hg : V.heap.size ≤ g3) :
    ∃ v, v = Value.slice (some ⟨g3, 0, none⟩) 1 cap ∧ Upd W wb (.cells #[p0, p1, p2, p3, p4, v, p6] 83 (0, 0)) ((((((w3.setCell ⟨wb, 5, none⟩ (.slice (some ⟨g3, 0, none⟩) 1 cap)).setCell ⟨g3, 0, none⟩ (.int .i64 (r.number : Int))).setCell ⟨g3, 1, none⟩ (.int .i64 (r.kind : Int))).setCell ⟨g3, 2, none⟩ (.int .i64 r.num)).setCell ⟨g3, 3, none⟩ (.string r.text)).setCell ⟨g3, 4, none⟩ (.slice r.ia 0 r.ic)) ∧ HasR ((((((w3.setCell ⟨wb, 5, none⟩ (.slice (some ⟨g3, 0, none⟩) 1 cap)).setCell ⟨g3, 0, none⟩ (.int .i64 (r.number : Int))).setCell ⟨g3, 1, none⟩ (.int .i64 (r.kind : Int))).setCell ⟨g3, 2, none⟩ (.int .i64 r.num)).setCell ⟨g3, 3, none⟩ (.string r.text)).setCell ⟨g3, 4, none⟩ (.slice r.ia 0 r.ic)) v [r] := by
  have := add_done2 (cap := cap) r hV hwb hWw ho ht hp hsz hk hcur hcs hg
  simp only [World.setCells, Nat.zero_add, Nat.reduceAdd] at this
  exact ⟨_, rfl, this.1, this.2⟩
end Go.Proofs.YtobomdokdajbaaaDoor
