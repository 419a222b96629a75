import Derived.Test.YtobomdokdajbaaaDoorJ05
import Derived.Test.YtobomdokdajbaaaDoorJ07

namespace Go.Proofs.YtobomdokdajbaaaDoor
open Go.RowKit
attribute [local go_sem ↓] Go.wp_at_zero Go.wp_at_succ

theorem and_seven (n : Int) : bits BinOp.and IntKind.i64 n 7 = n % 8 := by
  have h1 : (BitVec.ofInt 64 7).toNat = 2 ^ 3 - 1 := by decide
  have key : (BitVec.ofInt 64 n &&& BitVec.ofInt 64 7).toNat = (n % ((2 ^ 64 : Nat) : Int)).toNat % 2 ^ 3 := by
    rw [BitVec.toNat_and, BitVec.toNat_ofInt, h1, Nat.and_two_pow_sub_one_eq_mod]
  show IntKind.i64.wrap ((BitVec.ofInt 64 n &&& BitVec.ofInt 64 7).toNat : Nat) = n % 8
  rw [key, IntKind.wrap_i64]
  omega
/-- What Tag does, by what the varint is. -/
def TagA (W : World) (b : Nat) (s : ByteArray) (k : Nat) (st : Bool) (e : Ending) (W' : World) : (Nat × Nat) ⊕ Nat → Prop
  | .inr c => e = .returned (.tuple #[.int .i64 0, .int .i64 0, .int .i64 (c : Int)]) ∧ c ≠ 0 ∧ ∃ n, W' = W.drewN n
  | .inl (u, k') => if u / 8 < 1 ∨ 536870911 < u / 8 then e = .returned (.tuple #[.int .i64 0, .int .i64 0, .int .i64 24]) ∧ Upd W b (.cells #[.string s, .int .i64 (k : Int), .bool st] 78 (0, 0)) W'
      else if 5 < u % 8 then e = .returned (.tuple #[.int .i64 0, .int .i64 0, .int .i64 23]) ∧ Upd W b (.cells #[.string s, .int .i64 (k : Int), .bool st] 78 (0, 0)) W'
      else e = .returned (.tuple #[.int .i64 ((u / 8 : Nat) : Int), .int .i64 ((u % 8 : Nat) : Int), .int .i64 0]) ∧ Upd W b (.cells #[.string s, .int .i64 (k' : Int), .bool st] 78 (0, 0)) W'
theorem vGo_lt (s : ByteArray) (st : Bool) : ∀ (f i k v u k' : Nat), i + f = 10 → v < 128 ^ i → vGo s st f i k v = .inl (u, k') → u < 18446744073709551616 ∧ k < k' ∧ k' ≤ s.size := by
  intro f
  induction f with
  | zero => intro i k v u k' _ _ h; cases h
  | succ f ih =>
    intro i k v u k' hf hv h
    rw [vGo] at h
    split at h
    · rename_i hk
      split at h
      · cases h
      · rename_i h9
        split at h
        · rename_i hc
          have hb := bAt_lt s k
          have hvb := v_bound (v := v) (x := bAt s k - 128) (i := i) (by omega) (by omega) (fun e => by have q9 := fun q => h9 ⟨e, q⟩; omega) hv
          by_cases hi : i ≤ 8
          · have := ih (i + 1) (k + 1) _ u k' (by omega) (hvb.2 hi) h
            omega
          · exfalso; have q9 := fun q => h9 ⟨(by omega : i = 9), q⟩; omega
        · split at h
          · cases h
          · rename_i hc _
            have hvb := v_bound (v := v) (x := bAt s k) (i := i) (by omega) (by omega) (fun e => by have q9 := fun q => h9 ⟨e, q⟩; omega) hv
            obtain ⟨rfl, rfl⟩ := Prod.mk.inj (Sum.inl.inj h)
            exact ⟨hvb.1, by omega, by omega⟩
    · cases h
theorem vAt_lt {s : ByteArray} {st : Bool} {k u k' : Nat} (h : vAt s st k = .inl (u, k')) : u < 18446744073709551616 ∧ k < k' ∧ k' ≤ s.size := vGo_lt s st 10 0 k 0 u k' rfl (by show 0 < 1; decide) h
set_option maxRecDepth 100000 in
set_option maxHeartbeats 2000000 in
theorem rTag_any {W : World} {b : Nat} {s : ByteArray} {k : Nat} {st : Bool} (h : RdAt W b s k st) (hk : k ≤ s.size) (hs : s.size ≤ 1048576) :
    Calls Tryd.prog 57 #[.pointer (some ⟨b, 0, none⟩)] W fun e W' => TagA W b s k st e W' (vAt s st k) := by
  have hv := rVarint_any h hk hs
  have hlt : ∀ u k', vAt s st k = .inl (u, k') → u < 18446744073709551616 ∧ k < k' ∧ k' ≤ s.size := fun u k' h => vAt_lt h
  obtain ⟨R, hR⟩ : ∃ R, vAt s st k = R := ⟨_, rfl⟩
  rw [hR] at hv hlt ⊢
  clear hR
  have Hlt := hide hlt
  clear hlt
  obtain ⟨c0, c1, c2, f0, f1, f2⟩ := cells3_of h
  have Hh := hide h
  have Hv := hide hv
  clear h hv
  go_enter Tryd.func57, Tryd.ntmps57
  go_wp2_with fail
  refine (unhide Hv).mono ?_
  intro e w1 hq
  clear Hv
  cases R with
  | inr c =>
    obtain ⟨rfl, hc, n, rfl⟩ := hq
    have qc : ((c : Int) != 0) = true := by simp; omega
    go_wp2
    go_ret3
    exact ⟨rfl, hc, n, rfl⟩
  | inl p =>
    obtain ⟨u, k'⟩ := p
    obtain ⟨hu, hk1, hk2⟩ := unhide Hlt u k' rfl
    obtain ⟨rfl, hU⟩ := hq
    obtain ⟨d0, d1, d2, g0, g1, g2⟩ := cells3_of hU.at'
    have e1 : IntKind.u64.wrap (wrap64 (u : Int)) = (u : Int) := by rw [wrapu_eq, wrap64_eq]; omega
    have e2 : bits BinOp.and IntKind.i64 (wrap64 (u : Int)) 7 = ((u % 8 : Nat) : Int) := by rw [and_seven, wrap64_eq]; omega
    have e3 : (u : Int) / 8 = ((u / 8 : Nat) : Int) := by omega
    have e4 : wrap64 ((u / 8 : Nat) : Int) = ((u / 8 : Nat) : Int) := by rw [wrap64_eq]; omega
    have HU := hide hU
    have hUb : ∀ (n : Nat) (z : Value), Upd W b (.cells #[.string s, z, .bool st] 78 (0, 0)) (w1.setCell ⟨b, 1, none⟩ z) := fun _ z => ⟨hU.os, hU.tape, hU.output, by rw [World.size_setCell]; exact hU.size, heap_setCell_same w1 b 1 _ _ z hU.at', fun q hq hn => (heap_setCell_other w1 ⟨b, 1, none⟩ q z hn).trans (hU.far q hq hn)⟩
    have HUb := hide hUb
    clear hU hUb
    generalize hn : u / 8 = n at *
    generalize hkd : u % 8 = kd at *
    have Hn := hide hn
    have Hkd := hide hkd
    generalize wrap64 (u : Int) = wu at *
    have ht := tag_any w1 (n : Int) (kd : Int)
    have Ht := hide ht
    clear ht hn hkd
    go_wp2_with fail
    refine (unhide Ht).mono ?_
    rintro e w2 ⟨rfl, hw⟩
    obtain rfl : w1 = w2 := hw.symm
    clear hw Ht
    by_cases h24 : n < 1 ∨ 536870911 < n
    · rw [if_pos (by omega)]
      have Hend : Hid (TagA W b s k st (.returned (.tuple #[.int .i64 0, .int .i64 0, .int .i64 24])) (w1.setCell ⟨b, 1, none⟩ (.int .i64 (k : Int))) (.inl (u, k'))) := by
        show (if u / 8 < 1 ∨ 536870911 < u / 8 then (_ : Prop) else _)
        rw [unhide Hn, if_pos h24]
        exact ⟨rfl, unhide HUb 0 _⟩
      clear h24
      go_wp2
      go_ret3
      exact unhide Hend
    · rw [if_neg (by omega)]
      by_cases h23 : 5 < kd
      · rw [if_pos (by omega)]
        have Hend : Hid (TagA W b s k st (.returned (.tuple #[.int .i64 0, .int .i64 0, .int .i64 23])) (w1.setCell ⟨b, 1, none⟩ (.int .i64 (k : Int))) (.inl (u, k'))) := by
          show (if u / 8 < 1 ∨ 536870911 < u / 8 then (_ : Prop) else if 5 < u % 8 then _ else _)
          rw [unhide Hn, if_neg h24, unhide Hkd, if_pos h23]
          exact ⟨rfl, unhide HUb 0 _⟩
        clear h24 h23
        go_wp2
        go_ret3
        exact unhide Hend
      · rw [if_neg (by omega)]
        have Hend : Hid (TagA W b s k st (.returned (.tuple #[.int .i64 (n : Int), .int .i64 (kd : Int), .int .i64 0])) w1 (.inl (u, k'))) := by
          show (if u / 8 < 1 ∨ 536870911 < u / 8 then (_ : Prop) else if 5 < u % 8 then _ else _)
          rw [unhide Hn, if_neg h24, unhide Hkd, if_neg h23]
          exact ⟨rfl, unhide HU⟩
        clear h24 h23
        go_wp2
        go_ret3
        exact unhide Hend
set_option maxRecDepth 100000 in
theorem more_any {W : World} {b : Nat} {s : ByteArray} {k : Nat} {st : Bool} (h : RdAt W b s k st) :
    Calls Tryd.prog 46 #[.pointer (some ⟨b, 0, none⟩)] W fun e W' => e = .returned (.bool (decide (k < s.size))) ∧ ∃ n, W' = W.drewN n := by
  obtain ⟨c0, c1, c2, f0, f1, f2⟩ := cells3_of h
  go_enter Tryd.func46, Tryd.ntmps46
  go_wp2
  go_quiet (fail)
  go_wp2
  go_ret
  exact ⟨rfl, _, rfl⟩
/-- A text of bytes. -/
def sOf (l : List Nat) : ByteArray := ⟨(l.map Nat.toUInt8).toArray⟩
def byB (l : List Nat) : List Int := l.map fun (x : Nat) => (x : Int)
theorem sOf_size (l : List Nat) : (sOf l).size = l.length := by simp [sOf, ByteArray.size]
theorem sOf_at {l : List Nat} (hl : ∀ x ∈ l, x < 256) {i x : Nat} (h : l[i]? = some x) : bAt (sOf l) i = x := by
  have hi := (List.getElem?_eq_some_iff.1 h).1
  have hz : i < (sOf l).size := by rw [sOf_size]; exact hi
  rw [bAt_eq hz]
  have hx : l[i] = x := (List.getElem?_eq_some_iff.1 h).2
  have : (sOf l)[i] = Nat.toUInt8 l[i] := by
    show (sOf l).data[i] = _
    simp [sOf]
  rw [this, hx]
  have := hl x (List.mem_of_getElem? h)
  simp [Nat.toUInt8]
  omega
set_option maxRecDepth 100000 in
set_option maxHeartbeats 2000000 in
theorem read_any {W : World} {v : Value} {l : List Nat} {st : Bool} (h : HasB W v (byB l)) (hl : ∀ x ∈ l, x < 256) (hn : l.length ≤ 1048576) (hp : 0 < l.length) :
    Calls Tryd.prog 23 #[v, .bool st] W fun e W' => e = .returned (.tuple #[.pointer (some ⟨W.heap.size, 0, none⟩), .int .i64 0]) ∧ RdAt W' W.heap.size (sOf l) 0 st ∧ Below W.heap.size W W' := by
  have hbl : (byB l).length = l.length := by simp [byB]
  obtain ⟨a, c, rfl, hm, h3⟩ := h
  rw [hbl] at h3 ⊢
  obtain ⟨g, off, rfl, hg, hc⟩ := h3 hp
  have hcv0 := run_convert_bytes_back (P := Tryd.prog) W 24 9 5 ⟨g, off, none⟩ c (l.map Nat.toUInt8) Tryd.underlying24 Tryd.underlying5 Tryd.underlying9 (fun j hj => by
      rw [Go.WideShapes.add_plain]
      have hj' : j < l.length := by simpa using hj
      have hx := hc j (l[j] : Int) (by unfold byB; rw [List.getElem?_map, List.getElem?_eq_getElem hj']; rfl)
      rw [hx]
      have := hl l[j] (List.getElem_mem hj')
      simp [Nat.toUInt8]
      omega)
  have hcv : (convert 24 9 (.slice (some ⟨g, off, none⟩) l.length c)).run Tryd.prog W = .ok (.string (sOf l)) W := by
    rw [List.length_map] at hcv0
    exact hcv0
  have hlen : decide ((1048576 : Int) < (l.length : Int)) = false := by simp; omega
  have hnw := heap_alloc_new W (.cells #[.string (sOf l), .int .i64 0, .bool st] 78)
  have hB : Below W.heap.size W (W.alloc (.cells #[.string (sOf l), .int .i64 0, .bool st] 78)) := (Below.refl _ _).alloc (Nat.le_refl _) _
  have Hnw := hide hnw
  have HB := hide hB
  clear hnw hB hcv0 hc h3 hm hl
  generalize sOf l = S at *
  go_enter Tryd.func23, Tryd.ntmps23
  go_wp2
  go_ret2
  exact ⟨rfl, unhide Hnw, unhide HB⟩
end Go.Proofs.YtobomdokdajbaaaDoor

namespace Go.Proofs.YtobomdokdajbaaaDoor
open Go.RowKit
attribute [local go_sem ↓] Go.wp_at_zero Go.wp_at_succ

/-- A number of n bytes, the lowest first. -/
def fAt (s : ByteArray) (k : Nat) : Nat → Nat
  | 0 => 0
  | n + 1 => fAt s k n + bAt s (k + n) * 256 ^ n
theorem fAt_lt (s : ByteArray) (k : Nat) : ∀ n, fAt s k n < 256 ^ n
  | 0 => by show 0 < 1; decide
  | n + 1 => by
    have h := fAt_lt s k n
    have hb := bAt_lt s (k + n)
    show fAt s k n + bAt s (k + n) * 256 ^ n < 256 ^ (n + 1)
    have : (bAt s (k + n) + 1) * 256 ^ n ≤ 256 * 256 ^ n := Nat.mul_le_mul_right _ (by omega)
    rw [Nat.pow_succ, Nat.mul_comm (256 ^ n) 256]
    rw [Nat.add_mul, Nat.one_mul] at this
    omega
def xAt (s : ByteArray) (k n : Nat) : (Nat × Nat) ⊕ Nat := if s.size < k + n then .inr 20 else .inl (fAt s k n, k + n)
theorem pow256 (i : Nat) : 256 ^ i = 2 ^ (8 * i) := by rw [Nat.pow_mul]
theorem or_next8 {v x i : Nat} (hv : v < 256 ^ i) (hx : x < 256) (hi : i < 8) : bits .or .u64 (v : Int) (IntKind.u64.wrap ((x : Int) * 2 ^ (8 * i))) = ((v + x * 256 ^ i : Nat) : Int) := by
  have h1 : (x + 1) * 256 ^ i ≤ 256 * 256 ^ i := Nat.mul_le_mul_right _ (by omega)
  have h2 : (256 : Nat) * 256 ^ i ≤ 256 ^ 8 := by rw [Nat.mul_comm, ← Nat.pow_succ]; exact Nat.pow_le_pow_right (by decide) (by omega)
  have e : (256 : Nat) ^ 8 = 18446744073709551616 := by decide
  rw [Nat.add_mul, Nat.one_mul] at h1
  have hb : v + x * 256 ^ i < 18446744073709551616 := by omega
  have e1 : (x : Int) * 2 ^ (8 * i) = ((x * 256 ^ i : Nat) : Int) := by rw [pow256]; push_cast; rfl
  rw [e1, u64_wrapN _ (Int.natCast_nonneg _) (by have : x * 256 ^ i < 18446744073709551616 := by omega
                                                 exact_mod_cast this), (bits_nat .u64 64 (by decide) u64_wrapN v (x * 256 ^ i) (by omega) (by omega)).2]
  congr 1
  rw [Nat.or_comm, pow256, Nat.mul_comm, ← Nat.two_pow_add_eq_or_of_lt (by rw [← pow256]; exact hv)]
  omega
set_option maxRecDepth 100000 in
set_option maxHeartbeats 4000000 in
theorem rFixed_ok {W : World} {b : Nat} {s : ByteArray} {k n : Nat} {st : Bool} (h : RdAt W b s k st) (hs : s.size ≤ 1048576) (hn : n = 4 ∨ n = 8) (hk : k + n ≤ s.size) :
    Calls Tryd.prog 53 #[.pointer (some ⟨b, 0, none⟩), .int .i64 (n : Int)] W fun e W' => VarA W b s st e W' (.inl (fAt s k n, k + n)) := by
  have Hh := hide h
  obtain ⟨c0, c1, c2, f0, f1, f2⟩ := cells3_of h
  clear h
  have d1 : decide ((s.size : Int) - (k : Int) < (n : Int)) = false := by simp; omega
  have d2 : ((n : Int) != 4) = false ∨ (((n : Int) != 4) = true ∧ ((n : Int) != 8) = false) := by
    rcases hn with rfl | rfl
    · exact .inl (by decide)
    · exact .inr ⟨by decide, by decide⟩
  have Hn : Hid (n ≤ 8) := by show n ≤ 8; omega
  clear hn
  rcases d2 with g1 | ⟨g1, g2⟩
  all_goals (
    go_enter Tryd.func53, Tryd.ntmps53
    go_wp2
    go_quiet (fail)
    go_wp2
    go_loopg [6, 27] n (fun gk v6 v27 wr => ∃ (i v m : Nat), v6 = .int .u64 (v : Int) ∧ v27 = .int .i64 (i : Int) ∧ gk = n - i ∧ i ≤ n ∧ wr = W.drewN m ∧ Hid (fAt s k i = v))
    case atStart => exact ⟨0, 0, _, rfl, rfl, rfl, by omega, rfl, rfl⟩
    case round =>
      obtain ⟨i, v, m, rfl, rfl, hgk, hi, rfl, Hv⟩ := hrel
      have Hgk := hide hgk
      clear hgk
      by_cases hlt : i < n
      · have hi1 : (i : Int) < (n : Int) := by omega
        have hki : k + i < s.size := by omega
        obtain ⟨x, hx⟩ : ∃ x : Nat, s[k + i].toNat = x := ⟨_, rfl⟩
        have hbx : bAt s (k + i) = x := (bAt_eq hki).trans hx
        have hx2 : x < 256 := by rw [← hbx]; exact bAt_lt s (k + i)
        have j0 : (0 : Int) ≤ (k : Int) + (i : Int) := by omega
        have j1 : (k : Int) + (i : Int) < (s.size : Int) := by omega
        have hor := or_next8 (v := v) (i := i) (by rw [← unhide Hv]; exact fAt_lt s k i) hx2 (by have := unhide Hn; omega)
        obtain ⟨nv, hnv⟩ : ∃ nv, v + x * 256 ^ i = nv := ⟨_, rfl⟩
        rw [hnv] at hor
        have Hv2 : Hid (fAt s k (i + 1) = nv) := by
          show fAt s k i + bAt s (k + i) * 256 ^ i = nv
          rw [unhide Hv, hbx, hnv]
        clear hnv hbx Hv
        go_wp2
        go_quiet (fail)
        go_wp2
        go_roundg (n - (i + 1))
        case measure => have := unhide Hgk; omega
        case rel => exact ⟨i + 1, nv, _, rfl, by go_num, rfl, by omega, rfl, Hv2⟩
      · obtain rfl : i = n := by omega
        have Hend : Hid (VarA W b s st (.returned (.tuple #[.int .i64 (wrap64 (v : Int)), .int .i64 0])) ((W.drewN m).setCell ⟨b, 1, none⟩ (.int .i64 ((k + i : Nat) : Int))) (.inl (fAt s k i, k + i))) := by
          rw [unhide Hv]
          exact ⟨rfl, upd_set (o := 1) (unhide Hh) m (.int .i64 ((k + i : Nat) : Int))⟩
        clear hlt
        go_wp2
        go_ret2
        exact unhide Hend)
set_option maxRecDepth 100000 in
set_option maxHeartbeats 2000000 in
theorem rFixed_ends {W : World} {b : Nat} {s : ByteArray} {k n : Nat} {st : Bool} (h : RdAt W b s k st) (hs : s.size ≤ 1048576) (hk0 : k ≤ s.size) (hn : n = 4 ∨ n = 8) (hk : s.size < k + n) :
    Calls Tryd.prog 53 #[.pointer (some ⟨b, 0, none⟩), .int .i64 (n : Int)] W fun e W' => VarA W b s st e W' (.inr 20) := by
  obtain ⟨c0, c1, c2, f0, f1, f2⟩ := cells3_of h
  clear h
  have d1 : decide ((s.size : Int) - (k : Int) < (n : Int)) = true := by simp; omega
  have d2 : ((n : Int) != 4) = false ∨ (((n : Int) != 4) = true ∧ ((n : Int) != 8) = false) := by
    rcases hn with rfl | rfl
    · exact .inl (by decide)
    · exact .inr ⟨by decide, by decide⟩
  clear hn
  rcases d2 with g1 | ⟨g1, g2⟩
  all_goals (
    go_enter Tryd.func53, Tryd.ntmps53
    go_wp2
    go_quiet (fail)
    go_wp2
    go_ret2
    exact ⟨rfl, by decide, _, rfl⟩)
set_option maxRecDepth 100000 in
set_option maxHeartbeats 2000000 in
theorem rFixed_bad {W : World} {b : Nat} {s : ByteArray} {st : Bool} {n : Int} (h4 : n ≠ 4) (h8 : n ≠ 8) :
    Calls Tryd.prog 53 #[.pointer (some ⟨b, 0, none⟩), .int .i64 n] W fun e W' => VarA W b s st e W' (.inr 1) := by
  have g1 : (n != 4) = true := by simp; exact h4
  have g2 : (n != 8) = true := by simp; exact h8
  clear h4 h8
  go_enter Tryd.func53, Tryd.ntmps53
  go_wp2
  go_ret2
  exact ⟨rfl, by decide, 0, rfl⟩
/-- Fixed. -/
theorem rFixed_any {W : World} {b : Nat} {s : ByteArray} {k n : Nat} {st : Bool} (h : RdAt W b s k st) (hs : s.size ≤ 1048576) (hk : k ≤ s.size) (hn : n = 4 ∨ n = 8) :
    Calls Tryd.prog 53 #[.pointer (some ⟨b, 0, none⟩), .int .i64 (n : Int)] W fun e W' => VarA W b s st e W' (xAt s k n) := by
  unfold xAt
  by_cases q : s.size < k + n
  · rw [if_pos q]; exact rFixed_ends h hs hk hn q
  · rw [if_neg q]; exact rFixed_ok h hs hn (by omega)
end Go.Proofs.YtobomdokdajbaaaDoor

namespace Go.Proofs.YtobomdokdajbaaaDoor
open Go.RowKit
attribute [local go_sem ↓] Go.wp_at_zero Go.wp_at_succ

theorem upd_same {W : World} {b : Nat} {o : Obj} (h : W.heap[b]? = some o) (n : Nat) : Upd W b o (W.drewN n) := ⟨rfl, rfl, rfl, Nat.le_refl _, h, fun _ _ _ => rfl⟩
/-- A text at a place. -/
def tAt (s : ByteArray) (st : Bool) (k : Nat) : (ByteArray × Nat) ⊕ Nat :=
  match vAt s st k with
  | .inr c => .inr c
  | .inl (u, k') => if s.size - k' < u then .inr 20 else .inl (s.extract k' (k' + u), k' + u)
def TxtA (W : World) (b : Nat) (s : ByteArray) (k : Nat) (st : Bool) (e : Ending) (W' : World) : (ByteArray × Nat) ⊕ Nat → Prop
  | .inl (t, k') => e = .returned (.tuple #[.string t, .int .i64 0]) ∧ Upd W b (.cells #[.string s, .int .i64 (k' : Int), .bool st] 78 (0, 0)) W'
  | .inr c => e = .returned (.tuple #[.string .empty, .int .i64 (c : Int)]) ∧ c ≠ 0 ∧ Upd W b (.cells #[.string s, .int .i64 (k : Int), .bool st] 78 (0, 0)) W'
set_option maxRecDepth 100000 in
set_option maxHeartbeats 4000000 in
theorem rText_any {W : World} {b : Nat} {s : ByteArray} {k : Nat} {st : Bool} (h : RdAt W b s k st) (hk : k ≤ s.size) (hs : s.size ≤ 1048576) :
    Calls Tryd.prog 55 #[.pointer (some ⟨b, 0, none⟩)] W fun e W' => TxtA W b s k st e W' (tAt s st k) := by
  have hv := rVarint_any h hk hs
  have hlt : ∀ u k', vAt s st k = .inl (u, k') → u < 18446744073709551616 ∧ k < k' ∧ k' ≤ s.size := fun u k' h => vAt_lt h
  unfold tAt
  obtain ⟨R, hR⟩ : ∃ R, vAt s st k = R := ⟨_, rfl⟩
  rw [hR] at hv hlt ⊢
  clear hR
  have Hlt := hide hlt
  clear hlt
  obtain ⟨c0, c1, c2, f0, f1, f2⟩ := cells3_of h
  have Hh := hide h
  have Hv := hide hv
  clear h hv
  cases R with
  | inr c =>
    go_enter Tryd.func55, Tryd.ntmps55
    go_wp2_with fail
    refine (unhide Hv).mono ?_
    intro e w1 hq
    clear Hv
    obtain ⟨rfl, hc, n, rfl⟩ := hq
    have qc : ((c : Int) != 0) = true := by simp; omega
    go_wp2
    go_ret2
    exact ⟨rfl, hc, upd_same (unhide Hh) n⟩
  | inl p =>
    obtain ⟨u, k'⟩ := p
    obtain ⟨hu, hk1, hk2⟩ := unhide Hlt u k' rfl
    clear Hlt
    show Calls Tryd.prog 55 #[.pointer (some ⟨b, 0, none⟩)] W fun e W' => TxtA W b s k st e W' (if s.size - k' < u then .inr 20 else .inl (s.extract k' (k' + u), k' + u))
    have e1 : IntKind.u64.wrap (wrap64 (u : Int)) = (u : Int) := by rw [wrapu_eq, wrap64_eq]; omega
    have e2 : IntKind.u64.wrap ((s.size : Int) - (k' : Int)) = (s.size : Int) - (k' : Int) := by rw [wrapu_eq]; omega
    by_cases hc : s.size - k' < u
    · rw [if_pos hc]
      have d1 : decide ((s.size : Int) - (k' : Int) < (u : Int)) = true := by simp; omega
      have hUb : ∀ (w1 : World) (n : Nat) (z : Value), Upd W b (.cells #[.string s, .int .i64 (k' : Int), .bool st] 78 (0, 0)) w1 → Upd W b (.cells #[.string s, z, .bool st] 78 (0, 0)) ((w1.drewN n).setCell ⟨b, 1, none⟩ z) := fun w1 n z hU => ⟨hU.os, hU.tape, hU.output, by rw [World.size_setCell]; exact hU.size, heap_setCell_same (w1.drewN n) b 1 _ _ z hU.at', fun q hq hn => (heap_setCell_other (w1.drewN n) ⟨b, 1, none⟩ q z hn).trans (hU.far q hq hn)⟩
      have HUb := hide hUb
      clear hUb hc
      go_enter Tryd.func55, Tryd.ntmps55
      go_wp2_with fail
      refine (unhide Hv).mono ?_
      intro e w1 hq
      clear Hv
      obtain ⟨rfl, hU⟩ := hq
      obtain ⟨d0, d2, d3, g0, g1, g2⟩ := cells3_of hU.at'
      have HU := hide hU
      clear hU c0 c1 c2 f0 f1 f2 Hh
      generalize wrap64 (u : Int) = wu at *
      go_wp2
      go_quiet (fail)
      go_wp2
      go_ret2
      exact ⟨rfl, by decide, unhide HUb _ _ _ (unhide HU)⟩
    · rw [if_neg hc]
      have hu2 : wrap64 (u : Int) = (u : Int) := by rw [wrap64_eq]; omega
      have d1 : decide ((s.size : Int) - (k' : Int) < (u : Int)) = false := by simp; omega
      have hUb : ∀ (w1 : World) (n : Nat) (z : Value), Upd W b (.cells #[.string s, .int .i64 (k' : Int), .bool st] 78 (0, 0)) w1 → Upd W b (.cells #[.string s, z, .bool st] 78 (0, 0)) ((w1.drewN n).setCell ⟨b, 1, none⟩ z) := fun w1 n z hU => ⟨hU.os, hU.tape, hU.output, by rw [World.size_setCell]; exact hU.size, heap_setCell_same (w1.drewN n) b 1 _ _ z hU.at', fun q hq hn => (heap_setCell_other (w1.drewN n) ⟨b, 1, none⟩ q z hn).trans (hU.far q hq hn)⟩
      have HUb := hide hUb
      have hb : k' + u ≤ s.size := by omega
      rw [hu2] at e1
      have Hu2 := hide hu2
      clear hUb hc hu2
      go_enter Tryd.func55, Tryd.ntmps55
      go_wp2_with fail
      refine (unhide Hv).mono ?_
      intro e w1 hq
      clear Hv
      obtain ⟨he, hU⟩ := hq
      rw [unhide Hu2] at he
      subst he
      obtain ⟨d0, d2, d3, g0, g1, g2⟩ := cells3_of hU.at'
      have HU := hide hU
      clear hU c0 c1 c2 f0 f1 f2 Hh
      go_wp2
      go_quiet (fail)
      go_wp2
      go_quiet (fail)
      go_wp2
      go_ret2
      exact ⟨rfl, unhide HUb _ _ _ (unhide HU)⟩
end Go.Proofs.YtobomdokdajbaaaDoor

namespace Go.Proofs.YtobomdokdajbaaaDoor
open Go.RowKit
attribute [local go_sem ↓] Go.wp_at_zero Go.wp_at_succ

theorem below_drewN {n : Nat} {A W : World} (h : Below n A W) (k : Nat) : Below n A (W.drewN k) := ⟨h.os, h.tape, h.output, h.size, h.block⟩
def WkAt (W : World) (wb b : Nat) (tag depth num0 : Int) (v ag : Value) : Prop := W.heap[wb]? = some (.cells #[.pointer (some ⟨b, 0, none⟩), .int .i64 tag, .int .i64 depth, .bool true, .int .i64 num0, v, ag] 83 (0, 0))
set_option maxRecDepth 100000 in
set_option maxHeartbeats 2000000 in
theorem add_err {W : World} {wb b : Nat} {tag depth num0 : Int} {v ag : Value} {x0 x1 x2 : Int} {t : ByteArray} {ia : Option Addr} {il ic c : Nat} (hw : WkAt W wb b tag depth num0 v ag) (hc : c ≠ 0) :
    Calls Tryd.prog 75 #[.pointer (some ⟨wb, 0, none⟩), .agg #[.int .i64 x0, .int .i64 x1, .int .i64 x2, .string t, .slice ia il ic], .int .i64 (c : Int)] W fun e W' => e = .returned (.int .i64 (c : Int)) ∧ Below W.heap.size W W' := by
  obtain ⟨c0, c1, c2, c3, c4, c5, c6, f1⟩ := walk_cells hw
  have hwb : wb < W.heap.size := (Array.getElem?_eq_some_iff.1 hw).1
  have hq : ((c : Int) == 0) = false := beq_eq_false_iff_ne.2 (by omega)
  have HB : Hid (Below W.heap.size W (W.alloc (.cells #[.int .i64 x0, .int .i64 x1, .int .i64 x2, .string t, .slice ia il ic] 35))) := (Below.refl _ _).alloc (Nat.le_refl _) _
  have hcA : (W.alloc (.cells #[.int .i64 x0, .int .i64 x1, .int .i64 x2, .string t, .slice ia il ic] 35)).cell? ⟨wb, 3, none⟩ = some (.bool true) := (unhide HB).cell (p := ⟨wb, 3, none⟩) hwb |>.trans c3
  clear hw
  go_enter Tryd.func75, Tryd.ntmps75
  go_wp2
  go_ret
  exact ⟨rfl, unhide HB⟩
set_option maxRecDepth 100000 in
set_option maxHeartbeats 2000000 in
theorem take_ok (hadd : AddNil) {W : World} {b wb : Nat} {s : ByteArray} {k u k' n : Nat} {st : Bool} {tag depth num0 : Int} {ag : Value} (h : RdAt W b s k st) (hk : k ≤ s.size) (hs : s.size ≤ 1048576) (hw : WkAt W wb b tag depth num0 (.slice none 0 0) ag) (hv : vAt s st k = .inl (u, k')) :
    Calls Tryd.prog 74 #[.pointer (some ⟨wb, 0, none⟩), .int .i64 (n : Int)] W fun e W' => e = .returned (.int .i64 0) ∧ ∃ v W1, Upd W b (.cells #[.string s, .int .i64 (k' : Int), .bool st] 78 (0, 0)) W1 ∧ Upd W1 wb (.cells #[.pointer (some ⟨b, 0, none⟩), .int .i64 tag, .int .i64 depth, .bool true, .int .i64 num0, v, ag] 83 (0, 0)) W' ∧ HasR W' v [⟨n, 0, wrap64 (u : Int), .empty, none, 0⟩] := by
  obtain ⟨c0, c1, c2, c3, c4, c5, c6, f1⟩ := walk_cells hw
  have hne : wb ≠ b := fun e => by subst e; unfold RdAt at h; unfold WkAt at hw; rw [h] at hw; cases hw
  have hva := rVarint_any h hk hs
  rw [hv] at hva
  obtain ⟨wu, hwu⟩ : ∃ wu, wrap64 (u : Int) = wu := ⟨_, rfl⟩
  have hva2 : Calls Tryd.prog 51 #[.pointer (some ⟨b, 0, none⟩)] W fun e W' => e = .returned (.tuple #[.int .i64 wu, .int .i64 0]) ∧ Upd W b (.cells #[.string s, .int .i64 (k' : Int), .bool st] 78 (0, 0)) W' := by rw [← hwu]; exact hva
  rw [hwu]
  have Hva := hide hva2
  have Hadd := hide hadd
  clear hva hva2 h hadd hv hwu
  go_enter Tryd.func74, Tryd.ntmps74
  go_wp2_with fail
  refine (unhide Hva).mono ?_
  rintro e w1 ⟨rfl, hU⟩
  have hw1 := (hU.far wb (Array.getElem?_eq_some_iff.1 hw).1 hne).trans hw
  have HU := hide hU
  clear hU
  go_wp2_with fail
  refine (unhide Hadd w1 wb _ _ _ _ _ ⟨n, 0, wu, .empty, none, 0⟩ hw1).mono ?_
  rintro e w2 ⟨rfl, v, hU2, hR⟩
  have HU2 := hide hU2
  have HR := hide hR
  clear hU2 hR
  go_wp2
  go_ret
  exact ⟨rfl, v, w1, unhide HU, unhide HU2, unhide HR⟩
set_option maxRecDepth 100000 in
set_option maxHeartbeats 2000000 in
theorem take_bad {W : World} {b wb : Nat} {s : ByteArray} {k c n : Nat} {st : Bool} {tag depth num0 : Int} {v ag : Value} (h : RdAt W b s k st) (hk : k ≤ s.size) (hs : s.size ≤ 1048576) (hw : WkAt W wb b tag depth num0 v ag) (hv : vAt s st k = .inr c) :
    Calls Tryd.prog 74 #[.pointer (some ⟨wb, 0, none⟩), .int .i64 (n : Int)] W fun e W' => e = .returned (.int .i64 (c : Int)) ∧ c ≠ 0 ∧ Below W.heap.size W W' := by
  obtain ⟨c0, c1, c2, c3, c4, c5, c6, f1⟩ := walk_cells hw
  have hva := rVarint_any h hk hs
  rw [hv] at hva
  have Hva := hide hva
  clear hva h hv
  go_enter Tryd.func74, Tryd.ntmps74
  go_wp2_with fail
  refine (unhide Hva).mono ?_
  rintro e w1 ⟨rfl, hc, n1, rfl⟩
  have hw1 : WkAt (W.drewN n1) wb b tag depth num0 v ag := hw
  have Hw1 := hide hw1
  clear hw hw1
  go_wp2_with fail
  refine (add_err (unhide Hw1) hc).mono ?_
  rintro e w2 ⟨rfl, hb⟩
  have Hb := hide hb
  clear hb
  go_wp2
  go_ret
  exact ⟨rfl, hc, (below_drewN (Below.refl _ _) n1).trans (unhide Hb)⟩
set_option maxRecDepth 100000 in
set_option maxHeartbeats 2000000 in
theorem wtake_any {W : World} {wb n : Nat} {R : World → Ending → World → Prop} (hR : ∀ X, Below W.heap.size W X → Calls Tryd.prog 74 #[.pointer (some ⟨wb, 0, none⟩), .int .i64 (n : Int)] X (R X)) (hret : ∀ X e w, R X e w → ∃ c : Int, e = .returned (.int .i64 c)) :
    Calls Tryd.prog 66 #[.pointer (some ⟨wb, 0, none⟩), .int .i64 (n : Int), .int .i64 0] W fun e W' => ∃ X, Below W.heap.size W X ∧ R X e W' := by
  have HR := hide hR
  have Hret := hide hret
  clear hR hret
  go_enter Tryd.func66, Tryd.ntmps66
  go_wp2_with fail
  refine (acts_any W).mono ?_
  rintro e w1 ⟨rfl, hb1⟩
  obtain ⟨A, hA, hTab⟩ : ∃ A, actCells.toArray = A ∧ Tab A := ⟨_, rfl, tab_any⟩
  rw [hA]
  clear hA
  have hth := there_new w1 hTab
  have hif := hTab.info
  have hone := hTab.one
  have hT := hasT_new w1 hTab
  have hB0 := below_setCells hb1.size A.toList 0 _ (hb1.alloc hb1.size (.cells #[.nilFunc, .nilFunc, .nilFunc, .nilFunc, .nilFunc, .nilFunc, .nilFunc, .nilFunc, .nilFunc, .nilFunc, .nilFunc, .nilFunc, .nilFunc, .nilFunc, .nilFunc, .nilFunc, .nilFunc, .nilFunc, .nilFunc, .nilFunc, .nilFunc, .nilFunc, .nilFunc, .nilFunc] 113))
  have ht1 := (hT.cell 3).trans (show actCells[3]? = some (.func (.func 74) #[] #[]) from rfl)
  go_wp2_with (first | (go_at_call 74; fail) | (refine wpList_store_mid rfl 113 (.tmp 7) (.tmp 8) rfl w1.heap.size 0 A rfl rfl hth hif hone ?_; generalize (w1.alloc (.cells #[.nilFunc, .nilFunc, .nilFunc, .nilFunc, .nilFunc, .nilFunc, .nilFunc, .nilFunc, .nilFunc, .nilFunc, .nilFunc, .nilFunc, .nilFunc, .nilFunc, .nilFunc, .nilFunc, .nilFunc, .nilFunc, .nilFunc, .nilFunc, .nilFunc, .nilFunc, .nilFunc, .nilFunc] 113)).setCells w1.heap.size 0 A.toList = X at *))
  refine (unhide HR X hB0).mono ?_
  intro e w2 hq
  obtain ⟨c, rfl⟩ := unhide Hret X e w2 hq
  have Hq := hide hq
  have HB0 := hide hB0
  clear hq hT ht1 hB0
  go_wp2
  go_ret
  exact ⟨X, unhide HB0, unhide Hq⟩
end Go.Proofs.YtobomdokdajbaaaDoor
