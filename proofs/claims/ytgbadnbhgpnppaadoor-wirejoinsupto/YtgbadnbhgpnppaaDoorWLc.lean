import Derived.Test.YtgbadnbhgpnppaaDoorWLX
import Derived.Test.YtgbadnbhgpnppaaDoorW8J
namespace Go.Proofs.YtgbadnbhgpnppaaDoor
open Go.RowKit
attribute [local go_sem ↓] Go.wp_at_zero Go.wp_at_succ

theorem and_seven (n : Int) : bits BinOp.and IntKind.i64 n 7 = n % 8 := by
  have h1 : (BitVec.ofInt 64 7).toNat = 2 ^ 3 - 1 := by decide
  have key : (BitVec.ofInt 64 n &&& BitVec.ofInt 64 7).toNat = (n % ((2 ^ 64 : Nat) : Int)).toNat % 2 ^ 3 := by
    rw [BitVec.toNat_and, BitVec.toNat_ofInt, h1, Nat.and_two_pow_sub_one_eq_mod]
  show IntKind.i64.wrap ((BitVec.ofInt 64 n &&& BitVec.ofInt 64 7).toNat : Nat) = n % 8
  rw [key, IntKind.wrap_i64]
  omega
/-- What Tag does, by what the varint is. -/
def TagA (W : World) (b : Nat) (s : ByteArray) (k : Nat) (st : Bool) (e : Ending) (W' : World) : (Nat × Nat) ⊕ Nat → Prop
  | .inr c => e = .returned (.tuple #[.int .i64 0, .int .i64 0, .int .i64 (c : Int)]) ∧ c ≠ 0 ∧ ∃ n, W' = W.drewN n
  | .inl (u, k') => if u / 8 < 1 ∨ 536870911 < u / 8 then e = .returned (.tuple #[.int .i64 0, .int .i64 0, .int .i64 24]) ∧ Upd W b (.cells #[.string s, .int .i64 (k : Int), .bool st] 70 (0, 0)) W'
      else if 5 < u % 8 then e = .returned (.tuple #[.int .i64 0, .int .i64 0, .int .i64 23]) ∧ Upd W b (.cells #[.string s, .int .i64 (k : Int), .bool st] 70 (0, 0)) W'
      else e = .returned (.tuple #[.int .i64 ((u / 8 : Nat) : Int), .int .i64 ((u % 8 : Nat) : Int), .int .i64 0]) ∧ Upd W b (.cells #[.string s, .int .i64 (k' : Int), .bool st] 70 (0, 0)) W'
theorem vGo_lt (s : ByteArray) (st : Bool) : ∀ (f i k v u k' : Nat), i + f = 10 → v < 128 ^ i → vGo s st f i k v = .inl (u, k') → u < 18446744073709551616 ∧ k < k' ∧ k' ≤ s.size := by
  intro f
  induction f with
  | zero => intro i k v u k' _ _ h; cases h
  | succ f ih =>
    intro i k v u k' hf hv h
    rw [vGo] at h
    split at h
    · rename_i hk
      split at h
      · cases h
      · rename_i h9
        split at h
        · rename_i hc
          have hb := bAt_lt s k
          have hvb := v_bound (v := v) (x := bAt s k - 128) (i := i) (by omega) (by omega) (fun e => by have q9 := fun q => h9 ⟨e, q⟩; omega) hv
          by_cases hi : i ≤ 8
          · have := ih (i + 1) (k + 1) _ u k' (by omega) (hvb.2 hi) h
            omega
          · exfalso; have q9 := fun q => h9 ⟨(by omega : i = 9), q⟩; omega
        · split at h
          · cases h
          · rename_i hc _
            have hvb := v_bound (v := v) (x := bAt s k) (i := i) (by omega) (by omega) (fun e => by have q9 := fun q => h9 ⟨e, q⟩; omega) hv
            obtain ⟨rfl, rfl⟩ := Prod.mk.inj (Sum.inl.inj h)
            exact ⟨hvb.1, by omega, by omega⟩
    · cases h
theorem vAt_lt {s : ByteArray} {st : Bool} {k u k' : Nat} (h : vAt s st k = .inl (u, k')) : u < 18446744073709551616 ∧ k < k' ∧ k' ≤ s.size := vGo_lt s st 10 0 k 0 u k' rfl (by show 0 < 1; decide) h
set_option maxRecDepth 100000 in
set_option maxHeartbeats 2000000 in
theorem rTag_any {W : World} {b : Nat} {s : ByteArray} {k : Nat} {st : Bool} (h : RdAt W b s k st) (hk : k ≤ s.size) (hs : s.size ≤ 1048576) :
    Calls Tryd.prog 42 #[.pointer (some ⟨b, 0, none⟩)] W fun e W' => TagA W b s k st e W' (vAt s st k) := by
  have hv := rVarint_any h hk hs
  have hlt : ∀ u k', vAt s st k = .inl (u, k') → u < 18446744073709551616 ∧ k < k' ∧ k' ≤ s.size := fun u k' h => vAt_lt h
  obtain ⟨R, hR⟩ : ∃ R, vAt s st k = R := ⟨_, rfl⟩
  rw [hR] at hv hlt ⊢
  clear hR
  have Hlt := hide hlt
  clear hlt
  obtain ⟨c0, c1, c2, f0, f1, f2⟩ := cells3_of h
  have Hh := hide h
  have Hv := hide hv
  clear h hv
  go_enter Tryd.func42, Tryd.ntmps42
  go_wp2_with fail
  refine (unhide Hv).mono ?_
  intro e w1 hq
  clear Hv
  cases R with
  | inr c =>
    obtain ⟨rfl, hc, n, rfl⟩ := hq
    have qc : ((c : Int) != 0) = true := by simp; omega
    go_wp2
    go_ret3
    exact ⟨rfl, hc, n, rfl⟩
  | inl p =>
    obtain ⟨u, k'⟩ := p
    obtain ⟨hu, hk1, hk2⟩ := unhide Hlt u k' rfl
    obtain ⟨rfl, hU⟩ := hq
    obtain ⟨d0, d1, d2, g0, g1, g2⟩ := cells3_of hU.at'
    have e1 : IntKind.u64.wrap (wrap64 (u : Int)) = (u : Int) := by rw [wrapu_eq, wrap64_eq]; omega
    have e2 : bits BinOp.and IntKind.i64 (wrap64 (u : Int)) 7 = ((u % 8 : Nat) : Int) := by rw [and_seven, wrap64_eq]; omega
    have e3 : (u : Int) / 8 = ((u / 8 : Nat) : Int) := by omega
    have e4 : wrap64 ((u / 8 : Nat) : Int) = ((u / 8 : Nat) : Int) := by rw [wrap64_eq]; omega
    have HU := hide hU
    have hUb : ∀ (n : Nat) (z : Value), Upd W b (.cells #[.string s, z, .bool st] 70 (0, 0)) (w1.setCell ⟨b, 1, none⟩ z) := fun _ z => ⟨hU.os, hU.tape, hU.output, by rw [World.size_setCell]; exact hU.size, heap_setCell_same w1 b 1 _ _ z hU.at', fun q hq hn => (heap_setCell_other w1 ⟨b, 1, none⟩ q z hn).trans (hU.far q hq hn)⟩
    have HUb := hide hUb
    clear hU hUb
    generalize hn : u / 8 = n at *
    generalize hkd : u % 8 = kd at *
    have Hn := hide hn
    have Hkd := hide hkd
    generalize wrap64 (u : Int) = wu at *
    have ht := tag_any w1 (n : Int) (kd : Int)
    have Ht := hide ht
    clear ht hn hkd
    go_wp2_with fail
    refine (unhide Ht).mono ?_
    rintro e w2 ⟨rfl, hw⟩
    obtain rfl : w1 = w2 := hw.symm
    clear hw Ht
    by_cases h24 : n < 1 ∨ 536870911 < n
    · rw [if_pos (by omega)]
      have Hend : Hid (TagA W b s k st (.returned (.tuple #[.int .i64 0, .int .i64 0, .int .i64 24])) (w1.setCell ⟨b, 1, none⟩ (.int .i64 (k : Int))) (.inl (u, k'))) := by
        show (if u / 8 < 1 ∨ 536870911 < u / 8 then (_ : Prop) else _)
        rw [unhide Hn, if_pos h24]
        exact ⟨rfl, unhide HUb 0 _⟩
      clear h24
      go_wp2
      go_ret3
      exact unhide Hend
    · rw [if_neg (by omega)]
      by_cases h23 : 5 < kd
      · rw [if_pos (by omega)]
        have Hend : Hid (TagA W b s k st (.returned (.tuple #[.int .i64 0, .int .i64 0, .int .i64 23])) (w1.setCell ⟨b, 1, none⟩ (.int .i64 (k : Int))) (.inl (u, k'))) := by
          show (if u / 8 < 1 ∨ 536870911 < u / 8 then (_ : Prop) else if 5 < u % 8 then _ else _)
          rw [unhide Hn, if_neg h24, unhide Hkd, if_pos h23]
          exact ⟨rfl, unhide HUb 0 _⟩
        clear h24 h23
        go_wp2
        go_ret3
        exact unhide Hend
      · rw [if_neg (by omega)]
        have Hend : Hid (TagA W b s k st (.returned (.tuple #[.int .i64 (n : Int), .int .i64 (kd : Int), .int .i64 0])) w1 (.inl (u, k'))) := by
          show (if u / 8 < 1 ∨ 536870911 < u / 8 then (_ : Prop) else if 5 < u % 8 then _ else _)
          rw [unhide Hn, if_neg h24, unhide Hkd, if_neg h23]
          exact ⟨rfl, unhide HU⟩
        clear h24 h23
        go_wp2
        go_ret3
        exact unhide Hend
set_option maxRecDepth 100000 in
theorem more_any {W : World} {b : Nat} {s : ByteArray} {k : Nat} {st : Bool} (h : RdAt W b s k st) :
    Calls Tryd.prog 47 #[.pointer (some ⟨b, 0, none⟩)] W fun e W' => e = .returned (.bool (decide (k < s.size))) ∧ ∃ n, W' = W.drewN n := by
  obtain ⟨c0, c1, c2, f0, f1, f2⟩ := cells3_of h
  go_enter Tryd.func47, Tryd.ntmps47
  go_wp2
  go_quiet (fail)
  go_wp2
  go_ret
  exact ⟨rfl, _, rfl⟩
/-- A text of bytes. -/
def sOf (l : List Nat) : ByteArray := ⟨(l.map Nat.toUInt8).toArray⟩
def byB (l : List Nat) : List Int := l.map fun (x : Nat) => (x : Int)
theorem sOf_size (l : List Nat) : (sOf l).size = l.length := by simp [sOf, ByteArray.size]
theorem sOf_at {l : List Nat} (hl : ∀ x ∈ l, x < 256) {i x : Nat} (h : l[i]? = some x) : bAt (sOf l) i = x := by
  have hi := (List.getElem?_eq_some_iff.1 h).1
  have hz : i < (sOf l).size := by rw [sOf_size]; exact hi
  rw [bAt_eq hz]
  have hx : l[i] = x := (List.getElem?_eq_some_iff.1 h).2
  have : (sOf l)[i] = Nat.toUInt8 l[i] := by
    show (sOf l).data[i] = _
    simp [sOf]
  rw [this, hx]
  have := hl x (List.mem_of_getElem? h)
  simp [Nat.toUInt8]
  omega
set_option maxRecDepth 100000 in
set_option maxHeartbeats 2000000 in
theorem read_any {W : World} {v : Value} {l : List Nat} {st : Bool} (h : HasB W v (byB l)) (hl : ∀ x ∈ l, x < 256) (hn : l.length ≤ 1048576) (hp : 0 < l.length) :
    Calls Tryd.prog 14 #[v, .bool st] W fun e W' => e = .returned (.tuple #[.pointer (some ⟨W.heap.size, 0, none⟩), .int .i64 0]) ∧ RdAt W' W.heap.size (sOf l) 0 st ∧ Below W.heap.size W W' := by
  have hbl : (byB l).length = l.length := by simp [byB]
  obtain ⟨a, c, rfl, hm, h3⟩ := h
  rw [hbl] at h3 ⊢
  obtain ⟨g, off, rfl, hg, hc⟩ := h3 hp
  have hcv0 := run_convert_bytes_back (P := Tryd.prog) W 26 9 5 ⟨g, off, none⟩ c (l.map Nat.toUInt8) Tryd.underlying26 Tryd.underlying5 Tryd.underlying9 (fun j hj => by
      rw [Go.WideShapes.add_plain]
      have hj' : j < l.length := by simpa using hj
      have hx := hc j (l[j] : Int) (by unfold byB; rw [List.getElem?_map, List.getElem?_eq_getElem hj']; rfl)
      rw [hx]
      have := hl l[j] (List.getElem_mem hj')
      simp [Nat.toUInt8]
      omega)
  have hcv : (convert 26 9 (.slice (some ⟨g, off, none⟩) l.length c)).run Tryd.prog W = .ok (.string (sOf l)) W := by
    rw [List.length_map] at hcv0
    exact hcv0
  have hlen : decide ((1048576 : Int) < (l.length : Int)) = false := by simp; omega
  have hnw := heap_alloc_new W (.cells #[.string (sOf l), .int .i64 0, .bool st] 70)
  have hB : Below W.heap.size W (W.alloc (.cells #[.string (sOf l), .int .i64 0, .bool st] 70)) := (Below.refl _ _).alloc (Nat.le_refl _) _
  have Hnw := hide hnw
  have HB := hide hB
  clear hnw hB hcv0 hc h3 hm hl
  generalize sOf l = S at *
  go_enter Tryd.func14, Tryd.ntmps14
  go_wp2
  go_ret2
  exact ⟨rfl, unhide Hnw, unhide HB⟩
end Go.Proofs.YtgbadnbhgpnppaaDoor
