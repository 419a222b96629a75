import Derived.Shelf.Strconv.Itoa0
import Derived.Test.YtlblllghgdfpoaaDoorJ19
import Derived.Test.YtlblllghgdfpoaaDoorJ20
import Derived.Laws.MathBits
import Derived.Test.YtlblllghgdfpoaaDoorDB
import Derived.Test.YtlblllghgdfpoaaDoorRows
import Derived.WalkKit
import Derived.ProofKit
import Derived.OpenShut
import Derived.ShutString
import Derived.SizedLaws
import Derived.Below
import Derived.Test.YtlblllghgdfpoaaDoorJ01
import Derived.Deep.Slices

namespace Go.Proofs.YtlblllghgdfpoaaDoor
open Go.RowKit Go.Lib
attribute [local go_sem ↓] Go.wp_at_zero Go.wp_at_succ

/-- The greatest power of two below n. -/
def cutN (n : Nat) : Nat := 2 ^ Nat.log2 (n - 1)
theorem cutN_pos (n : Nat) : 0 < cutN n := Nat.two_pow_pos _
theorem cutN_lt {n : Nat} (h : 2 ≤ n) : cutN n < n := by
  have := Nat.log2_self_le (n := n - 1) (by omega)
  unfold cutN
  omega
theorem cutN_eq {n j : Nat} (h1 : 2 ^ j < n) (h2 : n ≤ 2 * 2 ^ j) : cutN n = 2 ^ j := by
  have : Nat.log2 (n - 1) = j := (Nat.log2_eq_iff (by omega)).2 ⟨by omega, by rw [Nat.pow_succ]; omega⟩
  unfold cutN
  rw [this]
def rootF : Nat → List (List Nat) → List Nat
  | 0, _ => sha []
  | f + 1, ls => if ls.length = 0 then sha [] else if ls.length = 1 then sha (0 :: ls.headD []) else sha (1 :: (rootF f (ls.take (cutN ls.length)) ++ rootF f (ls.drop (cutN ls.length))))
theorem rootF_byt (f : Nat) (ls : List (List Nat)) : Byt (rootF f ls) := by
  cases f with
  | zero => exact sha_byt _
  | succ f => unfold rootF; split; · exact sha_byt _
              split <;> exact sha_byt _
theorem rootF_len (f : Nat) (ls : List (List Nat)) : (rootF f ls).length = 32 := by
  cases f with
  | zero => exact sha_len _
  | succ f => unfold rootF; split; · exact sha_len _
              split <;> exact sha_len _

def lenRen : Go.Shelf.Ren := ⟨fun | 129 => 68 | n => n, fun | 53 => 95 | 3 => 3 | 4 => 4 | 46 => 57 | 5 => 5 | 9 => 9 | n => n, fun | n => n⟩
theorem lenLays : Go.Proofs.Lays.n129 Tryd.prog lenRen := {
  mixed := by kernel_rfl
  f129 := Tryd.func68.trans (congrArg some (by kernel_rfl))
  t3 := Tryd.underlying3
  a3 := Tryd.isAgg3
  z3 := Tryd.sizeOf3
  v3 := Tryd.zeroValue3
  t4 := Tryd.underlying4
  a4 := Tryd.isAgg4
  z4 := Tryd.sizeOf4
  v4 := Tryd.zeroValue4
  t5 := Tryd.underlying5
  a5 := Tryd.isAgg5
  z5 := Tryd.sizeOf5
  v5 := Tryd.zeroValue5
  t9 := Tryd.underlying9
  a9 := Tryd.isAgg9
  z9 := Tryd.sizeOf9
  v9 := Tryd.zeroValue9
  t46 := Tryd.underlying57
  a46 := Tryd.isAgg57
  z46 := Tryd.sizeOf57
  v46 := Tryd.zeroValue57
  t53 := Tryd.underlying95
  a53 := Tryd.isAgg95
  z53 := Tryd.sizeOf95
  v53 := Tryd.zeroValue95 }
theorem len64_any (x : Int) (w : World) (h0 : 0 ≤ x) (h1 : x ≤ 18446744073709551615) :
    Calls Tryd.prog 68 #[.int .u64 x] w fun e w' => e = .returned (.int .i64 (Lib.bitLen x.toNat)) ∧ w' = w := Any.bits_Len64 lenLays x w h0 h1
theorem bitAux_zero : ∀ f, Lib.bitLenAux f 0 = 0
  | 0 => rfl
  | _ + 1 => by simp [Lib.bitLenAux]
theorem bitAux_log : ∀ (f x : Nat), x ≠ 0 → x < 2 ^ f → Lib.bitLenAux f x = Nat.log2 x + 1
  | 0, x, h, h1 => by simp at h1; omega
  | f + 1, x, h, h1 => by
    rw [Lib.bitLenAux, if_neg h]
    by_cases h2 : x / 2 = 0
    · have : x = 1 := by omega
      subst this
      rw [show 1 / 2 = 0 from rfl, bitAux_zero]
      decide
    · rw [bitAux_log f (x / 2) h2 (by rw [Nat.pow_succ] at h1; omega)]
      rw [Nat.log2_def x, if_pos (by omega)]
      omega
theorem bitLen_log {n : Nat} (hn : n ≠ 0) (h : n < 18446744073709551616) : Lib.bitLen n = Nat.log2 n + 1 := bitAux_log 64 n hn h
set_option maxRecDepth 100000 in
theorem bitsLen_any (x : Nat) (w : World) (h1 : x ≤ 65536) :
    Calls Tryd.prog 58 #[.int .u64 (x : Int)] w fun e w' => e = .returned (.int .i64 ((Lib.bitLen x : Nat) : Int)) ∧ w' = w := by
  have hl := len64_any (x : Int) w (by omega) (by omega)
  rw [Int.toNat_natCast] at hl
  go_enter Tryd.func58, Tryd.ntmps58
  go_wp2_with fail
  refine hl.mono ?_
  rintro e w' ⟨rfl, he⟩
  obtain rfl : w = w' := he.symm
  go_wp2
  go_ret
  exact ⟨rfl, rfl⟩
set_option maxRecDepth 100000 in
theorem cut_any (n : Nat) (w : World) (h2 : 2 ≤ n) (hn : n ≤ 65536) :
    Calls Tryd.prog 47 #[.int .i64 (n : Int)] w fun e w' => e = .returned (.int .i64 ((cutN n : Nat) : Int)) ∧ w' = w := by
  obtain ⟨m, hm⟩ : ∃ m, m = n - 1 := ⟨_, rfl⟩
  have em : (n : Int) - 1 = (m : Int) := by omega
  have hlen := bitsLen_any m w (by omega)
  rw [bitLen_log (by omega) (by omega)] at hlen
  obtain ⟨k, hk⟩ : ∃ k, k = Nat.log2 m := ⟨_, rfl⟩
  have hk16 : k < 17 := by
    rw [hk]
    exact (Nat.log2_lt (by omega)).2 (by omega)
  have hc : cutN n = 2 ^ k := by unfold cutN; rw [hk, hm]
  rw [← hk] at hlen
  rw [hc]
  have hp : (2 : Nat) ^ k ≤ 65536 := Nat.pow_le_pow_right (n := 2) (by decide) (show k ≤ 16 by omega)
  have e1 : ((k + 1 : Nat) : Int) - 1 = (k : Int) := by omega
  have Hl := hide hlen
  have mb : (m : Int) ≤ 65536 := by omega
  have m0 : (0 : Int) ≤ (m : Int) := Int.natCast_nonneg _
  clear hlen hk hc hm
  go_enter Tryd.func47, Tryd.ntmps47
  go_wp2_with fail
  refine (unhide Hl).mono ?_
  rintro e w' ⟨rfl, he⟩
  obtain rfl : w = w' := he.symm
  have ew : wrap64 (2 ^ k : Int) = ((2 ^ k : Nat) : Int) := by
    have e : (2 ^ k : Int) = ((2 ^ k : Nat) : Int) := by simp
    obtain ⟨p, hpp⟩ : ∃ p, (2 ^ k : Nat) = p := ⟨_, rfl⟩
    rw [e, hpp]
    rw [hpp] at hp
    exact wrap64_small (by omega) (by omega)
  go_wp2
  go_ret
  exact ⟨retI ew, rfl⟩
set_option maxRecDepth 100000 in
theorem xcut_any (n : Nat) (w : World) (h2 : 2 ≤ n) (hn : n ≤ 65536) :
    Calls Tryd.prog 65 #[.int .i64 (n : Int)] w fun e w' => e = .returned (.int .i64 ((cutN n : Nat) : Int)) ∧ w' = w := by
  go_enter Tryd.func65, Tryd.ntmps65
  go_wp2
  go_loopg [3] 65535 (fun gk v3 wr => ∃ (k j : Nat), v3 = .int .i64 (k : Int) ∧ k = 2 ^ j ∧ k < n ∧ gk = 65536 - k ∧ wr = w)
  case atStart => exact ⟨1, 0, rfl, rfl, by omega, rfl, rfl⟩
  case round =>
    obtain ⟨k, j, rfl, hkj, hkn, hgk, hwr⟩ := hrel
    obtain rfl : w = wr := hwr.symm
    clear hwr
    have hk0 : 0 < k := by rw [hkj]; exact Nat.two_pow_pos _
    have Hkj := hide hkj
    have Hgk := hide hgk
    clear hkj hgk
    by_cases hlt : 2 * k < n
    · have q1 : decide (2 * (k : Int) < (n : Int)) = true := decide_eq_true (by omega)
      go_wp2
      go_roundg (65536 - 2 * k)
      case measure => have := unhide Hgk; omega
      case rel => exact ⟨2 * k, j + 1, by go_num, by rw [Nat.pow_succ, ← unhide Hkj]; omega, by omega, rfl, rfl⟩
    · have q1 : decide (2 * (k : Int) < (n : Int)) = false := decide_eq_false (by omega)
      have e := cutN_eq (n := n) (j := j) (by rw [← unhide Hkj]; exact hkn) (by rw [← unhide Hkj]; omega)
      rw [← unhide Hkj] at e
      have He := hide e
      clear e
      go_wp2
      go_ret
      exact ⟨by rw [unhide He]; rfl, rfl⟩
set_option maxRecDepth 100000 in
set_option maxHeartbeats 1000000 in
theorem leafSum_any {W : World} (hK : HasK W) (hS : HasS W) {v : Value} {l : List Nat} (h : HasB W v l) (hl : Byt l) (hn : l.length ≤ 140737488351232) :
    Calls Tryd.prog 46 #[v] W fun e W' => ∃ v', e = .returned v' ∧ Bytes W.heap.size W' v' (sha (0 :: l)) ∧ Below W.heap.size W W' := by
  have b1 : Below W.heap.size W (W.alloc (.cells #[.int .u8 0] 5)) := (Below.refl _ _).alloc (Nat.le_refl _) _
  have o1 : HasB (W.alloc (.cells #[.int .u8 0] 5)) (.slice (some ⟨W.heap.size, 0, none⟩) 1 1) [0] := hasB_lit (l := [0]) (t := 5) (fr := (0, 0)) (heap_new _ _) 1 1 rfl (by decide)
  have hrow := hasBB_list (us := [.slice (some ⟨W.heap.size, 0, none⟩) 1 1, v]) (ls := [0] :: l :: []) rfl (by simp) (fun j u l' hu hl' => by
    match j, hu, hl' with
    | 0, hu, hl' => injection hu with hu; injection hl' with hl'; subst hu hl'; exact o1
    | 1, hu, hl' => injection hu with hu; injection hl' with hl'; subst hu hl'; exact h.up b1
    | j + 2, hu, _ => simp at hu) 29
  rw [World.size_alloc] at hrow
  have b2 : Below W.heap.size W ((W.alloc (.cells #[.int .u8 0] 5)).alloc (.cells #[.slice (some ⟨W.heap.size, 0, none⟩) 1 1, v] 29)) := b1.alloc (by rw [World.size_alloc]; omega) _
  have hsum := sumOf_any (hK.up b2) (hS.up b2) hrow (fun x hx => by
    rcases List.mem_cons.1 hx with rfl | hx
    · unfold Byt; decide
    · rw [List.mem_singleton.1 hx]; exact hl) (by simp; omega)
  rw [show ([0] :: l :: [] : List (List Nat)).flatten = 0 :: l by simp] at hsum
  have Hs := hide hsum
  have B2 := hide b2
  obtain ⟨va, vc, rfl, _, _⟩ := h
  clear hsum hrow b1 o1 b2
  go_enter Tryd.func46, Tryd.ntmps46
  go_wp2_with fail
  refine (unhide Hs).mono ?_
  rintro e w2 ⟨v', rfl, hB2, hb2⟩
  have HB2 := hide (hB2.lower (b' := W.heap.size) (unhide B2).size)
  have HB3 : Hid (Below W.heap.size W w2) := (unhide B2).trans (hb2.mono (unhide B2).size)
  clear hB2 hb2 Hs
  go_wp2
  go_ret
  exact ⟨v', rfl, unhide HB2, unhide HB3⟩
set_option maxRecDepth 100000 in
set_option maxHeartbeats 1000000 in
theorem aboveSum_any {W : World} (hK : HasK W) (hS : HasS W) {v u : Value} {l m : List Nat} (h : HasB W v l) (hl : Byt l) (g : HasB W u m) (hm : Byt m) (hn : l.length + m.length ≤ 140737488351232) :
    Calls Tryd.prog 48 #[v, u] W fun e W' => ∃ v', e = .returned v' ∧ Bytes W.heap.size W' v' (sha (1 :: (l ++ m))) ∧ Below W.heap.size W W' := by
  have b1 : Below W.heap.size W (W.alloc (.cells #[.int .u8 1] 5)) := (Below.refl _ _).alloc (Nat.le_refl _) _
  have o1 : HasB (W.alloc (.cells #[.int .u8 1] 5)) (.slice (some ⟨W.heap.size, 0, none⟩) 1 1) [1] := hasB_lit (l := [1]) (t := 5) (fr := (0, 0)) (heap_new _ _) 1 1 rfl (by decide)
  have hrow := hasBB_list (us := [.slice (some ⟨W.heap.size, 0, none⟩) 1 1, v, u]) (ls := [1] :: l :: m :: []) rfl (by simp) (fun j z l' hu hl' => by
    match j, hu, hl' with
    | 0, hu, hl' => injection hu with hu; injection hl' with hl'; subst hu hl'; exact o1
    | 1, hu, hl' => injection hu with hu; injection hl' with hl'; subst hu hl'; exact h.up b1
    | 2, hu, hl' => injection hu with hu; injection hl' with hl'; subst hu hl'; exact g.up b1
    | j + 3, hu, _ => simp at hu) 29
  rw [World.size_alloc] at hrow
  have b2 : Below W.heap.size W ((W.alloc (.cells #[.int .u8 1] 5)).alloc (.cells #[.slice (some ⟨W.heap.size, 0, none⟩) 1 1, v, u] 29)) := b1.alloc (by rw [World.size_alloc]; omega) _
  have hsum := sumOf_any (hK.up b2) (hS.up b2) hrow (fun x hx => by
    rcases List.mem_cons.1 hx with rfl | hx
    · unfold Byt; decide
    · rcases List.mem_cons.1 hx with rfl | hx
      · exact hl
      · rw [List.mem_singleton.1 hx]; exact hm) (by simp; omega)
  rw [show ([1] :: l :: m :: [] : List (List Nat)).flatten = 1 :: (l ++ m) by simp] at hsum
  have Hs := hide hsum
  have B2 := hide b2
  obtain ⟨va, vc, rfl, _, _⟩ := h
  obtain ⟨ua, uc, rfl, _, _⟩ := g
  clear hsum hrow b1 o1 b2
  go_enter Tryd.func48, Tryd.ntmps48
  go_wp2_with fail
  refine (unhide Hs).mono ?_
  rintro e w2 ⟨v', rfl, hB2, hb2⟩
  have HB2 := hide (hB2.lower (b' := W.heap.size) (unhide B2).size)
  have HB3 : Hid (Below W.heap.size W w2) := (unhide B2).trans (hb2.mono (unhide B2).size)
  clear hB2 hb2 Hs
  go_wp2
  go_ret
  exact ⟨v', rfl, unhide HB2, unhide HB3⟩
end Go.Proofs.YtlblllghgdfpoaaDoor

namespace Go.Proofs.YtlblllghgdfpoaaDoor
open Go.ChangeShapes Go.WideShapes Go.ChangeAt Go.RowKit

theorem bulk_pos {H : Type} (d : DataW H) : 1 ≤ Rows.uptoBulk d := by
  cases d with
  | lit l => cases l <;> simp [Rows.uptoBulk]
  | _ => simp [Rows.uptoBulk]
theorem bulk_len {H : Type} (l : List (DataW H)) : l.length ≤ Rows.uptoBulkAll l := by
  induction l with
  | nil => simp [Rows.uptoBulkAll]
  | cons x r ih =>
    have := bulk_pos x
    simp only [Rows.uptoBulkAll, List.length_cons]
    omega
theorem bytesOfByte : Tryd.prog.bytesOf 5 = 1 := by kernel_rfl
theorem cellsOfByte : Tryd.prog.cellsOf 5 = 1 := by kernel_rfl

/-- A []byte that came in. -/
theorem open_hasB {H : Type} {enc : TypeId × Value → H} {W : World} {base fuel len cap : Nat} {spare : Nat → Bool} {held : Bool} {a : Option Addr} {x : DataW H × List MemPlace}
    (hf : DataW.trod enc Tryd.prog W base spare held fuel 29 (Value.slice a len cap).cells.toList = some x) :
    ∃ l, HasB W (.slice a len cap) l ∧ Byt l ∧ (l.length = 0 ∨ ∃ e s, x.1 = .slice e s ∧ l.length = e.length) ∧ l.length ≤ Rows.uptoBulk x.1 := by
  rcases open_ints Tryd.underlying29 Tryd.underlying5 cellsOfByte hf with ⟨hcs, rfl⟩ | ⟨y, n, c, zs, hcs, _, hl, hm, hz, rfl, hcell, hwf⟩
  · simp [Value.cells] at hcs
    obtain ⟨rfl, rfl, rfl⟩ := hcs
    exact ⟨[], hasB_nil _, fun x hx => by simp at hx, .inl rfl, by simp⟩
  · simp [Value.cells] at hcs
    obtain ⟨rfl, rfl, rfl⟩ := hcs
    have hlz : len ≤ zs.length := by rw [hz]; split <;> omega
    have hlen : ((zs.take len).map Int.toNat).length = len := by rw [List.length_map, List.length_take]; omega
    have hel : (lits (H := H) .u8 (zs.take len)).length = len := by simp [lits]; omega
    refine ⟨(zs.take len).map Int.toNat, ⟨some y, cap, by rw [hlen], ⟨by omega, by omega, nofun⟩, fun hp => ?_⟩, fun x hx => ?_, .inr ⟨_, _, rfl, by rw [hlen, hel]⟩, ?_⟩
    · obtain ⟨b, off, rfl, hc⟩ := ints_at hcell (by omega)
      refine ⟨b, off, rfl, World.block_lt_of_cell? W _ (hc 0 (by omega)), fun i k hk => ?_⟩
      rw [List.getElem?_map, List.getElem?_take] at hk
      split at hk
      · rename_i hi
        obtain ⟨z, hz', rfl⟩ := Option.map_eq_some_iff.1 hk
        have h1 := hc i (by omega)
        rw [List.getD_eq_getElem?_getD, hz'] at h1
        have h2 := bounds_u8 (hwf z (List.mem_of_getElem? hz'))
        rw [h1]
        simp
        omega
      · cases hk
    · obtain ⟨z, hz', rfl⟩ := List.mem_map.1 hx
      have h2 := bounds_u8 (hwf z (List.mem_of_mem_take hz'))
      omega
    · have h1 := bulk_len (lits (H := H) .u8 (zs.take len))
      show _ ≤ Rows.uptoBulk (.slice (lits .u8 (zs.take len)) (lits .u8 (zs.drop len)))
      simp only [Rows.uptoBulk]
      omega
theorem sized_hasB {H : Type} {ts : List TypeId} {ds : List (DataW H)} (h : (DataW.weightsEach Tryd.prog ts ds).all (· ≤ reachBytes) = true) {j : Nat} {d : DataW H} {l : List Nat} (ht : ts[j]? = some 29) (hd : ds[j]? = some d)
    (hl : l.length = 0 ∨ ∃ e s, d = .slice e s ∧ l.length = e.length) : l.length ≤ 140737488351232 := by
  rcases hl with h0 | ⟨e, s, rfl, hl⟩
  · omega
  · have := sized_slice h ht hd Tryd.underlying29
    rw [bytesOfByte, reachBytes] at this
    omega
end Go.Proofs.YtlblllghgdfpoaaDoor

namespace Go.Proofs.YtlblllghgdfpoaaDoor
open Go.ChangeShapes Go.WideShapes Go.ChangeAt Go.RowKit

def BytB (ls : List (List Nat)) : Prop := ∀ l ∈ ls, Byt l
/-- All the bytes, and one for each list. -/
def sumB (ls : List (List Nat)) : Nat := (ls.map fun l => l.length + 1).sum
theorem cellsOfBytes : Tryd.prog.cellsOf 29 = 1 := by kernel_rfl
theorem hasBB_nil (W : World) : HasBB W (.slice none 0 0) [] := ⟨none, 0, rfl, ⟨Nat.le_refl _, Nat.zero_le _, fun _ => rfl⟩, fun h => by simp at h⟩
theorem sumB_le {H : Type} (L : Nat → List Nat) (D : Nat → DataW H) : ∀ (is : List Nat), (∀ i ∈ is, (L i).length + 1 ≤ Rows.uptoBulk (D i)) → sumB (is.map L) ≤ Rows.uptoBulkAll (is.map D)
  | [], _ => by simp [sumB, Rows.uptoBulkAll]
  | i :: is, h => by
    have h1 := h i (List.mem_cons_self)
    have h2 := sumB_le L D is (fun j hj => h j (List.mem_cons_of_mem _ hj))
    simp only [sumB, List.map_cons, List.sum_cons, Rows.uptoBulkAll] at *
    omega
/-- One list of bytes in a cell. -/
theorem open_inner {H : Type} {enc : TypeId × Value → H} {W : World} {base fuel : Nat} {spare : Nat → Bool} {held : Bool} {v : Value} {x : DataW H × List MemPlace}
    (hf : DataW.trod enc Tryd.prog W base spare held fuel 29 [v] = some x) : ∃ l, HasB W v l ∧ Byt l ∧ (l.length = 0 ∨ ∃ e s, x.1 = .slice e s ∧ l.length = e.length) ∧ l.length + 1 ≤ Rows.uptoBulk x.1 := by
  have hv : ∃ a n c, v = .slice a n c := by
    rcases open_ints Tryd.underlying29 Tryd.underlying5 cellsOfByte hf with ⟨hcs, _⟩ | ⟨y, n, c, zs, hcs, _⟩
    · exact ⟨_, _, _, by simpa using hcs⟩
    · exact ⟨_, _, _, by simpa using hcs⟩
  obtain ⟨a, n, c, rfl⟩ := hv
  obtain ⟨l, h1, h2, h3, _⟩ := open_hasB (a := a) (len := n) (cap := c) hf
  refine ⟨l, h1, h2, h3, ?_⟩
  rcases h3 with h0 | ⟨e, s, hx, hl⟩
  · have := bulk_pos x.1
    omega
  · have := bulk_len e
    rw [hx]
    simp only [Rows.uptoBulk]
    omega
/-- The datum has these lengths. -/
def FitsB {H : Type} (ls : List (List Nat)) (d : DataW H) : Prop := ls = [] ∨ ∃ es s, d = .slice es s ∧ es.length = ls.length ∧ ∀ l ∈ ls, l.length = 0 ∨ ∃ e s, DataW.slice e s ∈ es ∧ l.length = e.length
theorem bytesOfBytes : Tryd.prog.bytesOf 29 = 24 := by kernel_rfl
theorem weightsAll_slice {H : Type} {P : Program} {t u : TypeId} (hu : P.underlying t = some (.slice u)) {e s : List (DataW H)} : ∀ {l : List (DataW H)}, DataW.slice e s ∈ l → (e.length + s.length) * P.bytesOf u ∈ DataW.weightsAll P t l
  | [], h => by simp at h
  | d :: r, h => by
    simp only [DataW.weightsAll, List.mem_append]
    rcases List.mem_cons.1 h with rfl | h
    · exact .inl (by simp [DataW.weights, hu])
    · exact .inr (weightsAll_slice hu h)
theorem sized_hasBB {H : Type} {ts : List TypeId} {ds : List (DataW H)} (h : (DataW.weightsEach Tryd.prog ts ds).all (· ≤ reachBytes) = true) {j : Nat} {d : DataW H} {ls : List (List Nat)} (ht : ts[j]? = some 22) (hd : ds[j]? = some d)
    (hl : FitsB ls d) : ls.length ≤ 5864062014634 ∧ ∀ l ∈ ls, l.length ≤ 140737488351232 := by
  rcases hl with rfl | ⟨es, s, rfl, hlen, hall⟩
  · exact ⟨by simp, fun l hl => by simp at hl⟩
  · have h1 := sized_slice h ht hd Tryd.underlying22
    rw [bytesOfBytes, hlen, reachBytes] at h1
    refine ⟨by omega, fun l hl => ?_⟩
    rcases hall l hl with h0 | ⟨e, s', hm, he⟩
    · omega
    · have hw := DataW.weights_mem_each (P := Tryd.prog) ht hd ((e.length + s'.length) * Tryd.prog.bytesOf 5) (by
        simp only [DataW.weights, Tryd.underlying22]
        exact List.mem_cons_of_mem _ (List.mem_append_left _ (weightsAll_slice Tryd.underlying29 hm)))
      have h3 := List.all_eq_true.1 h _ hw
      have h4 : (e.length + s'.length) * Tryd.prog.bytesOf 5 ≤ reachBytes := by simpa using h3
      rw [bytesOfByte, reachBytes] at h4
      omega
/-- A [][]byte that came in. -/
theorem open_hasBB {H : Type} {enc : TypeId × Value → H} {W : World} {base fuel len cap : Nat} {spare : Nat → Bool} {held : Bool} {a : Option Addr} {x : DataW H × List MemPlace}
    (hf : DataW.trod enc Tryd.prog W base spare held fuel 22 (Value.slice a len cap).cells.toList = some x) :
    ∃ ls, HasBB W (.slice a len cap) ls ∧ BytB ls ∧ sumB ls ≤ Rows.uptoBulk x.1 ∧ FitsB ls x.1 := by
  rcases Go.Deep.open_slice1 Tryd.underlying22 cellsOfBytes hf with ⟨hcs, rfl⟩ | ⟨y, n, c, m, fu, V, D, Pl, hcs, _, hl, hm, hmm, rfl, hx⟩
  · simp [Value.cells] at hcs
    obtain ⟨rfl, rfl, rfl⟩ := hcs
    exact ⟨[], hasBB_nil _, fun l hl => by simp at hl, by simp [sumB], .inl rfl⟩
  · simp [Value.cells] at hcs
    obtain ⟨rfl, rfl, rfl⟩ := hcs
    have hlm : len ≤ m := by rw [hmm]; split <;> omega
    have each : ∀ i, ∃ l, i < len → W.cell? (y.add i) = some (V i) ∧ HasB W (V i) l ∧ Byt l ∧ l.length + 1 ≤ Rows.uptoBulk (D i) ∧ (l.length = 0 ∨ ∃ e s, D i = .slice e s ∧ l.length = e.length) := fun i => by
      by_cases hi : i < len
      · obtain ⟨h1, h2⟩ := hx i (by omega)
        obtain ⟨l, g1, g2, g3, g4⟩ := open_inner h2
        exact ⟨l, fun _ => ⟨h1, g1, g2, g4, g3⟩⟩
      · exact ⟨[], fun h => absurd h hi⟩
    obtain ⟨L, hL⟩ := Classical.axiomOfChoice each
    have hlen : ((List.range len).map L).length = len := by simp
    refine ⟨(List.range len).map L, ⟨some y, cap, by rw [hlen], ⟨by omega, by omega, nofun⟩, fun hp => ?_⟩, fun l hl' => ?_, ?_, ?_⟩
    · rw [hlen] at hp
      obtain ⟨b, off, spot⟩ := y
      have hspot : spot = none := by simpa [Addr.add] using World.cell?_spot (hL 0 hp).1
      subst hspot
      refine ⟨b, off, rfl, World.block_lt_of_cell? W _ (hL 0 hp).1, fun i l hl' => ?_⟩
      rw [List.getElem?_map] at hl'
      obtain ⟨j, hj, rfl⟩ := Option.map_eq_some_iff.1 hl'
      obtain ⟨hi, rfl⟩ : i < len ∧ i = j := by
        have hi := (List.getElem?_eq_some_iff.1 hj).1
        rw [List.length_range] at hi
        rw [List.getElem?_range hi] at hj
        exact ⟨hi, Option.some.inj hj⟩
      obtain ⟨h1, h2, _⟩ := hL i hi
      exact ⟨V i, by rw [← Go.WideShapes.add_plain]; exact h1, h2⟩
    · obtain ⟨i, hi, rfl⟩ := List.mem_map.1 hl'
      exact (hL i (List.mem_range.1 hi)).2.2.1
    · have := sumB_le L D (List.range len) (fun i hi => (hL i (List.mem_range.1 hi)).2.2.2.1)
      simp only [Rows.uptoBulk]
      omega
    · refine .inr ⟨_, _, rfl, by simp, fun l hl' => ?_⟩
      obtain ⟨i, hi, rfl⟩ := List.mem_map.1 hl'
      rcases (hL i (List.mem_range.1 hi)).2.2.2.2 with h0 | ⟨e, s, he, hle⟩
      · exact .inl h0
      · exact .inr ⟨e, s, List.mem_map.2 ⟨i, hi, he⟩, hle⟩
end Go.Proofs.YtlblllghgdfpoaaDoor
