import Derived.Shelf.Strconv.Itoa0
import Derived.Test.YtoojchjfmnbdpabDoorDMa
import Derived.Test.YtoojchjfmnbdpabDoorDKq
import Derived.Laws.MathBits
namespace Go.Proofs.YtoojchjfmnbdpabDoor
open Go.RowKit Go.Lib
attribute [local go_sem ↓] Go.wp_at_zero Go.wp_at_succ

/-- The greatest power of two below n. -/
def cutN (n : Nat) : Nat := 2 ^ Nat.log2 (n - 1)
theorem cutN_pos (n : Nat) : 0 < cutN n := Nat.two_pow_pos _
theorem cutN_lt {n : Nat} (h : 2 ≤ n) : cutN n < n := by
  have := Nat.log2_self_le (n := n - 1) (by omega)
  unfold cutN
  omega
theorem cutN_eq {n j : Nat} (h1 : 2 ^ j < n) (h2 : n ≤ 2 * 2 ^ j) : cutN n = 2 ^ j := by
  have : Nat.log2 (n - 1) = j := (Nat.log2_eq_iff (by omega)).2 ⟨by omega, by rw [Nat.pow_succ]; omega⟩
  unfold cutN
  rw [this]
def rootF : Nat → List (List Nat) → List Nat
  | 0, _ => sha []
  | f + 1, ls => if ls.length = 0 then sha [] else if ls.length = 1 then sha (0 :: ls.headD []) else sha (1 :: (rootF f (ls.take (cutN ls.length)) ++ rootF f (ls.drop (cutN ls.length))))
theorem rootF_byt (f : Nat) (ls : List (List Nat)) : Byt (rootF f ls) := by
  cases f with
  | zero => exact sha_byt _
  | succ f => unfold rootF; split; · exact sha_byt _
              split <;> exact sha_byt _
theorem rootF_len (f : Nat) (ls : List (List Nat)) : (rootF f ls).length = 32 := by
  cases f with
  | zero => exact sha_len _
  | succ f => unfold rootF; split; · exact sha_len _
              split <;> exact sha_len _

def lenRen : Go.Shelf.Ren := ⟨fun | 129 => 73 | n => n, fun | 53 => 87 | 3 => 3 | 4 => 4 | 46 => 86 | 5 => 5 | 9 => 9 | n => n, fun | n => n⟩
theorem lenLays : Go.Proofs.Lays.n129 Tryd.prog lenRen := {
  mixed := by kernel_rfl
  f129 := Tryd.func73.trans (congrArg some (by kernel_rfl))
  t3 := Tryd.underlying3
  a3 := Tryd.isAgg3
  z3 := Tryd.sizeOf3
  v3 := Tryd.zeroValue3
  t4 := Tryd.underlying4
  a4 := Tryd.isAgg4
  z4 := Tryd.sizeOf4
  v4 := Tryd.zeroValue4
  t5 := Tryd.underlying5
  a5 := Tryd.isAgg5
  z5 := Tryd.sizeOf5
  v5 := Tryd.zeroValue5
  t9 := Tryd.underlying9
  a9 := Tryd.isAgg9
  z9 := Tryd.sizeOf9
  v9 := Tryd.zeroValue9
  t46 := Tryd.underlying86
  a46 := Tryd.isAgg86
  z46 := Tryd.sizeOf86
  v46 := Tryd.zeroValue86
  t53 := Tryd.underlying87
  a53 := Tryd.isAgg87
  z53 := Tryd.sizeOf87
  v53 := Tryd.zeroValue87 }
theorem len64_any (x : Int) (w : World) (h0 : 0 ≤ x) (h1 : x ≤ 18446744073709551615) :
    Calls Tryd.prog 73 #[.int .u64 x] w fun e w' => e = .returned (.int .i64 (Lib.bitLen x.toNat)) ∧ w' = w := Any.bits_Len64 lenLays x w h0 h1
theorem bitAux_zero : ∀ f, Lib.bitLenAux f 0 = 0
  | 0 => rfl
  | _ + 1 => by simp [Lib.bitLenAux]
theorem bitAux_log : ∀ (f x : Nat), x ≠ 0 → x < 2 ^ f → Lib.bitLenAux f x = Nat.log2 x + 1
  | 0, x, h, h1 => by simp at h1; omega
  | f + 1, x, h, h1 => by
    rw [Lib.bitLenAux, if_neg h]
    by_cases h2 : x / 2 = 0
    · have : x = 1 := by omega
      subst this
      rw [show 1 / 2 = 0 from rfl, bitAux_zero]
      decide
    · rw [bitAux_log f (x / 2) h2 (by rw [Nat.pow_succ] at h1; omega)]
      rw [Nat.log2_def x, if_pos (by omega)]
      omega
theorem bitLen_log {n : Nat} (hn : n ≠ 0) (h : n < 18446744073709551616) : Lib.bitLen n = Nat.log2 n + 1 := bitAux_log 64 n hn h
set_option maxRecDepth 100000 in
theorem bitsLen_any (x : Nat) (w : World) (h1 : x ≤ 65536) :
    Calls Tryd.prog 71 #[.int .u64 (x : Int)] w fun e w' => e = .returned (.int .i64 ((Lib.bitLen x : Nat) : Int)) ∧ w' = w := by
  have hl := len64_any (x : Int) w (by omega) (by omega)
  rw [Int.toNat_natCast] at hl
  go_enter Tryd.func71, Tryd.ntmps71
  go_wp2_with fail
  refine hl.mono ?_
  rintro e w' ⟨rfl, he⟩
  obtain rfl : w = w' := he.symm
  go_wp2
  go_ret
  exact ⟨rfl, rfl⟩
set_option maxRecDepth 100000 in
theorem cut_any (n : Nat) (w : World) (h2 : 2 ≤ n) (hn : n ≤ 65536) :
    Calls Tryd.prog 63 #[.int .i64 (n : Int)] w fun e w' => e = .returned (.int .i64 ((cutN n : Nat) : Int)) ∧ w' = w := by
  obtain ⟨m, hm⟩ : ∃ m, m = n - 1 := ⟨_, rfl⟩
  have em : (n : Int) - 1 = (m : Int) := by omega
  have hlen := bitsLen_any m w (by omega)
  rw [bitLen_log (by omega) (by omega)] at hlen
  obtain ⟨k, hk⟩ : ∃ k, k = Nat.log2 m := ⟨_, rfl⟩
  have hk16 : k < 17 := by
    rw [hk]
    exact (Nat.log2_lt (by omega)).2 (by omega)
  have hc : cutN n = 2 ^ k := by unfold cutN; rw [hk, hm]
  rw [← hk] at hlen
  rw [hc]
  have hp : (2 : Nat) ^ k ≤ 65536 := Nat.pow_le_pow_right (n := 2) (by decide) (show k ≤ 16 by omega)
  have e1 : ((k + 1 : Nat) : Int) - 1 = (k : Int) := by omega
  have Hl := hide hlen
  have mb : (m : Int) ≤ 65536 := by omega
  have m0 : (0 : Int) ≤ (m : Int) := Int.natCast_nonneg _
  clear hlen hk hc hm
  go_enter Tryd.func63, Tryd.ntmps63
  go_wp2_with fail
  refine (unhide Hl).mono ?_
  rintro e w' ⟨rfl, he⟩
  obtain rfl : w = w' := he.symm
  have ew : wrap64 (2 ^ k : Int) = ((2 ^ k : Nat) : Int) := by
    have e : (2 ^ k : Int) = ((2 ^ k : Nat) : Int) := by simp
    obtain ⟨p, hpp⟩ : ∃ p, (2 ^ k : Nat) = p := ⟨_, rfl⟩
    rw [e, hpp]
    rw [hpp] at hp
    exact wrap64_small (by omega) (by omega)
  go_wp2
  go_ret
  exact ⟨retI ew, rfl⟩
set_option maxRecDepth 100000 in
theorem xcut_any (n : Nat) (w : World) (h2 : 2 ≤ n) (hn : n ≤ 65536) :
    Calls Tryd.prog 48 #[.int .i64 (n : Int)] w fun e w' => e = .returned (.int .i64 ((cutN n : Nat) : Int)) ∧ w' = w := by
  go_enter Tryd.func48, Tryd.ntmps48
  go_wp2
  go_loopg [3] 65535 (fun gk v3 wr => ∃ (k j : Nat), v3 = .int .i64 (k : Int) ∧ k = 2 ^ j ∧ k < n ∧ gk = 65536 - k ∧ wr = w)
  case atStart => exact ⟨1, 0, rfl, rfl, by omega, rfl, rfl⟩
  case round =>
    obtain ⟨k, j, rfl, hkj, hkn, hgk, hwr⟩ := hrel
    obtain rfl : w = wr := hwr.symm
    clear hwr
    have hk0 : 0 < k := by rw [hkj]; exact Nat.two_pow_pos _
    have Hkj := hide hkj
    have Hgk := hide hgk
    clear hkj hgk
    by_cases hlt : 2 * k < n
    · have q1 : decide (2 * (k : Int) < (n : Int)) = true := decide_eq_true (by omega)
      go_wp2
      go_roundg (65536 - 2 * k)
      case measure => have := unhide Hgk; omega
      case rel => exact ⟨2 * k, j + 1, by go_num, by rw [Nat.pow_succ, ← unhide Hkj]; omega, by omega, rfl, rfl⟩
    · have q1 : decide (2 * (k : Int) < (n : Int)) = false := decide_eq_false (by omega)
      have e := cutN_eq (n := n) (j := j) (by rw [← unhide Hkj]; exact hkn) (by rw [← unhide Hkj]; omega)
      rw [← unhide Hkj] at e
      have He := hide e
      clear e
      go_wp2
      go_ret
      exact ⟨by rw [unhide He]; rfl, rfl⟩
set_option maxRecDepth 100000 in
set_option maxHeartbeats 1000000 in
theorem leafSum_any {W : World} (hK : HasK W) (hS : HasS W) {v : Value} {l : List Nat} (h : HasB W v l) (hl : Byt l) (hn : l.length ≤ 140737488351232) :
    Calls Tryd.prog 62 #[v] W fun e W' => ∃ v', e = .returned v' ∧ Bytes W.heap.size W' v' (sha (0 :: l)) ∧ Below W.heap.size W W' := by
  have b1 : Below W.heap.size W (W.alloc (.cells #[.int .u8 0] 5)) := (Below.refl _ _).alloc (Nat.le_refl _) _
  have o1 : HasB (W.alloc (.cells #[.int .u8 0] 5)) (.slice (some ⟨W.heap.size, 0, none⟩) 1 1) [0] := hasB_lit (l := [0]) (t := 5) (fr := (0, 0)) (heap_new _ _) 1 1 rfl (by decide)
  have hrow := hasBB_list (us := [.slice (some ⟨W.heap.size, 0, none⟩) 1 1, v]) (ls := [0] :: l :: []) rfl (by simp) (fun j u l' hu hl' => by
    match j, hu, hl' with
    | 0, hu, hl' => injection hu with hu; injection hl' with hl'; subst hu hl'; exact o1
    | 1, hu, hl' => injection hu with hu; injection hl' with hl'; subst hu hl'; exact h.up b1
    | j + 2, hu, _ => simp at hu) 28
  rw [World.size_alloc] at hrow
  have b2 : Below W.heap.size W ((W.alloc (.cells #[.int .u8 0] 5)).alloc (.cells #[.slice (some ⟨W.heap.size, 0, none⟩) 1 1, v] 28)) := b1.alloc (by rw [World.size_alloc]; omega) _
  have hsum := sumOf_any (hK.up b2) (hS.up b2) hrow (fun x hx => by
    rcases List.mem_cons.1 hx with rfl | hx
    · unfold Byt; decide
    · rw [List.mem_singleton.1 hx]; exact hl) (by simp; omega)
  rw [show ([0] :: l :: [] : List (List Nat)).flatten = 0 :: l by simp] at hsum
  have Hs := hide hsum
  have B2 := hide b2
  obtain ⟨va, vc, rfl, _, _⟩ := h
  clear hsum hrow b1 o1 b2
  go_enter Tryd.func62, Tryd.ntmps62
  go_wp2_with fail
  refine (unhide Hs).mono ?_
  rintro e w2 ⟨v', rfl, hB2, hb2⟩
  have HB2 := hide (hB2.lower (b' := W.heap.size) (unhide B2).size)
  have HB3 : Hid (Below W.heap.size W w2) := (unhide B2).trans (hb2.mono (unhide B2).size)
  clear hB2 hb2 Hs
  go_wp2
  go_ret
  exact ⟨v', rfl, unhide HB2, unhide HB3⟩
set_option maxRecDepth 100000 in
set_option maxHeartbeats 1000000 in
theorem aboveSum_any {W : World} (hK : HasK W) (hS : HasS W) {v u : Value} {l m : List Nat} (h : HasB W v l) (hl : Byt l) (g : HasB W u m) (hm : Byt m) (hn : l.length + m.length ≤ 140737488351232) :
    Calls Tryd.prog 64 #[v, u] W fun e W' => ∃ v', e = .returned v' ∧ Bytes W.heap.size W' v' (sha (1 :: (l ++ m))) ∧ Below W.heap.size W W' := by
  have b1 : Below W.heap.size W (W.alloc (.cells #[.int .u8 1] 5)) := (Below.refl _ _).alloc (Nat.le_refl _) _
  have o1 : HasB (W.alloc (.cells #[.int .u8 1] 5)) (.slice (some ⟨W.heap.size, 0, none⟩) 1 1) [1] := hasB_lit (l := [1]) (t := 5) (fr := (0, 0)) (heap_new _ _) 1 1 rfl (by decide)
  have hrow := hasBB_list (us := [.slice (some ⟨W.heap.size, 0, none⟩) 1 1, v, u]) (ls := [1] :: l :: m :: []) rfl (by simp) (fun j z l' hu hl' => by
    match j, hu, hl' with
    | 0, hu, hl' => injection hu with hu; injection hl' with hl'; subst hu hl'; exact o1
    | 1, hu, hl' => injection hu with hu; injection hl' with hl'; subst hu hl'; exact h.up b1
    | 2, hu, hl' => injection hu with hu; injection hl' with hl'; subst hu hl'; exact g.up b1
    | j + 3, hu, _ => simp at hu) 28
  rw [World.size_alloc] at hrow
  have b2 : Below W.heap.size W ((W.alloc (.cells #[.int .u8 1] 5)).alloc (.cells #[.slice (some ⟨W.heap.size, 0, none⟩) 1 1, v, u] 28)) := b1.alloc (by rw [World.size_alloc]; omega) _
  have hsum := sumOf_any (hK.up b2) (hS.up b2) hrow (fun x hx => by
    rcases List.mem_cons.1 hx with rfl | hx
    · unfold Byt; decide
    · rcases List.mem_cons.1 hx with rfl | hx
      · exact hl
      · rw [List.mem_singleton.1 hx]; exact hm) (by simp; omega)
  rw [show ([1] :: l :: m :: [] : List (List Nat)).flatten = 1 :: (l ++ m) by simp] at hsum
  have Hs := hide hsum
  have B2 := hide b2
  obtain ⟨va, vc, rfl, _, _⟩ := h
  obtain ⟨ua, uc, rfl, _, _⟩ := g
  clear hsum hrow b1 o1 b2
  go_enter Tryd.func64, Tryd.ntmps64
  go_wp2_with fail
  refine (unhide Hs).mono ?_
  rintro e w2 ⟨v', rfl, hB2, hb2⟩
  have HB2 := hide (hB2.lower (b' := W.heap.size) (unhide B2).size)
  have HB3 : Hid (Below W.heap.size W w2) := (unhide B2).trans (hb2.mono (unhide B2).size)
  clear hB2 hb2 Hs
  go_wp2
  go_ret
  exact ⟨v', rfl, unhide HB2, unhide HB3⟩
end Go.Proofs.YtoojchjfmnbdpabDoor
