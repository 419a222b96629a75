import Derived.Test.YtlblllghgdfpoaaDoorDB

namespace Go.Proofs.YtlblllghgdfpoaaDoor
def rotr (x n : Nat) : Nat := (x / 2 ^ n ||| x * 2 ^ (32 - n)) % 4294967296
def kw : List Nat := [0x428a2f98, 0x71374491, 0xb5c0fbcf, 0xe9b5dba5, 0x3956c25b, 0x59f111f1, 0x923f82a4, 0xab1c5ed5,
  0xd807aa98, 0x12835b01, 0x243185be, 0x550c7dc3, 0x72be5d74, 0x80deb1fe, 0x9bdc06a7, 0xc19bf174,
  0xe49b69c1, 0xefbe4786, 0x0fc19dc6, 0x240ca1cc, 0x2de92c6f, 0x4a7484aa, 0x5cb0a9dc, 0x76f988da,
  0x983e5152, 0xa831c66d, 0xb00327c8, 0xbf597fc7, 0xc6e00bf3, 0xd5a79147, 0x06ca6351, 0x14292967,
  0x27b70a85, 0x2e1b2138, 0x4d2c6dfc, 0x53380d13, 0x650a7354, 0x766a0abb, 0x81c2c92e, 0x92722c85,
  0xa2bfe8a1, 0xa81a664b, 0xc24b8b70, 0xc76c51a3, 0xd192e819, 0xd6990624, 0xf40e3585, 0x106aa070,
  0x19a4c116, 0x1e376c08, 0x2748774c, 0x34b0bcb5, 0x391c0cb3, 0x4ed8aa4a, 0x5b9cca4f, 0x682e6ff3,
  0x748f82ee, 0x78a5636f, 0x84c87814, 0x8cc70208, 0x90befffa, 0xa4506ceb, 0xbef9a3f7, 0xc67178f2]
def s0 : List Nat := [0x6a09e667, 0xbb67ae85, 0x3c6ef372, 0xa54ff53a, 0x510e527f, 0x9b05688c, 0x1f83d9ab, 0x5be0cd19]
def sig0 (q : Nat) : Nat := rotr q 7 ^^^ rotr q 18 ^^^ q / 8
def sig1 (p : Nat) : Nat := rotr p 17 ^^^ rotr p 19 ^^^ p / 1024
/-- The next word. -/
def nextW (l : List Nat) : Nat := (sig1 (l.getD (l.length - 2) 0) + l.getD (l.length - 7) 0 + sig0 (l.getD (l.length - 15) 0) + l.getD (l.length - 16) 0) % 4294967296
def ext : Nat → List Nat → List Nat
  | 0, l => l
  | k + 1, l => ext k (l ++ [nextW l])
def big0 (a : Nat) : Nat := rotr a 2 ^^^ rotr a 13 ^^^ rotr a 22
def big1 (e : Nat) : Nat := rotr e 6 ^^^ rotr e 11 ^^^ rotr e 25
def ch (e f g : Nat) : Nat := e &&& f ||| (e ^^^ 4294967295) &&& g
def maj (a b c : Nat) : Nat := a &&& b ||| a &&& c ||| b &&& c
structure St where
  a : Nat
  b : Nat
  c : Nat
  d : Nat
  e : Nat
  f : Nat
  g : Nat
  h : Nat
deriving DecidableEq
def St.list (v : St) : List Nat := [v.a, v.b, v.c, v.d, v.e, v.f, v.g, v.h]
def rnd (v : St) (k w : Nat) : St :=
  let x := v.h + big1 v.e + ch v.e v.f v.g + k + w
  let y := big0 v.a + maj v.a v.b v.c
  ⟨(x + y) % 4294967296, v.a, v.b, v.c, (v.d + x) % 4294967296, v.e, v.f, v.g⟩
def rnds : List Nat → List Nat → St → St
  | k :: ks, w :: ws, v => rnds ks ws (rnd v k w)
  | _, _, v => v
def St.add (s v : St) : St := ⟨(s.a + v.a) % 4294967296, (s.b + v.b) % 4294967296, (s.c + v.c) % 4294967296, (s.d + v.d) % 4294967296, (s.e + v.e) % 4294967296, (s.f + v.f) % 4294967296, (s.g + v.g) % 4294967296, (s.h + v.h) % 4294967296⟩
def word : List Nat → Nat
  | [] => 0
  | b => b.foldl (fun x y => 256 * x + y) 0
def wordsL : Nat → List Nat → List Nat
  | 0, _ => []
  | n + 1, l => word (l.take 4) :: wordsL n (l.drop 4)
def block (s : St) (w16 : List Nat) : St := s.add (rnds kw (ext 48 w16) s)
def run : Nat → St → List Nat → St
  | 0, s, _ => s
  | n + 1, s, l => run n (block s (wordsL 16 (l.take 64))) (l.drop 64)
def st0 : St := ⟨0x6a09e667, 0xbb67ae85, 0x3c6ef372, 0xa54ff53a, 0x510e527f, 0x9b05688c, 0x1f83d9ab, 0x5be0cd19⟩
def zeros (n : Nat) : Nat := (64 - (n + 9) % 64) % 64
def be8 (n : Nat) : List Nat := [n / 2 ^ 56 % 256, n / 2 ^ 48 % 256, n / 2 ^ 40 % 256, n / 2 ^ 32 % 256, n / 2 ^ 24 % 256, n / 2 ^ 16 % 256, n / 2 ^ 8 % 256, n % 256]
def padding (n : Nat) : List Nat := 128 :: (List.replicate (zeros n) 0 ++ be8 (8 * n))
def be4 (n : Nat) : List Nat := [n / 16777216 % 256, n / 65536 % 256, n / 256 % 256, n % 256]
def St.bytes (v : St) : List Nat := be4 v.a ++ be4 v.b ++ be4 v.c ++ be4 v.d ++ be4 v.e ++ be4 v.f ++ be4 v.g ++ be4 v.h
def stOf (l : List Nat) : St := run (l.length / 64) st0 l
def sha (l : List Nat) : List Nat := (stOf (l ++ padding l.length)).bytes

/-- A number, reckoned first. -/
def force {α : Type} (n : Nat) (f : Nat → α) : α := Nat.rec (motive := fun _ => α) (f 0) (fun m _ => f (m + 1)) n
theorem force_eq {α : Type} (n : Nat) (f : Nat → α) : force n f = f n := by cases n <;> rfl
def rndsF : List Nat → List Nat → Nat → Nat → Nat → Nat → Nat → Nat → Nat → Nat → St
  | k :: ks, w :: ws, a, b, c, d, e, f, g, h =>
    force (h + big1 e + ch e f g + k + w) fun x => force ((x + (big0 a + maj a b c)) % 4294967296) fun a' => force ((d + x) % 4294967296) fun e' => rndsF ks ws a' a b c e' e f g
  | _, _, a, b, c, d, e, f, g, h => ⟨a, b, c, d, e, f, g, h⟩
theorem rndsF_eq : ∀ (ks ws : List Nat) (v : St), rndsF ks ws v.a v.b v.c v.d v.e v.f v.g v.h = rnds ks ws v
  | [], _, v => by simp [rndsF, rnds]
  | _ :: _, [], v => by simp [rndsF, rnds]
  | k :: ks, w :: ws, v => by
    simp only [rndsF, rnds, force_eq]
    exact rndsF_eq ks ws (rnd v k w)
/-- The words, the newest first. -/
def extF : Nat → List Nat → List Nat
  | 0, l => l
  | k + 1, l => force ((sig1 (l.getD 1 0) + l.getD 6 0 + sig0 (l.getD 14 0) + l.getD 15 0) % 4294967296) fun x => extF k (x :: l)
theorem getD_rev (l : List Nat) (k : Nat) (h : k < l.length) : l.reverse.getD k 0 = l.getD (l.length - (k + 1)) 0 := by
  rw [List.getD_eq_getElem?_getD, List.getD_eq_getElem?_getD, List.getElem?_reverse h]
  congr 2
  omega
theorem extF_eq : ∀ (k : Nat) (l : List Nat), 16 ≤ l.length → extF k l.reverse = (ext k l).reverse
  | 0, l, _ => rfl
  | k + 1, l, h => by
    simp only [extF, ext, force_eq]
    rw [getD_rev l 1 (by omega), getD_rev l 6 (by omega), getD_rev l 14 (by omega), getD_rev l 15 (by omega)]
    have := extF_eq k (l ++ [nextW l]) (by simp; omega)
    rw [List.reverse_append] at this
    exact this
def wordsF : Nat → List Nat → List Nat → List Nat
  | 0, _, acc => acc
  | n + 1, l, acc => force (word (l.take 4)) fun x => wordsF n (l.drop 4) (x :: acc)
theorem wordsF_eq : ∀ (n : Nat) (l acc : List Nat), wordsF n l acc = (wordsL n l).reverse ++ acc
  | 0, _, _ => rfl
  | n + 1, l, acc => by
    simp only [wordsF, wordsL, force_eq]
    rw [wordsF_eq n]
    simp
theorem wordsL_len : ∀ (n : Nat) (l : List Nat), (wordsL n l).length = n
  | 0, _ => rfl
  | n + 1, l => by simp [wordsL, wordsL_len n]
def blockF (s : St) (l : List Nat) : St := s.add (rndsF kw (extF 48 (wordsF 16 l [])).reverse s.a s.b s.c s.d s.e s.f s.g s.h)
theorem blockF_eq (s : St) (l : List Nat) : blockF s l = block s (wordsL 16 l) := by
  unfold blockF block
  rw [wordsF_eq, List.append_nil, extF_eq 48 _ (by rw [wordsL_len]; decide), List.reverse_reverse, rndsF_eq]
def forceS {α : Type} (s : St) (f : St → α) : α :=
  force s.a fun a => force s.b fun b => force s.c fun c => force s.d fun d => force s.e fun e => force s.f fun f' => force s.g fun g => force s.h fun h => f ⟨a, b, c, d, e, f', g, h⟩
theorem forceS_eq {α : Type} (s : St) (f : St → α) : forceS s f = f s := by simp [forceS, force_eq]
def runF : Nat → St → List Nat → St
  | 0, s, _ => s
  | n + 1, s, l => forceS (blockF s (l.take 64)) fun s' => runF n s' (l.drop 64)
theorem runF_eq : ∀ (n : Nat) (s : St) (l : List Nat), runF n s l = run n s l
  | 0, _, _ => rfl
  | n + 1, s, l => by
    simp only [runF, run, forceS_eq, blockF_eq]
    exact runF_eq n _ _
def shaF (l : List Nat) : List Nat := (runF ((l ++ padding l.length).length / 64) st0 (l ++ padding l.length)).bytes
theorem shaF_eq (l : List Nat) : sha l = shaF l := by unfold sha shaF stOf; rw [runF_eq]
end Go.Proofs.YtlblllghgdfpoaaDoor

namespace Go.Proofs.YtlblllghgdfpoaaDoor
open Go.RowKit
attribute [local go_sem ↓] Go.wp_at_zero Go.wp_at_succ

theorem or_mod (a b : Nat) : (a ||| b) % 4294967296 = (a % 4294967296) ||| (b % 4294967296) := by
  have := Nat.or_mod_two_pow (a := a) (b := b) (n := 32)
  simpa using this
theorem rotr_lt (x n : Nat) : rotr x n < 4294967296 := Nat.mod_lt _ (by decide)
theorem rot_7 (W : World) (x : Nat) (hx : x < 4294967296) : Calls Tryd.prog 74 #[.int .u32 (x : Int), .int .i64 (-7)] W fun e W' => e = .returned (.int .u32 ((rotr x 7 : Nat) : Int)) ∧ W' = W := by
  have ha : bits .and .u64 (IntKind.u64.wrap (-7)) 31 = 25 := by decide +kernel
  have ho : bits .or .u32 ((x : Int) * 33554432 % 4294967296) ((x : Int) / 128) = ((rotr x 7 : Nat) : Int) := by
    rw [show (x : Int) * 33554432 % 4294967296 = ((x * 2 ^ 25 % 4294967296 : Nat) : Int) by omega, show (x : Int) / 128 = ((x / 2 ^ 7 : Nat) : Int) by omega, u32_or_nat _ _ (by omega) (by omega)]
    unfold rotr
    rw [or_mod, Nat.or_comm, show x / 2 ^ 7 % 4294967296 = x / 2 ^ 7 by omega]
  go_enter Tryd.func74, Tryd.ntmps74
  go_wp2
  go_ret
  exact ⟨by first | rfl | (refine congrArg Ending.returned (congrArg (Value.int .u32) ?_); exact ho), rfl⟩
theorem rot_2 (W : World) (x : Nat) (hx : x < 4294967296) : Calls Tryd.prog 74 #[.int .u32 (x : Int), .int .i64 (-2)] W fun e W' => e = .returned (.int .u32 ((rotr x 2 : Nat) : Int)) ∧ W' = W := by
  have ha : bits .and .u64 (IntKind.u64.wrap (-2)) 31 = 30 := by decide +kernel
  have ho : bits .or .u32 ((x : Int) * 1073741824 % 4294967296) ((x : Int) / 4) = ((rotr x 2 : Nat) : Int) := by
    rw [show (x : Int) * 1073741824 % 4294967296 = ((x * 2 ^ 30 % 4294967296 : Nat) : Int) by omega, show (x : Int) / 4 = ((x / 2 ^ 2 : Nat) : Int) by omega, u32_or_nat _ _ (by omega) (by omega)]
    unfold rotr
    rw [or_mod, Nat.or_comm, show x / 2 ^ 2 % 4294967296 = x / 2 ^ 2 by omega]
  go_enter Tryd.func74, Tryd.ntmps74
  go_wp2
  go_ret
  exact ⟨by first | rfl | (refine congrArg Ending.returned (congrArg (Value.int .u32) ?_); exact ho), rfl⟩
theorem rot_6 (W : World) (x : Nat) (hx : x < 4294967296) : Calls Tryd.prog 74 #[.int .u32 (x : Int), .int .i64 (-6)] W fun e W' => e = .returned (.int .u32 ((rotr x 6 : Nat) : Int)) ∧ W' = W := by
  have ha : bits .and .u64 (IntKind.u64.wrap (-6)) 31 = 26 := by decide +kernel
  have ho : bits .or .u32 ((x : Int) * 67108864 % 4294967296) ((x : Int) / 64) = ((rotr x 6 : Nat) : Int) := by
    rw [show (x : Int) * 67108864 % 4294967296 = ((x * 2 ^ 26 % 4294967296 : Nat) : Int) by omega, show (x : Int) / 64 = ((x / 2 ^ 6 : Nat) : Int) by omega, u32_or_nat _ _ (by omega) (by omega)]
    unfold rotr
    rw [or_mod, Nat.or_comm, show x / 2 ^ 6 % 4294967296 = x / 2 ^ 6 by omega]
  go_enter Tryd.func74, Tryd.ntmps74
  go_wp2
  go_ret
  exact ⟨by first | rfl | (refine congrArg Ending.returned (congrArg (Value.int .u32) ?_); exact ho), rfl⟩
theorem rot_11 (W : World) (x : Nat) (hx : x < 4294967296) : Calls Tryd.prog 74 #[.int .u32 (x : Int), .int .i64 (-11)] W fun e W' => e = .returned (.int .u32 ((rotr x 11 : Nat) : Int)) ∧ W' = W := by
  have ha : bits .and .u64 (IntKind.u64.wrap (-11)) 31 = 21 := by decide +kernel
  have ho : bits .or .u32 ((x : Int) * 2097152 % 4294967296) ((x : Int) / 2048) = ((rotr x 11 : Nat) : Int) := by
    rw [show (x : Int) * 2097152 % 4294967296 = ((x * 2 ^ 21 % 4294967296 : Nat) : Int) by omega, show (x : Int) / 2048 = ((x / 2 ^ 11 : Nat) : Int) by omega, u32_or_nat _ _ (by omega) (by omega)]
    unfold rotr
    rw [or_mod, Nat.or_comm, show x / 2 ^ 11 % 4294967296 = x / 2 ^ 11 by omega]
  go_enter Tryd.func74, Tryd.ntmps74
  go_wp2
  go_ret
  exact ⟨by first | rfl | (refine congrArg Ending.returned (congrArg (Value.int .u32) ?_); exact ho), rfl⟩
theorem rot_13 (W : World) (x : Nat) (hx : x < 4294967296) : Calls Tryd.prog 74 #[.int .u32 (x : Int), .int .i64 (-13)] W fun e W' => e = .returned (.int .u32 ((rotr x 13 : Nat) : Int)) ∧ W' = W := by
  have ha : bits .and .u64 (IntKind.u64.wrap (-13)) 31 = 19 := by decide +kernel
  have ho : bits .or .u32 ((x : Int) * 524288 % 4294967296) ((x : Int) / 8192) = ((rotr x 13 : Nat) : Int) := by
    rw [show (x : Int) * 524288 % 4294967296 = ((x * 2 ^ 19 % 4294967296 : Nat) : Int) by omega, show (x : Int) / 8192 = ((x / 2 ^ 13 : Nat) : Int) by omega, u32_or_nat _ _ (by omega) (by omega)]
    unfold rotr
    rw [or_mod, Nat.or_comm, show x / 2 ^ 13 % 4294967296 = x / 2 ^ 13 by omega]
  go_enter Tryd.func74, Tryd.ntmps74
  go_wp2
  go_ret
  exact ⟨by first | rfl | (refine congrArg Ending.returned (congrArg (Value.int .u32) ?_); exact ho), rfl⟩
theorem rot_17 (W : World) (x : Nat) (hx : x < 4294967296) : Calls Tryd.prog 74 #[.int .u32 (x : Int), .int .i64 (-17)] W fun e W' => e = .returned (.int .u32 ((rotr x 17 : Nat) : Int)) ∧ W' = W := by
  have ha : bits .and .u64 (IntKind.u64.wrap (-17)) 31 = 15 := by decide +kernel
  have ho : bits .or .u32 ((x : Int) * 32768 % 4294967296) ((x : Int) / 131072) = ((rotr x 17 : Nat) : Int) := by
    rw [show (x : Int) * 32768 % 4294967296 = ((x * 2 ^ 15 % 4294967296 : Nat) : Int) by omega, show (x : Int) / 131072 = ((x / 2 ^ 17 : Nat) : Int) by omega, u32_or_nat _ _ (by omega) (by omega)]
    unfold rotr
    rw [or_mod, Nat.or_comm, show x / 2 ^ 17 % 4294967296 = x / 2 ^ 17 by omega]
  go_enter Tryd.func74, Tryd.ntmps74
  go_wp2
  go_ret
  exact ⟨by first | rfl | (refine congrArg Ending.returned (congrArg (Value.int .u32) ?_); exact ho), rfl⟩
theorem rot_18 (W : World) (x : Nat) (hx : x < 4294967296) : Calls Tryd.prog 74 #[.int .u32 (x : Int), .int .i64 (-18)] W fun e W' => e = .returned (.int .u32 ((rotr x 18 : Nat) : Int)) ∧ W' = W := by
  have ha : bits .and .u64 (IntKind.u64.wrap (-18)) 31 = 14 := by decide +kernel
  have ho : bits .or .u32 ((x : Int) * 16384 % 4294967296) ((x : Int) / 262144) = ((rotr x 18 : Nat) : Int) := by
    rw [show (x : Int) * 16384 % 4294967296 = ((x * 2 ^ 14 % 4294967296 : Nat) : Int) by omega, show (x : Int) / 262144 = ((x / 2 ^ 18 : Nat) : Int) by omega, u32_or_nat _ _ (by omega) (by omega)]
    unfold rotr
    rw [or_mod, Nat.or_comm, show x / 2 ^ 18 % 4294967296 = x / 2 ^ 18 by omega]
  go_enter Tryd.func74, Tryd.ntmps74
  go_wp2
  go_ret
  exact ⟨by first | rfl | (refine congrArg Ending.returned (congrArg (Value.int .u32) ?_); exact ho), rfl⟩
theorem rot_19 (W : World) (x : Nat) (hx : x < 4294967296) : Calls Tryd.prog 74 #[.int .u32 (x : Int), .int .i64 (-19)] W fun e W' => e = .returned (.int .u32 ((rotr x 19 : Nat) : Int)) ∧ W' = W := by
  have ha : bits .and .u64 (IntKind.u64.wrap (-19)) 31 = 13 := by decide +kernel
  have ho : bits .or .u32 ((x : Int) * 8192 % 4294967296) ((x : Int) / 524288) = ((rotr x 19 : Nat) : Int) := by
    rw [show (x : Int) * 8192 % 4294967296 = ((x * 2 ^ 13 % 4294967296 : Nat) : Int) by omega, show (x : Int) / 524288 = ((x / 2 ^ 19 : Nat) : Int) by omega, u32_or_nat _ _ (by omega) (by omega)]
    unfold rotr
    rw [or_mod, Nat.or_comm, show x / 2 ^ 19 % 4294967296 = x / 2 ^ 19 by omega]
  go_enter Tryd.func74, Tryd.ntmps74
  go_wp2
  go_ret
  exact ⟨by first | rfl | (refine congrArg Ending.returned (congrArg (Value.int .u32) ?_); exact ho), rfl⟩
theorem rot_22 (W : World) (x : Nat) (hx : x < 4294967296) : Calls Tryd.prog 74 #[.int .u32 (x : Int), .int .i64 (-22)] W fun e W' => e = .returned (.int .u32 ((rotr x 22 : Nat) : Int)) ∧ W' = W := by
  have ha : bits .and .u64 (IntKind.u64.wrap (-22)) 31 = 10 := by decide +kernel
  have ho : bits .or .u32 ((x : Int) * 1024 % 4294967296) ((x : Int) / 4194304) = ((rotr x 22 : Nat) : Int) := by
    rw [show (x : Int) * 1024 % 4294967296 = ((x * 2 ^ 10 % 4294967296 : Nat) : Int) by omega, show (x : Int) / 4194304 = ((x / 2 ^ 22 : Nat) : Int) by omega, u32_or_nat _ _ (by omega) (by omega)]
    unfold rotr
    rw [or_mod, Nat.or_comm, show x / 2 ^ 22 % 4294967296 = x / 2 ^ 22 by omega]
  go_enter Tryd.func74, Tryd.ntmps74
  go_wp2
  go_ret
  exact ⟨by first | rfl | (refine congrArg Ending.returned (congrArg (Value.int .u32) ?_); exact ho), rfl⟩
theorem rot_25 (W : World) (x : Nat) (hx : x < 4294967296) : Calls Tryd.prog 74 #[.int .u32 (x : Int), .int .i64 (-25)] W fun e W' => e = .returned (.int .u32 ((rotr x 25 : Nat) : Int)) ∧ W' = W := by
  have ha : bits .and .u64 (IntKind.u64.wrap (-25)) 31 = 7 := by decide +kernel
  have ho : bits .or .u32 ((x : Int) * 128 % 4294967296) ((x : Int) / 33554432) = ((rotr x 25 : Nat) : Int) := by
    rw [show (x : Int) * 128 % 4294967296 = ((x * 2 ^ 7 % 4294967296 : Nat) : Int) by omega, show (x : Int) / 33554432 = ((x / 2 ^ 25 : Nat) : Int) by omega, u32_or_nat _ _ (by omega) (by omega)]
    unfold rotr
    rw [or_mod, Nat.or_comm, show x / 2 ^ 25 % 4294967296 = x / 2 ^ 25 by omega]
  go_enter Tryd.func74, Tryd.ntmps74
  go_wp2
  go_ret
  exact ⟨by first | rfl | (refine congrArg Ending.returned (congrArg (Value.int .u32) ?_); exact ho), rfl⟩
set_option maxHeartbeats 1000000 in
theorem turned_2 (W : World) (x : Nat) (hx : x < 4294967296) : Calls Tryd.prog 71 #[.int .u32 (x : Int), .int .i64 2] W fun e W' => e = .returned (.int .u32 ((rotr x 2 : Nat) : Int)) ∧ W' = W := by
  go_enter Tryd.func71, Tryd.ntmps71
  go_wp2_with fail
  refine (rot_2 W x hx).mono ?_
  rintro e w' ⟨rfl, he⟩
  obtain rfl : W = w' := he.symm
  go_wp2
  go_ret
  exact ⟨rfl, rfl⟩
set_option maxHeartbeats 1000000 in
theorem turned_6 (W : World) (x : Nat) (hx : x < 4294967296) : Calls Tryd.prog 71 #[.int .u32 (x : Int), .int .i64 6] W fun e W' => e = .returned (.int .u32 ((rotr x 6 : Nat) : Int)) ∧ W' = W := by
  go_enter Tryd.func71, Tryd.ntmps71
  go_wp2_with fail
  refine (rot_6 W x hx).mono ?_
  rintro e w' ⟨rfl, he⟩
  obtain rfl : W = w' := he.symm
  go_wp2
  go_ret
  exact ⟨rfl, rfl⟩
set_option maxHeartbeats 1000000 in
theorem turned_7 (W : World) (x : Nat) (hx : x < 4294967296) : Calls Tryd.prog 71 #[.int .u32 (x : Int), .int .i64 7] W fun e W' => e = .returned (.int .u32 ((rotr x 7 : Nat) : Int)) ∧ W' = W := by
  go_enter Tryd.func71, Tryd.ntmps71
  go_wp2_with fail
  refine (rot_7 W x hx).mono ?_
  rintro e w' ⟨rfl, he⟩
  obtain rfl : W = w' := he.symm
  go_wp2
  go_ret
  exact ⟨rfl, rfl⟩
set_option maxHeartbeats 1000000 in
theorem turned_11 (W : World) (x : Nat) (hx : x < 4294967296) : Calls Tryd.prog 71 #[.int .u32 (x : Int), .int .i64 11] W fun e W' => e = .returned (.int .u32 ((rotr x 11 : Nat) : Int)) ∧ W' = W := by
  go_enter Tryd.func71, Tryd.ntmps71
  go_wp2_with fail
  refine (rot_11 W x hx).mono ?_
  rintro e w' ⟨rfl, he⟩
  obtain rfl : W = w' := he.symm
  go_wp2
  go_ret
  exact ⟨rfl, rfl⟩
set_option maxHeartbeats 1000000 in
theorem turned_13 (W : World) (x : Nat) (hx : x < 4294967296) : Calls Tryd.prog 71 #[.int .u32 (x : Int), .int .i64 13] W fun e W' => e = .returned (.int .u32 ((rotr x 13 : Nat) : Int)) ∧ W' = W := by
  go_enter Tryd.func71, Tryd.ntmps71
  go_wp2_with fail
  refine (rot_13 W x hx).mono ?_
  rintro e w' ⟨rfl, he⟩
  obtain rfl : W = w' := he.symm
  go_wp2
  go_ret
  exact ⟨rfl, rfl⟩
set_option maxHeartbeats 1000000 in
theorem turned_17 (W : World) (x : Nat) (hx : x < 4294967296) : Calls Tryd.prog 71 #[.int .u32 (x : Int), .int .i64 17] W fun e W' => e = .returned (.int .u32 ((rotr x 17 : Nat) : Int)) ∧ W' = W := by
  go_enter Tryd.func71, Tryd.ntmps71
  go_wp2_with fail
  refine (rot_17 W x hx).mono ?_
  rintro e w' ⟨rfl, he⟩
  obtain rfl : W = w' := he.symm
  go_wp2
  go_ret
  exact ⟨rfl, rfl⟩
set_option maxHeartbeats 1000000 in
theorem turned_18 (W : World) (x : Nat) (hx : x < 4294967296) : Calls Tryd.prog 71 #[.int .u32 (x : Int), .int .i64 18] W fun e W' => e = .returned (.int .u32 ((rotr x 18 : Nat) : Int)) ∧ W' = W := by
  go_enter Tryd.func71, Tryd.ntmps71
  go_wp2_with fail
  refine (rot_18 W x hx).mono ?_
  rintro e w' ⟨rfl, he⟩
  obtain rfl : W = w' := he.symm
  go_wp2
  go_ret
  exact ⟨rfl, rfl⟩
set_option maxHeartbeats 1000000 in
theorem turned_19 (W : World) (x : Nat) (hx : x < 4294967296) : Calls Tryd.prog 71 #[.int .u32 (x : Int), .int .i64 19] W fun e W' => e = .returned (.int .u32 ((rotr x 19 : Nat) : Int)) ∧ W' = W := by
  go_enter Tryd.func71, Tryd.ntmps71
  go_wp2_with fail
  refine (rot_19 W x hx).mono ?_
  rintro e w' ⟨rfl, he⟩
  obtain rfl : W = w' := he.symm
  go_wp2
  go_ret
  exact ⟨rfl, rfl⟩
set_option maxHeartbeats 1000000 in
theorem turned_22 (W : World) (x : Nat) (hx : x < 4294967296) : Calls Tryd.prog 71 #[.int .u32 (x : Int), .int .i64 22] W fun e W' => e = .returned (.int .u32 ((rotr x 22 : Nat) : Int)) ∧ W' = W := by
  go_enter Tryd.func71, Tryd.ntmps71
  go_wp2_with fail
  refine (rot_22 W x hx).mono ?_
  rintro e w' ⟨rfl, he⟩
  obtain rfl : W = w' := he.symm
  go_wp2
  go_ret
  exact ⟨rfl, rfl⟩
set_option maxHeartbeats 1000000 in
theorem turned_25 (W : World) (x : Nat) (hx : x < 4294967296) : Calls Tryd.prog 71 #[.int .u32 (x : Int), .int .i64 25] W fun e W' => e = .returned (.int .u32 ((rotr x 25 : Nat) : Int)) ∧ W' = W := by
  go_enter Tryd.func71, Tryd.ntmps71
  go_wp2_with fail
  refine (rot_25 W x hx).mono ?_
  rintro e w' ⟨rfl, he⟩
  obtain rfl : W = w' := he.symm
  go_wp2
  go_ret
  exact ⟨rfl, rfl⟩
theorem and_lt32 {a b : Nat} (ha : a < 4294967296) : a &&& b < 4294967296 := Nat.lt_of_le_of_lt Nat.and_le_left ha
theorem or_lt32 {a b : Nat} (ha : a < 4294967296) (hb : b < 4294967296) : a ||| b < 4294967296 := Nat.or_lt_two_pow (n := 32) ha hb
theorem xor_lt32 {a b : Nat} (ha : a < 4294967296) (hb : b < 4294967296) : a ^^^ b < 4294967296 := Nat.xor_lt_two_pow (n := 32) ha hb
theorem ch_lt {e f g : Nat} (he : e < 4294967296) : ch e f g < 4294967296 := or_lt32 (and_lt32 he) (and_lt32 (xor_lt32 he (by decide)))
theorem maj_lt {a b c : Nat} (ha : a < 4294967296) (hb : b < 4294967296) : maj a b c < 4294967296 := or_lt32 (or_lt32 (and_lt32 ha) (and_lt32 ha)) (and_lt32 hb)
theorem choose_any (W : World) (e f g : Nat) (he : e < 4294967296) (hf : f < 4294967296) (hg : g < 4294967296) : Calls Tryd.prog 72 #[.int .u32 (e : Int), .int .u32 (f : Int), .int .u32 (g : Int)] W fun r W' => r = .returned (.int .u32 ((ch e f g : Nat) : Int)) ∧ W' = W := by
  have b1 : bits .and .u32 (e : Int) (f : Int) = ((e &&& f : Nat) : Int) := u32_and_nat e f he hf
  have b2 : bits .xor .u32 IntKind.u32.max (e : Int) = ((e ^^^ 4294967295 : Nat) : Int) := by rw [show IntKind.u32.max = ((4294967295 : Nat) : Int) from rfl, u32_xor_nat _ _ (by decide) he, Nat.xor_comm]
  have b3 : bits .and .u32 ((e ^^^ 4294967295 : Nat) : Int) (g : Int) = (((e ^^^ 4294967295) &&& g : Nat) : Int) := u32_and_nat _ _ (xor_lt32 he (by decide)) hg
  have b4 : bits .or .u32 ((e &&& f : Nat) : Int) (((e ^^^ 4294967295) &&& g : Nat) : Int) = ((ch e f g : Nat) : Int) := u32_or_nat _ _ (and_lt32 he) (and_lt32 (xor_lt32 he (by decide)))
  generalize ch e f g = r at *
  generalize (e ^^^ 4294967295) &&& g = r1 at *
  generalize e ^^^ 4294967295 = r2 at *
  generalize e &&& f = r3 at *
  clear he hf hg
  go_enter Tryd.func72, Tryd.ntmps72
  go_wp2
  go_ret
  exact ⟨rfl, rfl⟩
theorem most_any (W : World) (a b c : Nat) (ha : a < 4294967296) (hb : b < 4294967296) (hc : c < 4294967296) : Calls Tryd.prog 73 #[.int .u32 (a : Int), .int .u32 (b : Int), .int .u32 (c : Int)] W fun r W' => r = .returned (.int .u32 ((maj a b c : Nat) : Int)) ∧ W' = W := by
  have b1 : bits .and .u32 (a : Int) (b : Int) = ((a &&& b : Nat) : Int) := u32_and_nat a b ha hb
  have b2 : bits .and .u32 (a : Int) (c : Int) = ((a &&& c : Nat) : Int) := u32_and_nat a c ha hc
  have b3 : bits .and .u32 (b : Int) (c : Int) = ((b &&& c : Nat) : Int) := u32_and_nat b c hb hc
  have b4 : bits .or .u32 ((a &&& b : Nat) : Int) ((a &&& c : Nat) : Int) = ((a &&& b ||| a &&& c : Nat) : Int) := u32_or_nat _ _ (and_lt32 ha) (and_lt32 ha)
  have b5 : bits .or .u32 ((a &&& b ||| a &&& c : Nat) : Int) ((b &&& c : Nat) : Int) = ((maj a b c : Nat) : Int) := u32_or_nat _ _ (or_lt32 (and_lt32 ha) (and_lt32 ha)) (and_lt32 hb)
  generalize maj a b c = r at *
  generalize a &&& b ||| a &&& c = r1 at *
  generalize a &&& b = r2 at *
  generalize a &&& c = r3 at *
  generalize b &&& c = r4 at *
  clear ha hb hc
  go_enter Tryd.func73, Tryd.ntmps73
  go_wp2
  go_ret
  exact ⟨rfl, rfl⟩
end Go.Proofs.YtlblllghgdfpoaaDoor
