import Derived.Test.YtoojchjfmnbdpaaDoorDB
namespace Go.Proofs.YtoojchjfmnbdpaaDoor
/-- One bit of the register. -/
def step1 (r : Nat) : Nat := if r % 2 = 1 then r / 2 ^^^ 2197175160 else r / 2
def steps : Nat → Nat → Nat
  | 0, r => r
  | k + 1, r => steps k (step1 r)
theorem steps_add (a b r : Nat) : steps (a + b) r = steps b (steps a r) := by
  induction a generalizing r with
  | zero => simp [steps]
  | succ a ih => rw [Nat.succ_add]; simp only [steps]; exact ih _
def bit (r : Nat) : Nat := if r % 2 = 1 then 2197175160 else 0
theorem step1_eq (r : Nat) : step1 r = r / 2 ^^^ bit r := by unfold step1 bit; split <;> simp
theorem xor_mod2 (a b : Nat) : (a ^^^ b) % 2 = (a % 2 + b % 2) % 2 := by
  have h := Nat.xor_mod_two_eq_one (a := a) (b := b)
  rcases Nat.mod_two_eq_zero_or_one (a ^^^ b) with h0 | h0 <;> rcases Nat.mod_two_eq_zero_or_one a with h1 | h1 <;> rcases Nat.mod_two_eq_zero_or_one b with h2 | h2 <;> simp_all
theorem step1_xor (a b : Nat) : step1 (a ^^^ b) = step1 a ^^^ step1 b := by
  rw [step1_eq, step1_eq, step1_eq, Nat.xor_div_two]
  have : bit (a ^^^ b) = bit a ^^^ bit b := by
    unfold bit
    rw [xor_mod2]
    rcases Nat.mod_two_eq_zero_or_one a with h1 | h1 <;> rcases Nat.mod_two_eq_zero_or_one b with h2 | h2 <;> simp [h1, h2]
  rw [this, Nat.xor_assoc, Nat.xor_assoc]
  congr 1
  rw [← Nat.xor_assoc, ← Nat.xor_assoc, Nat.xor_comm (bit a)]
theorem steps_xor (k a b : Nat) : steps k (a ^^^ b) = steps k a ^^^ steps k b := by
  induction k generalizing a b with
  | zero => rfl
  | succ k ih => simp only [steps]; rw [step1_xor, ih]
theorem steps_zero (k : Nat) : steps k 0 = 0 := by
  induction k with
  | zero => rfl
  | succ k ih => exact ih
theorem steps_shift (k r : Nat) : steps k (r * 2 ^ k) = r := by
  induction k with
  | zero => simp [steps]
  | succ k ih =>
    have : step1 (r * 2 ^ (k + 1)) = r * 2 ^ k := by
      unfold step1
      have e : r * 2 ^ (k + 1) = 2 * (r * 2 ^ k) := by rw [Nat.pow_succ]; ac_rfl
      rw [e, if_neg (by omega)]
      omega
    simp only [steps]
    rw [this, ih]
theorem split16 (r : Nat) : r = (r / 16 * 2 ^ 4) ^^^ (r % 16) := by
  have h : r / 16 * 2 ^ 4 ^^^ r % 16 = r / 16 * 2 ^ 4 + r % 16 := by
    rw [show r / 16 * 2 ^ 4 = 2 ^ 4 * (r / 16) from Nat.mul_comm _ _]
    have := Nat.two_pow_add_eq_or_of_lt (i := 4) (b := r % 16) (by omega) (r / 16)
    rw [this]
    apply Nat.eq_of_testBit_eq
    intro i
    have hb : r % 16 < 2 ^ 4 := by omega
    rw [Nat.testBit_xor, Nat.testBit_or, Nat.testBit_two_pow_mul]
    by_cases hi : 4 ≤ i
    · have : (r % 16).testBit i = false := Nat.testBit_lt_two_pow (Nat.lt_of_lt_of_le hb (Nat.pow_le_pow_right (by decide) hi))
      simp [this]
    · simp [hi]
  rw [h]; omega
def tab : List Nat := [0x00000000, 0x105ec76f, 0x20bd8ede, 0x30e349b1, 0x417b1dbc, 0x5125dad3, 0x61c69362, 0x7198540d, 0x82f63b78, 0x92a8fc17, 0xa24bb5a6, 0xb21572c9, 0xc38d26c4, 0xd3d3e1ab, 0xe330a81a, 0xf36e6f75]
theorem tab_steps : ∀ k : Fin 16, tab[k.val]? = some (steps 4 k.val) := by decide
theorem nibble (r : Nat) {t : Nat} (h : tab[r % 16]? = some t) : r / 16 ^^^ t = steps 4 r := by
  have h1 := tab_steps ⟨r % 16, by omega⟩
  simp only at h1
  rw [h] at h1
  obtain rfl := Option.some.inj h1
  conv => rhs; rw [split16 r, steps_xor, steps_shift]
theorem xor_lt {a b : Nat} (ha : a < 4294967296) (hb : b < 4294967296) : a ^^^ b < 4294967296 := Nat.xor_lt_two_pow (n := 32) ha hb
theorem step1_lt {r : Nat} (h : r < 4294967296) : step1 r < 4294967296 := by
  rw [step1_eq]
  exact xor_lt (by omega) (by unfold bit; split <;> omega)
theorem steps_lt (k : Nat) {r : Nat} (h : r < 4294967296) : steps k r < 4294967296 := by
  induction k generalizing r with
  | zero => exact h
  | succ k ih => exact ih (step1_lt h)
/-- The register behind bytes. -/
def reg : List Nat → Nat → Nat
  | [], r => r
  | c :: l, r => reg l (steps 8 (r ^^^ c))
theorem reg_append (a b : List Nat) (r : Nat) : reg (a ++ b) r = reg b (reg a r) := by
  induction a generalizing r with
  | nil => rfl
  | cons c l ih => exact ih _
theorem reg_lt : ∀ (l : List Nat), (∀ x ∈ l, x < 256) → ∀ r, r < 4294967296 → reg l r < 4294967296
  | [], _, r, h => h
  | c :: l, hl, r, h => reg_lt l (fun x hx => hl x (List.mem_cons_of_mem _ hx)) _ (steps_lt 8 (xor_lt h (by have := hl c (List.mem_cons_self); omega)))
def crc (l : List Nat) : Nat := reg l 4294967295 ^^^ 4294967295
theorem crc_lt {l : List Nat} (hl : ∀ x ∈ l, x < 256) : crc l < 4294967296 := xor_lt (reg_lt l hl _ (by decide)) (by decide)
theorem reg3 : ∀ (a b c : List Nat), a.length = b.length → b.length = c.length → ∀ r s t, reg (List.zipWith (· ^^^ ·) (List.zipWith (· ^^^ ·) a b) c) (r ^^^ s ^^^ t) = reg a r ^^^ reg b s ^^^ reg c t
  | [], [], [], _, _, r, s, t => rfl
  | x :: a, y :: b, z :: c, h1, h2, r, s, t => by
    simp only [List.zipWith_cons_cons, reg]
    rw [← reg3 a b c (by simpa using h1) (by simpa using h2)]
    congr 1
    rw [← steps_xor, ← steps_xor]
    congr 1
    have e : ∀ r s t x y z : Nat, (r ^^^ s ^^^ t) ^^^ (x ^^^ y ^^^ z) = (r ^^^ x) ^^^ (s ^^^ y) ^^^ (t ^^^ z) := by intros; ac_rfl
    exact e ..
theorem crc3 (a b c : List Nat) (h1 : a.length = b.length) (h2 : b.length = c.length) : crc (List.zipWith (· ^^^ ·) (List.zipWith (· ^^^ ·) a b) c) = crc a ^^^ crc b ^^^ crc c := by
  unfold crc
  have h := reg3 a b c h1 h2 4294967295 4294967295 4294967295
  rw [show (4294967295 ^^^ 4294967295 ^^^ 4294967295 : Nat) = 4294967295 from by decide] at h
  rw [h]
  have e : ∀ r s t o : Nat, r ^^^ s ^^^ t ^^^ o = (r ^^^ o) ^^^ (s ^^^ o) ^^^ (t ^^^ o) := by
    intro r s t o
    have e2 : (r ^^^ o) ^^^ (s ^^^ o) ^^^ (t ^^^ o) = r ^^^ s ^^^ t ^^^ o ^^^ (o ^^^ o) := by ac_rfl
    rw [e2, Nat.xor_self, Nat.xor_zero]
  exact e ..
theorem crc_known : crc [49, 50, 51, 52, 53, 54, 55, 56, 57] = 3808858755 := by decide +kernel
/-- Bytes as one number, the first one lowest. -/
def numL : List Nat → Nat
  | [] => 0
  | c :: l => c ^^^ numL l * 256
theorem xor_mul256 (a b : Nat) : (a ^^^ b) * 256 = a * 256 ^^^ b * 256 := by
  have := Nat.shiftLeft_xor_distrib (a := a) (b := b) (i := 8)
  simpa [Nat.shiftLeft_eq] using this
theorem reg_num : ∀ (l : List Nat) (r : Nat), reg l r = steps (8 * l.length) (r ^^^ numL l)
  | [], r => by simp [reg, numL, steps]
  | c :: l, r => by
    have e : 8 * (c :: l).length = 8 + 8 * l.length := by simp; omega
    rw [e, steps_add]
    simp only [reg, numL]
    rw [reg_num l, ← Nat.xor_assoc, steps_xor 8 (r ^^^ c)]
    congr 1
    have := steps_shift 8 (numL l)
    simp at this
    rw [this]
theorem step1_ne {r : Nat} (h : r < 4294967296) (h0 : r ≠ 0) : step1 r ≠ 0 := by
  unfold step1
  split
  · intro e
    have h2 : r / 2 = 2197175160 := by
      have := congrArg (· ^^^ 2197175160) e
      simp only [Nat.xor_assoc, Nat.xor_self, Nat.xor_zero, Nat.zero_xor] at this
      exact this
    omega
  · omega
theorem steps_ne (k : Nat) {r : Nat} (h : r < 4294967296) (h0 : r ≠ 0) : steps k r ≠ 0 := by
  induction k generalizing r with
  | zero => exact h0
  | succ k ih => exact ih (step1_lt h) (step1_ne h h0)
theorem burst {b c : List Nat} (hl : b.length = c.length) {at' w : Nat} (hat : at' ≤ 8 * b.length) (hw : w < 4294967296) (hn : numL c = numL b ^^^ w * 2 ^ at') : crc b = crc c ↔ w = 0 := by
  unfold crc
  rw [reg_num, reg_num, ← hl, hn]
  generalize 8 * b.length = n at *
  rw [← Nat.xor_assoc, steps_xor n (4294967295 ^^^ numL b)]
  obtain ⟨m, rfl⟩ : ∃ m, n = at' + m := ⟨n - at', by omega⟩
  rw [steps_add at' m (w * 2 ^ at'), steps_shift]
  generalize steps (at' + m) (4294967295 ^^^ numL b) = p
  constructor
  · intro h
    apply Decidable.byContradiction
    intro h0
    apply steps_ne m hw h0
    have h1 := congrArg (fun x => p ^^^ (x ^^^ 4294967295)) h
    simp only [Nat.xor_assoc, Nat.xor_self, Nat.xor_zero] at h1
    rw [← Nat.xor_assoc p p, Nat.xor_self, Nat.zero_xor] at h1
    exact h1.symm
  · rintro rfl
    rw [steps_zero, Nat.xor_zero]
end Go.Proofs.YtoojchjfmnbdpaaDoor
