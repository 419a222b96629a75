import Derived.WalkKit
/- Plain lists of entries, rising by their keys: no word of Go here. -/
namespace Go.Proofs.Ytcbcahnajabhfaa
abbrev KT := ByteArray
/-- Texts stand by their bytes. -/
instance kLT : LT ByteArray := ⟨fun a b => Op.bytesLess a.toList b.toList = true⟩
instance kDec (a b : KT) : Decidable (a < b) := inferInstanceAs (Decidable (Op.bytesLess a.toList b.toList = true))
instance kLE : LE ByteArray := ⟨fun a b => ¬ b < a⟩
instance kLaw : LawfulBEq ByteArray where
  eq_of_beq {a b} h := by
    cases a with | mk d => cases b with | mk e =>
    have : (d == e) = true := h
    rw [eq_of_beq this]
  rfl {a} := by
    cases a with | mk d =>
    show (d == d) = true
    simp
instance kDecLe (a b : KT) : Decidable (a ≤ b) := inferInstanceAs (Decidable (¬ b < a))
theorem kgeq_eq (t : TypeId) (a b : ByteArray) : binOp .geq t (.string a) (.string b) = pure (.bool (decide (b ≤ a))) := by
  have e : (!Op.bytesLess a.toList b.toList) = decide (b ≤ a) := by
    show _ = decide (¬ Op.bytesLess a.toList b.toList = true)
    cases Op.bytesLess a.toList b.toList <;> rfl
  rw [← e]
  simp [binOp, Op.stringOp]
theorem kless_eq (a b : ByteArray) : Op.bytesLess a.toList b.toList = decide (a < b) := by
  show _ = decide (Op.bytesLess a.toList b.toList = true)
  simp
theorem klist {a b : ByteArray} (h : a.toList = b.toList) : a = b := by
  rw [ByteArray.toList_eq, ByteArray.toList_eq] at h
  cases a with | mk d => cases b with | mk e => cases d; cases e; simp_all
theorem keq_eq (a b : ByteArray) : (a.toList == b.toList) = (a == b) := by
  by_cases h : a = b
  · subst h; simp
  · rw [beq_eq_false_iff_ne.2 h]
    exact beq_eq_false_iff_ne.2 fun e => h (klist e)
theorem kne_eq (a b : ByteArray) : (!(a == b)) = (a != b) := rfl
theorem bl_trans : ∀ {x y z : List UInt8}, Op.bytesLess x y = true → Op.bytesLess y z = true → Op.bytesLess x z = true
  | x, [], _, h, _ => by cases x <;> simp [Op.bytesLess] at h
  | _, b :: y, [], _, k => by simp [Op.bytesLess] at k
  | [], _ :: _, _ :: _, _, _ => by simp [Op.bytesLess]
  | a :: x, b :: y, c :: z, h, k => by
    simp only [Op.bytesLess, Bool.or_eq_true, decide_eq_true_eq, Bool.and_eq_true, beq_iff_eq] at h k ⊢
    rcases h with h | ⟨rfl, h⟩
    · rcases k with k | ⟨rfl, k⟩
      · exact .inl (UInt8.lt_trans h k)
      · exact .inl h
    · rcases k with k | ⟨rfl, k⟩
      · exact .inl k
      · exact .inr ⟨rfl, bl_trans h k⟩
theorem bl_irrefl : ∀ {x : List UInt8}, ¬ Op.bytesLess x x = true
  | [], h => by simp [Op.bytesLess] at h
  | a :: x, h => by
    simp only [Op.bytesLess, Bool.or_eq_true, decide_eq_true_eq, Bool.and_eq_true, beq_iff_eq] at h
    rcases h with h | ⟨_, h⟩
    · exact UInt8.lt_irrefl a h
    · exact bl_irrefl h
theorem bl_total : ∀ {x y : List UInt8}, ¬ Op.bytesLess x y = true → ¬ Op.bytesLess y x = true → x = y
  | [], [], _, _ => rfl
  | [], _ :: _, h, _ => by simp [Op.bytesLess] at h
  | _ :: _, [], _, k => by simp [Op.bytesLess] at k
  | a :: x, b :: y, h, k => by
    simp only [Op.bytesLess, Bool.or_eq_true, decide_eq_true_eq, Bool.and_eq_true, beq_iff_eq, not_or, not_and] at h k
    have e : a = b := UInt8.le_antisymm (UInt8.not_lt.1 k.1) (UInt8.not_lt.1 h.1)
    subst e
    rw [bl_total (h.2 rfl) (k.2 rfl)]
theorem klt_trans {a b c : KT} (h : a < b) (k : b < c) : a < c := bl_trans h k
theorem klt_irrefl {a : KT} (h : a < a) : False := bl_irrefl h
theorem keq_of {a b : KT} (h : ¬ a < b) (k : ¬ b < a) : a = b := klist (bl_total h k)
theorem kle_lt {a b : KT} (h : a ≤ b) (k : b < a) : a < a := (h k).elim
theorem kle_of {a b : KT} (h : ¬ a < b) : b ≤ a := h
theorem szb {n : Nat} (h : n ≤ 5864062014805) : n * 24 ≤ 140737488355328 := Nat.le_trans (Nat.mul_le_mul_right 24 h) (by decide)
/-- A key with its value. -/
abbrev Ent := KT × Int
/-- Rising by the keys. -/
def Srt (l : List Ent) : Prop := l.Pairwise fun a b => a.1 < b.1
theorem Srt.nil : Srt [] := List.Pairwise.nil
theorem srt_mid {l r : List Ent} {e : Ent} : Srt (l ++ e :: r) ↔ Srt l ∧ Srt r ∧ (∀ x ∈ l, x.1 < e.1) ∧ (∀ x ∈ r, e.1 < x.1) := by
  unfold Srt
  rw [List.pairwise_append, List.pairwise_cons]
  constructor
  · rintro ⟨h1, ⟨h2, h3⟩, h4⟩
    exact ⟨h1, h3, fun x hx => h4 x hx e (List.mem_cons_self), h2⟩
  · rintro ⟨h1, h2, h3, h4⟩
    refine ⟨h1, ⟨h4, h2⟩, fun x hx y hy => ?_⟩
    rcases List.mem_cons.1 hy with rfl | hy
    · exact h3 x hx
    · exact klt_trans (h3 x hx) (h4 y hy)
theorem srt_app {l r : List Ent} : Srt (l ++ r) ↔ Srt l ∧ Srt r ∧ (∀ x ∈ l, ∀ y ∈ r, x.1 < y.1) := by
  unfold Srt
  rw [List.pairwise_append]
theorem srt_cons {r : List Ent} {e : Ent} : Srt (e :: r) ↔ Srt r ∧ (∀ x ∈ r, e.1 < x.1) := by
  unfold Srt
  rw [List.pairwise_cons]
  exact ⟨fun h => ⟨h.2, h.1⟩, fun h => ⟨h.2, h.1⟩⟩
/-- In a rising list a key stands once. -/
theorem Srt.inj {l : List Ent} (h : Srt l) {x y : Ent} (hx : x ∈ l) (hy : y ∈ l) (e : x.1 = y.1) : x = y := by
  induction l with
  | nil => cases hx
  | cons z r ih =>
    obtain ⟨hr, hz⟩ := srt_cons.1 h
    rcases List.mem_cons.1 hx with rfl | hx'
    · rcases List.mem_cons.1 hy with rfl | hy'
      · rfl
      · exact (klt_irrefl (e ▸ hz y hy')).elim
    · rcases List.mem_cons.1 hy with rfl | hy'
      · exact (klt_irrefl (e ▸ hz x hx')).elim
      · exact ih hr hx' hy'
/-- A rising list is fixed by what stands in it. -/
theorem Srt.ext {l r : List Ent} (hl : Srt l) (hr : Srt r) (h : ∀ x, x ∈ l ↔ x ∈ r) : l = r := by
  induction l generalizing r with
  | nil =>
    cases r with
    | nil => rfl
    | cons y r => exact absurd ((h y).2 List.mem_cons_self) (by simp)
  | cons x l ih =>
    cases r with
    | nil => exact absurd ((h x).1 List.mem_cons_self) (by simp)
    | cons y r =>
      obtain ⟨hl', hx⟩ := srt_cons.1 hl
      obtain ⟨hr', hy⟩ := srt_cons.1 hr
      have e : x = y := by
        rcases List.mem_cons.1 ((h x).1 List.mem_cons_self) with e | hxr
        · exact e
        · rcases List.mem_cons.1 ((h y).2 List.mem_cons_self) with e | hyl
          · exact e.symm
          · exact (klt_irrefl (klt_trans (hx y hyl) (hy x hxr))).elim
      subst e
      congr 1
      refine ih hl' hr' fun z => ?_
      constructor
      · intro hz
        rcases List.mem_cons.1 ((h z).1 (List.mem_cons_of_mem _ hz)) with rfl | hz'
        · exact (klt_irrefl (hx z hz)).elim
        · exact hz'
      · intro hz
        rcases List.mem_cons.1 ((h z).2 (List.mem_cons_of_mem _ hz)) with rfl | hz'
        · exact (klt_irrefl (hy z hz)).elim
        · exact hz'
/-- A rising list that lies within another list is no longer than it. -/
theorem Srt.len_le {l z : List Ent} (hl : Srt l) (h : ∀ x ∈ l, x ∈ z) : l.length ≤ z.length := by
  induction l generalizing z with
  | nil => simp
  | cons x l ih =>
    obtain ⟨hl', hx⟩ := srt_cons.1 hl
    have hxz := h x List.mem_cons_self
    have := ih hl' (z := z.erase x) fun y hy => by
      have hyx : y ≠ x := fun e => by subst e; exact klt_irrefl (hx y hy)
      exact (List.mem_erase_of_ne hyx).2 (h y (List.mem_cons_of_mem _ hy))
    rw [List.length_erase_of_mem hxz] at this
    have : 0 < z.length := List.length_pos_of_mem hxz
    simp only [List.length_cons]
    omega
end Go.Proofs.Ytcbcahnajabhfaa
