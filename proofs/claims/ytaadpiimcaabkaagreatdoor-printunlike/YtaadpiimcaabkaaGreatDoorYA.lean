import Derived.Test.YtaadpiimcaabkaaGreatDoorJ00
import Derived.Outline

namespace Go.Proofs.YtaadpiimcaabkaaGreatDoor
open Go.RowKit
attribute [local go_sem ↓] Go.wp_at_zero Go.wp_at_succ

/-- A function value that may be called: its number, what it holds. -/
structure Fv where
  f : FuncId
  fs : Array Value
  cp : Array Value
def Fv.val (f : Fv) : Value := .func (.func f.f) f.fs f.cp
def Fv.ok (f : Fv) : Prop := ∀ vs w, (callFunc f.f vs).run Tryz.prog w = .ok (.enter f.f vs) w
/-- Whether all say yes, one behind the other, from i on; the first no ends it. -/
def allN {σ : Type} (p : Nat → σ → Option σ) : Nat → Nat → σ → Option σ
  | 0, _, s => some s
  | n + 1, i, s => match p i s with
    | some s' => allN p n (i + 1) s'
    | none => none
theorem allN_yes {σ : Type} {p : Nat → σ → Option σ} {n i : Nat} {s s' : σ} (h : i < n) (hp : p i s = some s') : allN p (n - i) i s = allN p (n - (i + 1)) (i + 1) s' := by
  rw [show n - i = (n - (i + 1)) + 1 by omega]
  conv => lhs; unfold allN
  rw [hp]
theorem allN_no {σ : Type} {p : Nat → σ → Option σ} {n i : Nat} {s : σ} (h : i < n) (hp : p i s = none) : allN p (n - i) i s = none := by
  rw [show n - i = (n - (i + 1)) + 1 by omega]
  unfold allN
  rw [hp]
/-- What a function value says of each element; ng: it says the contrary. -/
def Says {σ : Type} (ng : Bool) (lo : Nat) (W : World) (ob : Option Nat) (J : σ → World → Prop) (f : Fv) (el : Nat → Value) (n : Nat) (p : Nat → σ → Option σ) : Prop :=
  ∀ i, i < n → ∀ s w, Below lo W w → J s w → Calls Tryz.prog f.f (f.fs.push (el i) ++ f.cp) w fun e w' => e = .returned (.bool (ng ^^ (p i s).isSome)) ∧ (∀ s', p i s = some s' → J s' w') ∧ w.grownBy w' ob
/-- What a call leaves that asks them all. -/
def AllQ {σ : Type} (w0 : World) (ob : Option Nat) (J : σ → World → Prop) (r : Option σ) (e : Ending) (w : World) : Prop := e = .returned (.bool r.isSome) ∧ (∀ s', r = some s' → J s' w) ∧ w0.grownBy w ob
theorem grown_below {lo : Nat} {W w w' : World} {ob : Option Nat} (hb : Below lo W w) (hg : w.grownBy w' ob) (hlo : lo ≤ w.heap.size) (hob : ∀ k, ob = some k → lo ≤ k) : Below lo W w' := hb.grown hg hlo hob
/-- An element of a row whose elements have k cells. -/
def elA (k : Nat) (xs : List Value) (i : Nat) : Value := .agg ((xs.drop (i * k)).take k).toArray
theorem el_1 {xs : List Value} {n i : Nat} (hx : xs.length = n) (hi : i < n) : ∃ a, xs[i]? = some a ∧ xs.getD i undef = a := by
  have h : i < xs.length := by omega
  exact ⟨xs[i], List.getElem?_eq_getElem h, by simp [List.getD_eq_getElem?_getD, List.getElem?_eq_getElem h]⟩
theorem el_k {xs : List Value} {n i : Nat} (k : Nat) (hx : xs.length = n * k) (hi : i < n) : ((xs.drop (i * k)).take k).length = k ∧ ∀ j, j < k → ((xs.drop (i * k)).take k)[j]? = xs[i * k + j]? := by
  have h : i * k + k ≤ n * k := by rw [← Nat.succ_mul]; exact Nat.mul_le_mul_right k hi
  constructor
  · rw [List.length_take, List.length_drop]; omega
  · intro j hj; rw [List.getElem?_take, if_pos hj, List.getElem?_drop]

theorem el_2 {xs : List Value} {n i : Nat} (hx : xs.length = n * 2) (hi : i < n) : ∃ a0 a1, elA 2 xs i = .agg #[a0, a1] ∧ xs[i * 2 + 0]? = some a0 ∧ xs[i * 2 + 1]? = some a1 := by
  obtain ⟨h1, h2⟩ := el_k 2 hx hi
  unfold elA
  generalize (xs.drop (i * 2)).take 2 = L at h1 h2
  match L, h1 with
  | [a0, a1], _ => exact ⟨a0, a1, rfl, (h2 0 (by decide)).symm, (h2 1 (by decide)).symm⟩
theorem el_4 {xs : List Value} {n i : Nat} (hx : xs.length = n * 4) (hi : i < n) : ∃ a0 a1 a2 a3, elA 4 xs i = .agg #[a0, a1, a2, a3] ∧ xs[i * 4 + 0]? = some a0 ∧ xs[i * 4 + 1]? = some a1 ∧ xs[i * 4 + 2]? = some a2 ∧ xs[i * 4 + 3]? = some a3 := by
  obtain ⟨h1, h2⟩ := el_k 4 hx hi
  unfold elA
  generalize (xs.drop (i * 4)).take 4 = L at h1 h2
  match L, h1 with
  | [a0, a1, a2, a3], _ => exact ⟨a0, a1, a2, a3, rfl, (h2 0 (by decide)).symm, (h2 1 (by decide)).symm, (h2 2 (by decide)).symm, (h2 3 (by decide)).symm⟩
theorem el_6 {xs : List Value} {n i : Nat} (hx : xs.length = n * 6) (hi : i < n) : ∃ a0 a1 a2 a3 a4 a5, elA 6 xs i = .agg #[a0, a1, a2, a3, a4, a5] ∧ xs[i * 6 + 0]? = some a0 ∧ xs[i * 6 + 1]? = some a1 ∧ xs[i * 6 + 2]? = some a2 ∧ xs[i * 6 + 3]? = some a3 ∧ xs[i * 6 + 4]? = some a4 ∧ xs[i * 6 + 5]? = some a5 := by
  obtain ⟨h1, h2⟩ := el_k 6 hx hi
  unfold elA
  generalize (xs.drop (i * 6)).take 6 = L at h1 h2
  match L, h1 with
  | [a0, a1, a2, a3, a4, a5], _ => exact ⟨a0, a1, a2, a3, a4, a5, rfl, (h2 0 (by decide)).symm, (h2 1 (by decide)).symm, (h2 2 (by decide)).symm, (h2 3 (by decide)).symm, (h2 4 (by decide)).symm, (h2 5 (by decide)).symm⟩
theorem el_7 {xs : List Value} {n i : Nat} (hx : xs.length = n * 7) (hi : i < n) : ∃ a0 a1 a2 a3 a4 a5 a6, elA 7 xs i = .agg #[a0, a1, a2, a3, a4, a5, a6] ∧ xs[i * 7 + 0]? = some a0 ∧ xs[i * 7 + 1]? = some a1 ∧ xs[i * 7 + 2]? = some a2 ∧ xs[i * 7 + 3]? = some a3 ∧ xs[i * 7 + 4]? = some a4 ∧ xs[i * 7 + 5]? = some a5 ∧ xs[i * 7 + 6]? = some a6 := by
  obtain ⟨h1, h2⟩ := el_k 7 hx hi
  unfold elA
  generalize (xs.drop (i * 7)).take 7 = L at h1 h2
  match L, h1 with
  | [a0, a1, a2, a3, a4, a5, a6], _ => exact ⟨a0, a1, a2, a3, a4, a5, a6, rfl, (h2 0 (by decide)).symm, (h2 1 (by decide)).symm, (h2 2 (by decide)).symm, (h2 3 (by decide)).symm, (h2 4 (by decide)).symm, (h2 5 (by decide)).symm, (h2 6 (by decide)).symm⟩
set_option maxRecDepth 100000 in
set_option maxHeartbeats 2000000 in
theorem ifS_any {σ : Type} {W : World} {ob : Option Nat} {J : σ → World → Prop} {f : Fv} {v : Value} {xs : List Value} {n : Nat} {p : Nat → σ → Option σ} (hv : Rl W v n xs) (hfo : f.ok) (hf : Says true W.heap.size W ob J f (fun i => xs.getD i undef) n p) (hob : ∀ k, ob = some k → W.heap.size ≤ k) (hx : xs.length = n) (w0 : World) (s : σ) (hw : Below W.heap.size W w0) (hj : J s w0) :
    Calls Tryz.prog 109 #[v, f.val] w0 fun e w => ∃ r : Int, e = .returned (.int .i64 r) ∧ (decide (0 ≤ r) = !(allN p n 0 s).isSome) ∧ (∀ s', allN p n 0 s = some s' → J s' w) ∧ w0.grownBy w ob := by
  obtain ⟨a, c, rfl, hn, h2⟩ := hv
  obtain ⟨fid, fs, cp⟩ := f
  unfold Fv.val
  unfold Fv.ok at hfo
  unfold Says at hf
  simp only at hf hfo ⊢
  have H2 := hide h2
  have HF := hide hf
  have HW := hide hw
  have HJ := hide hj
  have HO := hide hob
  have HX := hide hx
  clear h2 hf hw hj hob hx
  go_enter Tryz.func109, Tryz.ntmps109
  go_wp2
  go_loopg [5, 8] n (fun gk _ v8 wr => ∃ (i : Nat) (st : σ), v8 = .int .i64 (i : Int) ∧ gk = n - i ∧ i ≤ n ∧ Hid (Below W.heap.size W wr) ∧ Hid (J st wr) ∧ Hid (w0.grownBy wr ob) ∧ Hid (allN p n 0 s = allN p (n - i) i st))
  case atStart => exact ⟨0, s, rfl, by omega, by omega, HW, HJ, World.grownBy.refl _ _, rfl⟩
  case round =>
    obtain ⟨i, st, rfl, hgk, hi, HB, HS, HG, HA⟩ := hrel
    have Hgk := hide hgk
    clear hgk
    by_cases hlt : i < n
    · obtain ⟨g, o, rfl, hg, hc⟩ := unhide H2 (by omega)
      obtain ⟨x, hx1, hx2⟩ := el_1 (unhide HX) hlt
      have x0 := ((unhide HB).cell (p := ⟨g, o + i, none⟩) hg).trans (hc _ _ hx1)
      have HC := hide (unhide HF i hlt st _ (unhide HB) (unhide HS))
      rw [hx2] at HC
      clear hc hx1 hx2
      have i0 : (0 : Int) ≤ (i : Int) := Int.natCast_nonneg _
      have i1 : (i : Int) < (n : Int) := by omega
      have Hlt := hide hlt
      clear hlt
      go_wp2_with fail
      refine (unhide HC).mono ?_
      rintro e w1 ⟨rfl, hs1, hg1⟩
      have HB1 := hide (grown_below (unhide HB) hg1 (unhide HB).size (unhide HO))
      have HG1 := hide ((unhide HG).trans hg1)
      have HS1 := hide hs1
      clear hs1 hg1 HC
      cases hb : p i st with
      | some st1 =>
        have HA1 := hide ((unhide HA).trans (allN_yes (unhide Hlt) hb))
        have HS2 := hide (unhide HS1 _ hb)
        clear hb HS1
        have Hlt2 := hide (show i + 1 ≤ n from unhide Hlt)
        simp only [Option.isSome_some, Bool.bne_true, Bool.not_true]
        go_wp2
        go_roundg (n - (i + 1))
        · exact ⟨i + 1, _, by simp, rfl, unhide Hlt2, HB1, HS2, HG1, HA1⟩
        · have := unhide Hgk; have := unhide Hlt2; omega
      | none =>
        have HA1 := hide ((unhide HA).trans (allN_no (unhide Hlt) hb))
        clear hb HS1
        simp only [Option.isSome_none, Bool.bne_false]
        go_wp2
        go_ret
        refine ⟨(i : Int), rfl, ?_, ?_, unhide HG1⟩
        · rw [unhide HA1]; simp
        · intro s' e; rw [unhide HA1] at e; cases e
    · obtain rfl : i = n := by omega
      have HA1 : Hid (allN p i 0 s = some st) := by
        have := unhide HA
        rw [Nat.sub_self] at this
        exact this
      go_wp2
      go_ret
      refine ⟨-1, rfl, ?_, ?_, unhide HG⟩
      · rw [unhide HA1]; rfl
      · intro s' e; rw [unhide HA1] at e; obtain rfl := Option.some.inj e; exact unhide HS

set_option maxRecDepth 100000 in
set_option maxHeartbeats 2000000 in
theorem ifM_any {σ : Type} {W : World} {ob : Option Nat} {J : σ → World → Prop} {f : Fv} {v : Value} {xs : List Value} {n : Nat} {p : Nat → σ → Option σ} (hv : Rl W v n xs) (hfo : f.ok) (hf : Says true W.heap.size W ob J f (elA 7 xs) n p) (hob : ∀ k, ob = some k → W.heap.size ≤ k) (hx : xs.length = n * 7) (w0 : World) (s : σ) (hw : Below W.heap.size W w0) (hj : J s w0) :
    Calls Tryz.prog 110 #[v, f.val] w0 fun e w => ∃ r : Int, e = .returned (.int .i64 r) ∧ (decide (0 ≤ r) = !(allN p n 0 s).isSome) ∧ (∀ s', allN p n 0 s = some s' → J s' w) ∧ w0.grownBy w ob := by
  obtain ⟨a, c, rfl, hn, h2⟩ := hv
  obtain ⟨fid, fs, cp⟩ := f
  unfold Fv.val
  unfold Fv.ok at hfo
  unfold Says at hf
  simp only at hf hfo ⊢
  have H2 := hide h2
  have HF := hide hf
  have HW := hide hw
  have HJ := hide hj
  have HO := hide hob
  have HX := hide hx
  clear h2 hf hw hj hob hx
  go_enter Tryz.func110, Tryz.ntmps110
  go_wp2
  go_loopg [5, 8] n (fun gk _ v8 wr => ∃ (i : Nat) (st : σ), v8 = .int .i64 (i : Int) ∧ gk = n - i ∧ i ≤ n ∧ Hid (Below W.heap.size W wr) ∧ Hid (J st wr) ∧ Hid (w0.grownBy wr ob) ∧ Hid (allN p n 0 s = allN p (n - i) i st))
  case atStart => exact ⟨0, s, rfl, by omega, by omega, HW, HJ, World.grownBy.refl _ _, rfl⟩
  case round =>
    obtain ⟨i, st, rfl, hgk, hi, HB, HS, HG, HA⟩ := hrel
    have Hgk := hide hgk
    clear hgk
    by_cases hlt : i < n
    · obtain ⟨g, o, rfl, hg, hc⟩ := unhide H2 (by omega)
      obtain ⟨a0, a1, a2, a3, a4, a5, a6, hx2, y0, y1, y2, y3, y4, y5, y6⟩ := el_7 (unhide HX) hlt
      have x0 := ((unhide HB).cell (p := ⟨g, o + (i * 7 + 0), none⟩) hg).trans (hc _ _ y0)
      have x1 := ((unhide HB).cell (p := ⟨g, o + (i * 7 + 1), none⟩) hg).trans (hc _ _ y1)
      have x2 := ((unhide HB).cell (p := ⟨g, o + (i * 7 + 2), none⟩) hg).trans (hc _ _ y2)
      have x3 := ((unhide HB).cell (p := ⟨g, o + (i * 7 + 3), none⟩) hg).trans (hc _ _ y3)
      have x4 := ((unhide HB).cell (p := ⟨g, o + (i * 7 + 4), none⟩) hg).trans (hc _ _ y4)
      have x5 := ((unhide HB).cell (p := ⟨g, o + (i * 7 + 5), none⟩) hg).trans (hc _ _ y5)
      have x6 := ((unhide HB).cell (p := ⟨g, o + (i * 7 + 6), none⟩) hg).trans (hc _ _ y6)
      rw [Nat.add_zero] at x0
      rw [← Nat.add_assoc] at x1
      rw [← Nat.add_assoc] at x2
      rw [← Nat.add_assoc] at x3
      rw [← Nat.add_assoc] at x4
      rw [← Nat.add_assoc] at x5
      rw [← Nat.add_assoc] at x6
      have HC := hide (unhide HF i hlt st _ (unhide HB) (unhide HS))
      rw [hx2] at HC
      clear hc hx2 y0 y1 y2 y3 y4 y5 y6
      have i0 : (0 : Int) ≤ (i : Int) := Int.natCast_nonneg _
      have i1 : (i : Int) < (n : Int) := by omega
      have Hlt := hide hlt
      clear hlt
      go_wp2_with fail
      refine (unhide HC).mono ?_
      rintro e w1 ⟨rfl, hs1, hg1⟩
      have HB1 := hide (grown_below (unhide HB) hg1 (unhide HB).size (unhide HO))
      have HG1 := hide ((unhide HG).trans hg1)
      have HS1 := hide hs1
      clear hs1 hg1 HC
      cases hb : p i st with
      | some st1 =>
        have HA1 := hide ((unhide HA).trans (allN_yes (unhide Hlt) hb))
        have HS2 := hide (unhide HS1 _ hb)
        clear hb HS1
        have Hlt2 := hide (show i + 1 ≤ n from unhide Hlt)
        simp only [Option.isSome_some, Bool.bne_true, Bool.not_true]
        go_wp2
        go_roundg (n - (i + 1))
        · exact ⟨i + 1, _, by simp, rfl, unhide Hlt2, HB1, HS2, HG1, HA1⟩
        · have := unhide Hgk; have := unhide Hlt2; omega
      | none =>
        have HA1 := hide ((unhide HA).trans (allN_no (unhide Hlt) hb))
        clear hb HS1
        simp only [Option.isSome_none, Bool.bne_false]
        go_wp2
        go_ret
        refine ⟨(i : Int), rfl, ?_, ?_, unhide HG1⟩
        · rw [unhide HA1]; simp
        · intro s' e; rw [unhide HA1] at e; cases e
    · obtain rfl : i = n := by omega
      have HA1 : Hid (allN p i 0 s = some st) := by
        have := unhide HA
        rw [Nat.sub_self] at this
        exact this
      go_wp2
      go_ret
      refine ⟨-1, rfl, ?_, ?_, unhide HG⟩
      · rw [unhide HA1]; rfl
      · intro s' e; rw [unhide HA1] at e; obtain rfl := Option.some.inj e; exact unhide HS

set_option maxRecDepth 100000 in
set_option maxHeartbeats 2000000 in
theorem ifE_any {σ : Type} {W : World} {ob : Option Nat} {J : σ → World → Prop} {f : Fv} {v : Value} {xs : List Value} {n : Nat} {p : Nat → σ → Option σ} (hv : Rl W v n xs) (hfo : f.ok) (hf : Says true W.heap.size W ob J f (elA 4 xs) n p) (hob : ∀ k, ob = some k → W.heap.size ≤ k) (hx : xs.length = n * 4) (w0 : World) (s : σ) (hw : Below W.heap.size W w0) (hj : J s w0) :
    Calls Tryz.prog 121 #[v, f.val] w0 fun e w => ∃ r : Int, e = .returned (.int .i64 r) ∧ (decide (0 ≤ r) = !(allN p n 0 s).isSome) ∧ (∀ s', allN p n 0 s = some s' → J s' w) ∧ w0.grownBy w ob := by
  obtain ⟨a, c, rfl, hn, h2⟩ := hv
  obtain ⟨fid, fs, cp⟩ := f
  unfold Fv.val
  unfold Fv.ok at hfo
  unfold Says at hf
  simp only at hf hfo ⊢
  have H2 := hide h2
  have HF := hide hf
  have HW := hide hw
  have HJ := hide hj
  have HO := hide hob
  have HX := hide hx
  clear h2 hf hw hj hob hx
  go_enter Tryz.func121, Tryz.ntmps121
  go_wp2
  go_loopg [5, 8] n (fun gk _ v8 wr => ∃ (i : Nat) (st : σ), v8 = .int .i64 (i : Int) ∧ gk = n - i ∧ i ≤ n ∧ Hid (Below W.heap.size W wr) ∧ Hid (J st wr) ∧ Hid (w0.grownBy wr ob) ∧ Hid (allN p n 0 s = allN p (n - i) i st))
  case atStart => exact ⟨0, s, rfl, by omega, by omega, HW, HJ, World.grownBy.refl _ _, rfl⟩
  case round =>
    obtain ⟨i, st, rfl, hgk, hi, HB, HS, HG, HA⟩ := hrel
    have Hgk := hide hgk
    clear hgk
    by_cases hlt : i < n
    · obtain ⟨g, o, rfl, hg, hc⟩ := unhide H2 (by omega)
      obtain ⟨a0, a1, a2, a3, hx2, y0, y1, y2, y3⟩ := el_4 (unhide HX) hlt
      have x0 := ((unhide HB).cell (p := ⟨g, o + (i * 4 + 0), none⟩) hg).trans (hc _ _ y0)
      have x1 := ((unhide HB).cell (p := ⟨g, o + (i * 4 + 1), none⟩) hg).trans (hc _ _ y1)
      have x2 := ((unhide HB).cell (p := ⟨g, o + (i * 4 + 2), none⟩) hg).trans (hc _ _ y2)
      have x3 := ((unhide HB).cell (p := ⟨g, o + (i * 4 + 3), none⟩) hg).trans (hc _ _ y3)
      rw [Nat.add_zero] at x0
      rw [← Nat.add_assoc] at x1
      rw [← Nat.add_assoc] at x2
      rw [← Nat.add_assoc] at x3
      have HC := hide (unhide HF i hlt st _ (unhide HB) (unhide HS))
      rw [hx2] at HC
      clear hc hx2 y0 y1 y2 y3
      have i0 : (0 : Int) ≤ (i : Int) := Int.natCast_nonneg _
      have i1 : (i : Int) < (n : Int) := by omega
      have Hlt := hide hlt
      clear hlt
      go_wp2_with fail
      refine (unhide HC).mono ?_
      rintro e w1 ⟨rfl, hs1, hg1⟩
      have HB1 := hide (grown_below (unhide HB) hg1 (unhide HB).size (unhide HO))
      have HG1 := hide ((unhide HG).trans hg1)
      have HS1 := hide hs1
      clear hs1 hg1 HC
      cases hb : p i st with
      | some st1 =>
        have HA1 := hide ((unhide HA).trans (allN_yes (unhide Hlt) hb))
        have HS2 := hide (unhide HS1 _ hb)
        clear hb HS1
        have Hlt2 := hide (show i + 1 ≤ n from unhide Hlt)
        simp only [Option.isSome_some, Bool.bne_true, Bool.not_true]
        go_wp2
        go_roundg (n - (i + 1))
        · exact ⟨i + 1, _, by simp, rfl, unhide Hlt2, HB1, HS2, HG1, HA1⟩
        · have := unhide Hgk; have := unhide Hlt2; omega
      | none =>
        have HA1 := hide ((unhide HA).trans (allN_no (unhide Hlt) hb))
        clear hb HS1
        simp only [Option.isSome_none, Bool.bne_false]
        go_wp2
        go_ret
        refine ⟨(i : Int), rfl, ?_, ?_, unhide HG1⟩
        · rw [unhide HA1]; simp
        · intro s' e; rw [unhide HA1] at e; cases e
    · obtain rfl : i = n := by omega
      have HA1 : Hid (allN p i 0 s = some st) := by
        have := unhide HA
        rw [Nat.sub_self] at this
        exact this
      go_wp2
      go_ret
      refine ⟨-1, rfl, ?_, ?_, unhide HG⟩
      · rw [unhide HA1]; rfl
      · intro s' e; rw [unhide HA1] at e; obtain rfl := Option.some.inj e; exact unhide HS

set_option maxRecDepth 100000 in
set_option maxHeartbeats 2000000 in
theorem ifF_any {σ : Type} {W : World} {ob : Option Nat} {J : σ → World → Prop} {f : Fv} {v : Value} {xs : List Value} {n : Nat} {p : Nat → σ → Option σ} (hv : Rl W v n xs) (hfo : f.ok) (hf : Says true W.heap.size W ob J f (elA 6 xs) n p) (hob : ∀ k, ob = some k → W.heap.size ≤ k) (hx : xs.length = n * 6) (w0 : World) (s : σ) (hw : Below W.heap.size W w0) (hj : J s w0) :
    Calls Tryz.prog 157 #[v, f.val] w0 fun e w => ∃ r : Int, e = .returned (.int .i64 r) ∧ (decide (0 ≤ r) = !(allN p n 0 s).isSome) ∧ (∀ s', allN p n 0 s = some s' → J s' w) ∧ w0.grownBy w ob := by
  obtain ⟨a, c, rfl, hn, h2⟩ := hv
  obtain ⟨fid, fs, cp⟩ := f
  unfold Fv.val
  unfold Fv.ok at hfo
  unfold Says at hf
  simp only at hf hfo ⊢
  have H2 := hide h2
  have HF := hide hf
  have HW := hide hw
  have HJ := hide hj
  have HO := hide hob
  have HX := hide hx
  clear h2 hf hw hj hob hx
  go_enter Tryz.func157, Tryz.ntmps157
  go_wp2
  go_loopg [5, 8] n (fun gk _ v8 wr => ∃ (i : Nat) (st : σ), v8 = .int .i64 (i : Int) ∧ gk = n - i ∧ i ≤ n ∧ Hid (Below W.heap.size W wr) ∧ Hid (J st wr) ∧ Hid (w0.grownBy wr ob) ∧ Hid (allN p n 0 s = allN p (n - i) i st))
  case atStart => exact ⟨0, s, rfl, by omega, by omega, HW, HJ, World.grownBy.refl _ _, rfl⟩
  case round =>
    obtain ⟨i, st, rfl, hgk, hi, HB, HS, HG, HA⟩ := hrel
    have Hgk := hide hgk
    clear hgk
    by_cases hlt : i < n
    · obtain ⟨g, o, rfl, hg, hc⟩ := unhide H2 (by omega)
      obtain ⟨a0, a1, a2, a3, a4, a5, hx2, y0, y1, y2, y3, y4, y5⟩ := el_6 (unhide HX) hlt
      have x0 := ((unhide HB).cell (p := ⟨g, o + (i * 6 + 0), none⟩) hg).trans (hc _ _ y0)
      have x1 := ((unhide HB).cell (p := ⟨g, o + (i * 6 + 1), none⟩) hg).trans (hc _ _ y1)
      have x2 := ((unhide HB).cell (p := ⟨g, o + (i * 6 + 2), none⟩) hg).trans (hc _ _ y2)
      have x3 := ((unhide HB).cell (p := ⟨g, o + (i * 6 + 3), none⟩) hg).trans (hc _ _ y3)
      have x4 := ((unhide HB).cell (p := ⟨g, o + (i * 6 + 4), none⟩) hg).trans (hc _ _ y4)
      have x5 := ((unhide HB).cell (p := ⟨g, o + (i * 6 + 5), none⟩) hg).trans (hc _ _ y5)
      rw [Nat.add_zero] at x0
      rw [← Nat.add_assoc] at x1
      rw [← Nat.add_assoc] at x2
      rw [← Nat.add_assoc] at x3
      rw [← Nat.add_assoc] at x4
      rw [← Nat.add_assoc] at x5
      have HC := hide (unhide HF i hlt st _ (unhide HB) (unhide HS))
      rw [hx2] at HC
      clear hc hx2 y0 y1 y2 y3 y4 y5
      have i0 : (0 : Int) ≤ (i : Int) := Int.natCast_nonneg _
      have i1 : (i : Int) < (n : Int) := by omega
      have Hlt := hide hlt
      clear hlt
      go_wp2_with fail
      refine (unhide HC).mono ?_
      rintro e w1 ⟨rfl, hs1, hg1⟩
      have HB1 := hide (grown_below (unhide HB) hg1 (unhide HB).size (unhide HO))
      have HG1 := hide ((unhide HG).trans hg1)
      have HS1 := hide hs1
      clear hs1 hg1 HC
      cases hb : p i st with
      | some st1 =>
        have HA1 := hide ((unhide HA).trans (allN_yes (unhide Hlt) hb))
        have HS2 := hide (unhide HS1 _ hb)
        clear hb HS1
        have Hlt2 := hide (show i + 1 ≤ n from unhide Hlt)
        simp only [Option.isSome_some, Bool.bne_true, Bool.not_true]
        go_wp2
        go_roundg (n - (i + 1))
        · exact ⟨i + 1, _, by simp, rfl, unhide Hlt2, HB1, HS2, HG1, HA1⟩
        · have := unhide Hgk; have := unhide Hlt2; omega
      | none =>
        have HA1 := hide ((unhide HA).trans (allN_no (unhide Hlt) hb))
        clear hb HS1
        simp only [Option.isSome_none, Bool.bne_false]
        go_wp2
        go_ret
        refine ⟨(i : Int), rfl, ?_, ?_, unhide HG1⟩
        · rw [unhide HA1]; simp
        · intro s' e; rw [unhide HA1] at e; cases e
    · obtain rfl : i = n := by omega
      have HA1 : Hid (allN p i 0 s = some st) := by
        have := unhide HA
        rw [Nat.sub_self] at this
        exact this
      go_wp2
      go_ret
      refine ⟨-1, rfl, ?_, ?_, unhide HG⟩
      · rw [unhide HA1]; rfl
      · intro s' e; rw [unhide HA1] at e; obtain rfl := Option.some.inj e; exact unhide HS

set_option maxRecDepth 100000 in
set_option maxHeartbeats 2000000 in
theorem ifR_any {σ : Type} {W : World} {ob : Option Nat} {J : σ → World → Prop} {f : Fv} {v : Value} {xs : List Value} {n : Nat} {p : Nat → σ → Option σ} (hv : Rl W v n xs) (hfo : f.ok) (hf : Says true W.heap.size W ob J f (elA 2 xs) n p) (hob : ∀ k, ob = some k → W.heap.size ≤ k) (hx : xs.length = n * 2) (w0 : World) (s : σ) (hw : Below W.heap.size W w0) (hj : J s w0) :
    Calls Tryz.prog 161 #[v, f.val] w0 fun e w => ∃ r : Int, e = .returned (.int .i64 r) ∧ (decide (0 ≤ r) = !(allN p n 0 s).isSome) ∧ (∀ s', allN p n 0 s = some s' → J s' w) ∧ w0.grownBy w ob := by
  obtain ⟨a, c, rfl, hn, h2⟩ := hv
  obtain ⟨fid, fs, cp⟩ := f
  unfold Fv.val
  unfold Fv.ok at hfo
  unfold Says at hf
  simp only at hf hfo ⊢
  have H2 := hide h2
  have HF := hide hf
  have HW := hide hw
  have HJ := hide hj
  have HO := hide hob
  have HX := hide hx
  clear h2 hf hw hj hob hx
  go_enter Tryz.func161, Tryz.ntmps161
  go_wp2
  go_loopg [5, 8] n (fun gk _ v8 wr => ∃ (i : Nat) (st : σ), v8 = .int .i64 (i : Int) ∧ gk = n - i ∧ i ≤ n ∧ Hid (Below W.heap.size W wr) ∧ Hid (J st wr) ∧ Hid (w0.grownBy wr ob) ∧ Hid (allN p n 0 s = allN p (n - i) i st))
  case atStart => exact ⟨0, s, rfl, by omega, by omega, HW, HJ, World.grownBy.refl _ _, rfl⟩
  case round =>
    obtain ⟨i, st, rfl, hgk, hi, HB, HS, HG, HA⟩ := hrel
    have Hgk := hide hgk
    clear hgk
    by_cases hlt : i < n
    · obtain ⟨g, o, rfl, hg, hc⟩ := unhide H2 (by omega)
      obtain ⟨a0, a1, hx2, y0, y1⟩ := el_2 (unhide HX) hlt
      have x0 := ((unhide HB).cell (p := ⟨g, o + (i * 2 + 0), none⟩) hg).trans (hc _ _ y0)
      have x1 := ((unhide HB).cell (p := ⟨g, o + (i * 2 + 1), none⟩) hg).trans (hc _ _ y1)
      rw [Nat.add_zero] at x0
      rw [← Nat.add_assoc] at x1
      have HC := hide (unhide HF i hlt st _ (unhide HB) (unhide HS))
      rw [hx2] at HC
      clear hc hx2 y0 y1
      have i0 : (0 : Int) ≤ (i : Int) := Int.natCast_nonneg _
      have i1 : (i : Int) < (n : Int) := by omega
      have Hlt := hide hlt
      clear hlt
      go_wp2_with fail
      refine (unhide HC).mono ?_
      rintro e w1 ⟨rfl, hs1, hg1⟩
      have HB1 := hide (grown_below (unhide HB) hg1 (unhide HB).size (unhide HO))
      have HG1 := hide ((unhide HG).trans hg1)
      have HS1 := hide hs1
      clear hs1 hg1 HC
      cases hb : p i st with
      | some st1 =>
        have HA1 := hide ((unhide HA).trans (allN_yes (unhide Hlt) hb))
        have HS2 := hide (unhide HS1 _ hb)
        clear hb HS1
        have Hlt2 := hide (show i + 1 ≤ n from unhide Hlt)
        simp only [Option.isSome_some, Bool.bne_true, Bool.not_true]
        go_wp2
        go_roundg (n - (i + 1))
        · exact ⟨i + 1, _, by simp, rfl, unhide Hlt2, HB1, HS2, HG1, HA1⟩
        · have := unhide Hgk; have := unhide Hlt2; omega
      | none =>
        have HA1 := hide ((unhide HA).trans (allN_no (unhide Hlt) hb))
        clear hb HS1
        simp only [Option.isSome_none, Bool.bne_false]
        go_wp2
        go_ret
        refine ⟨(i : Int), rfl, ?_, ?_, unhide HG1⟩
        · rw [unhide HA1]; simp
        · intro s' e; rw [unhide HA1] at e; cases e
    · obtain rfl : i = n := by omega
      have HA1 : Hid (allN p i 0 s = some st) := by
        have := unhide HA
        rw [Nat.sub_self] at this
        exact this
      go_wp2
      go_ret
      refine ⟨-1, rfl, ?_, ?_, unhide HG⟩
      · rw [unhide HA1]; rfl
      · intro s' e; rw [unhide HA1] at e; obtain rfl := Option.some.inj e; exact unhide HS

set_option maxRecDepth 100000 in
set_option maxHeartbeats 2000000 in
theorem ifV_any {σ : Type} {W : World} {ob : Option Nat} {J : σ → World → Prop} {f : Fv} {v : Value} {xs : List Value} {n : Nat} {p : Nat → σ → Option σ} (hv : Rl W v n xs) (hfo : f.ok) (hf : Says true W.heap.size W ob J f (elA 2 xs) n p) (hob : ∀ k, ob = some k → W.heap.size ≤ k) (hx : xs.length = n * 2) (w0 : World) (s : σ) (hw : Below W.heap.size W w0) (hj : J s w0) :
    Calls Tryz.prog 162 #[v, f.val] w0 fun e w => ∃ r : Int, e = .returned (.int .i64 r) ∧ (decide (0 ≤ r) = !(allN p n 0 s).isSome) ∧ (∀ s', allN p n 0 s = some s' → J s' w) ∧ w0.grownBy w ob := by
  obtain ⟨a, c, rfl, hn, h2⟩ := hv
  obtain ⟨fid, fs, cp⟩ := f
  unfold Fv.val
  unfold Fv.ok at hfo
  unfold Says at hf
  simp only at hf hfo ⊢
  have H2 := hide h2
  have HF := hide hf
  have HW := hide hw
  have HJ := hide hj
  have HO := hide hob
  have HX := hide hx
  clear h2 hf hw hj hob hx
  go_enter Tryz.func162, Tryz.ntmps162
  go_wp2
  go_loopg [5, 8] n (fun gk _ v8 wr => ∃ (i : Nat) (st : σ), v8 = .int .i64 (i : Int) ∧ gk = n - i ∧ i ≤ n ∧ Hid (Below W.heap.size W wr) ∧ Hid (J st wr) ∧ Hid (w0.grownBy wr ob) ∧ Hid (allN p n 0 s = allN p (n - i) i st))
  case atStart => exact ⟨0, s, rfl, by omega, by omega, HW, HJ, World.grownBy.refl _ _, rfl⟩
  case round =>
    obtain ⟨i, st, rfl, hgk, hi, HB, HS, HG, HA⟩ := hrel
    have Hgk := hide hgk
    clear hgk
    by_cases hlt : i < n
    · obtain ⟨g, o, rfl, hg, hc⟩ := unhide H2 (by omega)
      obtain ⟨a0, a1, hx2, y0, y1⟩ := el_2 (unhide HX) hlt
      have x0 := ((unhide HB).cell (p := ⟨g, o + (i * 2 + 0), none⟩) hg).trans (hc _ _ y0)
      have x1 := ((unhide HB).cell (p := ⟨g, o + (i * 2 + 1), none⟩) hg).trans (hc _ _ y1)
      rw [Nat.add_zero] at x0
      rw [← Nat.add_assoc] at x1
      have HC := hide (unhide HF i hlt st _ (unhide HB) (unhide HS))
      rw [hx2] at HC
      clear hc hx2 y0 y1
      have i0 : (0 : Int) ≤ (i : Int) := Int.natCast_nonneg _
      have i1 : (i : Int) < (n : Int) := by omega
      have Hlt := hide hlt
      clear hlt
      go_wp2_with fail
      refine (unhide HC).mono ?_
      rintro e w1 ⟨rfl, hs1, hg1⟩
      have HB1 := hide (grown_below (unhide HB) hg1 (unhide HB).size (unhide HO))
      have HG1 := hide ((unhide HG).trans hg1)
      have HS1 := hide hs1
      clear hs1 hg1 HC
      cases hb : p i st with
      | some st1 =>
        have HA1 := hide ((unhide HA).trans (allN_yes (unhide Hlt) hb))
        have HS2 := hide (unhide HS1 _ hb)
        clear hb HS1
        have Hlt2 := hide (show i + 1 ≤ n from unhide Hlt)
        simp only [Option.isSome_some, Bool.bne_true, Bool.not_true]
        go_wp2
        go_roundg (n - (i + 1))
        · exact ⟨i + 1, _, by simp, rfl, unhide Hlt2, HB1, HS2, HG1, HA1⟩
        · have := unhide Hgk; have := unhide Hlt2; omega
      | none =>
        have HA1 := hide ((unhide HA).trans (allN_no (unhide Hlt) hb))
        clear hb HS1
        simp only [Option.isSome_none, Bool.bne_false]
        go_wp2
        go_ret
        refine ⟨(i : Int), rfl, ?_, ?_, unhide HG1⟩
        · rw [unhide HA1]; simp
        · intro s' e; rw [unhide HA1] at e; cases e
    · obtain rfl : i = n := by omega
      have HA1 : Hid (allN p i 0 s = some st) := by
        have := unhide HA
        rw [Nat.sub_self] at this
        exact this
      go_wp2
      go_ret
      refine ⟨-1, rfl, ?_, ?_, unhide HG⟩
      · rw [unhide HA1]; rfl
      · intro s' e; rw [unhide HA1] at e; obtain rfl := Option.some.inj e; exact unhide HS

end Go.Proofs.YtaadpiimcaabkaaGreatDoor
