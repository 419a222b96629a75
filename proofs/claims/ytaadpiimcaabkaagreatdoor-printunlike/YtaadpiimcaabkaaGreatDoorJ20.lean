import Derived.Test.YtaadpiimcaabkaaGreatDoorJ07
import Derived.Test.YtaadpiimcaabkaaGreatDoorJ07
import Derived.Test.YtaadpiimcaabkaaGreatDoorJ19
import Derived.Lib.AppendIntMem
import Derived.Lib.LaidTab
import Derived.Lib.ItoaLen

namespace Go.Proofs.YtaadpiimcaabkaaGreatDoor
open Go.RowKit Go.Shelf
attribute [local go_sem ↓] Go.wp_at_zero Go.wp_at_succ

/-- The table of powers of ten. -/
def HasP (W : World) : Prop := Lib.TabIs Tryz.prog W "internal/strconv.uint64pow10" .u64 Lib.pow10Tab
theorem HasP.up {W w : World} (h : HasP W) (hb : Below W.heap.size W w) : HasP w := by
  unfold HasP Lib.TabIs World.var? at h ⊢
  obtain ⟨g, hg, hm⟩ := Option.bind_eq_some_iff.1 h
  rw [hg]
  show (match w.heap[g]? with
    | some (.cells cs _ _) => some cs
    | _ => none) = _
  have hlt : g < W.heap.size := by
    rcases Nat.lt_or_ge g W.heap.size with q | q
    · exact q
    · rw [Array.getElem?_eq_none q] at hm
      cases hm
  rw [hb.block g hlt]
  exact hm
def itoaB (n : Int) : ByteArray := ⟨(Lib.itoa n).toArray⟩
theorem itoa_any {w : World} (h : HasP w) (n : Int) (h0 : -9223372036854775808 ≤ n) (h1 : n ≤ 9223372036854775807) : Calls Tryz.prog 134 #[.int .i64 n] w fun e w' => e = .returned (.string (itoaB n)) ∧ Below w.heap.size w w' := by
  refine (Any.strconv_Itoa Tryz.laysNT171 n h0 h1 w h).mono ?_
  rintro e w' ⟨rfl, k, os, rfl⟩
  exact ⟨rfl, Lib.below_grow _ w (Nat.le_refl _) k os⟩
theorem itoaB_size {n : Int} (h0 : -9223372036854775808 ≤ n) (h1 : n ≤ 9223372036854775807) : (itoaB n).size ≤ 21 := by
  show (Lib.itoa n).length ≤ 21
  unfold Lib.itoa
  split
  · rw [List.length_cons, Lib.decDigits_length]
    have := Lib.nDigits_le20 n.natAbs (by omega)
    omega
  · rw [Lib.decDigits_length]
    have := Lib.nDigits_le20 n.toNat (by omega)
    omega
def sOpt : ByteArray := ⟨#[111, 112, 116, 105, 111, 110, 97, 108, 32]⟩
def sRep : ByteArray := ⟨#[114, 101, 112, 101, 97, 116, 101, 100, 32]⟩
def sMap : ByteArray := ⟨#[109, 97, 112, 60]⟩
def sCom : ByteArray := ⟨#[44, 32]⟩
def sGt : ByteArray := ⟨#[62]⟩
def sTo : ByteArray := ⟨#[32, 116, 111, 32]⟩
def sToMax : ByteArray := ⟨#[32, 116, 111, 32, 109, 97, 120]⟩
/-- What stands ahead of a field's name. -/
def typeT (d : Fd) : ByteArray := if d.card = 2 then sOpt ++ d.ty else if d.card = 3 then sRep ++ d.ty else if d.card = 4 then sMap ++ d.key ++ sCom ++ d.ty ++ sGt else d.ty
set_option maxRecDepth 100000 in
set_option maxHeartbeats 1000000 in
theorem typeText_any {W : World} (d : Fd) (hk : d.key.size ≤ 255) (ht : d.ty.size ≤ 255) : Calls Tryz.prog 133 #[.agg d.cs.toArray] W fun e w => e = .returned (.string (typeT d)) ∧ Below W.heap.size W w := by
  obtain ⟨card, key, ty, nm, num, oneof⟩ := d
  unfold Fd.cs typeT sOpt sRep sMap sCom sGt
  simp only at hk ht ⊢
  obtain ⟨⟨c0, c1, c2, c3, c4, c5⟩, -, hb⟩ := fd_cells W card num oneof key ty nm
  have HB := hide hb
  clear hb c3 c4 c5
  by_cases h2 : card = 2
  · subst h2
    rw [if_pos rfl]
    go_enter Tryz.func133, Tryz.ntmps133
    go_wp2
    go_ret
    exact ⟨rfl, unhide HB⟩
  · rw [if_neg h2]
    have e2 : (card == 2) = false := beq_eq_false_iff_ne.2 h2
    by_cases h3 : card = 3
    · subst h3
      rw [if_pos rfl]
      go_enter Tryz.func133, Tryz.ntmps133
      go_wp2
      go_ret
      exact ⟨rfl, unhide HB⟩
    · rw [if_neg h3]
      have e3 : (card == 3) = false := beq_eq_false_iff_ne.2 h3
      by_cases h4 : card = 4
      · subst h4
        rw [if_pos rfl]
        go_enter Tryz.func133, Tryz.ntmps133
        go_wp2
        go_ret
        exact ⟨rfl, unhide HB⟩
      · rw [if_neg h4]
        have e4 : (card == 4) = false := beq_eq_false_iff_ne.2 h4
        go_enter Tryz.func133, Tryz.ntmps133
        go_wp2
        go_ret
        exact ⟨rfl, unhide HB⟩
/-- The text of a row. -/
def rowT (most : Int) (r : Int × Int) : ByteArray := if r.2 = r.1 then itoaB r.1 else if r.2 = most then itoaB r.1 ++ sToMax else itoaB r.1 ++ sTo ++ itoaB r.2
set_option maxRecDepth 100000 in
set_option maxHeartbeats 1000000 in
theorem rowText_any {W : World} (hP : HasP W) (a b most : Int) (ha : -2147483648 ≤ a ∧ a ≤ 2147483647) (hb : -2147483648 ≤ b ∧ b ≤ 2147483647) : Calls Tryz.prog 172 #[.agg #[.int .i64 a, .int .i64 b], .int .i64 most] W fun e w => e = .returned (.string (rowT most (a, b))) ∧ Below W.heap.size W w := by
  have hn := heap_new W (.cells #[.int .i64 a, .int .i64 b] 111)
  have hb0 : Below W.heap.size W (W.alloc (.cells #[.int .i64 a, .int .i64 b] 111)) := (Below.refl _ _).alloc (Nat.le_refl _) _
  obtain ⟨V, hV⟩ : ∃ V, W.alloc (.cells #[.int .i64 a, .int .i64 b] 111) = V := ⟨_, rfl⟩
  rw [hV] at hn hb0
  have c0 : V.cell? ⟨W.heap.size, 0, none⟩ = some (.int .i64 a) := cell_of_row _ _ _ _ _ _ hn
  have c1 : V.cell? ⟨W.heap.size, 1, none⟩ = some (.int .i64 b) := cell_of_row _ _ _ _ _ _ hn
  have HI := hide (itoa_any (hP.up hb0) a (by omega) (by omega))
  have HI2 := hide (fun w (h : HasP w) => itoa_any h b (by omega) (by omega))
  have HB := hide hb0
  have HN := hide hn
  have HPu : Hid (∀ w, Below W.heap.size W w → HasP w) := fun w h => hP.up h
  have za := itoaB_size (n := a) (by omega) (by omega)
  have zb := itoaB_size (n := b) (by omega) (by omega)
  unfold rowT sToMax sTo
  simp only
  obtain ⟨ta, hta⟩ : ∃ t, itoaB a = t := ⟨_, rfl⟩
  obtain ⟨tb, htb⟩ : ∃ t, itoaB b = t := ⟨_, rfl⟩
  rw [hta] at HI za ⊢
  rw [htb] at HI2 zb ⊢
  clear hn hb0 hP hta htb ha hb
  go_enter Tryz.func172, Tryz.ntmps172
  go_wp2_with fail
  refine (unhide HI).mono ?_
  rintro e w1 ⟨rfl, hb1⟩
  have hn1 := (hb1.block _ (Array.getElem?_eq_some_iff.1 (unhide HN)).1).trans (unhide HN)
  have d0 : w1.cell? ⟨W.heap.size, 0, none⟩ = some (.int .i64 a) := cell_of_row _ _ _ _ _ _ hn1
  have d1 : w1.cell? ⟨W.heap.size, 1, none⟩ = some (.int .i64 b) := cell_of_row _ _ _ _ _ _ hn1
  have HB1 := hide ((unhide HB).trans (hb1.mono (unhide HB).size))
  clear hb1 HI HN HB c0 c1 hn1
  by_cases h1 : b = a
  · have e1 : (b == a) = true := beq_iff_eq.2 h1
    clear HI2 HPu
    go_wp2
    go_ret
    exact ⟨rfl, unhide HB1⟩
  · have e1 : (b == a) = false := beq_eq_false_iff_ne.2 h1
    by_cases h2 : b = most
    · have e2 : (b == most) = true := beq_iff_eq.2 h2
      clear HI2 HPu
      go_wp2
      go_ret
      first | exact ⟨rfl, unhide HB1⟩ | (rw [if_neg h1, if_pos h2]; exact ⟨rfl, unhide HB1⟩) | (rw [if_neg h1]; exact ⟨rfl, unhide HB1⟩)
    · have e2 : (b == most) = false := beq_eq_false_iff_ne.2 h2
      have HI3 := hide (unhide HI2 _ (unhide HPu _ (unhide HB1)))
      clear HI2 HPu
      go_wp2_with fail
      refine (unhide HI3).mono ?_
      rintro e w2 ⟨rfl, hb2⟩
      have HB2 := hide ((unhide HB1).trans (hb2.mono (unhide HB1).size))
      clear hb2 HI3 HB1
      go_wp2
      go_ret
      first | exact ⟨rfl, unhide HB2⟩ | (rw [if_neg h1, if_neg h2]; exact ⟨rfl, unhide HB2⟩)
end Go.Proofs.YtaadpiimcaabkaaGreatDoor

namespace Go.Proofs.YtaadpiimcaabkaaGreatDoor
open Go.RowKit
attribute [local go_sem ↓] Go.wp_at_zero Go.wp_at_succ

theorem info9s : (Tryz.prog.info? 9).map (fun i => (i.zero, i.size, i.bytes)) = some (some (.string ByteArray.empty), 1, 16) := by kernel_rfl
theorem own_up {B t sz n : Nat} {v : Value} {xs : List Value} {w w' : World} (h : w.ownsRow B t sz v n xs) (hb : Below w.heap.size w w') : w'.ownsRow B t sz v n xs := by
  refine h.kept (show w.grownBy w' none from ⟨hb.os, hb.tape, hb.output, hb.size, fun k hk _ => hb.block k hk⟩) ?_
  cases v.ownBlock with
  | none => exact .inl rfl
  | some k => exact .inr (by simp)
theorem take_map {α : Type} {l : List α} {T : α → ByteArray} {i : Nat} {x : α} (h : l[i]? = some x) : strC ((l.take (i + 1)).map T) = strC ((l.take i).map T) ++ [.string (T x)] := by
  obtain ⟨hi, rfl⟩ := List.getElem?_eq_some_iff.1 h
  rw [List.take_succ_eq_append_getElem hi, List.map_append]
  unfold strC
  simp

set_option maxRecDepth 100000 in
set_option maxHeartbeats 2000000 in
theorem eachR_any {W : World} {v : Value} {l : List (Int × Int)} (hv : Rl W v l.length (rgC l)) (hl : l.length ≤ 4096) {f : Fv} (hfo : f.ok) {T : Int × Int → ByteArray} (w0 : World) (hw : Below W.heap.size W w0)
    (hf : ∀ r ∈ l, ∀ w, Below w0.heap.size w0 w → Calls Tryz.prog f.f (f.fs.push (.agg #[.int .i64 r.1, .int .i64 r.2]) ++ f.cp) w fun e w' => e = .returned (.string (T r)) ∧ Below w.heap.size w w') :
    Calls Tryz.prog 170 #[v, f.val] w0 fun e w => ∃ u, e = .returned u ∧ w.ownsRow w0.heap.size 9 1 u l.length (strC (l.map T)) ∧ Below w0.heap.size w0 w := by
  obtain ⟨a, c, rfl, hn, h2⟩ := hv
  obtain ⟨fid, fs, cp⟩ := f
  obtain ⟨i0, hi, hz0, hz1, hz2⟩ := info_parts info9s
  unfold Fv.val
  unfold Fv.ok at hfo
  simp only at hfo hf ⊢
  have H2 := hide h2
  have HF := hide hf
  have HW := hide hw
  clear h2 hf hw
  go_enter Tryz.func170, Tryz.ntmps170
  go_wp2
  go_loopg [5, 7, 10] l.length (fun gk v5 _ v10 wr => ∃ (i : Nat), v10 = .int .i64 (i : Int) ∧ gk = l.length - i ∧ i ≤ l.length ∧ Hid (wr.ownsRow w0.heap.size 9 1 v5 i (strC ((l.take i).map T))) ∧ Hid (Below w0.heap.size w0 wr))
  case atStart => exact ⟨0, rfl, rfl, by omega, ⟨rfl, .inl ⟨rfl, rfl⟩⟩, Below.refl _ _⟩
  case round =>
    obtain ⟨i, rfl, hgk, hi2, HO, HB⟩ := hrel
    have Hgk := hide hgk
    clear hgk
    by_cases hlt : i < l.length
    · obtain ⟨g, o, rfl, hg, hc⟩ := unhide H2 (by omega)
      have hr := List.getElem?_eq_getElem hlt
      have hmem := List.getElem_mem hlt
      obtain ⟨r, hrr⟩ : ∃ r, l[i] = r := ⟨_, rfl⟩
      rw [hrr] at hr hmem
      have HBW := hide (show Below W.heap.size W wr from (unhide HW).trans ((unhide HB).mono (unhide HW).size))
      have x0 := ((unhide HBW).cell (p := ⟨g, o + (i * 2 + 0), none⟩) hg).trans (hc _ _ (rgC_at hr (j := 0) (by decide)))
      have x1 := ((unhide HBW).cell (p := ⟨g, o + (i * 2 + 1), none⟩) hg).trans (hc _ _ (rgC_at hr (j := 1) (by decide)))
      rw [Nat.add_zero] at x0
      rw [← Nat.add_assoc] at x1
      have hn0 := heap_new wr (.cells #[.int .i64 r.1, .int .i64 r.2] 111)
      have hb0 : Below wr.heap.size wr (wr.alloc (.cells #[.int .i64 r.1, .int .i64 r.2] 111)) := (Below.refl _ _).alloc (Nat.le_refl _) _
      obtain ⟨V, hV⟩ : ∃ V, wr.alloc (.cells #[.int .i64 r.1, .int .i64 r.2] 111) = V := ⟨_, rfl⟩
      rw [hV] at hn0 hb0
      have b0 : V.cell? ⟨wr.heap.size, 0, none⟩ = some (.int .i64 r.1) := cell_of_row _ _ _ _ _ _ hn0
      have b1 : V.cell? ⟨wr.heap.size, 1, none⟩ = some (.int .i64 r.2) := cell_of_row _ _ _ _ _ _ hn0
      clear hn0
      have HBV := hide ((unhide HB).trans (hb0.mono (unhide HB).size))
      have HOV := hide (own_up (unhide HO) hb0)
      have HC := hide (unhide HF r hmem V (unhide HBV))
      have HT := hide (take_map (T := T) hr)
      have i0' : (0 : Int) ≤ (i : Int) := Int.natCast_nonneg _
      have i1 : (i : Int) < (l.length : Int) := by omega
      have Hlt := hide hlt
      have Hl := hide hl
      clear hc hr hmem hrr hb0 HO HB HBW hlt
      go_wp2_with fail
      refine (unhide HC).mono ?_
      rintro e w1 ⟨rfl, hb1⟩
      have HO1 := hide (own_up (unhide HOV) hb1)
      have HB1 := hide ((unhide HBV).trans (hb1.mono (unhide HBV).size))
      have HS1 := hide (unhide HB1).size
      clear hb1 HC HOV HBV
      go_wp2_with (at_builtin; refine wpList_append_own_at _ rfl _ _ 22 rfl w0.heap.size 9 i0 (.string ByteArray.empty) 1 16 Tryz.underlying22 hi hz0 hz1 hz2 rfl (by decide) _ _ _ rfl ((unhide HO1).alloc _) ⟨w1.heap.size, 0, none⟩ 1 1 [.string (T r)] rfl rfl (cell_one_new _ _ _) (by simp [Value.oneCell']) (by have := unhide Hlt; have := unhide Hl; unfold maxLen; omega) (by have := unhide Hlt; have := unhide Hl; omega) (by rw [World.size_alloc]; have := unhide HS1; omega) ?_; intro v' w2 ho hg2 _ _; have HO2 := hide ho; have HB2 := hide (((unhide HB1).alloc (unhide HB1).size _).grown hg2 (by rw [World.size_alloc]; have := unhide HS1; omega) (fun k e => ((unhide HO1).lt k e).1)); clear ho hg2)
      rw [← unhide HT] at HO2
      go_roundg (l.length - (i + 1))
      case measure => have := unhide Hgk; have := unhide Hlt; omega
      case rel => exact ⟨i + 1, by go_num, rfl, unhide Hlt, HO2, HB2⟩
    · obtain rfl : i = l.length := by omega
      have hO := unhide HO
      rw [List.take_length] at hO
      have HO2 := hide hO
      clear hO
      go_wp2
      go_ret
      exact ⟨_, rfl, unhide HO2, unhide HB⟩

set_option maxRecDepth 100000 in
set_option maxHeartbeats 2000000 in
theorem eachS_any {W : World} {v : Value} {l : List (ByteArray)} (hv : Rl W v l.length (strC l)) (hl : l.length ≤ 4096) {f : Fv} (hfo : f.ok) {T : ByteArray → ByteArray} (w0 : World) (hw : Below W.heap.size W w0)
    (hf : ∀ r ∈ l, ∀ w, Below w0.heap.size w0 w → Calls Tryz.prog f.f (f.fs.push (.string r) ++ f.cp) w fun e w' => e = .returned (.string (T r)) ∧ Below w.heap.size w w') :
    Calls Tryz.prog 173 #[v, f.val] w0 fun e w => ∃ u, e = .returned u ∧ w.ownsRow w0.heap.size 9 1 u l.length (strC (l.map T)) ∧ Below w0.heap.size w0 w := by
  obtain ⟨a, c, rfl, hn, h2⟩ := hv
  obtain ⟨fid, fs, cp⟩ := f
  obtain ⟨i0, hi, hz0, hz1, hz2⟩ := info_parts info9s
  unfold Fv.val
  unfold Fv.ok at hfo
  simp only at hfo hf ⊢
  have H2 := hide h2
  have HF := hide hf
  have HW := hide hw
  clear h2 hf hw
  go_enter Tryz.func173, Tryz.ntmps173
  go_wp2
  go_loopg [5, 7, 10] l.length (fun gk v5 _ v10 wr => ∃ (i : Nat), v10 = .int .i64 (i : Int) ∧ gk = l.length - i ∧ i ≤ l.length ∧ Hid (wr.ownsRow w0.heap.size 9 1 v5 i (strC ((l.take i).map T))) ∧ Hid (Below w0.heap.size w0 wr))
  case atStart => exact ⟨0, rfl, rfl, by omega, ⟨rfl, .inl ⟨rfl, rfl⟩⟩, Below.refl _ _⟩
  case round =>
    obtain ⟨i, rfl, hgk, hi2, HO, HB⟩ := hrel
    have Hgk := hide hgk
    clear hgk
    by_cases hlt : i < l.length
    · obtain ⟨g, o, rfl, hg, hc⟩ := unhide H2 (by omega)
      have hr := List.getElem?_eq_getElem hlt
      have hmem := List.getElem_mem hlt
      obtain ⟨r, hrr⟩ : ∃ r, l[i] = r := ⟨_, rfl⟩
      rw [hrr] at hr hmem
      have HBW := hide (show Below W.heap.size W wr from (unhide HW).trans ((unhide HB).mono (unhide HW).size))
      have x0 := ((unhide HBW).cell (p := ⟨g, o + i, none⟩) hg).trans (hc _ _ (strC_at hr))
      have hb0 : Below wr.heap.size wr wr := Below.refl _ _
      have HBV := hide ((unhide HB).trans (hb0.mono (unhide HB).size))
      have HOV := hide (own_up (unhide HO) hb0)
      have HC := hide (unhide HF r hmem wr (unhide HBV))
      have HT := hide (take_map (T := T) hr)
      have i0' : (0 : Int) ≤ (i : Int) := Int.natCast_nonneg _
      have i1 : (i : Int) < (l.length : Int) := by omega
      have Hlt := hide hlt
      have Hl := hide hl
      clear hc hr hmem hrr hb0 HO HB HBW hlt
      go_wp2_with fail
      refine (unhide HC).mono ?_
      rintro e w1 ⟨rfl, hb1⟩
      have HO1 := hide (own_up (unhide HOV) hb1)
      have HB1 := hide ((unhide HBV).trans (hb1.mono (unhide HBV).size))
      have HS1 := hide (unhide HB1).size
      clear hb1 HC HOV HBV
      go_wp2_with (at_builtin; refine wpList_append_own_at _ rfl _ _ 22 rfl w0.heap.size 9 i0 (.string ByteArray.empty) 1 16 Tryz.underlying22 hi hz0 hz1 hz2 rfl (by decide) _ _ _ rfl ((unhide HO1).alloc _) ⟨w1.heap.size, 0, none⟩ 1 1 [.string (T r)] rfl rfl (cell_one_new _ _ _) (by simp [Value.oneCell']) (by have := unhide Hlt; have := unhide Hl; unfold maxLen; omega) (by have := unhide Hlt; have := unhide Hl; omega) (by rw [World.size_alloc]; have := unhide HS1; omega) ?_; intro v' w2 ho hg2 _ _; have HO2 := hide ho; have HB2 := hide (((unhide HB1).alloc (unhide HB1).size _).grown hg2 (by rw [World.size_alloc]; have := unhide HS1; omega) (fun k e => ((unhide HO1).lt k e).1)); clear ho hg2)
      rw [← unhide HT] at HO2
      go_roundg (l.length - (i + 1))
      case measure => have := unhide Hgk; have := unhide Hlt; omega
      case rel => exact ⟨i + 1, by go_num, rfl, unhide Hlt, HO2, HB2⟩
    · obtain rfl : i = l.length := by omega
      have hO := unhide HO
      rw [List.take_length] at hO
      have HO2 := hide hO
      clear hO
      go_wp2
      go_ret
      exact ⟨_, rfl, unhide HO2, unhide HB⟩

end Go.Proofs.YtaadpiimcaabkaaGreatDoor
