import Derived.Test.YtaadpiimcaabkaaGreatDoorJ05

namespace Go.Proofs.YtaadpiimcaabkaaGreatDoor
open Go.RowKit
attribute [local go_sem ↓] Go.wp_at_zero Go.wp_at_succ

theorem Kp.below {b : Nat} {w w' : World} (h : Below w.heap.size w w') : Kp b w w' := fun d _ _ _ _ h2 _ => (h.block d (Array.getElem?_eq_some_iff.1 h2).1).trans h2
/-- A line, indented. -/
def lineL (n : Nat) (ps : List ByteArray) : List Nat := List.replicate (2 * n) 32 ++ ps.flatMap strN ++ [10]
/-- A pen in memory: what is written, how deep it stands. -/
structure Pn (W : World) (B bb dd : Nat) (L : List Nat) (n : Nat) (w : World) : Prop where
  bel : Below W.heap.size W w
  low : W.heap.size ≤ B
  bi : BI B bb L w
  dp : w.heap[dd]? = some (.cells #[.int .i64 (n : Int)] 3 (0, 0))
  ne : bb ≠ dd
  deep : n ≤ 1000
theorem BI.lt {B bb : Nat} {L : List Nat} {W : World} (h : BI B bb L W) : B ≤ bb ∧ bb < W.heap.size := by
  rcases h with k | k
  · obtain ⟨k1, _, k2, _⟩ := k; exact ⟨k1, (Array.getElem?_eq_some_iff.1 k2).1⟩
  · obtain ⟨k1, _, k2, _⟩ := k; exact ⟨k1, (Array.getElem?_eq_some_iff.1 k2).1⟩
theorem BI.up {B bb : Nat} {L : List Nat} {W w : World} (h : BI B bb L W) (hb : Below W.heap.size W w) : BI B bb L w := by
  have key : ∀ {p : Value}, Lib.BuilderAt 125 5 B bb p (nb L) W → Lib.BuilderAt 125 5 B bb p (nb L) w := by
    rintro p ⟨h1, v, hbk, hown, hne⟩
    refine ⟨h1, v, (hb.block bb (Array.getElem?_eq_some_iff.1 hbk).1).trans hbk, hown.kept (show W.grownBy w none from ⟨hb.os, hb.tape, hb.output, hb.size, fun k hk _ => hb.block k hk⟩) ?_, hne⟩
    cases v.ownBlock with
    | none => exact .inl rfl
    | some k => exact .inr (by simp)
  rcases h with h | h
  · exact .inl (key h)
  · exact .inr (key h)
theorem BI.kept {B bb b : Nat} {L : List Nat} {W w : World} {cs : Array Value} {t : TypeId} {fr : Nat × Nat} (h : BI B bb L W) (hg : W.grownBy w (some b)) (hb : W.heap[b]? = some (.cells cs t fr)) (ht : t ≠ 5) (hn : bb ≠ b) : BI B bb L w := by
  have key : ∀ {p : Value}, Lib.BuilderAt 125 5 B bb p (nb L) W → Lib.BuilderAt 125 5 B bb p (nb L) w := by
    rintro p ⟨h1, v, hbk, hown, hne⟩
    refine ⟨h1, v, (hg.block bb (Array.getElem?_eq_some_iff.1 hbk).1 (by simpa using hn)).trans hbk, hown.kept hg ?_, hne⟩
    rcases hown.2 with ⟨rfl, _⟩ | ⟨g, cap, cur, rfl, _, h4, _⟩
    · exact .inl rfl
    · refine .inr (fun e => ?_)
      obtain rfl : g = b := by simpa [Value.ownBlock] using e
      rw [h4] at hb
      simp at hb
      exact ht hb.2.1.symm
  rcases h with h | h
  · exact .inl (key h)
  · exact .inr (key h)
theorem Pn.below {W w w' : World} {B bb dd : Nat} {L : List Nat} {n : Nat} (h : Pn W B bb dd L n w) (hb : Below w.heap.size w w') : Pn W B bb dd L n w' :=
  ⟨h.bel.trans (hb.mono h.bel.size), h.low, h.bi.up hb, (hb.block _ (Array.getElem?_eq_some_iff.1 h.dp).1).trans h.dp, h.ne, h.deep⟩
theorem Pn.put {W w w' : World} {B bb dd : Nat} {L L' : List Nat} {n : Nat} (h : Pn W B bb dd L n w) (hi : BI B bb L' w') (hb : Below B w w') (hk : Kp bb w w') : Pn W B bb dd L' n w' :=
  ⟨h.bel.trans (hb.mono h.low), h.low, hi, hk _ _ _ _ (fun e => h.ne e.symm) h.dp (by decide), h.ne, h.deep⟩
theorem Pn.size {W w : World} {B bb dd : Nat} {L : List Nat} {n : Nat} (h : Pn W B bb dd L n w) : B ≤ w.heap.size := Nat.le_of_lt (Nat.lt_of_le_of_lt h.bi.lt.1 h.bi.lt.2)
/-- What a pen's call leaves. -/
def PnQ (W : World) (B bb dd : Nat) (L : List Nat) (n : Nat) (w : World) (e : Ending) (w' : World) : Prop := e = .returned (.tuple #[]) ∧ Pn W B bb dd L n w' ∧ Kp bb w w'
/-- Texts in a block of their own. -/
def Pt (w : World) (v : Value) (ps : List ByteArray) (bb : Nat) : Prop := ∃ g c, v = .slice (some ⟨g, 0, none⟩) ps.length c ∧ w.heap[g]? = some (.cells (strC ps).toArray 9 (0, 0)) ∧ g ≠ bb
theorem flat_take {ps : List ByteArray} {i : Nat} {t : ByteArray} (h : ps[i]? = some t) : (ps.take (i + 1)).flatMap strN = (ps.take i).flatMap strN ++ strN t := by
  obtain ⟨hi, rfl⟩ := List.getElem?_eq_some_iff.1 h
  rw [List.take_succ_eq_append_getElem hi, List.flatMap_append]
  simp
theorem flat_le {ps : List ByteArray} {i : Nat} {t : ByteArray} (h : ps[i]? = some t) : ((ps.take i).flatMap strN).length + t.size ≤ (ps.flatMap strN).length := by
  have e : ps.flatMap strN = (ps.take (i + 1)).flatMap strN ++ (ps.drop (i + 1)).flatMap strN := by rw [← List.flatMap_append, List.take_append_drop]
  rw [e, flat_take h, List.length_append, List.length_append, strN_len]
  omega
theorem take_le {ps : List ByteArray} (i : Nat) : ((ps.take i).flatMap strN).length ≤ (ps.flatMap strN).length := by
  have e : ps.flatMap strN = (ps.take i).flatMap strN ++ (ps.drop i).flatMap strN := by rw [← List.flatMap_append, List.take_append_drop]
  rw [e, List.length_append]
  omega
set_option maxRecDepth 100000 in
set_option maxHeartbeats 2000000 in
theorem line_any {W w : World} {B bb dd : Nat} {L : List Nat} {n : Nat} (h : Pn W B bb dd L n w) {v : Value} {ps : List ByteArray} (hp : Pt w v ps bb) (hl : L.length + (lineL n ps).length ≤ 1099511627776) (hps : ps.length ≤ 100) :
    Calls Tryz.prog 80 #[v, .pointer (some ⟨bb, 0, none⟩), .pointer (some ⟨dd, 0, none⟩)] w (PnQ W B bb dd (L ++ lineL n ps) n w) := by
  obtain ⟨g, c, rfl, hg, hgb⟩ := hp
  have hll : (lineL n ps).length = 2 * n + (ps.flatMap strN).length + 1 := by simp [lineL]; omega
  rw [hll] at hl
  have HP := hide h
  have c0 : w.cell? ⟨dd, 0, none⟩ = some (.int .i64 (n : Int)) := cell_of_row _ _ _ _ _ _ h.dp
  have HR := hide (repeat_any n h.deep w)
  have HG := hide hg
  have Hgb := hide hgb
  have Hl := hide hl
  clear h hg hgb hl hll
  go_enter Tryz.func80, Tryz.ntmps80
  go_wp2_with fail
  refine (unhide HR).mono ?_
  rintro e w1 ⟨rfl, hb1⟩
  have HP1 := hide ((unhide HP).below hb1)
  have HK1 := hide (show Kp bb w w1 from Kp.below hb1)
  have HW1 := hide (putS (unhide HP1).bi (by have := unhide Hl; omega) (unhide HP1).size (blanksB n) (by have e : (blanksB n).size = (strN (blanksB n)).length := (strN_len _).symm; rw [e, blanks_strN, List.length_replicate]; have := unhide Hl; omega))
  clear hb1 HR HP c0
  go_wp2_with fail
  refine (unhide HW1).mono ?_
  rintro e w2 ⟨rfl, hi2, hb2, hk2⟩
  rw [blanks_strN] at hi2
  have HP2 := hide ((unhide HP1).put hi2 hb2 hk2)
  have HK2 := hide ((unhide HK1).trans hk2)
  clear hi2 hb2 hk2 HP1 HK1 HW1
  go_wp2_with fail
  go_loopg [5, 11] ps.length (fun gk _ v11 wr => ∃ (i : Nat), v11 = .int .i64 (i : Int) ∧ gk = ps.length - i ∧ i ≤ ps.length ∧ Hid (Pn W B bb dd (L ++ List.replicate (2 * n) 32 ++ (ps.take i).flatMap strN) n wr) ∧ Hid (Kp bb w wr))
  case atStart => exact ⟨0, rfl, rfl, by omega, by rw [List.take_zero, List.flatMap_nil, List.append_nil]; exact HP2, HK2⟩
  case round =>
    obtain ⟨i, rfl, hgk, hi, HP3, HK3⟩ := hrel
    have Hgk := hide hgk
    clear hgk HP2 HK2
    by_cases hlt : i < ps.length
    · obtain ⟨t, ht⟩ : ∃ t, ps[i]? = some t := ⟨_, List.getElem?_eq_getElem hlt⟩
      have k3 := unhide HK3 _ _ _ _ (unhide Hgb) (unhide HG) (by decide)
      have x0 : wr.cell? ⟨g, i, none⟩ = some (.string t) := by
        rw [cell_of_row _ _ _ _ _ _ k3]
        simpa using strC_at ht
      have hfl := flat_le ht
      have HW3 := hide (putS (unhide HP3).bi (by rw [List.length_append, List.length_append, List.length_replicate]; have := unhide Hl; omega) (unhide HP3).size t (by have := unhide Hl; omega))
      have HF := hide (flat_take ht)
      have i0 : (0 : Int) ≤ (i : Int) := Int.natCast_nonneg _
      have i1 : (i : Int) < (ps.length : Int) := by omega
      have Hlt := hide hlt
      clear k3 ht hfl hlt
      go_wp2_with fail
      refine (unhide HW3).mono ?_
      rintro e w4 ⟨rfl, hi4, hb4, hk4⟩
      rw [List.append_assoc, ← unhide HF] at hi4
      have HP4 := hide ((unhide HP3).put hi4 hb4 hk4)
      have HK4 := hide ((unhide HK3).trans hk4)
      clear hi4 hb4 hk4 HP3 HK3 HW3 HF
      go_wp2
      go_roundg (ps.length - (i + 1))
      case measure => have := unhide Hgk; have := unhide Hlt; omega
      case rel => exact ⟨i + 1, by go_num, rfl, unhide Hlt, HP4, HK4⟩
    · obtain rfl : i = ps.length := by omega
      have hP := unhide HP3
      rw [List.take_length] at hP
      have HW3 := hide (putB hP.bi (by rw [List.length_append, List.length_append, List.length_replicate]; have := unhide Hl; omega) hP.size 10)
      have HP5 := hide hP
      clear hP HP3
      go_wp2_with fail
      refine (unhide HW3).mono ?_
      rintro e w4 ⟨rfl, hi4, hb4, hk4⟩
      have HP4 := hide ((unhide HP5).put hi4 hb4 hk4)
      have HK4 := hide ((unhide HK3).trans hk4)
      clear hi4 hb4 hk4 HP5 HK3 HW3
      go_wp2
      refine bodyPost_ret (results_none rfl _ _ _) rfl ?_
      have e : L ++ lineL n ps = L ++ List.replicate (2 * n) 32 ++ ps.flatMap strN ++ [10] := by unfold lineL; simp only [List.append_assoc]
      rw [e]
      exact ⟨rfl, unhide HP4, unhide HK4⟩
end Go.Proofs.YtaadpiimcaabkaaGreatDoor

namespace Go.Proofs.YtaadpiimcaabkaaGreatDoor
open Go.RowKit
attribute [local go_sem ↓] Go.wp_at_zero Go.wp_at_succ

/-- The pen's three functions. -/
def fLine (bb dd : Nat) : Value := .func (.func 80) #[] #[.pointer (some ⟨bb, 0, none⟩), .pointer (some ⟨dd, 0, none⟩)]
def fBlock (ll dd : Nat) : Value := .func (.func 84) #[] #[.pointer (some ⟨ll, 0, none⟩), .pointer (some ⟨dd, 0, none⟩)]
def fWhole (bb : Nat) : Value := .func (.func 85) #[.pointer (some ⟨bb, 0, none⟩)] #[]
/-- What is no bytes, no builder and no depth stays. -/
def Kq (bb dd : Nat) (w w' : World) : Prop := ∀ d cs ty fr, d ≠ bb → d ≠ dd → w.heap[d]? = some (.cells cs ty fr) → ty ≠ 5 → w'.heap[d]? = some (.cells cs ty fr)
theorem Kp.q {bb dd : Nat} {w w' : World} (h : Kp bb w w') : Kq bb dd w w' := fun d cs ty fr h1 _ h3 h4 => h d cs ty fr h1 h3 h4
theorem Kq.trans {bb dd : Nat} {u v w : World} (h : Kq bb dd u v) (k : Kq bb dd v w) : Kq bb dd u w := fun d cs ty fr h1 h2 h3 h4 => k d cs ty fr h1 h2 (h d cs ty fr h1 h2 h3 h4) h4
theorem Kq.dd {bb dd : Nat} {w w' : World} (h : w.grownBy w' (some dd)) : Kq bb dd w w' := fun d _ _ _ _ h2 h3 _ => (h.block d (Array.getElem?_eq_some_iff.1 h3).1 (by simpa using h2)).trans h3
theorem Kq.p {bb dd : Nat} {w w' : World} (h : Kq bb dd w w') {n : Int} (h1 : w.heap[dd]? = some (.cells #[.int .i64 n] 3 (0, 0))) (h2 : w'.heap[dd]? = some (.cells #[.int .i64 n] 3 (0, 0))) : Kp bb w w' := by
  intro d cs ty fr k1 k2 k3
  by_cases e : d = dd
  · subst e
    rw [h1] at k2
    rw [h2]
    exact k2
  · exact h d cs ty fr k1 e k2 k3
/-- Deeper, or less deep. -/
theorem Pn.at {W w : World} {B bb dd : Nat} {L : List Nat} {n : Nat} (h : Pn W B bb dd L n w) (hd : W.heap.size ≤ dd) (m : Nat) (hm : m ≤ 1000) : Pn W B bb dd L m (w.setCell ⟨dd, 0, none⟩ (.int .i64 (m : Int))) ∧ Kq bb dd w (w.setCell ⟨dd, 0, none⟩ (.int .i64 (m : Int))) := by
  obtain ⟨k1, k2⟩ := set_block (j := 0) h.dp (.int .i64 (m : Int))
  exact ⟨⟨grown_below h.bel k2 h.bel.size (fun k e => by obtain rfl := Option.some.inj e; exact hd), h.low, h.bi.kept k2 h.dp (by decide) h.ne, k1, h.ne, hm⟩, Kq.dd k2⟩
theorem pt_new {w : World} {ps : List ByteArray} {bb c g : Nat} (hg : g = w.heap.size) (hb : bb < w.heap.size) : Pt (w.alloc (.cells (strC ps).toArray 9)) (.slice (some ⟨g, 0, none⟩) ps.length c) ps bb := by
  subst hg
  exact ⟨_, _, rfl, heap_new _ _, by omega⟩
set_option maxRecDepth 100000 in
set_option maxHeartbeats 2000000 in
/-- A block: its first line, what is inside, its last line. -/
theorem block_any {W w : World} {B bb dd ll : Nat} {L I : List Nat} {n : Nat} (h : Pn W B bb dd L n w) (hd : W.heap.size ≤ dd) (hn : n < 1000) (hll : w.heap[ll]? = some (.cells #[fLine bb dd] 85 (0, 0))) (hlb : ll ≠ bb) (hld : ll ≠ dd) {a b : ByteArray} {f : Fv} (hfo : f.ok)
    (hl : L.length + (lineL n [a, ⟨#[32]⟩, b, ⟨#[32, 123]⟩]).length + I.length + (lineL n [⟨#[125]⟩]).length ≤ 1099511627776)
    (hin : ∀ w3, Pn W B bb dd (L ++ lineL n [a, ⟨#[32]⟩, b, ⟨#[32, 123]⟩]) (n + 1) w3 → Kq bb dd w w3 → Calls Tryz.prog f.f (f.fs ++ f.cp) w3 (PnQ W B bb dd (L ++ lineL n [a, ⟨#[32]⟩, b, ⟨#[32, 123]⟩] ++ I) (n + 1) w3)) :
    Calls Tryz.prog 84 #[.string a, .string b, f.val, .pointer (some ⟨ll, 0, none⟩), .pointer (some ⟨dd, 0, none⟩)] w (PnQ W B bb dd (L ++ (lineL n [a, ⟨#[32]⟩, b, ⟨#[32, 123]⟩] ++ I ++ lineL n [⟨#[125]⟩])) n w) := by
  obtain ⟨fid, ffs, fcp⟩ := f
  unfold Fv.val
  unfold Fv.ok at hfo
  simp only at hfo hin ⊢
  have l0 : w.cell? ⟨ll, 0, none⟩ = some (fLine bb dd) := cell_of_row _ _ _ _ _ _ hll
  unfold fLine at l0 hll
  have hb1 : Below w.heap.size w (w.alloc (.cells #[.string a, .string ⟨#[32]⟩, .string b, .string ⟨#[32, 123]⟩] 9)) := (Below.refl _ _).alloc (Nat.le_refl _) _
  have HL1 := hide (line_any (h.below hb1) (pt_new (ps := [a, ⟨#[32]⟩, b, ⟨#[32, 123]⟩]) (c := 4) rfl h.bi.lt.2) (by omega) (by simp))
  have HK1 := hide (show Kq bb dd w (w.alloc (.cells #[.string a, .string ⟨#[32]⟩, .string b, .string ⟨#[32, 123]⟩] 9)) from (Kp.below hb1).q)
  have HD := hide h.dp
  have HLL := hide hll
  have Hd := hide hd
  have Hn := hide hn
  have Hl := hide hl
  have HIn := hide hin
  have Hlb := hide hlb
  have Hld := hide hld
  obtain ⟨X1, hX1⟩ : ∃ X, lineL n [a, ⟨#[32]⟩, b, ⟨#[32, 123]⟩] = X := ⟨_, rfl⟩
  rw [hX1] at HL1 HIn Hl ⊢
  clear h hll hb1 hd hn hl hin hlb hld hX1
  go_enter Tryz.func84, Tryz.ntmps84
  go_wp2_with fail
  refine (unhide HL1).mono ?_
  rintro e w2 ⟨rfl, hp2, hk2⟩
  have hq2 := (unhide HK1).trans hk2.q
  obtain ⟨hp3, hq3⟩ := hp2.at (unhide Hd) (n + 1) (unhide Hn)
  have c2 : w2.cell? ⟨dd, 0, none⟩ = some (.int .i64 (n : Int)) := cell_of_row _ _ _ _ _ _ hp2.dp
  have f2 : w2.frozen? ⟨dd, 0, none⟩ = false := by simp [World.frozen?, hp2.dp]
  have HP3 := hide hp3
  have HQ3 := hide (hq2.trans hq3)
  have HI3 := hide (unhide HIn _ hp3 (hq2.trans hq3))
  rw [Int.natCast_add, Int.natCast_one] at HP3 HQ3 HI3
  have n0 : n ≤ 1000 := by have := unhide Hn; omega
  clear hp2 hk2 hq2 hp3 hq3 HL1 HK1 HIn l0
  go_wp2_with fail
  refine (unhide HI3).mono ?_
  rintro e w4 ⟨rfl, hp4, hk4⟩
  have hq4 := (unhide HQ3).trans hk4.q
  have c4 : w4.cell? ⟨dd, 0, none⟩ = some (.int .i64 ((n : Int) + 1)) := cell_of_row _ _ _ _ _ _ hp4.dp
  have f4 : w4.frozen? ⟨dd, 0, none⟩ = false := by simp [World.frozen?, hp4.dp]
  obtain ⟨hp5, hq5⟩ := hp4.at (unhide Hd) n n0
  have hq5' := hq4.trans hq5
  have l5 : (w4.setCell ⟨dd, 0, none⟩ (.int .i64 (n : Int))).cell? ⟨ll, 0, none⟩ = some (.func (.func 80) #[] #[.pointer (some ⟨bb, 0, none⟩), .pointer (some ⟨dd, 0, none⟩)]) := cell_of_row _ _ _ _ _ _ (hq5' _ _ _ _ (unhide Hlb) (unhide Hld) (unhide HLL) (by decide))
  obtain ⟨w5, hw5⟩ : ∃ x, w4.setCell ⟨dd, 0, none⟩ (.int .i64 (n : Int)) = x := ⟨_, rfl⟩
  rw [hw5] at hp5 hq5' l5
  have hb6 : Below w5.heap.size w5 (w5.alloc (.cells #[.string ⟨#[125]⟩] 9)) := (Below.refl _ _).alloc (Nat.le_refl _) _
  have HL6 := hide (line_any (hp5.below hb6) (pt_new (ps := [⟨#[125]⟩]) (c := 1) rfl hp5.bi.lt.2) (by rw [List.length_append, List.length_append]; have := unhide Hl; omega) (by simp))
  have HQ6 := hide (hq5'.trans (Kp.below hb6).q)
  have HP5 := hide hp5
  clear hp4 hk4 hq4 hp5 hq5 hq5' hb6 HI3 HQ3 HP3 c2 f2
  go_wp2_with fail
  refine (unhide HL6).mono ?_
  rintro e w7 ⟨rfl, hp7, hk7⟩
  have HE := hide (show PnQ W B bb dd (L ++ (X1 ++ I ++ lineL n [⟨#[125]⟩])) n w (.returned (.tuple #[])) w7 from ⟨rfl, by simpa only [List.append_assoc] using hp7, ((unhide HQ6).trans hk7.q).p (unhide HD) hp7.dp⟩)
  clear hp7 hk7 HL6 HQ6 HP5
  go_wp2
  refine bodyPost_ret (results_none rfl _ _ _) rfl ?_
  exact unhide HE
end Go.Proofs.YtaadpiimcaabkaaGreatDoor
