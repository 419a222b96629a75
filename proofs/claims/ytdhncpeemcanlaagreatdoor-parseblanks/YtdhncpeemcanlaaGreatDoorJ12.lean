import Derived.Test.YtdhncpeemcanlaaGreatDoorJ11
import Derived.Test.YtdhncpeemcanlaaGreatDoorJ11
import Derived.Deep.MidRow
import Derived.Laws.Rows

namespace Go.Proofs.YtdhncpeemcanlaaGreatDoor
open Go.RowKit
attribute [local go_sem ↓] Go.wp_at_zero Go.wp_at_succ

theorem pieceAt_ext {s : ByteArray} {k j : Nat} (h : k + j < s.size) : pieceAt (s.extract k s.size) j = pieceAt s (k + j) := by
  unfold pieceAt
  rw [byteAt_ext h, escL_drop, List.drop_drop]
theorem uq_shift {s : ByteArray} {q k : Nat} (hk : k ≤ s.size) : ∀ (m j : Nat), s.size - (k + j) ≤ m → uqAt (s.extract k s.size) q j = (uqAt s q (k + j)).map fun r => (r.1, r.2 - k) := by
  have hz : (s.extract k s.size).size = s.size - k := by rw [ByteArray.size_extract]; omega
  intro m
  induction m with
  | zero => intro j hj; rw [uq_end (by omega), uq_end (by omega)]; rfl
  | succ m ih =>
    intro j hj
    by_cases hl : k + j < s.size
    · by_cases hq : byteAt s (k + j) = q
      · rw [uq_quote (by omega) ((byteAt_ext hl).trans hq), uq_quote hl hq]
        show some (([] : List Nat), j + 1) = some ([], k + j + 1 - k)
        congr 2
        omega
      · have hq2 : ¬ byteAt (s.extract k s.size) j = q := by rw [byteAt_ext hl]; exact hq
        cases hp : pieceAt s (k + j) with
        | none => rw [uq_bad (by omega) hq2 ((pieceAt_ext hl).trans hp), uq_bad hl hq hp]; rfl
        | some t =>
          obtain ⟨b, n⟩ := t
          obtain ⟨p1, p2, p3⟩ := pieceAt_pos hp hl
          rw [uq_step (by omega) hq2 ((pieceAt_ext hl).trans hp), uq_step hl hq hp, ih (j + n) (by omega), Option.map_map, Option.map_map, show k + (j + n) = k + j + n by omega]
          rfl
    · rw [uq_end (by omega), uq_end hl]; rfl
set_option maxRecDepth 100000 in
theorem stepP_quote {W : World} {B b : Nat} {s : ByteArray} {k n : Nat} {v : Value} {xs : List Value} (hE : HasE W) (I : ScanIn W B b s k n v xs) (hp : passF s s.size k = (k, true)) (hq : byteAt s k = 39 ∨ byteAt s k = 34) (ho : oneF s k = match uqAt s (byteAt s k) (k + 1) with | none => (0, 0, 42) | some (_, e) => (3, e, 0)) :
    Calls Tryz.prog 30 #[.pointer (some ⟨b, 0, none⟩)] W (StepP B b s k n xs W) := by
  have hr := rest_any I.sc (Nat.le_of_lt I.more)
  have HI := hide I
  have HE := hide hE
  have hs := I.size
  have hk := I.more
  have hz : (s.extract k s.size).size = s.size - k := by rw [ByteArray.size_extract]; omega
  have hL : unqL (s.extract k s.size) = (uqAt s (byteAt s k) (k + 1)).map fun r => (r.1, r.2 - k) := by
    have hb0 : byteAt (s.extract k s.size) 0 = byteAt s k := byteAt_ext (by omega)
    rw [unqL_some (by omega) (by rw [hb0]; exact hq), hb0]
    exact uq_shift (by omega) _ 1 (Nat.le_refl _)
  have HL := hide hL
  have Hp := hide hp
  have Ho := hide ho
  clear I hp ho hE hq hL
  go_enter Tryz.func30, Tryz.ntmps30
  go_wp2_with fail
  refine hr.mono ?_
  rintro e w1 ⟨rfl, n1, rfl⟩
  clear hr
  have hb1 : Below W.heap.size W (W.drewN n1) := below_drewN (Below.refl _ _) n1
  have hu := unquote_any ((unhide HE).up hb1) (s.extract k s.size) (by omega)
  have Hb1 := hide hb1
  clear hb1
  go_wp2_with fail
  refine hu.mono ?_
  rintro e w2 ⟨hb2, ⟨h1, rfl⟩ | ⟨l, m, v', h1, rfl, hv⟩⟩
  · have hb5 : Below W.heap.size W w2 := (unhide Hb1).trans hb2
    have hn : uqAt s (byteAt s k) (k + 1) = none := Option.map_eq_none_iff.1 ((unhide HL).symm.trans h1)
    have ht := takeB ((unhide HI).up hb5) (unhide Hp) (c := 42) (by rw [unhide Ho, hn]) (by decide) 0 0 42 rfl
    have Ht := hide ht
    have Hb5 := hide hb5
    clear ht hb2 hb5 hn h1 hu
    go_wp2_with fail
    refine (unhide Ht).mono ?_
    intro e w hq
    obtain ⟨c, rfl⟩ := hq.ret
    have Hq := hide (hq.from (unhide Hb5) (unhide HI).hi)
    clear hq
    go_wp2
    go_ret
    exact unhide Hq
  · have hb5 : Below W.heap.size W w2 := (unhide Hb1).trans hb2
    obtain ⟨⟨l', e'⟩, h2, h3⟩ := Option.map_eq_some_iff.1 ((unhide HL).symm.trans h1)
    obtain ⟨rfl, rfl⟩ := Prod.mk.inj h3
    obtain ⟨u1, u2, _⟩ := uq_le _ (k + 1) l' e' (Nat.le_refl _) h2
    obtain ⟨m, hm⟩ : ∃ m, e' = k + m := ⟨e' - k, by omega⟩
    have hm2 : (l', e').2 - k = m := by show e' - k = m; omega
    rw [hm2]
    have ht := takeO ((unhide HI).up hb5) (unhide Hp) (m := m) (t := 3) (by rw [unhide Ho, h2, hm]) 3 (m : Int) rfl rfl
    have Ht := hide ht
    have Hb5 := hide hb5
    have m0 : ((m : Int) == 0) = false := beq_eq_false_iff_ne.2 (by omega)
    obtain ⟨va, vn, vc, rfl⟩ := hv.shape
    clear ht hb2 hb5 h1 h2 h3 hm hm2 u1 u2 hu hv
    go_wp2_with fail
    refine (unhide Ht).mono ?_
    intro e w hq
    obtain ⟨c, rfl⟩ := hq.ret
    have Hq := hide (hq.from (unhide Hb5) (unhide HI).hi)
    clear hq
    go_wp2
    go_ret
    exact unhide Hq
/-- strings.Index, as the shelf has it. -/
theorem index_any (W : World) (s sub : ByteArray) (m : Int) (hs : s.size < 4294967281) (hm : W.cell? ⟨1, 0, none⟩ = some (.int .i64 m)) :
    Calls Tryz.prog 41 #[.string s, .string sub] W fun e w => e = .returned (.int .i64 (Lib.index s.data.toList sub.data.toList)) ∧ w = W := Any.strings_Index Tryz.laysNI143 s sub m W hs hm
/-- The variable MaxLen holds a number. -/
def HasM (W : World) : Prop := 1 < W.heap.size ∧ ∃ m : Int, W.cell? ⟨1, 0, none⟩ = some (.int .i64 m)
theorem HasM.up {W w : World} (h : HasM W) {B : Nat} (hb : Below B W w) (hB : 1 < B) : HasM w := by
  obtain ⟨h1, m, h2⟩ := h
  exact ⟨Nat.lt_of_lt_of_le h1 hb.size, m, (hb.cell (p := ⟨1, 0, none⟩) hB).trans h2⟩
theorem goOn {W : World} {B b : Nat} {s : ByteArray} {k n : Nat} {v : Value} {xs : List Value} (I : ScanIn W B b s k n v xs) {W1 : World} (hb : Below W.heap.size W W1) (k' : Nat) (z : Value) (hz : z = .int .i64 (k' : Int)) (h1 : k < k') (h2 : k' ≤ s.size) (hp : passF s s.size k = passF s s.size k') : StepP B b s k n xs W (.returned (.int .i64 0)) (W1.setCell ⟨b, 1, none⟩ z) := by
  subst hz
  have J := I.up hb
  refine ⟨(BX.of hb I.hi).set _ _, .inl ⟨rfl, k', [], v, J.sc.at _, ?_, h1, h2, I.room, ?_⟩⟩
  · show World.ownsRow _ B 29 3 v n (xs ++ [])
    rw [List.append_nil]
    obtain ⟨h1, ⟨rfl, h0⟩ | ⟨g, c, cur, rfl, h2, h3, h4⟩⟩ := J.row
    · exact ⟨h1, .inl ⟨rfl, h0⟩⟩
    · refine ⟨h1, .inr ⟨g, c, cur, rfl, h2, (heap_setCell_other _ ⟨b, 1, none⟩ g _ ?_).trans h3, h4⟩⟩
      have := I.lo
      show ¬ g = b
      omega
  · rw [frontT_nil]
    exact tk_pass n hp
set_option maxRecDepth 100000 in
set_option maxHeartbeats 1000000 in
theorem stepP_comment {W : World} {B b : Nat} {s : ByteArray} {k n : Nat} {v : Value} {xs : List Value} (hM : HasM W) (I : ScanIn W B b s k n v xs) (hc : byteAt s k = 47) (ho : (oneF s k).2.2 = 40) :
    Calls Tryz.prog 33 #[.pointer (some ⟨b, 0, none⟩)] W (StepP B b s k n xs W) := by
  have hr := rest_any I.sc (Nat.le_of_lt I.more)
  have HI := hide I
  have hs := I.size
  have hk := I.more
  have hz : (s.extract k s.size).size = s.size - k := by rw [ByteArray.size_extract]; omega
  have hP1 := pre_two (s := s) (k := k) (by omega) 47 47
  have hP2 := pre_two (s := s) (k := k) (by omega) 47 42
  have n47 : (47 : UInt8).toNat = 47 := rfl
  have n42 : (42 : UInt8).toNat = 42 := rfl
  rw [n47] at hP1 hP2
  rw [n42] at hP2
  have HP1 := hide hP1
  have HP2 := hide hP2
  have HM := hide hM
  have Ho := hide ho
  have Hc := hide hc
  clear I hP1 hP2 hM ho hc n47 n42
  go_enter Tryz.func33, Tryz.ntmps33
  go_wp2_with fail
  refine hr.mono ?_
  rintro e w1 ⟨rfl, n1, rfl⟩
  clear hr
  have hb1 : Below W.heap.size W (W.drewN n1) := below_drewN (Below.refl _ _) n1
  have J := (unhide HI).up hb1
  have Hb1 := hide hb1
  have HJ := hide J
  have c1 := J.sc.c1
  have f1 := row_frozenT 1 J.sc
  clear hb1 J
  go_wp2_with fail
  refine (hasPrefix_any _ _ _).mono ?_
  rintro e w2 ⟨rfl, hw⟩
  obtain rfl : W.drewN n1 = w2 := hw.symm
  clear hw
  by_cases q1 : Pre (s.extract k s.size) ⟨#[47, 47]⟩
  · rw [preT q1]
    obtain ⟨a1, a2, a3⟩ := (unhide HP1).1 q1
    have hi := idx_nl (s := s) (k := k) (by omega)
    have hlt := nlAt_lt hk a2
    have hle := nlAt_le s k (by omega)
    have Hpass := hide (pass_line a1 a2 a3)
    clear a2 a3 q1
    obtain ⟨N, hN⟩ : ∃ N, nlAt s k = N := ⟨_, rfl⟩
    rw [hN] at hi hlt hle Hpass
    clear hN
    have Hi := hide hi
    clear hi
    go_wp2_with fail
    refine (idx_any _ _ _).mono ?_
    rintro e w3 ⟨rfl, hw⟩
    obtain rfl : W.drewN n1 = w3 := hw.symm
    clear hw
    have e10 : (10 : Int).toNat.toUInt8 = (10 : UInt8) := rfl
    rw [e10, unhide Hi]
    clear e10 Hi
    by_cases hNs : N < s.size
    · rw [if_pos hNs]
      obtain ⟨d, rfl⟩ : ∃ d, N = k + d := ⟨N - k, by omega⟩
      have hd : k + d - k = d := by omega
      rw [hd]
      clear hd
      go_wp2
      go_ret
      exact goOn (unhide HI) (unhide Hb1) (k + d) _ (by go_num) hlt hle (unhide Hpass)
    · rw [if_neg hNs]
      obtain rfl : N = s.size := by omega
      clear hNs
      have ek : (k : Int) + ((s.size - k : Nat) : Int) = (s.size : Int) := by omega
      go_wp2
      go_ret
      exact goOn (unhide HI) (unhide Hb1) s.size _ (by first | go_num | (congr 1; omega)) hlt hle (unhide Hpass)
  · rw [preF q1]
    go_wp2_with fail
    refine (hasPrefix_any _ _ _).mono ?_
    rintro e w3 ⟨rfl, hw⟩
    obtain rfl : W.drewN n1 = w3 := hw.symm
    clear hw
    by_cases q2 : Pre (s.extract k s.size) ⟨#[47, 42]⟩
    · rw [preT q2]
      obtain ⟨a1, a2, a3⟩ := (unhide HP2).1 q2
      have hi := idx_star (s := s) (k := k + 2) (by omega)
      have hge := starAt_ge s (k + 2)
      have Hp1 := hide (fun h => pass_star a1 a2 a3 h)
      have Hp2 := hide (fun h => pass_noend a1 a2 a3 h)
      clear a2 a3 q1 q2
      obtain ⟨N, hN⟩ : ∃ N, starAt s (k + 2) = N := ⟨_, rfl⟩
      rw [hN] at hi hge Hp1 Hp2
      clear hN
      have Hi := hide hi
      clear hi
      have hx2 : (s.extract k s.size).extract 2 (s.size - k) = s.extract (k + 2) s.size := by
        apply ByteArray.ext
        apply Array.ext'
        rw [Lib.extract_data, Lib.extract_data, Lib.extract_data, List.drop_take, List.take_take, List.drop_drop]
        congr 1
        omega
      have z2 : (2 : Int) ≤ ((s.size - k : Nat) : Int) := by omega
      have hz2 : (s.extract (k + 2) s.size).size = s.size - (k + 2) := by rw [ByteArray.size_extract]; omega
      obtain ⟨_, mm, hmm⟩ := unhide HM
      have hmm2 : (W.drewN n1).cell? ⟨1, 0, none⟩ = some (.int .i64 mm) := hmm
      have Hmm := hide hmm2
      clear hmm hmm2
      go_wp2_with fail
      refine (index_any _ _ _ mm (by omega) (unhide Hmm)).mono ?_
      rintro e w3 ⟨rfl, hw⟩
      obtain rfl : W.drewN n1 = w3 := hw.symm
      clear hw
      have e4 : (⟨#[42, 47]⟩ : ByteArray).data.toList = [42, 47] := rfl
      rw [e4, unhide Hi]
      clear e4 Hi
      by_cases hNs : N + 2 ≤ s.size
      · rw [if_pos hNs]
        obtain ⟨d, rfl⟩ : ∃ d, N = k + 2 + d := ⟨N - (k + 2), by omega⟩
        have hd : k + 2 + d - (k + 2) = d := by omega
        rw [hd]
        clear hd
        go_wp2
        go_ret
        exact goOn (unhide HI) (unhide Hb1) (k + 2 + d + 2) _ (by first | go_num | (congr 1; omega)) (by omega) hNs (unhide Hp1 hNs)
      · rw [if_neg hNs]
        have Hq : Hid (StepP B b s k n xs W (.returned (.int .i64 43)) (W.drewN n1)) := ⟨BX.of (unhide Hb1) (unhide HI).hi, .inr ⟨43, v, by decide, rfl, (unhide HJ).sc, tk_noend (unhide Hp2 hNs)⟩⟩
        clear hNs Hp1 Hp2
        go_wp2
        go_ret
        exact unhide Hq
    · rw [preF q2]
      have hp : passF s s.size k = (k, true) := pass_stop hk (by rw [unhide Hc]; decide) (mt (unhide HP1).2 q1) (mt (unhide HP2).2 q2)
      have ht := takeB (unhide HJ) hp (unhide Ho) (by decide) 0 0 40 rfl
      have Ht := hide ht
      clear ht hp q1 q2
      go_wp2_with fail
      refine (unhide Ht).mono ?_
      intro e w hq
      obtain ⟨c, rfl⟩ := hq.ret
      have Hq := hide (hq.from (unhide Hb1) (unhide HI).hi)
      clear hq
      go_wp2
      go_ret
      exact unhide Hq
end Go.Proofs.YtdhncpeemcanlaaGreatDoor

namespace Go.Proofs.YtdhncpeemcanlaaGreatDoor
open Go.RowKit
attribute [local go_sem ↓] Go.wp_at_zero Go.wp_at_succ

/-- A block that is written from a place on. -/
def written : Array Value → Nat → List Value → Array Value
  | cs, _, [] => cs
  | cs, o, v :: vs => written (cs.setIfInBounds o v) (o + 1) vs
theorem heap_setCells {t : TypeId} {g : Nat} : ∀ (vs : List Value) (o : Nat) (w : World) (cs : Array Value), w.heap[g]? = some (.cells cs t (0, 0)) → (w.setCells g o vs).heap[g]? = some (.cells (written cs o vs) t (0, 0)) ∧ (∀ b, b ≠ g → (w.setCells g o vs).heap[b]? = w.heap[b]?)
  | [], _, _, _, h => ⟨h, fun _ _ => rfl⟩
  | v :: vs, o, w, cs, h => by
    obtain ⟨h1, h2⟩ := heap_setCells vs (o + 1) (w.setCell ⟨g, o, none⟩ v) (cs.setIfInBounds o v) (heap_setCell_same w g o cs t v h)
    exact ⟨h1, fun b hb => (h2 b hb).trans (heap_setCell_other w _ b v hb)⟩
theorem below_setCells {n g : Nat} {A : World} (hg : n ≤ g) : ∀ (vs : List Value) (o : Nat) (w : World), Below n A w → Below n A (w.setCells g o vs)
  | [], _, _, h => h
  | v :: vs, o, _, h => below_setCells hg vs (o + 1) _ (h.setCell (p := ⟨g, o, none⟩) hg v)
theorem size_setCells {g : Nat} : ∀ (vs : List Value) (o : Nat) (w : World), (w.setCells g o vs).heap.size = w.heap.size
  | [], _, _ => rfl
  | _ :: vs, o, w => (size_setCells vs (o + 1) _).trans (World.size_setCell w _ _)
/-- The table of what is done, by class. -/
def stepCells : List Value := [.func (.func 22) #[] #[], .func (.func 24) #[] #[], .func (.func 25) #[] #[], .func (.func 28) #[] #[], .func (.func 30) #[] #[], .func (.func 32) #[] #[], .func (.func 33) #[] #[]]
theorem Tryz.infoSteps : (Tryz.prog.info? 59).map (·.size) = some stepCells.toArray.size := by kernel_rfl
theorem stepOne : stepCells.toArray.all (·.oneCell') = true := by decide +kernel
/-- The function of a class. -/
def tabF : Nat → Nat
  | 0 => 22 | 1 => 24 | 2 => 25 | 3 => 28 | 4 => 30 | 5 => 32 | _ => 33
theorem tab_cells : ∀ c, c < 7 → stepCells[c]? = some (.func (.func (tabF c)) #[] #[])
  | 0, _ => rfl | 1, _ => rfl | 2, _ => rfl | 3, _ => rfl | 4, _ => rfl | 5, _ => rfl | 6, _ => rfl
  | _ + 7, h => by omega
def nils : Array Value := #[.nilFunc, .nilFunc, .nilFunc, .nilFunc, .nilFunc, .nilFunc, .nilFunc]
theorem there7 (W : World) : (W.alloc (.cells #[.nilFunc, .nilFunc, .nilFunc, .nilFunc, .nilFunc, .nilFunc, .nilFunc] 59)).there W.heap.size 0 stepCells.toArray.size := by
  intro j hj
  have hb := heap_alloc_new W (.cells #[.nilFunc, .nilFunc, .nilFunc, .nilFunc, .nilFunc, .nilFunc, .nilFunc] 59)
  refine ⟨?_, frozen_of_row _ _ _ _ _ hb⟩
  rw [Nat.zero_add, cell_of_row _ _ _ _ _ _ hb]
  have hj' : j < 7 := hj
  simp
  omega
set_option maxRecDepth 100000 in
set_option maxHeartbeats 2000000 in
theorem steps_any (W : World) : Calls Tryz.prog 17 #[] W fun e W' => e = .returned (.agg stepCells.toArray) ∧ Below W.heap.size W W' := by
  have hth := there7 W
  go_enter Tryz.func17, Tryz.ntmps17
  go_wp2_with (refine wpList_store_mid rfl 59 (.tmp 0) (.tmp 1) rfl W.heap.size 0 stepCells.toArray rfl rfl hth Tryz.infoSteps stepOne ?_)
  obtain ⟨hw1, hw2⟩ := heap_setCells (t := 59) (g := W.heap.size) stepCells 0 (W.alloc (.cells #[.nilFunc, .nilFunc, .nilFunc, .nilFunc, .nilFunc, .nilFunc, .nilFunc] 59)) #[.nilFunc, .nilFunc, .nilFunc, .nilFunc, .nilFunc, .nilFunc, .nilFunc] (heap_alloc_new W _)
  have hw3 : written #[.nilFunc, .nilFunc, .nilFunc, .nilFunc, .nilFunc, .nilFunc, .nilFunc] 0 stepCells = stepCells.toArray := by rfl
  rw [hw3] at hw1
  have hB : Below W.heap.size W ((W.alloc (.cells #[.nilFunc, .nilFunc, .nilFunc, .nilFunc, .nilFunc, .nilFunc, .nilFunc] 59)).setCells W.heap.size 0 stepCells) := below_setCells (Nat.le_refl _) _ _ _ ((Below.refl _ W).alloc (Nat.le_refl _) _)
  refine bodyPost_ret (v := .agg stepCells.toArray) (results_cell_row rfl _ _ W.heap.size 59 stepCells.toArray (0, 0) _ rfl hw1 Tryz.underlying59 rfl Tryz.infoSteps) rfl ⟨rfl, hB⟩
/-- The table lies there. -/
def HasT (W : World) (tb : Nat) : Prop := W.heap[tb]? = some (.cells stepCells.toArray 59 (0, 0))
theorem HasT.cell {W : World} {tb : Nat} (h : HasT W tb) (c : Nat) (hc : c < 7) : W.cell? ⟨tb, c, none⟩ = some (.func (.func (tabF c)) #[] #[]) := by
  rw [cell_of_row _ _ _ _ _ _ h, ← tab_cells c hc]
  simp
theorem hasT_new (W : World) : HasT ((W.alloc (.cells #[.nilFunc, .nilFunc, .nilFunc, .nilFunc, .nilFunc, .nilFunc, .nilFunc] 59)).setCells W.heap.size 0 stepCells) W.heap.size := by
  have := (heap_setCells (t := 59) (g := W.heap.size) stepCells 0 _ _ (heap_alloc_new W (.cells #[.nilFunc, .nilFunc, .nilFunc, .nilFunc, .nilFunc, .nilFunc, .nilFunc] 59))).1
  rw [show written #[.nilFunc, .nilFunc, .nilFunc, .nilFunc, .nilFunc, .nilFunc, .nilFunc] 0 stepCells = stepCells.toArray from rfl] at this
  exact this
/-- The table, as a letter. -/
structure Tab (A : Array Value) : Prop where
  eq : A = stepCells.toArray
  info : (Tryz.prog.info? 59).map (·.size) = some A.size
  one : A.all (·.oneCell') = true
theorem tab_any : Tab stepCells.toArray := ⟨rfl, Tryz.infoSteps, stepOne⟩
theorem cls_lt (c : Nat) : cls c < 7 := by
  unfold cls
  repeat' split
  all_goals decide
theorem enters_any {f : FuncId} {F : Func} (h : Tryz.prog.funcs[f]? = some F) (hn : ¬ F.name = "runtime.NumGoroutine") (hb : F.body.isSome = true) (w : World) (vs : Array Value) : (callFunc f vs).run Tryz.prog w = .ok (.enter f vs) w := by
  obtain ⟨c, hc⟩ := Option.isSome_iff_exists.1 hb
  simp [callFunc, h, hn, hc]
theorem callV_any (w : World) (vs : Array Value) : ∀ c, c < 7 → (callFunc (tabF c) vs).run Tryz.prog w = .ok (.enter (tabF c) vs) w
  | 0, _ => by exact enters_any Tryz.func22 (by decide +kernel) (by kernel_rfl) w vs
  | 1, _ => by exact enters_any Tryz.func24 (by decide +kernel) (by kernel_rfl) w vs
  | 2, _ => by exact enters_any Tryz.func25 (by decide +kernel) (by kernel_rfl) w vs
  | 3, _ => by exact enters_any Tryz.func28 (by decide +kernel) (by kernel_rfl) w vs
  | 4, _ => by exact enters_any Tryz.func30 (by decide +kernel) (by kernel_rfl) w vs
  | 5, _ => by exact enters_any Tryz.func32 (by decide +kernel) (by kernel_rfl) w vs
  | 6, _ => by exact enters_any Tryz.func33 (by decide +kernel) (by kernel_rfl) w vs
  | _ + 7, h => by omega
theorem callC_any (w : World) (vs : Array Value) : (callFunc 18 vs).run Tryz.prog w = .ok (.enter 18 vs) w := by exact enters_any Tryz.func18 (by decide +kernel) (by kernel_rfl) w vs
/-- The step of a class. -/
theorem stepP_any {W : World} {B b : Nat} {s : ByteArray} {k n : Nat} {v : Value} {xs : List Value} (hE : HasE W) (hM : HasM W) (I : ScanIn W B b s k n v xs) :
    Calls Tryz.prog (tabF (cls (byteAt s k))) #[.pointer (some ⟨b, 0, none⟩)] W (StepP B b s k n xs W) := by
  have hm := I.more
  have hone : oneF s k = oneF s k := rfl
  conv at hone => rhs; unfold oneF
  rcases cls_cases (byteAt s k) with ⟨e, h1⟩ | ⟨n1, ⟨e, h2⟩ | ⟨n2, ⟨e, h3⟩ | ⟨n3, ⟨e, h4⟩ | ⟨n4, ⟨e, h5⟩ | ⟨n5, ⟨e, h6⟩ | ⟨e, n6⟩⟩⟩⟩⟩⟩
  · rw [e]
    exact stepP_blank I h1
  · rw [e]
    rw [if_pos h2] at hone
    exact stepP_letter I (pass_other hm n1 (fun q => by rw [q] at h2; exact absurd h2 (by decide))) hone
  · rw [e]
    rw [if_neg n2, if_pos h3] at hone
    exact stepP_digit hE I (pass_other hm n1 (fun q => by rw [q] at h3; exact absurd h3 (by decide))) hone
  · rw [e]
    rw [if_neg n2, if_neg n3, if_pos h4] at hone
    exact stepP_quote hE I (pass_other hm n1 (fun q => by omega)) h4 hone
  · rw [e]
    rw [if_neg n2, if_neg n3, if_neg n4, if_pos h5] at hone
    exact stepP_sign I (pass_other hm n1 (fun q => by rw [q] at h5; exact absurd h5 (by decide))) hone
  · rw [e]
    rw [if_neg n2, if_neg n3, if_neg n4, if_neg n5] at hone
    exact stepP_comment hM I h6 (by rw [hone])
  · rw [e]
    rw [if_neg n2, if_neg n3, if_neg n4, if_neg n5] at hone
    exact stepP_none I (pass_other hm n1 n6) (by rw [hone])
end Go.Proofs.YtdhncpeemcanlaaGreatDoor
