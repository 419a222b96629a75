import Derived.Test.YtaadpiimcaabkaaGreatDoorJ17
import Derived.Test.YtaadpiimcaabkaaGreatDoorJ17
import Derived.Test.YtaadpiimcaabkaaGreatDoorJ09

namespace Go.Proofs.YtaadpiimcaabkaaGreatDoor
open Go.RowKit
attribute [local go_sem ↓] Go.wp_at_zero Go.wp_at_succ

theorem pieceAt_ext {s : ByteArray} {k j : Nat} (h : k + j < s.size) : pieceAt (s.extract k s.size) j = pieceAt s (k + j) := by
  unfold pieceAt
  rw [byteAt_ext h, escL_drop, List.drop_drop]
theorem uq_shift {s : ByteArray} {q k : Nat} (hk : k ≤ s.size) : ∀ (m j : Nat), s.size - (k + j) ≤ m → uqAt (s.extract k s.size) q j = (uqAt s q (k + j)).map fun r => (r.1, r.2 - k) := by
  have hz : (s.extract k s.size).size = s.size - k := by rw [ByteArray.size_extract]; omega
  intro m
  induction m with
  | zero => intro j hj; rw [uq_end (by omega), uq_end (by omega)]; rfl
  | succ m ih =>
    intro j hj
    by_cases hl : k + j < s.size
    · by_cases hq : byteAt s (k + j) = q
      · rw [uq_quote (by omega) ((byteAt_ext hl).trans hq), uq_quote hl hq]
        show some (([] : List Nat), j + 1) = some ([], k + j + 1 - k)
        congr 2
        omega
      · have hq2 : ¬ byteAt (s.extract k s.size) j = q := by rw [byteAt_ext hl]; exact hq
        cases hp : pieceAt s (k + j) with
        | none => rw [uq_bad (by omega) hq2 ((pieceAt_ext hl).trans hp), uq_bad hl hq hp]; rfl
        | some t =>
          obtain ⟨b, n⟩ := t
          obtain ⟨p1, p2, p3⟩ := pieceAt_pos hp hl
          rw [uq_step (by omega) hq2 ((pieceAt_ext hl).trans hp), uq_step hl hq hp, ih (j + n) (by omega), Option.map_map, Option.map_map, show k + (j + n) = k + j + n by omega]
          rfl
    · rw [uq_end (by omega), uq_end hl]; rfl
set_option maxRecDepth 100000 in
theorem stepP_quote {W : World} {B b : Nat} {s : ByteArray} {k n : Nat} {v : Value} {xs : List Value} (hE : HasE W) (I : ScanIn W B b s k n v xs) (hp : passF s s.size k = (k, true)) (hq : byteAt s k = 39 ∨ byteAt s k = 34) (ho : oneF s k = match uqAt s (byteAt s k) (k + 1) with | none => (0, 0, 42) | some (_, e) => (3, e, 0)) :
    Calls Tryz.prog 144 #[.pointer (some ⟨b, 0, none⟩)] W (StepP B b s k n xs W) := by
  have hr := rest_any I.sc (Nat.le_of_lt I.more)
  have HI := hide I
  have HE := hide hE
  have hs := I.size
  have hk := I.more
  have hz : (s.extract k s.size).size = s.size - k := by rw [ByteArray.size_extract]; omega
  have hL : unqL (s.extract k s.size) = (uqAt s (byteAt s k) (k + 1)).map fun r => (r.1, r.2 - k) := by
    have hb0 : byteAt (s.extract k s.size) 0 = byteAt s k := byteAt_ext (by omega)
    rw [unqL_some (by omega) (by rw [hb0]; exact hq), hb0]
    exact uq_shift (by omega) _ 1 (Nat.le_refl _)
  have HL := hide hL
  have Hp := hide hp
  have Ho := hide ho
  clear I hp ho hE hq hL
  go_enter Tryz.func144, Tryz.ntmps144
  go_wp2_with fail
  refine hr.mono ?_
  rintro e w1 ⟨rfl, n1, rfl⟩
  clear hr
  have hb1 : Below W.heap.size W (W.drewN n1) := below_drewN (Below.refl _ _) n1
  have hu := unquote_any ((unhide HE).up hb1) (s.extract k s.size) (by omega)
  have Hb1 := hide hb1
  clear hb1
  go_wp2_with fail
  refine hu.mono ?_
  rintro e w2 ⟨hb2, ⟨h1, rfl⟩ | ⟨l, m, v', h1, rfl, hv⟩⟩
  · have hb5 : Below W.heap.size W w2 := (unhide Hb1).trans hb2
    have hn : uqAt s (byteAt s k) (k + 1) = none := Option.map_eq_none_iff.1 ((unhide HL).symm.trans h1)
    have ht := takeB ((unhide HI).up hb5) (unhide Hp) (c := 42) (by rw [unhide Ho, hn]) (by decide) 0 0 42 rfl
    have Ht := hide ht
    have Hb5 := hide hb5
    clear ht hb2 hb5 hn h1 hu
    go_wp2_with fail
    refine (unhide Ht).mono ?_
    intro e w hq
    obtain ⟨c, rfl⟩ := hq.ret
    have Hq := hide (hq.from (unhide Hb5) (unhide HI).hi)
    clear hq
    go_wp2
    go_ret
    exact unhide Hq
  · have hb5 : Below W.heap.size W w2 := (unhide Hb1).trans hb2
    obtain ⟨⟨l', e'⟩, h2, h3⟩ := Option.map_eq_some_iff.1 ((unhide HL).symm.trans h1)
    obtain ⟨rfl, rfl⟩ := Prod.mk.inj h3
    obtain ⟨u1, u2, _⟩ := uq_le _ (k + 1) l' e' (Nat.le_refl _) h2
    obtain ⟨m, hm⟩ : ∃ m, e' = k + m := ⟨e' - k, by omega⟩
    have hm2 : (l', e').2 - k = m := by show e' - k = m; omega
    rw [hm2]
    have ht := takeO ((unhide HI).up hb5) (unhide Hp) (m := m) (t := 3) (by rw [unhide Ho, h2, hm]) 3 (m : Int) rfl rfl
    have Ht := hide ht
    have Hb5 := hide hb5
    have m0 : ((m : Int) == 0) = false := beq_eq_false_iff_ne.2 (by omega)
    obtain ⟨va, vn, vc, rfl⟩ := hv.shape
    clear ht hb2 hb5 h1 h2 h3 hm hm2 u1 u2 hu hv
    go_wp2_with fail
    refine (unhide Ht).mono ?_
    intro e w hq
    obtain ⟨c, rfl⟩ := hq.ret
    have Hq := hide (hq.from (unhide Hb5) (unhide HI).hi)
    clear hq
    go_wp2
    go_ret
    exact unhide Hq
/-- strings.Index, as the shelf has it. -/
theorem index_any (W : World) (s sub : ByteArray) (m : Int) (hs : s.size < 4294967281) (hm : W.cell? ⟨1, 0, none⟩ = some (.int .i64 m)) :
    Calls Tryz.prog 156 #[.string s, .string sub] W fun e w => e = .returned (.int .i64 (Lib.index s.data.toList sub.data.toList)) ∧ w = W := Any.strings_Index Tryz.laysNI143 s sub m W hs hm
/-- The variable MaxLen holds a number. -/
def HasM (W : World) : Prop := 1 < W.heap.size ∧ ∃ m : Int, W.cell? ⟨1, 0, none⟩ = some (.int .i64 m)
theorem HasM.up {W w : World} (h : HasM W) {B : Nat} (hb : Below B W w) (hB : 1 < B) : HasM w := by
  obtain ⟨h1, m, h2⟩ := h
  exact ⟨Nat.lt_of_lt_of_le h1 hb.size, m, (hb.cell (p := ⟨1, 0, none⟩) hB).trans h2⟩
theorem goOn {W : World} {B b : Nat} {s : ByteArray} {k n : Nat} {v : Value} {xs : List Value} (I : ScanIn W B b s k n v xs) {W1 : World} (hb : Below W.heap.size W W1) (k' : Nat) (z : Value) (hz : z = .int .i64 (k' : Int)) (h1 : k < k') (h2 : k' ≤ s.size) (hp : passF s s.size k = passF s s.size k') : StepP B b s k n xs W (.returned (.int .i64 0)) (W1.setCell ⟨b, 1, none⟩ z) := by
  subst hz
  have J := I.up hb
  refine ⟨(BX.of hb I.hi).set _ _, .inl ⟨rfl, k', [], v, J.sc.at _, ?_, h1, h2, I.room, ?_⟩⟩
  · show World.ownsRow _ B 107 3 v n (xs ++ [])
    rw [List.append_nil]
    obtain ⟨h1, ⟨rfl, h0⟩ | ⟨g, c, cur, rfl, h2, h3, h4⟩⟩ := J.row
    · exact ⟨h1, .inl ⟨rfl, h0⟩⟩
    · refine ⟨h1, .inr ⟨g, c, cur, rfl, h2, (heap_setCell_other _ ⟨b, 1, none⟩ g _ ?_).trans h3, h4⟩⟩
      have := I.lo
      show ¬ g = b
      omega
  · rw [frontT_nil]
    exact tk_pass n hp
set_option maxRecDepth 100000 in
set_option maxHeartbeats 1000000 in
theorem stepP_comment {W : World} {B b : Nat} {s : ByteArray} {k n : Nat} {v : Value} {xs : List Value} (hM : HasM W) (I : ScanIn W B b s k n v xs) (hc : byteAt s k = 47) (ho : (oneF s k).2.2 = 40) :
    Calls Tryz.prog 147 #[.pointer (some ⟨b, 0, none⟩)] W (StepP B b s k n xs W) := by
  have hr := rest_any I.sc (Nat.le_of_lt I.more)
  have HI := hide I
  have hs := I.size
  have hk := I.more
  have hz : (s.extract k s.size).size = s.size - k := by rw [ByteArray.size_extract]; omega
  have hP1 := pre_two (s := s) (k := k) (by omega) 47 47
  have hP2 := pre_two (s := s) (k := k) (by omega) 47 42
  have n47 : (47 : UInt8).toNat = 47 := rfl
  have n42 : (42 : UInt8).toNat = 42 := rfl
  rw [n47] at hP1 hP2
  rw [n42] at hP2
  have HP1 := hide hP1
  have HP2 := hide hP2
  have HM := hide hM
  have Ho := hide ho
  have Hc := hide hc
  clear I hP1 hP2 hM ho hc n47 n42
  go_enter Tryz.func147, Tryz.ntmps147
  go_wp2_with fail
  refine hr.mono ?_
  rintro e w1 ⟨rfl, n1, rfl⟩
  clear hr
  have hb1 : Below W.heap.size W (W.drewN n1) := below_drewN (Below.refl _ _) n1
  have J := (unhide HI).up hb1
  have Hb1 := hide hb1
  have HJ := hide J
  have c1 := J.sc.c1
  have f1 := row_frozenT 1 J.sc
  clear hb1 J
  go_wp2_with fail
  refine (hasPrefix_any _ _ _).mono ?_
  rintro e w2 ⟨rfl, hw⟩
  obtain rfl : W.drewN n1 = w2 := hw.symm
  clear hw
  by_cases q1 : Pre (s.extract k s.size) ⟨#[47, 47]⟩
  · rw [preT q1]
    obtain ⟨a1, a2, a3⟩ := (unhide HP1).1 q1
    have hi := idx_nl (s := s) (k := k) (by omega)
    have hlt := nlAt_lt hk a2
    have hle := nlAt_le s k (by omega)
    have Hpass := hide (pass_line a1 a2 a3)
    clear a2 a3 q1
    obtain ⟨N, hN⟩ : ∃ N, nlAt s k = N := ⟨_, rfl⟩
    rw [hN] at hi hlt hle Hpass
    clear hN
    have Hi := hide hi
    clear hi
    go_wp2_with fail
    refine (idx_any _ _ _).mono ?_
    rintro e w3 ⟨rfl, hw⟩
    obtain rfl : W.drewN n1 = w3 := hw.symm
    clear hw
    have e10 : (10 : Int).toNat.toUInt8 = (10 : UInt8) := rfl
    rw [e10, unhide Hi]
    clear e10 Hi
    by_cases hNs : N < s.size
    · rw [if_pos hNs]
      obtain ⟨d, rfl⟩ : ∃ d, N = k + d := ⟨N - k, by omega⟩
      have hd : k + d - k = d := by omega
      rw [hd]
      clear hd
      go_wp2
      go_ret
      exact goOn (unhide HI) (unhide Hb1) (k + d) _ (by go_num) hlt hle (unhide Hpass)
    · rw [if_neg hNs]
      obtain rfl : N = s.size := by omega
      clear hNs
      have ek : (k : Int) + ((s.size - k : Nat) : Int) = (s.size : Int) := by omega
      go_wp2
      go_ret
      exact goOn (unhide HI) (unhide Hb1) s.size _ (by first | go_num | (congr 1; omega)) hlt hle (unhide Hpass)
  · rw [preF q1]
    go_wp2_with fail
    refine (hasPrefix_any _ _ _).mono ?_
    rintro e w3 ⟨rfl, hw⟩
    obtain rfl : W.drewN n1 = w3 := hw.symm
    clear hw
    by_cases q2 : Pre (s.extract k s.size) ⟨#[47, 42]⟩
    · rw [preT q2]
      obtain ⟨a1, a2, a3⟩ := (unhide HP2).1 q2
      have hi := idx_star (s := s) (k := k + 2) (by omega)
      have hge := starAt_ge s (k + 2)
      have Hp1 := hide (fun h => pass_star a1 a2 a3 h)
      have Hp2 := hide (fun h => pass_noend a1 a2 a3 h)
      clear a2 a3 q1 q2
      obtain ⟨N, hN⟩ : ∃ N, starAt s (k + 2) = N := ⟨_, rfl⟩
      rw [hN] at hi hge Hp1 Hp2
      clear hN
      have Hi := hide hi
      clear hi
      have hx2 : (s.extract k s.size).extract 2 (s.size - k) = s.extract (k + 2) s.size := by
        apply ByteArray.ext
        apply Array.ext'
        rw [Lib.extract_data, Lib.extract_data, Lib.extract_data, List.drop_take, List.take_take, List.drop_drop]
        congr 1
        omega
      have z2 : (2 : Int) ≤ ((s.size - k : Nat) : Int) := by omega
      have hz2 : (s.extract (k + 2) s.size).size = s.size - (k + 2) := by rw [ByteArray.size_extract]; omega
      obtain ⟨_, mm, hmm⟩ := unhide HM
      have hmm2 : (W.drewN n1).cell? ⟨1, 0, none⟩ = some (.int .i64 mm) := hmm
      have Hmm := hide hmm2
      clear hmm hmm2
      go_wp2_with fail
      refine (index_any _ _ _ mm (by omega) (unhide Hmm)).mono ?_
      rintro e w3 ⟨rfl, hw⟩
      obtain rfl : W.drewN n1 = w3 := hw.symm
      clear hw
      have e4 : (⟨#[42, 47]⟩ : ByteArray).data.toList = [42, 47] := rfl
      rw [e4, unhide Hi]
      clear e4 Hi
      by_cases hNs : N + 2 ≤ s.size
      · rw [if_pos hNs]
        obtain ⟨d, rfl⟩ : ∃ d, N = k + 2 + d := ⟨N - (k + 2), by omega⟩
        have hd : k + 2 + d - (k + 2) = d := by omega
        rw [hd]
        clear hd
        go_wp2
        go_ret
        exact goOn (unhide HI) (unhide Hb1) (k + 2 + d + 2) _ (by first | go_num | (congr 1; omega)) (by omega) hNs (unhide Hp1 hNs)
      · rw [if_neg hNs]
        have Hq : Hid (StepP B b s k n xs W (.returned (.int .i64 43)) (W.drewN n1)) := ⟨BX.of (unhide Hb1) (unhide HI).hi, .inr ⟨43, v, by decide, rfl, (unhide HJ).sc, tk_noend (unhide Hp2 hNs)⟩⟩
        clear hNs Hp1 Hp2
        go_wp2
        go_ret
        exact unhide Hq
    · rw [preF q2]
      have hp : passF s s.size k = (k, true) := pass_stop hk (by rw [unhide Hc]; decide) (mt (unhide HP1).2 q1) (mt (unhide HP2).2 q2)
      have ht := takeB (unhide HJ) hp (unhide Ho) (by decide) 0 0 40 rfl
      have Ht := hide ht
      clear ht hp q1 q2
      go_wp2_with fail
      refine (unhide Ht).mono ?_
      intro e w hq
      obtain ⟨c, rfl⟩ := hq.ret
      have Hq := hide (hq.from (unhide Hb1) (unhide HI).hi)
      clear hq
      go_wp2
      go_ret
      exact unhide Hq
end Go.Proofs.YtaadpiimcaabkaaGreatDoor

namespace Go.Proofs.YtaadpiimcaabkaaGreatDoor
open Go.RowKit
attribute [local go_sem ↓] Go.wp_at_zero Go.wp_at_succ

/-- Each in its turn, with a state. -/
def allL {α σ : Type} (q : α → σ → Option σ) : List α → σ → Option σ
  | [], s => some s
  | x :: r, s => match q x s with
    | some s' => allL q r s'
    | none => none
theorem allN_drop {α σ : Type} (l : List α) (q : α → σ → Option σ) (p : Nat → σ → Option σ) (hp : ∀ i x s, l[i]? = some x → p i s = q x s) : ∀ (n i : Nat) (s : σ), n = l.length - i → allN p n i s = allL q (l.drop i) s := by
  intro n
  induction n with
  | zero =>
    intro i s h
    rw [List.drop_eq_nil_of_le (by omega)]
    rfl
  | succ n ih =>
    intro i s h
    have hi : i < l.length := by omega
    rw [List.drop_eq_getElem_cons hi]
    unfold allN allL
    rw [hp i _ s (List.getElem?_eq_getElem hi)]
    cases hb : q l[i] s with
    | some s' => exact ih (i + 1) s' (by omega)
    | none => rfl
theorem allN_L {α σ : Type} {l : List α} {q : α → σ → Option σ} {p : Nat → σ → Option σ} (hp : ∀ i x s, l[i]? = some x → p i s = q x s) {n : Nat} (hn : n = l.length) (s : σ) : allN p n 0 s = allL q l s := by
  rw [allN_drop l q p hp n 0 s (by omega), List.drop_zero]
/-- Yes or no as a step without a state. -/
def yes (b : Bool) (_ : Unit) : Option Unit := if b then some () else none
theorem yes_is (b : Bool) (u : Unit) : (yes b u).isSome = b := by cases b <;> rfl
theorem allL_yes {α : Type} (q : α → Bool) : ∀ l : List α, (allL (fun x => yes (q x)) l ()).isSome = l.all q
  | [] => rfl
  | x :: r => by
    rw [List.all_cons]
    unfold allL yes
    cases q x with
    | true => exact allL_yes q r
    | false => rfl
theorem allN_list {α : Type} {l : List α} {q : α → Bool} {p : Nat → Unit → Option Unit} (hp : ∀ i x, l[i]? = some x → p i () = yes (q x) ()) {n : Nat} (hn : n = l.length) : (allN p n 0 ()).isSome = l.all q := by
  rw [allN_L (q := fun x => yes (q x)) (fun i x _ h => hp i x h) hn, allL_yes]
/-- No state. -/
def NoJ (_ : Unit) (_ : World) : Prop := True
theorem stb_no : Stb NoJ := fun _ _ _ _ _ => trivial
/-- What says a function of a text alone. -/
def TellS (f : FuncId) (q : ByteArray → Bool) : Prop := ∀ (W : World) (s : ByteArray), Calls Tryz.prog f #[.string s] W fun e w => e = .returned (.bool (q s)) ∧ w = W
theorem says_str {W : World} {l : List ByteArray} {f : FuncId} {q : ByteArray → Bool} (h : TellS f q) : Says false W.heap.size W none NoJ ⟨f, #[], #[]⟩ (fun i => (strC l).getD i undef) l.length (fun i => yes (((l[i]?).map q).getD false)) := by
  intro i hi s w _ _
  have e1 : (strC l).getD i undef = .string l[i] := by
    rw [List.getD_eq_getElem?_getD, strC_at (List.getElem?_eq_getElem hi)]
    rfl
  have e2 : ((l[i]?).map q).getD false = q l[i] := by rw [List.getElem?_eq_getElem hi]; rfl
  simp only [e1, e2, yes_is, Bool.false_bne]
  show Calls Tryz.prog f #[.string l[i]] w _
  refine (h w l[i]).mono ?_
  rintro e w' ⟨rfl, rfl⟩
  exact ⟨rfl, fun _ _ => trivial, World.grownBy.refl _ _⟩
/-- print.all of texts by a function that is no closure. -/
theorem all_str {W : World} {v : Value} {l : List ByteArray} {f : FuncId} {q : ByteArray → Bool} (hv : Rl W v l.length (strC l)) (hfo : ∀ vs w, (callFunc f vs).run Tryz.prog w = .ok (.enter f vs) w) (h : TellS f q) (w0 : World) (hw : Below W.heap.size W w0) :
    Calls Tryz.prog 36 #[v, .func (.func f) #[] #[]] w0 fun e w => e = .returned (.bool (l.all q)) ∧ Below w0.heap.size w0 w := by
  have := allS_any hv (f := ⟨f, #[], #[]⟩) hfo (says_str h) (fun _ e => by cases e) (strC_len l) w0 () hw trivial stb_no (fun _ e => by cases e)
  refine this.mono ?_
  rintro e w ⟨rfl, _, hg⟩
  rw [allN_list (l := l) (q := q) (fun i x hx => by simp [hx]) rfl]
  exact ⟨rfl, hg.os, hg.tape, hg.output, hg.size, fun k hk => hg.block k hk (by simp)⟩
/-- Words with dots between. -/
noncomputable def namesB (s : ByteArray) : Bool := decide (s.size ≤ 255) && (pieces s).all wordB
theorem pieces_len (s : ByteArray) : (pieces s).length = Lib.countB s dotB + 1 := Lib.splitB_all dotB (by decide) 0 _ s rfl
theorem info9 : (Tryz.prog.info? 9).map (fun i => (i.zero, i.size, i.bytes)) = some (some (.string ByteArray.empty), 1, 16) := by kernel_rfl
theorem split_any {W : World} (hM : HasM W) (s : ByteArray) (hs : s.size ≤ 255) : Calls Tryz.prog 63 #[.string s, .string dotB] W fun e w => ∃ c, e = .returned (.slice (some ⟨W.heap.size, 0, none⟩) (pieces s).length c) ∧ w = W.alloc (.cells (strC (pieces s)).toArray 9) := by
  obtain ⟨_, m, hm⟩ := hM
  refine (Any.strings_Split Tryz.laysNSp146 info9 s dotB m W (by omega) hm (by decide)).mono ?_
  rintro e w ⟨rfl, rfl⟩
  rw [← pieces_len]
  exact ⟨_, rfl, rfl⟩
set_option maxRecDepth 100000 in
set_option maxHeartbeats 1000000 in
theorem names_any {W : World} (hM : HasM W) (s : ByteArray) : Calls Tryz.prog 34 #[.string s] W fun e w => e = .returned (.bool (namesB s)) ∧ Below W.heap.size W w := by
  by_cases hs : s.size ≤ 255
  · have e1 : decide ((s.size : Int) ≤ 255) = true := decide_eq_true (by omega)
    have e2 : namesB s = (pieces s).all wordB := by unfold namesB; rw [decide_eq_true hs, Bool.true_and]
    rw [e2]
    have HS := hide (split_any hM s hs)
    have hl : (pieces s).length ≤ 140737488355328 := by
      rw [pieces_len]
      have := Lib.countB_le dotB (by decide) s.size s (Nat.le_refl _)
      omega
    have HA : Hid (∀ c, Calls Tryz.prog 36 #[.slice (some ⟨W.heap.size, 0, none⟩) (pieces s).length c, .func (.func 64) #[] #[]] (W.alloc (.cells (strC (pieces s)).toArray 9)) fun e w => e = .returned (.bool ((pieces s).all wordB)) ∧ Below (W.alloc (.cells (strC (pieces s)).toArray 9)).heap.size (W.alloc (.cells (strC (pieces s)).toArray 9)) w) := by
      intro c
      refine all_str ⟨_, c, rfl, hl, fun _ => ⟨W.heap.size, 0, rfl, by rw [World.size_alloc]; omega, fun j x hx => ?_⟩⟩ (fun vs w => by kernel_rfl) word_any _ (Below.refl _ _)
      rw [Nat.zero_add, cell_of_row _ _ _ _ _ _ (heap_new W _)]
      simpa using hx
    have HB := hide (show Below W.heap.size W (W.alloc (.cells (strC (pieces s)).toArray 9)) from (Below.refl _ _).alloc (Nat.le_refl _) _)
    obtain ⟨V, hV⟩ : ∃ V, W.alloc (.cells (strC (pieces s)).toArray 9) = V := ⟨_, rfl⟩
    obtain ⟨b, hb⟩ : ∃ b, (pieces s).all wordB = b := ⟨_, rfl⟩
    obtain ⟨n, hn⟩ : ∃ n, (pieces s).length = n := ⟨_, rfl⟩
    rw [hV] at HS HA HB
    rw [hb] at HA ⊢
    rw [hn] at HA HS
    clear hV hb hn hl e2 hM
    unfold dotB at HS
    go_enter Tryz.func34, Tryz.ntmps34
    go_wp2_with fail
    refine (unhide HS).mono ?_
    rintro e w ⟨c, rfl, rfl⟩
    clear HS
    go_wp2_with fail
    refine (unhide HA c).mono ?_
    rintro e w1 ⟨rfl, hb1⟩
    have HB1 := hide ((unhide HB).trans (hb1.mono (unhide HB).size))
    clear HA HB hb1
    go_wp2
    go_ret
    exact ⟨rfl, unhide HB1⟩
  · have e1 : decide ((s.size : Int) ≤ 255) = false := decide_eq_false (by omega)
    have e2 : namesB s = false := by unfold namesB; rw [decide_eq_false hs, Bool.false_and]
    rw [e2]
    clear hM
    go_enter Tryz.func34, Tryz.ntmps34
    go_wp2
    go_ret
    exact ⟨rfl, Below.refl _ _⟩
end Go.Proofs.YtaadpiimcaabkaaGreatDoor

namespace Go.Proofs.YtaadpiimcaabkaaGreatDoor
open Go.RowKit
attribute [local go_sem ↓] Go.wp_at_zero Go.wp_at_succ

/-- The first name. -/
def firstS (s : ByteArray) : ByteArray := if 0 ≤ firstIdx s 46 then s.extract 0 (firstIdx s 46).toNat else s
theorem idx_lt {s : ByteArray} {c : UInt8} {z : Nat} (h : firstIdx s c = (z : Int)) : z < s.size := by
  rw [Lib.firstIdx_eq] at h
  exact (List.getElem?_eq_some_iff.1 (Lib.indexByte_some h).1).1
theorem toList_data (s : ByteArray) : s.toList = s.data.toList := by
  obtain ⟨⟨l⟩⟩ := s
  exact Go.ByteArray.toList_mk l
theorem eq_dot {s : ByteArray} (h : ([46] == s.toList) = true) : s = ⟨#[46]⟩ := by
  have e : s.toList = [46] := (beq_iff_eq.1 h).symm
  rw [toList_data] at e
  obtain ⟨⟨l⟩⟩ := s
  simp only at e
  rw [e]
set_option maxRecDepth 100000 in
set_option maxHeartbeats 1000000 in
theorem index_dot (W : World) (s : ByteArray) : Calls Tryz.prog 187 #[.string s, .string ⟨#[46]⟩] W fun e w => e = .returned (.int .i64 (firstIdx s 46)) ∧ w = W := by
  cases hq : ([46] == s.toList) with
  | true =>
    obtain rfl := eq_dot hq
    have e0 : firstIdx ⟨#[46]⟩ 46 = 0 := by decide +kernel
    rw [e0]
    go_enter Tryz.func187, Tryz.ntmps187
    go_wp2
    go_ret
    exact ⟨rfl, rfl⟩
  | false =>
    go_enter Tryz.func187, Tryz.ntmps187
    go_wp2
    rw [run_callFunc_indexByte Tryz.func194 (by kernel_rfl) (by kernel_rfl) (by kernel_rfl) (by kernel_rfl), run_indexByte_string]
    simp only [Result.andThen]
    go_wp2
    go_ret
    exact ⟨rfl, rfl⟩
set_option maxRecDepth 100000 in
set_option maxHeartbeats 1000000 in
theorem scut_any (W : World) (s : ByteArray) (hs : s.size ≤ 281474976710656) : Calls Tryz.prog 158 #[.string s, .string ⟨#[46]⟩] W fun e w => (∃ a b, e = .returned (.tuple #[.string (firstS s), .string a, .bool b])) ∧ ∃ n, w = W.drewN n := by
  have HI := hide (index_dot W s)
  obtain ⟨z, hz⟩ : ∃ z, firstIdx s 46 = z := ⟨_, rfl⟩
  unfold firstS
  rw [hz] at HI ⊢
  by_cases h : 0 ≤ z
  · obtain ⟨k, rfl⟩ : ∃ k : Nat, z = (k : Int) := ⟨z.toNat, by omega⟩
    have hk := idx_lt hz
    have e1 : decide ((0 : Int) ≤ (k : Int)) = true := decide_eq_true h
    rw [if_pos h, Int.toNat_natCast]
    clear h hz
    go_enter Tryz.func158, Tryz.ntmps158
    go_wp2_with fail
    refine (unhide HI).mono ?_
    rintro e w ⟨rfl, rfl⟩
    clear HI
    go_wp2
    go_quiet (fail)
    go_wp2
    refine bodyPost_ret (results_tmp3 rfl _ _ _) rfl ?_
    exact ⟨⟨_, _, rfl⟩, _, rfl⟩
  · have e1 : decide ((0 : Int) ≤ z) = false := decide_eq_false h
    rw [if_neg h]
    clear h hz
    go_enter Tryz.func158, Tryz.ntmps158
    go_wp2_with fail
    refine (unhide HI).mono ?_
    rintro e w ⟨rfl, rfl⟩
    clear HI
    go_wp2
    refine bodyPost_ret (results_tmp3 rfl _ _ _) rfl ?_
    exact ⟨⟨_, _, rfl⟩, 0, rfl⟩
set_option maxRecDepth 100000 in
set_option maxHeartbeats 1000000 in
theorem cut_any (W : World) (s : ByteArray) (hs : s.size ≤ 281474976710656) : Calls Tryz.prog 113 #[.string s, .string ⟨#[46]⟩] W fun e w => (∃ a b, e = .returned (.tuple #[.string (firstS s), .string a, .bool b])) ∧ ∃ n, w = W.drewN n := by
  have HI := hide (scut_any W s hs)
  go_enter Tryz.func113, Tryz.ntmps113
  go_wp2_with fail
  refine (unhide HI).mono ?_
  rintro e w ⟨⟨a, b, rfl⟩, n, rfl⟩
  clear HI
  go_wp2
  refine bodyPost_ret (results_tmp3 rfl _ _ _) rfl ?_
  exact ⟨⟨_, _, rfl⟩, n, rfl⟩
/-- A type. -/
def trimDot (s : ByteArray) : ByteArray := ⟨(Lib.trimPrefix s.data.toList [46]).toArray⟩
noncomputable def typeB (s : ByteArray) : Bool := decide (s.size ≤ 255) && namesB (trimDot s)
theorem trim_any (W : World) (s : ByteArray) : Calls Tryz.prog 159 #[.string s, .string ⟨#[46]⟩] W fun e w => e = .returned (.string (trimDot s)) ∧ w = W := Any.strings_TrimPrefix Tryz.laysNP101 s ⟨#[46]⟩ W
set_option maxRecDepth 100000 in
set_option maxHeartbeats 1000000 in
theorem type_any {W : World} (hM : HasM W) (s : ByteArray) : Calls Tryz.prog 114 #[.string s] W fun e w => e = .returned (.bool (typeB s)) ∧ Below W.heap.size W w := by
  have HT := hide (trim_any W s)
  have HN := hide (names_any hM (trimDot s))
  unfold typeB
  obtain ⟨b, hb⟩ : ∃ b, namesB (trimDot s) = b := ⟨_, rfl⟩
  rw [hb] at HN ⊢
  clear hb hM
  by_cases hs : s.size ≤ 255
  · have e1 : decide ((s.size : Int) ≤ 255) = true := decide_eq_true (by omega)
    rw [decide_eq_true hs, Bool.true_and]
    go_enter Tryz.func114, Tryz.ntmps114
    go_wp2_with fail
    refine (unhide HT).mono ?_
    rintro e w ⟨rfl, rfl⟩
    clear HT
    go_wp2_with fail
    refine (unhide HN).mono ?_
    rintro e w1 ⟨rfl, hb1⟩
    have HB := hide hb1
    clear HN hb1
    go_wp2
    go_ret
    exact ⟨rfl, unhide HB⟩
  · have e1 : decide ((s.size : Int) ≤ 255) = false := decide_eq_false (by omega)
    rw [decide_eq_false hs, Bool.false_and]
    clear HT HN
    go_enter Tryz.func114, Tryz.ntmps114
    go_wp2
    go_ret
    exact ⟨rfl, Below.refl _ _⟩
end Go.Proofs.YtaadpiimcaabkaaGreatDoor
