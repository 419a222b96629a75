import Derived.Test.YtobomdokdajbaaaDoorJ23
import Derived.Test.YtobomdokdajbaaaDoorJ16

namespace Go.Proofs.YtobomdokdajbaaaDoor
open Go.RowKit
attribute [local go_sem ↓] Go.wp_at_zero Go.wp_at_succ

set_option maxRecDepth 100000 in
set_option maxHeartbeats 2000000 in
theorem wback_keep {W : World} {b wb : Nat} {s : ByteArray} {k t c : Nat} {st : Bool} {depth num0 : Int} {v ag : Value} (h : RdAt W b s k st) (hw : WkB W wb b (t : Int) depth true num0 v ag) :
    Calls Tryd.prog 94 #[.pointer (some ⟨wb, 0, none⟩), .int .i64 (c : Int)] W fun e W' => e = .returned (.int .i64 (c : Int)) ∧ Upd W b (.cells #[.string s, .int .i64 (t : Int), .bool st] 78 (0, 0)) W' := by
  obtain ⟨c0, c1, c2, c3, c4, c5, c6, f1⟩ := walk_cells hw
  obtain ⟨d0, d1, d2, g0, g1, g2⟩ := cells3_of h
  have hu : ∀ n, Upd W b (.cells #[.string s, .int .i64 (t : Int), .bool st] 78 (0, 0)) ((W.drewN n).setCell ⟨b, 1, none⟩ (.int .i64 (t : Int))) := fun n => upd_set (o := 1) h n (.int .i64 (t : Int))
  have Hu := hide hu
  clear hw h hu
  go_enter Tryd.func94, Tryd.ntmps94
  go_wp2
  go_region
  all_goals (
    go_wp2
    go_ret
    exact ⟨rfl, unhide Hu _⟩)
set_option maxRecDepth 100000 in
set_option maxHeartbeats 2000000 in
theorem begin_deepK {W : World} {b wb : Nat} {s : ByteArray} {k t n m gc : Nat} {st : Bool} {depth num0 : Int} {v : Value} {ga : Option Addr} (h : RdAt W b s k st) (hw : WkB W wb b (t : Int) depth true num0 v (.slice ga m gc)) (hd : depth ≤ (m : Int)) :
    Calls Tryd.prog 87 #[.pointer (some ⟨wb, 0, none⟩), .int .i64 (n : Int)] W fun e W' => TkA W b s t st e W' (.inr 4) := by
  obtain ⟨c0, c1, c2, c3, c4, c5, c6, f1⟩ := walk_cells hw
  have d1 : decide (depth ≤ (m : Int)) = true := decide_eq_true hd
  have hbk := fun q => wback_keep (W := W.drewN q) (c := 4) h hw
  have Hbk := hide hbk
  clear h hw hbk hd
  go_enter Tryd.func87, Tryd.ntmps87
  go_wp2
  go_quiet (fail)
  go_wp2_with fail
  refine (unhide Hbk nq).mono ?_
  rintro e w1 ⟨rfl, hU⟩
  have HU := hide hU
  clear hU Hbk
  go_wp2
  go_ret
  exact ⟨rfl, by decide, (unhide HU).os, (unhide HU).tape, (unhide HU).output, (unhide HU).size, (unhide HU).at', (unhide HU).far⟩
theorem end_wrongK {W : World} {b wb : Nat} {s : ByteArray} {k t n : Nat} {st : Bool} {depth num0 : Int} {v ag : Value} (h : RdAt W b s k st) (hw : WkB W wb b (t : Int) depth true num0 v ag) (hd : num0 ≠ (n : Int)) :
    Calls Tryd.prog 88 #[.pointer (some ⟨wb, 0, none⟩), .int .i64 (n : Int)] W fun e W' => TkA W b s t st e W' (.inr 25) := by
  obtain ⟨c0, c1, c2, c3, c4, c5, c6, f1⟩ := walk_cells hw
  have d1 : (num0 != (n : Int)) = true := by simpa using hd
  have hbk := wback_keep (c := 25) h hw
  have Hbk := hide hbk
  clear h hw hbk hd
  go_enter Tryd.func88, Tryd.ntmps88
  go_wp2_with fail
  refine (unhide Hbk).mono ?_
  rintro e w1 ⟨rfl, hU⟩
  have HU := hide hU
  clear hU Hbk
  go_wp2
  go_ret
  exact ⟨rfl, by decide, unhide HU⟩
theorem KM.move {W X : World} {B b wb t t' : Nat} {depth : Int} {num : Nat} {acc : List Rt} {stk : List (Nat × List Rt)} {iv ag : Value} {V : List Value} (h : KM W B b wb t depth num acc stk iv ag V) (hb : b < B) (hw : wb < B) (hF : Fr W X (fun q => q = b ∨ q = wb)) (hwk : WkB X wb b (t' : Int) depth true (num : Int) iv ag) : KM X B b wb t' depth num acc stk iv ag V := by
  have hP : ∀ g, g < W.heap.size → Free B ag (V ++ [iv]) g → Free B ag (V ++ [iv]) g ∧ X.heap[g]? = W.heap[g]? := fun g hg hp => ⟨hp, hF.far g hg (by have := hp.1; omega)⟩
  have hst : ∀ (v : Value) (ts : List Rt), OwnL W B (Free B ag (V ++ [iv])) v ts → OwnL X B (Free B ag (V ++ [iv])) v ts := fun v ts ho => ho.mono (fun q hq hn => hF.far q hq (by have := (ho.lt q hn).1; omega)) hP hF.size
  exact ⟨hwk, h.len, row_keep h.row (fun q hq hn => hF.far q hq (by have := (h.row.lt q hn).1; omega)), hst _ _ h.now, fun i e v hs hv => hst _ _ (h.old i e v hs hv), h.ap, by
    obtain ⟨L, hL, hnd⟩ := h.lin
    exact ⟨L, hL.mono (fun g hg => hF.far g (hL.at g hg).2.1 (by have := (hL.at g hg).1; omega)), hnd⟩⟩
theorem KS.up {W X : World} {B b wb t k num : Nat} {s : ByteArray} {st : Bool} {depth : Int} {acc : List Rt} {stk : List (Nat × List Rt)} (h : KS W B b wb s st t depth k num acc stk) (hb : Below W.heap.size W X) : KS X B b wb s st t depth k num acc stk := by
  obtain ⟨iv, ag, V, hm⟩ := h.mem
  exact ⟨(hb.block b (Array.getElem?_eq_some_iff.1 h.rd).1).trans h.rd, h.hb, h.hw, h.hne, Nat.le_trans h.hB hb.size, iv, ag, V, hm.move h.hb h.hw (.below hb) ((hb.block wb (Array.getElem?_eq_some_iff.1 hm.wk).1).trans hm.wk)⟩
theorem KS.upd {W X : World} {B b wb t k k' num : Nat} {s : ByteArray} {st : Bool} {depth : Int} {acc : List Rt} {stk : List (Nat × List Rt)} (h : KS W B b wb s st t depth k num acc stk) (hU : Upd W b (rdO s st k') X) : KS X B b wb s st t depth k' num acc stk := by
  obtain ⟨iv, ag, V, hm⟩ := h.mem
  exact ⟨hU.at', h.hb, h.hw, h.hne, Nat.le_trans h.hB hU.size, iv, ag, V, hm.move h.hb h.hw (hU.fr (.inl rfl)) ((hU.far wb (Array.getElem?_eq_some_iff.1 hm.wk).1 (fun e => h.hne e.symm)).trans hm.wk)⟩
theorem KS.tag {W : World} {B b wb t k num : Nat} {s : ByteArray} {st : Bool} {depth : Int} {acc : List Rt} {stk : List (Nat × List Rt)} (h : KS W B b wb s st t depth k num acc stk) (t' : Nat) : KS (W.setCell ⟨wb, 1, none⟩ (.int .i64 (t' : Int))) B b wb s st t' depth k num acc stk := by
  obtain ⟨iv, ag, V, hm⟩ := h.mem
  exact ⟨(heap_setCell_other W ⟨wb, 1, none⟩ b _ h.hne).trans h.rd, h.hb, h.hw, h.hne, by rw [World.size_setCell]; exact h.hB, iv, ag, V, hm.move h.hb h.hw ((Fr.refl W _).set (.inr rfl) 1 _) (heap_setCell_same W wb 1 _ _ _ hm.wk)⟩
def MT (W : World) (B b wb : Nat) (s : ByteArray) (st : Bool) (t : Nat) (depth : Int) (e : Ending) (w : World) : (Nat × Nat × List Rt × List (Nat × List Rt)) ⊕ (Nat × Nat) → Prop
  | .inl (k', num', acc', stk') => e = .returned (.int .i64 0) ∧ KS w B b wb s st t depth k' num' acc' stk' ∧ BZ B b wb W w
  | .inr (c, p) => e = .returned (.int .i64 (c : Int)) ∧ c ≠ 0 ∧ RdAt w b s p st ∧ BZ B b wb W w
theorem MT.ret {W : World} {B b wb : Nat} {s : ByteArray} {st : Bool} {t : Nat} {depth : Int} {e : Ending} {w : World} {r : (Nat × Nat × List Rt × List (Nat × List Rt)) ⊕ (Nat × Nat)} (h : MT W B b wb s st t depth e w r) : ∃ c : Int, e = .returned (.int .i64 c) := by
  match r, h with
  | .inl (_, _, _, _), h => exact ⟨_, h.1⟩
  | .inr (_, _), h => exact ⟨_, h.1⟩
theorem MT.of {W X : World} {B b wb : Nat} {s : ByteArray} {st : Bool} {t : Nat} {depth : Int} {e : Ending} {w : World} {r : (Nat × Nat × List Rt × List (Nat × List Rt)) ⊕ (Nat × Nat)} (hX : BZ B b wb W X) (h : MT X B b wb s st t depth e w r) : MT W B b wb s st t depth e w r := by
  match r, h with
  | .inl (_, _, _, _), h => exact ⟨h.1, h.2.1, hX.trans h.2.2⟩
  | .inr (_, _), h => exact ⟨h.1, h.2.1, h.2.2.1, hX.trans h.2.2.2⟩
theorem Fr.bz {W w : World} {B b wb : Nat} {X : Nat → Prop} (h : Fr W w X) (hB : B ≤ W.heap.size) (hX : ∀ q, X q → q = b ∨ q = wb ∨ B ≤ q) : BZ B b wb W w := ⟨h.os, h.tape, h.output, h.size, fun q hq h1 h2 => h.far q (by omega) (fun x => by rcases hX q x with e | e | e <;> omega)⟩
theorem rg_uni {W : World} {b : Nat} {s : ByteArray} {k : Nat} {st : Bool} {e : Ending} {w : World} (h : RdAt W b s k st) (hq : TagA W b s k st e w (vAt s st k)) :
    (∃ q, q ≠ 0 ∧ tagR s st k = .inr q ∧ e = .returned (.tuple #[.int .i64 0, .int .i64 0, .int .i64 (q : Int)]) ∧ Upd W b (rdO s st k) w) ∨
    (∃ n kd k', tagR s st k = .inl (n, kd, k') ∧ e = .returned (.tuple #[.int .i64 (n : Int), .int .i64 (kd : Int), .int .i64 0]) ∧ Upd W b (rdO s st k') w) := by
  unfold tagR
  generalize vAt s st k = r at hq
  match r, hq with
  | .inr n, ⟨h1, h2, m, h3⟩ => exact .inl ⟨n, h2, rfl, h1, by rw [h3]; exact upd_same h m⟩
  | .inl (u, k'), hq =>
    show (∃ q, q ≠ 0 ∧ (if u / 8 < 1 ∨ 536870911 < u / 8 then .inr 24 else if 5 < u % 8 then .inr 23 else .inl (u / 8, u % 8, k') : (Nat × Nat × Nat) ⊕ Nat) = .inr q ∧ _ ∧ _) ∨ (∃ n kd k2, (if u / 8 < 1 ∨ 536870911 < u / 8 then .inr 24 else if 5 < u % 8 then .inr 23 else .inl (u / 8, u % 8, k') : (Nat × Nat × Nat) ⊕ Nat) = .inl (n, kd, k2) ∧ _ ∧ _)
    unfold TagA at hq
    dsimp only at hq
    by_cases h24 : u / 8 < 1 ∨ 536870911 < u / 8
    · rw [if_pos h24] at hq
      exact .inl ⟨24, by decide, if_pos h24, hq.1, hq.2⟩
    · rw [if_neg h24] at hq
      by_cases h23 : 5 < u % 8
      · rw [if_pos h23] at hq
        exact .inl ⟨23, by decide, by rw [if_neg h24, if_pos h23], hq.1, hq.2⟩
      · rw [if_neg h23] at hq
        exact .inr ⟨_, _, _, by rw [if_neg h24, if_neg h23], hq.1, hq.2⟩
end Go.Proofs.YtobomdokdajbaaaDoor

namespace Go.Proofs.YtobomdokdajbaaaDoor
open Go.RowKit
attribute [local go_sem ↓] Go.wp_at_zero Go.wp_at_succ

def plainT (k num : Nat) (acc : List Rt) (stk : List (Nat × List Rt)) : (Rt × Nat) ⊕ Nat → (Nat × Nat × List Rt × List (Nat × List Rt)) ⊕ (Nat × Nat)
  | .inl (r, k') => .inl (k', num, acc ++ [r], stk)
  | .inr c => .inr (c, k)
theorem tkT_plain {s : ByteArray} {st : Bool} {depth : Int} {t k num n kd : Nat} {acc : List Rt} {stk : List (Nat × List Rt)} (h3 : kd ≠ 3) (h4 : kd ≠ 4) : tkT s st depth t k num acc stk n kd = plainT k num acc stk (bodyT s st n k kd) := by
  unfold tkT
  rw [if_neg h3, if_neg h4]
  generalize bodyT s st n k kd = r
  match r with
  | .inl (r, k') => rfl
  | .inr c => rfl
theorem numT_inner {n kd k' : Nat} {r : Rt} {q : (Nat × Nat) ⊕ Nat} (h : numT n kd q = .inl (r, k')) : r.inner = [] := by
  match q, h with
  | .inl (u, k2), h => cases h; rfl
theorem texT_inner {n k' : Nat} {r : Rt} {q : (ByteArray × Nat) ⊕ Nat} (h : texT n q = .inl (r, k')) : r.inner = [] := by
  match q, h with
  | .inl (u, k2), h => cases h; rfl
theorem plain_keep {X : World} {B b wb t k num : Nat} {s : ByteArray} {st : Bool} {depth : Int} {acc : List Rt} {stk : List (Nat × List Rt)} {iv ag : Value} {V us : List Value} {e : Ending} {w : World} {R : (Rt × Nat) ⊕ Nat} (h : KS X B b wb s st t depth k num acc stk) (hm : KM X B b wb t depth num acc stk iv ag V) (l1 : acc.length = us.length) (l2 : X.ownsRow B 35 5 iv acc.length (rowC acc us)) (l3 : ∀ (i : Nat) (t : Rt) (u : Value), acc[i]? = some t → us[i]? = some u → HasRt X (Free B ag (V ++ [iv])) u t.inner)
    (hT : TkK X B b wb s k st (t : Int) depth (num : Int) iv ag acc.length (rowC acc us) e w R) (hin : ∀ r k', R = .inl (r, k') → r.inner = []) : MT X B b wb s st t depth e w (plainT k num acc stk R) := by
  have hbz : ∀ q, (q = b ∨ q = wb ∨ some q = iv.ownBlock) → q = b ∨ q = wb ∨ B ≤ q := by
    rintro q (p | p | p)
    · exact .inl p
    · exact .inr (.inl p)
    · exact .inr (.inr (hm.now.lt q p.symm).1)
  match R, hT with
  | .inl (r, k'), ⟨he, hr, v', hwk, hrow, hF, hblk⟩ =>
    have hin' := hin r k' rfl
    exact ⟨he, ⟨hr, h.hb, h.hw, h.hne, Nat.le_trans h.hB hF.size, v', ag, V, hm.push h.hb h.hw l1 l2 l3 hwk hrow hF hblk hin'⟩, hF.bz h.hB hbz⟩
  | .inr c, ⟨he, hc, hr, hF⟩ => exact ⟨he, hc, hr, hF.bz h.hB hbz⟩
theorem gcT_len {stk : List (Nat × List Rt)} : ∀ {V : List Value}, stk.length = V.length → (gcT stk V).length = stk.length * 2 := by
  induction stk with
  | nil => intro V _; simp [gcT]
  | cons e stk ih =>
    intro V h
    cases V with
    | nil => simp at h
    | cons v V =>
      have := ih (V := V) (by simpa using h)
      show ([Value.int .i64 (e.1 : Int), v] ++ gcT stk V).length = _
      rw [List.length_append, this, List.length_cons]
      simp
      omega
/-- Take, of a walk that keeps. -/
theorem wtake_keep {W : World} {B b wb t k num n kd : Nat} {s : ByteArray} {st : Bool} {depth : Int} {acc : List Rt} {stk : List (Nat × List Rt)} (h : KS W B b wb s st t depth k num acc stk) (hk : k ≤ s.size) (hs : s.size ≤ 1048576) (hkd : kd ≤ 5) (hacc : acc.length ≤ 1048576) (hall : ∀ e ∈ stk, e.2.length ≤ 1048576) (hstk : stk.length ≤ 2097152) (hnum : stk = [] → num ≠ n) :
    Calls Tryd.prog 66 #[.pointer (some ⟨wb, 0, none⟩), .int .i64 (n : Int), .int .i64 (kd : Int)] W fun e w => MT W B b wb s st t depth e w (tkT s st depth t k num acc stk n kd) := by
  have key : ∀ {f : Nat} {i : Int}, (∀ {R : World → Ending → World → Prop}, (∀ X, Below W.heap.size W X → Calls Tryd.prog f #[.pointer (some ⟨wb, 0, none⟩), .int .i64 (n : Int)] X (R X)) → (∀ X e w, R X e w → ∃ c : Int, e = .returned (.int .i64 c)) → Calls Tryd.prog 66 #[.pointer (some ⟨wb, 0, none⟩), .int .i64 (n : Int), .int .i64 i] W fun e W' => ∃ X, Below W.heap.size W X ∧ R X e W') → (∀ X, KS X B b wb s st t depth k num acc stk → Calls Tryd.prog f #[.pointer (some ⟨wb, 0, none⟩), .int .i64 (n : Int)] X fun e w => MT X B b wb s st t depth e w (tkT s st depth t k num acc stk n kd)) → Calls Tryd.prog 66 #[.pointer (some ⟨wb, 0, none⟩), .int .i64 (n : Int), .int .i64 i] W fun e w => MT W B b wb s st t depth e w (tkT s st depth t k num acc stk n kd) := by
    intro f i hw hR
    have q := hw (R := fun X e w => Below W.heap.size W X ∧ MT X B b wb s st t depth e w (tkT s st depth t k num acc stk n kd)) (fun X hX => (hR X (h.up hX)).mono fun e w hM => ⟨hX, hM⟩) (fun X e w hM => hM.2.ret)
    exact q.mono fun e w ⟨X, hX, _, hM⟩ => hM.of (.of hX h.hB)
  have h6 : kd = 0 ∨ kd = 1 ∨ kd = 2 ∨ kd = 5 ∨ kd = 3 ∨ kd = 4 := by omega
  rcases h6 with rfl | rfl | rfl | rfl | rfl | rfl
  · refine key (fun a b => wtake_any a b) fun X hX => ?_
    obtain ⟨iv, ag, V, hm⟩ := hX.mem
    obtain ⟨us, l1, l2, l3⟩ := hm.now
    obtain ⟨va, vc, rfl⟩ := row_form l2
    rw [tkT_plain (by decide) (by decide)]
    exact (take0_keep hX.rd hk hs hm.wk l2 hX.hb hX.hw hX.hB hacc).mono fun e w hT => plain_keep hX hm l1 l2 l3 hT (fun r k' q => numT_inner q)
  · refine key (fun a b => wtake1 a b) fun X hX => ?_
    obtain ⟨iv, ag, V, hm⟩ := hX.mem
    obtain ⟨us, l1, l2, l3⟩ := hm.now
    obtain ⟨va, vc, rfl⟩ := row_form l2
    rw [tkT_plain (by decide) (by decide)]
    exact (take1_keep hX.rd hk hs hm.wk l2 hX.hb hX.hw hX.hB hacc).mono fun e w hT => plain_keep hX hm l1 l2 l3 hT (fun r k' q => numT_inner q)
  · refine key (fun a b => wtake2 a b) fun X hX => ?_
    obtain ⟨iv, ag, V, hm⟩ := hX.mem
    obtain ⟨us, l1, l2, l3⟩ := hm.now
    obtain ⟨va, vc, rfl⟩ := row_form l2
    rw [tkT_plain (by decide) (by decide)]
    exact (take2_keep hX.rd hk hs hm.wk l2 hX.hb hX.hw hX.hB hacc).mono fun e w hT => plain_keep hX hm l1 l2 l3 hT (fun r k' q => texT_inner q)
  · refine key (fun a b => wtake5 a b) fun X hX => ?_
    obtain ⟨iv, ag, V, hm⟩ := hX.mem
    obtain ⟨us, l1, l2, l3⟩ := hm.now
    obtain ⟨va, vc, rfl⟩ := row_form l2
    rw [tkT_plain (by decide) (by decide)]
    exact (take5_keep hX.rd hk hs hm.wk l2 hX.hb hX.hw hX.hB hacc).mono fun e w hT => plain_keep hX hm l1 l2 l3 hT (fun r k' q => numT_inner q)
  · refine key (fun a b => wtake3 a b) fun X hX => ?_
    obtain ⟨iv, ag, V, hm⟩ := hX.mem
    have hmn := hm.now
    obtain ⟨us, l1, l2, l3⟩ := hmn
    obtain ⟨va, vc, rfl⟩ := row_form l2
    unfold tkT
    rw [if_pos rfl]
    by_cases hd : depth ≤ (stk.length : Int)
    · rw [if_pos hd]
      obtain ⟨ga, gc, rfl⟩ := row_form hm.row
      exact (begin_deepK hX.rd hm.wk hd).mono fun e w hT => ⟨hT.1, hT.2.1, hT.2.2.at', .ofU hT.2.2 hX.hB⟩
    · rw [if_neg hd]
      refine (begin_keep (kp := true) hm.wk hX.hw hX.hB hm.row (by omega) hstk).mono ?_
      rintro e w ⟨rfl, ag', q1, q2, q3, q4⟩
      refine ⟨rfl, ⟨(q3.far b (Array.getElem?_eq_some_iff.1 hX.rd).1 ?_).trans hX.rd, hX.hb, hX.hw, hX.hne, Nat.le_trans hX.hB q3.size, _, ag', _, hm.begin hX.hw q1 q2 q3 q4⟩, q3.bz hX.hB ?_⟩
      · rintro (p | p)
        · exact hX.hne p
        · have := (hm.row.lt b p.symm).1
          have := hX.hb
          omega
      · rintro q (p | p)
        · exact .inr (.inl p)
        · exact .inr (.inr (hm.row.lt q p.symm).1)
  · refine key (fun a b => wtake4 a b) fun X hX => ?_
    obtain ⟨iv, ag, V, hm⟩ := hX.mem
    have hmn := hm.now
    obtain ⟨us0, i1, i2, i3⟩ := hmn
    obtain ⟨ia, ic, rfl⟩ := row_form i2
    unfold tkT
    rw [if_neg (by decide), if_pos rfl]
    by_cases hd : num ≠ n
    · rw [if_pos hd]
      exact (end_wrongK hX.rd hm.wk (by omega)).mono fun e w hT => ⟨hT.1, hT.2.1, hT.2.2.at', .ofU hT.2.2 hX.hB⟩
    · rw [if_neg hd]
      obtain rfl : num = n := by omega
      rcases List.eq_nil_or_concat stk with rfl | ⟨l, ⟨num1, acc1⟩, rfl⟩
      · exact absurd rfl (hnum rfl)
      · rw [List.concat_eq_append] at *
        rcases List.eq_nil_or_concat V with rfl | ⟨V0, x, rfl⟩
        · have := hm.len
          simp at this
        · rw [List.concat_eq_append] at *
          have hlen : l.length = V0.length := by have := hm.len; simpa using this
          simp only [List.getLast?_append, List.getLast?_singleton, Option.some_or, List.dropLast_concat]
          have h2 := hm.row
          rw [gcT_push hlen, List.length_append, List.length_singleton] at h2
          have hxo : OwnL X B (Free B ag (V0 ++ [x] ++ [.slice ia acc.length ic])) x acc1 := hm.old l.length (num1, acc1) x (by rw [List.getElem?_append_right (Nat.le_refl _)]; simp) (by rw [List.getElem?_append_right (by rw [hlen]; exact Nat.le_refl _), hlen]; simp)
          have hxa := hxo
          obtain ⟨us, l1, l2, l3⟩ := hxo
          obtain ⟨ja, jc, rfl⟩ := row_form l2
          obtain ⟨g, c, rfl⟩ : ∃ g c, ag = .slice (some ⟨g, 0, none⟩) (l.length + 1) c := by
            obtain ⟨_, ⟨e, h0⟩ | ⟨g, c, _, e, _⟩⟩ := h2
            · simp at h0
            · exact ⟨_, _, e⟩
          refine (end_keep hm.wk hX.hw hX.hB (gcT_len hlen) h2 (by simp at hstk; omega) l2 (hall (num1, acc1) (by simp)) (hxa.apart hm.row g rfl)).mono ?_
          rintro e w ⟨rfl, v', q1, q2, q3, q4, q5⟩
          refine ⟨rfl, ⟨(q4.far b (Array.getElem?_eq_some_iff.1 hX.rd).1 ?_).trans hX.rd, hX.hb, hX.hw, hX.hne, Nat.le_trans hX.hB q4.size, v', _, V0, hm.end hX.hw hlen l1 l2 l3 q1 rfl q2 q3 q4 q5⟩, q4.bz hX.hB ?_⟩
          · rintro (p | p)
            · exact hX.hne p
            · have := (l2.lt b p.symm).1
              have := hX.hb
              omega
          · rintro q (p | p)
            · exact .inr (.inl p)
            · exact .inr (.inr (l2.lt q p.symm).1)
#print axioms wtake_keep
end Go.Proofs.YtobomdokdajbaaaDoor

namespace Go.Proofs.YtobomdokdajbaaaDoor
open Go.RowKit
attribute [local go_sem ↓] Go.wp_at_zero Go.wp_at_succ

set_option maxRecDepth 100000 in
theorem inGroup_keep {W : World} {wb b m gc : Nat} {tag depth num0 : Int} {v : Value} {ga : Option Addr} (hw : WkB W wb b tag depth true num0 v (.slice ga m gc)) :
    Calls Tryd.prog 47 #[.pointer (some ⟨wb, 0, none⟩)] W fun e W' => e = .returned (.bool (decide (0 < m))) ∧ W' = W := by
  obtain ⟨c0, c1, c2, c3, c4, c5, c6, f1⟩ := walk_cells hw
  go_enter Tryd.func47, Tryd.ntmps47
  go_wp2
  go_ret
  exact ⟨by first | rfl | simp, rfl⟩
/-- What holds of the machine's state. -/
structure OkT (s : ByteArray) (k num : Nat) (acc : List Rt) (stk : List (Nat × List Rt)) : Prop where
  le : k ≤ s.size
  acc : acc.length ≤ k
  len : stk.length ≤ k
  all : ∀ e ∈ stk, e.2.length ≤ k
  top : stk = [] → num = 0
  head : ∀ e, stk.head? = some e → e.1 = 0
theorem stepT_ok {s : ByteArray} {st : Bool} {depth : Int} {k num k2 num2 : Nat} {acc acc2 : List Rt} {stk stk2 : List (Nat × List Rt)} (ho : OkT s k num acc stk) (h : stepT s st depth k num acc stk = .inl (k2, num2, acc2, stk2)) : k < k2 ∧ OkT s k2 num2 acc2 stk2 := by
  have hlt := stepT_lt h
  refine ⟨hlt.1, ?_⟩
  unfold stepT at h
  split at h
  · cases h
  · rename_i n kd k' ht
    have hb := tagR_lt ht
    have ha := ho.acc
    have hl := ho.len
    unfold tkT at h
    split at h
    · split at h
      · cases h
      · obtain ⟨rfl, h5⟩ := Prod.mk.inj (Sum.inl.inj h)
        obtain ⟨rfl, h6⟩ := Prod.mk.inj h5
        obtain ⟨rfl, rfl⟩ := Prod.mk.inj h6
        refine ⟨hlt.2, Nat.zero_le _, by rw [List.length_append, List.length_singleton]; omega, fun e he => ?_, fun e => by simp at e, fun e he => ?_⟩
        · rcases List.mem_append.1 he with q | q
          · have := ho.all e q; omega
          · obtain rfl : e = (num, acc) := by simpa using q
            show acc.length ≤ k'
            omega
        · cases stk with
          | nil =>
            obtain rfl : (num, acc) = e := by simpa using he
            exact ho.top rfl
          | cons a l => exact ho.head e (by simpa using he)
    · split at h
      · split at h
        · cases h
        · rcases List.eq_nil_or_concat stk with rfl | ⟨l, ⟨x, a⟩, rfl⟩
          · simp at h
          · rw [List.concat_eq_append] at *
            simp only [List.getLast?_append, List.getLast?_singleton, Option.some_or, List.dropLast_concat] at h
            obtain ⟨rfl, h5⟩ := Prod.mk.inj (Sum.inl.inj h)
            obtain ⟨rfl, h6⟩ := Prod.mk.inj h5
            obtain ⟨rfl, rfl⟩ := Prod.mk.inj h6
            have h1 := ho.all (x, a) (by simp)
            replace h1 : a.length ≤ k := h1
            rw [List.length_append, List.length_singleton] at hl
            refine ⟨hlt.2, by rw [List.length_append, List.length_singleton]; omega, by omega, fun e he => ?_, fun e => ?_, fun e he => ?_⟩
            · have := ho.all e (by simp [he]); omega
            · subst e
              exact ho.head (x, a) (by simp)
            · refine ho.head e ?_
              cases l with
              | nil => simp at he
              | cons b l => simpa using he
      · split at h
        · rename_i r k4 hr
          obtain ⟨rfl, h5⟩ := Prod.mk.inj (Sum.inl.inj h)
          obtain ⟨rfl, h6⟩ := Prod.mk.inj h5
          obtain ⟨rfl, rfl⟩ := Prod.mk.inj h6
          refine ⟨hlt.2, by rw [List.length_append, List.length_singleton]; omega, by omega, fun e he => ?_, ho.top, ho.head⟩
          have := ho.all e he
          omega
        · cases h
set_option maxRecDepth 100000 in
set_option maxHeartbeats 4000000 in
theorem wstep_keep {W : World} {B b wb t k num : Nat} {s : ByteArray} {st : Bool} {depth : Int} {acc : List Rt} {stk : List (Nat × List Rt)} (h : KS W B b wb s st t depth k num acc stk) (ho : OkT s k num acc stk) (hs : s.size ≤ 1048576) :
    Calls Tryd.prog 48 #[.pointer (some ⟨wb, 0, none⟩)] W fun e w => MT W B b wb s st k depth e w (stepT s st depth k num acc stk) := by
  have hk := ho.le
  obtain ⟨S, hS⟩ : ∃ S, W.setCell ⟨wb, 1, none⟩ (.int .i64 (k : Int)) = S := ⟨_, rfl⟩
  have hSk : KS S B b wb s st k depth k num acc stk := by rw [← hS]; exact h.tag k
  have hSB : BZ B b wb W S := by rw [← hS]; exact bz_set
  have ht := rTag_any hSk.rd hk hs
  obtain ⟨iv, ag, V, hm⟩ := h.mem
  obtain ⟨c0, c1, c2, c3, c4, c5, c6, f1⟩ := walk_cells hm.wk
  obtain ⟨d0, d1, d2, _⟩ := cells3_of h.rd
  obtain ⟨iv', ag', V', hm'⟩ := hSk.mem
  have e0 := (walk_cells hm'.wk).1
  have Ht := hide ht
  have HS := hide hS
  have HSk := hide hSk
  have HSB := hide hSB
  have Ho := hide ho
  clear ht hS hSk hSB h hm hm' ho
  go_enter Tryd.func48, Tryd.ntmps48
  go_wp2_with fail
  rw [unhide HS]
  refine (unhide Ht).mono ?_
  intro e w1 hq
  clear c0 c1 c2 c3 c4 c5 c6 f1 d0 d1 d2 Ht HS
  rcases rg_uni (unhide HSk).rd hq with ⟨c, hc, htr, rfl, hU⟩ | ⟨n, kd, k', htr, rfl, hU⟩
  · have qc : ((c : Int) != 0) = true := by simp; omega
    have Hend : Hid (MT W B b wb s st k depth (.returned (.int .i64 (c : Int))) w1 (stepT s st depth k num acc stk)) := by
      unfold stepT
      rw [htr]
      exact ⟨rfl, hc, hU.at', (unhide HSB).trans (.ofU hU (unhide HSk).hB)⟩
    clear hq hU htr hc
    go_wp2
    go_ret
    exact unhide Hend
  · have hb := tagR_lt htr
    have ho := unhide Ho
    have o1 := ho.acc
    have o2 := ho.len
    have hE : ∀ e w, MT w1 B b wb s st k depth e w (tkT s st depth k k' num acc stk n kd) → MT W B b wb s st k depth e w (stepT s st depth k num acc stk) := fun e w h => by
      unfold stepT
      rw [htr]
      exact h.of ((unhide HSB).trans (.ofU hU (unhide HSk).hB))
    have hT := wtake_keep (n := n) (kd := kd) ((unhide HSk).upd hU) hb.2.2.2.2 hs hb.2.2.1 (by omega) (fun e he => by have := ho.all e he; omega) (by omega) (fun e => by have := ho.top e; omega)
    have HT := hide hT
    have HE := hide hE
    clear hT hE hU hq htr hb ho o1 o2
    go_wp2_with fail
    refine (unhide HT).mono ?_
    intro e w2 hq
    obtain ⟨c, rfl⟩ := hq.ret
    have Hq := hide (unhide HE _ _ hq)
    clear hq HT HE
    go_wp2
    go_ret
    exact unhide Hq
#print axioms wstep_keep
end Go.Proofs.YtobomdokdajbaaaDoor
