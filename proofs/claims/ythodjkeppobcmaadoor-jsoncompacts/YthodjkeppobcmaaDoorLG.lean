import Derived.Test.YthodjkeppobcmaaDoorLF
import Derived.Outline

namespace Go.Proofs.YthodjkeppobcmaaDoor
open Go.RowKit Go.Lib
attribute [local go_sem ↓] Go.wp_at_zero Go.wp_at_succ

/-- What word answers. -/
def WdR (V : World) (t : Nat) (s : ByteArray) (a pl kd : Nat) (r : Option Nat) (e : Ending) (w : World) : Prop := match r with
  | none => e = .returned (.agg (ndC kd a 0 ⟨#[]⟩ (.slice none 0 0) (.slice none 0 0))) ∧ Tx V t s a 120 a w
  | some m => e = .returned (.agg #[.int .i64 (kd : Int), .int .i64 (a : Int), .int .i64 ((a : Int) + (m : Int)), .string ⟨#[]⟩, .slice none 0 0, .slice none 0 0]) ∧ Tx V t s (a + m) 0 pl w
theorem ext_list (s p : ByteArray) (a : Nat) : ((s.extract a (a + p.size)).toList == p.toList) = decide (((strN s).drop a).take p.size = strN p) := by
  have e1 : strN (s.extract a (a + p.size)) = ((strN s).drop a).take p.size := by
    unfold strN
    rw [Lib.extract_data]
    simp [List.map_take, List.map_drop]
  rw [← e1, ByteArray.toList_eq, ByteArray.toList_eq, Bool.eq_iff_iff, beq_iff_eq, decide_eq_true_iff]
  unfold strN
  constructor
  · intro e; rw [e]
  · intro e
    exact List.map_inj_right (fun x y h => UInt8.toNat_inj.1 h) |>.1 e
set_option maxRecDepth 100000 in
set_option maxHeartbeats 2000000 in
theorem tword_any {V : World} {t : Nat} {s : ByteArray} {a pl : Nat} {W : World} (h : Tx V t s a 0 pl W) (hs : s.size ≤ 67108864) (p : ByteArray) (hp : p.size ≤ 5) (kd : Nat) : Calls Tryd.prog 34 #[.pointer (some ⟨t, 0, none⟩), .string p, .int .i64 (kd : Int)] W (WdR V t s a pl kd (if ((strN s).drop a).take p.size = strN p then some p.size else none)) := by
  have ht := (Array.getElem?_eq_some_iff.1 h.blk).1
  obtain ⟨W2, hW2⟩ : ∃ W2, (W.alloc (.cells #[.int .i64 0, .int .i64 0, .int .i64 0, .string ⟨#[]⟩, .slice none 0 0, .slice none 0 0] 43)).alloc (.cells #[.int .i64 (kd : Int), .int .i64 (a : Int), .int .i64 0, .string ⟨#[]⟩, .slice none 0 0, .slice none 0 0] 43) = W2 := ⟨_, rfl⟩
  have hb2 : Below W.heap.size W W2 := by rw [← hW2]; exact ((Below.refl _ _).alloc (Nat.le_refl _) _).alloc (by rw [World.size_alloc]; omega) _
  have hrb : W2.heap[W.heap.size]? = some (.cells (ndC 0 0 0 ⟨#[]⟩ (.slice none 0 0) (.slice none 0 0)) 43 (0, 0)) := by
    rw [← hW2, Below.heap_alloc _ _ _ (by rw [World.size_alloc]; omega)]
    exact heap_new _ _
  have hnb : W2.heap[W.heap.size + 1]? = some (.cells (ndC kd a 0 ⟨#[]⟩ (.slice none 0 0) (.slice none 0 0)) 43 (0, 0)) := by
    have := heap_new (W.alloc (.cells #[.int .i64 0, .int .i64 0, .int .i64 0, .string ⟨#[]⟩, .slice none 0 0, .slice none 0 0] 43)) (.cells #[.int .i64 (kd : Int), .int .i64 (a : Int), .int .i64 0, .string ⟨#[]⟩, .slice none 0 0, .slice none 0 0] 43)
    rw [World.size_alloc, hW2] at this
    exact this
  have hvs := h.gr.size
  have hle := h.le
  obtain ⟨r, hr⟩ : ∃ r, W.heap.size = r := ⟨_, rfl⟩
  obtain ⟨n, hn⟩ : ∃ n, r + 1 = n := ⟨_, rfl⟩
  have HX2 := hide (h.up hb2)
  rw [hr] at hrb hnb
  rw [hn] at hnb
  have HRb := hide hrb
  have HNb := hide hnb
  have HNe : Hid (r ≠ t ∧ n ≠ t ∧ V.heap.size ≤ r ∧ n ≠ r ∧ V.heap.size ≤ n) := by show _ ∧ _; omega
  obtain ⟨-, c1, -, -, -⟩ := h.cells
  have HW2 := hide hW2
  have Hr0 := hide hr
  have Hn0 := hide hn
  have hxl := ext_list s p a
  obtain ⟨R, hR⟩ : ∃ R, (if ((strN s).drop a).take p.size = strN p then some p.size else none) = R := ⟨_, rfl⟩
  have HR0 := hide hR
  have HLn : Hid ((((strN s).drop a).take p.size).length = min p.size (s.size - a)) := by show _ = _; rw [List.length_take, List.length_drop, strN_len]
  rw [hR]
  clear h hb2 hrb hnb hR hvs hW2 hr hn
  go_enter Tryd.func34, Tryd.ntmps34
  go_upto_region 2 with fail
  rw [unhide HW2, unhide Hr0, unhide Hn0]
  clear HW2 Hr0 Hn0 c1 ht
  obtain ⟨cs, c1, -, -, tf⟩ := (unhide HX2).cells
  have t1 := tf 1
  have a0 : (0 : Int) ≤ (a : Int) := Int.natCast_nonneg _
  clear tf
  by_cases q : s.size - a < p.size
  · have Hr : Hid (R = none) := by
      show R = none
      rw [← unhide HR0, if_neg]
      intro e
      have h1 := congrArg List.length e
      rw [unhide HLn, strN_len] at h1
      omega
    have q1 : decide ((s.size : Int) - (a : Int) < (p.size : Int)) = true := by simp; omega
    clear hxl HR0 HLn
    have HC := hide (fail_any (unhide HX2).self 120 a)
    go_wp2_with fail
    go_quiet (fail)
    go_wp2_with fail
    refine (unhide (hide (fail_any ((unhide HX2).drewN _).self 120 a))).mono ?_
    rintro e w5 ⟨rfl, h5⟩
    simp only [if_true] at h5
    have rb := (h5.gr.block _ (Array.getElem?_eq_some_iff.1 (unhide HRb)).1 (by simpa using (unhide HNe).1)).trans (unhide HRb)
    have nb := (h5.gr.block _ (Array.getElem?_eq_some_iff.1 (unhide HNb)).1 (by simpa using (unhide HNe).2.1)).trans (unhide HNb)
    unfold ndC at rb nb
    obtain ⟨⟨n0, n1, n2, n3, n4, n5⟩, nf⟩ := cells6 nb
    obtain ⟨⟨r0, r1, r2, r3, r4, r5⟩, rf⟩ := cells6 rb
    have g0 := rf 0
    have g1 := rf 1
    have g2 := rf 2
    have g3 := rf 3
    have g4 := rf 4
    have g5 := rf 5
    obtain ⟨k1, k2⟩ := set6_block rb (.int .i64 (kd : Int)) (.int .i64 (a : Int)) (.int .i64 0) (.string ⟨#[]⟩) (.slice none 0 0) (.slice none 0 0)
    have K1 := hide k1
    have HFin : Hid (Tx V t s a 120 a (set6 w5 r (.int .i64 (kd : Int)) (.int .i64 (a : Int)) (.int .i64 0) (.string ⟨#[]⟩) (.slice none 0 0) (.slice none 0 0))) := (h5.from ((unhide HX2).drewN _).gr).other k2 (unhide HNe).1 (unhide HNe).2.2.1
    unfold set6 at K1 HFin
    clear rf nf rb nb h5 k1 k2 HC
    go_wp2
    refine bodyPost_ret (results_cell_row rfl _ _ r 43 (ndC kd a 0 ⟨#[]⟩ (.slice none 0 0) (.slice none 0 0)) (0, 0) _ rfl (unhide K1) Tryd.underlying43 rfl sizeNode) rfl ?_
    rw [unhide Hr]
    exact ⟨rfl, unhide HFin⟩
  · have q1 : decide ((s.size : Int) - (a : Int) < (p.size : Int)) = false := by simp; omega
    have b1 : (a : Int) + (p.size : Int) ≤ (s.size : Int) := by omega
    have b2 : (a : Int) ≤ (a : Int) + (p.size : Int) := by omega
    have b3 : (0 : Int) ≤ (a : Int) + (p.size : Int) := by omega
    have b4 : ((a : Int) + (p.size : Int)).toNat = a + p.size := by omega
    have hq : a + p.size ≤ s.size := by omega
    by_cases e : ((strN s).drop a).take p.size = strN p
    · have Hr : Hid (R = some p.size) := (unhide HR0).symm.trans (if_pos e)
      rw [decide_eq_true e] at hxl
      clear e HR0 HLn
      have rb := unhide HRb
      have nb := unhide HNb
      unfold ndC at rb nb
      obtain ⟨⟨n0, n1, n2, n3, n4, n5⟩, nf⟩ := cells6 nb
      obtain ⟨⟨r0, r1, r2, r3, r4, r5⟩, rf⟩ := cells6 rb
      have g0 := rf 0
      have g1 := rf 1
      have g2 := rf 2
      have g3 := rf 3
      have g4 := rf 4
      have g5 := rf 5
      have f2 := nf 2
      have ne1 : ¬ n = t := (unhide HNe).2.1
      have ne2 : ¬ r = t := (unhide HNe).1
      have ne3 : ¬ n = r := (unhide HNe).2.2.2.1
      have HEnd : Hid (∀ q, ∃ rb1, rb1 = True ∧ (set6 ((((W2.drewN q).setCell ⟨t, 1, none⟩ (.int .i64 ((a : Int) + (p.size : Int)))).setCell ⟨n, 2, none⟩ (.int .i64 ((a : Int) + (p.size : Int))))) r (.int .i64 (kd : Int)) (.int .i64 (a : Int)) (.int .i64 ((a : Int) + (p.size : Int))) (.string ⟨#[]⟩) (.slice none 0 0) (.slice none 0 0)).heap[r]? = some (.cells #[.int .i64 (kd : Int), .int .i64 (a : Int), .int .i64 ((a : Int) + (p.size : Int)), .string ⟨#[]⟩, .slice none 0 0, .slice none 0 0] 43 (0, 0)) ∧ Tx V t s (a + p.size) 0 pl (set6 ((((W2.drewN q).setCell ⟨t, 1, none⟩ (.int .i64 ((a : Int) + (p.size : Int)))).setCell ⟨n, 2, none⟩ (.int .i64 ((a : Int) + (p.size : Int))))) r (.int .i64 (kd : Int)) (.int .i64 (a : Int)) (.int .i64 ((a : Int) + (p.size : Int))) (.string ⟨#[]⟩) (.slice none 0 0) (.slice none 0 0))) := fun q => by
        have htx := (unhide HX2).drewN q
        have h6 := htx.at (a + p.size) (by omega)
        have e1 : ((a + p.size : Nat) : Int) = (a : Int) + (p.size : Int) := by omega
        rw [e1] at h6
        obtain ⟨m1, m2⟩ := set_block (j := 1) htx.blk (.int .i64 ((a : Int) + (p.size : Int)))
        have nb0 : (W2.drewN q).heap[n]? = _ := nb
        have rb0 : (W2.drewN q).heap[r]? = _ := rb
        have nb1 := (m2.block n (Array.getElem?_eq_some_iff.1 nb0).1 (by simpa using ne1)).trans nb0
        have rb1 := (m2.block r (Array.getElem?_eq_some_iff.1 rb0).1 (by simpa using ne2)).trans rb0
        obtain ⟨m3, m4⟩ := set_block (j := 2) nb1 (.int .i64 ((a : Int) + (p.size : Int)))
        have rb2 := (m4.block r (Array.getElem?_eq_some_iff.1 rb1).1 (by simpa using (Ne.symm ne3))).trans rb1
        obtain ⟨k1, k2⟩ := set6_block rb2 (.int .i64 (kd : Int)) (.int .i64 (a : Int)) (.int .i64 ((a : Int) + (p.size : Int))) (.string ⟨#[]⟩) (.slice none 0 0) (.slice none 0 0)
        exact ⟨True, rfl, k1, (h6.other m4 ne1 (unhide HNe).2.2.2.2).other k2 ne2 (unhide HNe).2.2.1⟩
      unfold set6 at HEnd
      clear rf nf rb nb
      go_wp2_with fail
      go_quiet (fail)
      go_wp2
      obtain ⟨_, -, k1, k2⟩ := unhide HEnd _
      refine bodyPost_ret (results_cell_row rfl _ _ r 43 #[.int .i64 (kd : Int), .int .i64 (a : Int), .int .i64 ((a : Int) + (p.size : Int)), .string ⟨#[]⟩, .slice none 0 0, .slice none 0 0] (0, 0) _ rfl k1 Tryd.underlying43 rfl sizeNode) rfl ?_
      rw [unhide Hr]
      exact ⟨rfl, k2⟩
    · have Hr : Hid (R = none) := (unhide HR0).symm.trans (if_neg e)
      rw [decide_eq_false e] at hxl
      clear e HR0 HLn
      have HC := hide (fail_any (unhide HX2).self 120 a)
      go_wp2_with fail
      go_quiet (fail)
      go_wp2_with fail
      refine (unhide (hide (fail_any ((unhide HX2).drewN _).self 120 a))).mono ?_
      rintro e w5 ⟨rfl, h5⟩
      simp only [if_true] at h5
      have rb := (h5.gr.block _ (Array.getElem?_eq_some_iff.1 (unhide HRb)).1 (by simpa using (unhide HNe).1)).trans (unhide HRb)
      have nb := (h5.gr.block _ (Array.getElem?_eq_some_iff.1 (unhide HNb)).1 (by simpa using (unhide HNe).2.1)).trans (unhide HNb)
      unfold ndC at rb nb
      obtain ⟨⟨n0, n1, n2, n3, n4, n5⟩, nf⟩ := cells6 nb
      obtain ⟨⟨r0, r1, r2, r3, r4, r5⟩, rf⟩ := cells6 rb
      have g0 := rf 0
      have g1 := rf 1
      have g2 := rf 2
      have g3 := rf 3
      have g4 := rf 4
      have g5 := rf 5
      obtain ⟨k1, k2⟩ := set6_block rb (.int .i64 (kd : Int)) (.int .i64 (a : Int)) (.int .i64 0) (.string ⟨#[]⟩) (.slice none 0 0) (.slice none 0 0)
      have K1 := hide k1
      have HFin : Hid (Tx V t s a 120 a (set6 w5 r (.int .i64 (kd : Int)) (.int .i64 (a : Int)) (.int .i64 0) (.string ⟨#[]⟩) (.slice none 0 0) (.slice none 0 0))) := (h5.from ((unhide HX2).drewN _).gr).other k2 (unhide HNe).1 (unhide HNe).2.2.1
      unfold set6 at K1 HFin
      clear rf nf rb nb h5 k1 k2 HC
      go_wp2
      refine bodyPost_ret (results_cell_row rfl _ _ r 43 (ndC kd a 0 ⟨#[]⟩ (.slice none 0 0) (.slice none 0 0)) (0, 0) _ rfl (unhide K1) Tryd.underlying43 rfl sizeNode) rfl ?_
      rw [unhide Hr]
      exact ⟨rfl, unhide HFin⟩
set_option maxRecDepth 100000 in
theorem sign_any {V : World} {t : Nat} {s : ByteArray} {a pl : Nat} {W : World} (h : Tx V t s a 0 pl W) (hs : s.size ≤ 67108864) (c : Nat) (hc : c ≠ 0) : Calls Tryd.prog 41 #[.pointer (some ⟨t, 0, none⟩), .int .u8 (c : Int)] W fun e w => e = .returned (.tuple #[]) ∧ (if bt (strN s) (skB (strN s) a) = c then Tx V t s (skB (strN s) a + 1) 0 pl w else Tx V t s (skB (strN s) a) 120 (skB (strN s) a) w) := by
  have HP := hide (next_any h hs)
  obtain ⟨k, hk⟩ : ∃ k, skB (strN s) a = k := ⟨_, rfl⟩
  rw [hk] at HP ⊢
  have hin : bt (strN s) k = c → k < s.size := fun e => bt_in e hc
  obtain ⟨x, hxe⟩ : ∃ x, bt (strN s) k = x := ⟨_, rfl⟩
  rw [hxe] at HP hin ⊢
  clear h hk hxe
  by_cases hq : x = c
  · simp only [if_pos hq]
    have hlt := hin hq
    subst hq
    clear hin
    go_enter Tryd.func41, Tryd.ntmps41
    go_wp2_with fail
    refine (unhide HP).mono ?_
    rintro e w1 ⟨rfl, h1⟩
    obtain ⟨-, c1, c2, -, fz⟩ := h1.cells
    have f1 := fz 1
    have c2' : w1.cell? ⟨t, 2, none⟩ = some (.int .i64 0) := c2
    have h2 := h1.at (k + 1) (by omega)
    have e1 : ((k + 1 : Nat) : Int) = (k : Int) + 1 := by omega
    rw [e1] at h2
    have H2 := hide h2
    clear h1 h2 fz c2 e1 HP
    go_wp2
    go_end0
    exact ⟨rfl, unhide H2⟩
  · simp only [if_neg hq]
    have q : ((x : Int) == (c : Int)) = false := by simp; omega
    have q' : ((x : Int) != (c : Int)) = true := by simp; omega
    clear hin
    go_enter Tryd.func41, Tryd.ntmps41
    go_wp2_with fail
    refine (unhide HP).mono ?_
    rintro e w1 ⟨rfl, h1⟩
    obtain ⟨-, c1, c2, -, fz⟩ := h1.cells
    have c2' : w1.cell? ⟨t, 2, none⟩ = some (.int .i64 0) := c2
    have HF := hide (fail_any h1 120 k)
    clear h1 fz c2 HP
    go_wp2_with fail
    refine (unhide HF).mono ?_
    rintro e w2 ⟨rfl, h2⟩
    simp only [if_true] at h2
    have H2 := hide h2
    clear h2
    go_wp2
    refine bodyPost_ret (results_none rfl _ _ _) rfl ?_
    exact ⟨rfl, unhide H2⟩
/-- What a member's name comes to: behind the colon; or the fault. -/
def nmO (L : List Nat) (a : Nat) (o : Option Nat) : RR := match o with
  | none => .error (125, a)
  | some e => if bt L (skB L e) = 58 then .ok ([], skB L e + 1) else .error (120, skB L e)
def nmR (L : List Nat) (a : Nat) : RR := nmO L a (strE L a)
def NmE (V : World) (t : Nat) (s : ByteArray) (a pl : Nat) (r : RR) (e : Ending) (w : World) : Prop := match r with
  | .error (c, p) => (∃ en x, e = .returned (.agg (ndC 3 a en x (.slice none 0 0) (.slice none 0 0)))) ∧ ∃ a', Tx V t s a' c p w
  | .ok (_, p) => (∃ en x, strE (strN s) a = some en ∧ e = .returned (.agg (ndC 3 a en x (.slice none 0 0) (.slice none 0 0)))) ∧ Tx V t s p 0 pl w
theorem Tx.grow {V : World} {t : Nat} {s : ByteArray} {a er pl : Nat} {W : World} (h : Tx V t s a er pl W) (o : Obj) : Tx V t s a er pl (W.alloc o) := h.up ((Below.refl _ _).alloc (Nat.le_refl _) _)
set_option maxRecDepth 100000 in
set_option maxHeartbeats 2000000 in
theorem name_any {V : World} {t : Nat} {s : ByteArray} {a pl : Nat} {W : World} (h : Tx V t s a 0 pl W) (hs : s.size ≤ 67108864) (ha : a < s.size) : Calls Tryd.prog 42 #[.pointer (some ⟨t, 0, none⟩)] W (NmE V t s a pl (nmR (strN s) a)) := by
  have ht := (Array.getElem?_eq_some_iff.1 h.blk).1
  obtain ⟨-, -, c2, -, -⟩ := h.cells
  have c2' : W.cell? ⟨t, 2, none⟩ = some (.int .i64 0) := c2
  have h1 := h.grow (.cells #[.int .i64 0, .int .i64 0, .int .i64 0, .string ⟨#[]⟩, .slice none 0 0, .slice none 0 0] 43)
  have HC := hide (text_any h1.self hs ha)
  have HG1 := hide h1.gr
  have hvs := h.gr.size
  have Hr0 := hide (heap_new W (.cells #[.int .i64 0, .int .i64 0, .int .i64 0, .string ⟨#[]⟩, .slice none 0 0, .slice none 0 0] 43))
  have HNe : Hid (W.heap.size ≠ t ∧ V.heap.size ≤ W.heap.size) := by show _ ∧ _; omega
  have hNm : nmR (strN s) a = nmO (strN s) a (strE (strN s) a) := rfl
  obtain ⟨R, hR⟩ : ∃ R, nmR (strN s) a = R := ⟨_, rfl⟩
  rw [hR] at hNm ⊢
  obtain ⟨E, hE⟩ : ∃ E, strE (strN s) a = E := ⟨_, rfl⟩
  have HE := hide hE
  rw [hE] at HC hNm
  have HNm2 := hide hNm
  clear h h1 c2 hvs hR hE hNm
  go_enter Tryd.func42, Tryd.ntmps42
  go_wp2_with fail
  refine (unhide HC).mono ?_
  intro e w2 hx
  clear HC
  match E, hx, HNm2 with
  | none, ⟨he, h2⟩, HNm2 =>
    subst he
    have HR : Hid (R = .error (125, a)) := unhide HNm2
    have rb := (h2.gr.block W.heap.size (by rw [World.size_alloc]; omega) (by simpa using (unhide HNe).1)).trans (unhide Hr0)
    have hl2 := (Array.getElem?_eq_some_iff.1 rb).1
    obtain ⟨w3, hw3⟩ : ∃ w3, w2.alloc (.cells #[.int .i64 3, .int .i64 (a : Int), .int .i64 0, .string ⟨#[]⟩, .slice none 0 0, .slice none 0 0] 43) = w3 := ⟨_, rfl⟩
    have h3 := h2.grow (.cells #[.int .i64 3, .int .i64 (a : Int), .int .i64 0, .string ⟨#[]⟩, .slice none 0 0, .slice none 0 0] 43)
    have rb3 := (Below.heap_alloc w2 (.cells #[.int .i64 3, .int .i64 (a : Int), .int .i64 0, .string ⟨#[]⟩, .slice none 0 0, .slice none 0 0] 43) _ hl2).trans rb
    have nb3 := heap_new w2 (.cells #[.int .i64 3, .int .i64 (a : Int), .int .i64 0, .string ⟨#[]⟩, .slice none 0 0, .slice none 0 0] 43)
    obtain ⟨n, hn⟩ : ∃ n, w2.heap.size = n := ⟨_, rfl⟩
    rw [hw3] at h3 rb3 nb3
    rw [hn] at nb3
    obtain ⟨-, -, c2, -, -⟩ := h3.cells
    have c2' : w3.cell? ⟨t, 2, none⟩ = some (.int .i64 125) := c2
    obtain ⟨⟨n0, n1, n2, n3, n4, n5⟩, -⟩ := cells6 nb3
    obtain ⟨⟨r0, r1, r2, r3, r4, r5⟩, rf⟩ := cells6 rb3
    have g0 := rf 0
    have g1 := rf 1
    have g2 := rf 2
    have g3 := rf 3
    have g4 := rf 4
    have g5 := rf 5
    obtain ⟨k1, k2⟩ := set6_block rb3 (.int .i64 3) (.int .i64 (a : Int)) (.int .i64 0) (.string ⟨#[]⟩) (.slice none 0 0) (.slice none 0 0)
    have hfin := (h3.from (unhide HG1)).other k2 (unhide HNe).1 (unhide HNe).2
    have K1 := hide k1
    have HFin := hide hfin
    have Hw3 := hide hw3
    have Hn := hide hn
    have ne3 : ¬ W.heap.size = n := by omega
    unfold set6 at K1 HFin
    unfold ndC
    clear rb h2 h3 rb3 nb3 rf k1 k2 hfin c2 HG1 hx hw3 hn hl2
    go_upto_region 4 with fail
    rw [unhide Hw3, unhide Hn]
    clear Hw3 Hn
    go_wp2
    refine bodyPost_ret (results_cell_row rfl _ _ W.heap.size 43 (ndC 3 a 0 ⟨#[]⟩ (.slice none 0 0) (.slice none 0 0)) (0, 0) _ rfl (unhide K1) Tryd.underlying43 rfl sizeNode) rfl ?_
    rw [unhide HR]
    exact ⟨⟨0, ⟨#[]⟩, rfl⟩, a, unhide HFin⟩
  | some en, ⟨⟨x, he⟩, h2⟩, HNm2 =>
    subst he
    have HR : Hid (R = if bt (strN s) (skB (strN s) en) = 58 then .ok ([], skB (strN s) en + 1) else .error (120, skB (strN s) en)) := unhide HNm2
    have rb := (h2.gr.block W.heap.size (by rw [World.size_alloc]; omega) (by simpa using (unhide HNe).1)).trans (unhide Hr0)
    have hl2 := (Array.getElem?_eq_some_iff.1 rb).1
    have htl : t < w2.heap.size := (Array.getElem?_eq_some_iff.1 h2.blk).1
    have h3 := h2.grow (.cells #[.int .i64 3, .int .i64 (a : Int), .int .i64 (en : Int), .string x, .slice none 0 0, .slice none 0 0] 43)
    obtain ⟨-, -, c2, -, -⟩ := h3.cells
    have rb3 := (Below.heap_alloc w2 (.cells #[.int .i64 3, .int .i64 (a : Int), .int .i64 (en : Int), .string x, .slice none 0 0, .slice none 0 0] 43) _ hl2).trans rb
    have nb3 := heap_new w2 (.cells #[.int .i64 3, .int .i64 (a : Int), .int .i64 (en : Int), .string x, .slice none 0 0, .slice none 0 0] 43)
    have HS := hide (sign_any h3.self hs 58 (by omega))
    have Hrb3 := hide rb3
    have Hnb3 := hide nb3
    have H3g := hide (World.grownBy.trans (unhide HG1) h3.gr)
    have HNe2 : Hid (w2.heap.size ≠ t ∧ W.heap.size ≠ w2.heap.size) := by show _ ∧ _; omega
    unfold ndC
    have c2' : (w2.alloc (.cells #[.int .i64 3, .int .i64 (a : Int), .int .i64 (en : Int), .string x, .slice none 0 0, .slice none 0 0] 43)).cell? ⟨t, 2, none⟩ = some (.int .i64 0) := c2
    clear rb h2 h3 rb3 nb3 c2 HG1 hx
    go_wp2_with fail
    refine (unhide HS).mono ?_
    rintro e w4 ⟨rfl, h4⟩
    obtain ⟨a4, er4, pl4, h5, hR5⟩ : ∃ a4 er4 pl4, Tx (w2.alloc (.cells #[.int .i64 3, .int .i64 (a : Int), .int .i64 (en : Int), .string x, .slice none 0 0, .slice none 0 0] 43)) t s a4 er4 pl4 w4 ∧ ((R = .ok ([], a4) ∧ er4 = 0 ∧ pl4 = pl) ∨ R = .error (er4, pl4)) := by
      by_cases q : bt (strN s) (skB (strN s) en) = 58
      · rw [if_pos q] at h4
        exact ⟨_, _, _, h4, .inl ⟨(unhide HR).trans (if_pos q), rfl, rfl⟩⟩
      · rw [if_neg q] at h4
        exact ⟨_, _, _, h4, .inr ((unhide HR).trans (if_neg q))⟩
    have rb := (h5.gr.block W.heap.size (Array.getElem?_eq_some_iff.1 (unhide Hrb3)).1 (by simpa using (unhide HNe).1)).trans (unhide Hrb3)
    have nb := (h5.gr.block w2.heap.size (Array.getElem?_eq_some_iff.1 (unhide Hnb3)).1 (by simpa using (unhide HNe2).1)).trans (unhide Hnb3)
    obtain ⟨⟨n0, n1, n2, n3, n4, n5⟩, -⟩ := cells6 nb
    obtain ⟨⟨r0, r1, r2, r3, r4, r5⟩, rf⟩ := cells6 rb
    have g0 := rf 0
    have g1 := rf 1
    have g2 := rf 2
    have g3 := rf 3
    have g4 := rf 4
    have g5 := rf 5
    obtain ⟨k1, k2⟩ := set6_block rb (.int .i64 3) (.int .i64 (a : Int)) (.int .i64 (en : Int)) (.string x) (.slice none 0 0) (.slice none 0 0)
    have hfin := (h5.from (unhide H3g)).other k2 (unhide HNe).1 (unhide HNe).2
    have K1 := hide k1
    have HFin := hide hfin
    have HR5 := hide hR5
    have ne3 : ¬ W.heap.size = w2.heap.size := (unhide HNe2).2
    unfold set6 at K1 HFin
    clear rb nb h4 h5 rf k1 k2 hfin HS hR5 HR
    go_wp2
    refine bodyPost_ret (results_cell_row rfl _ _ W.heap.size 43 (ndC 3 a en x (.slice none 0 0) (.slice none 0 0)) (0, 0) _ rfl (unhide K1) Tryd.underlying43 rfl sizeNode) rfl ?_
    rcases unhide HR5 with ⟨hr, rfl, rfl⟩ | hr
    · rw [hr]
      exact ⟨⟨en, x, unhide HE, rfl⟩, unhide HFin⟩
    · rw [hr]
      exact ⟨⟨en, x, rfl⟩, _, unhide HFin⟩
set_option maxRecDepth 100000 in
theorem name_bad {V : World} {t : Nat} {s : ByteArray} {a er pl : Nat} {W : World} (h : Tx V t s a er pl W) (he : er ≠ 0) : Calls Tryd.prog 42 #[.pointer (some ⟨t, 0, none⟩)] W fun e w => e = .returned (.agg (ndC 0 0 0 ⟨#[]⟩ (.slice none 0 0) (.slice none 0 0))) ∧ Tx V t s a er pl w := by
  have ht := (Array.getElem?_eq_some_iff.1 h.blk).1
  obtain ⟨-, -, c2, -, -⟩ := h.cells
  have q : ((er : Int) == 0) = false := by simp; omega
  have q' : ((er : Int) != 0) = true := by simp; omega
  have H1 := hide (h.grow (.cells #[.int .i64 0, .int .i64 0, .int .i64 0, .string ⟨#[]⟩, .slice none 0 0, .slice none 0 0] 43))
  clear h
  go_enter Tryd.func42, Tryd.ntmps42
  go_wp2
  refine bodyPost_ret (results_cell_row rfl _ _ W.heap.size 43 (ndC 0 0 0 ⟨#[]⟩ (.slice none 0 0) (.slice none 0 0)) (0, 0) _ rfl (heap_new _ _) Tryd.underlying43 rfl sizeNode) rfl ?_
  exact ⟨rfl, unhide H1⟩
end Go.Proofs.YthodjkeppobcmaaDoor
