import Derived.Test.YthodjkeppobcmaaDoorLJ
import Derived.Outline

namespace Go.Proofs.YthodjkeppobcmaaDoor
open Go.RowKit Go.Lib
attribute [local go_sem ↓] Go.wp_at_zero Go.wp_at_succ

/-- What the loop of inside says of the answer. -/
def InR (s : ByteArray) (c shut kd : Nat) (ea : Nat → RR) (R : RR) (pl : Nat) (fst : Bool) (a' er' pl' : Nat) (lN lI : List NdV) (its : List It) (gk : Nat) : Prop := (er' ≠ 0 ∧ R = .error (er', pl')) ∨ ∃ f, er' = 0 ∧ pl' = pl ∧ lI = its.map It.v ∧ (kd = 1 → lN = its.map It.nm) ∧ (∀ i ∈ its, kd = 1 → i.na ≤ i.ne ∧ i.ne ≤ (strN s).length) ∧ its.length ≤ a' ∧ f < gk ∧ s.size < a' + f ∧ (if fst = true then its = [] ∧ R = RR.pre [c] (if bt (strN s) (skB (strN s) a') = shut then .ok ([shut], skB (strN s) a' + 1) else itemsR (strN s) ea shut f a') else its ≠ [] ∧ R = RR.pre (c :: jn (its.map (itB (strN s) kd))) (aftR (strN s) ea shut f a'))
/-- What stands ahead of the next thing. -/
def frt (L : List Nat) (c kd : Nat) (its : List It) : List Nat := c :: jn (its.map (itB L kd)) ++ (if its = [] then [] else [44])
theorem frt_snoc {L : List Nat} {c kd : Nat} {its : List It} {i : It} : frt L c kd its ++ itB L kd i = c :: jn ((its ++ [i]).map (itB L kd)) := by
  unfold frt
  rw [List.map_append, List.map_cons, List.map_nil, jn_snoc]
  cases its with
  | nil => simp [jn]
  | cons x xs => simp
set_option maxRecDepth 100000 in
set_option maxHeartbeats 4000000 in
theorem insideA {V : World} {t : Nat} {s : ByteArray} {a pl op d : Nat} {W : World} (h : Tx V t s a 0 pl W) (hs : s.size ≤ 67108864) (hc : bt (strN s) a = 91) (hk : skB (strN s) a = a) (hval : ∀ (a' : Nat) (w : World), Tx w t s a' 0 pl w → Calls Tryd.prog 19 #[.pointer (some ⟨t, 0, none⟩), .int .i64 (op : Int)] w (VR w w t s pl (valR (strN s) d a'))) : Calls Tryd.prog 32 #[.pointer (some ⟨t, 0, none⟩), .int .u8 91, .int .i64 (op : Int)] W (VR V W t s pl (rowR (strN s) (valR (strN s) d) 91 93 a)) := by
  obtain ⟨k0, hk0, kz0, kz1, kz2⟩ := info_parts infoNode
  have ht := (Array.getElem?_eq_some_iff.1 h.blk).1
  have hal : a < s.size := bt_in hc (by omega)
  obtain ⟨W2, hW2⟩ : ∃ W2, (W.alloc (.cells #[.int .i64 0, .int .i64 0, .int .i64 0, .string ⟨#[]⟩, .slice none 0 0, .slice none 0 0] 43)).alloc (.cells #[.int .i64 2, .int .i64 (a : Int), .int .i64 0, .string ⟨#[]⟩, .slice none 0 0, .slice none 0 0] 43) = W2 := ⟨_, rfl⟩
  have hb2 : Below W.heap.size W W2 := by rw [← hW2]; exact ((Below.refl _ _).alloc (Nat.le_refl _) _).alloc (by rw [World.size_alloc]; omega) _
  have hs2 : W2.heap.size = W.heap.size + 2 := by rw [← hW2, World.size_alloc, World.size_alloc]
  have hrb : W2.heap[W.heap.size]? = some (.cells #[.int .i64 0, .int .i64 0, .int .i64 0, .string ⟨#[]⟩, .slice none 0 0, .slice none 0 0] 43 (0, 0)) := by
    rw [← hW2, Below.heap_alloc _ _ _ (by rw [World.size_alloc]; omega)]
    exact heap_new _ _
  have hnb : W2.heap[W.heap.size + 1]? = some (.cells #[.int .i64 2, .int .i64 (a : Int), .int .i64 0, .string ⟨#[]⟩, .slice none 0 0, .slice none 0 0] 43 (0, 0)) := by
    have := heap_new (W.alloc (.cells #[.int .i64 0, .int .i64 0, .int .i64 0, .string ⟨#[]⟩, .slice none 0 0, .slice none 0 0] 43)) (.cells #[.int .i64 2, .int .i64 (a : Int), .int .i64 0, .string ⟨#[]⟩, .slice none 0 0, .slice none 0 0] 43)
    rw [World.size_alloc, hW2] at this
    exact this
  have hvs := h.gr.size
  obtain ⟨r, hr⟩ : ∃ r, W.heap.size = r := ⟨_, rfl⟩
  obtain ⟨n, hn⟩ : ∃ n, r + 1 = n := ⟨_, rfl⟩
  rw [hr] at hrb hnb
  rw [hn] at hnb
  have hX2 := h.up hb2
  have hX3 := hX2.at (a + 1) (by omega)
  obtain ⟨m1, m2⟩ := set_block (j := 1) hX2.blk (.int .i64 ((a + 1 : Nat) : Int))
  have HG : Hid (Geo V W2 t r n) := ⟨by omega, ⟨by omega, by omega, by omega⟩, ⟨by omega, by omega, by omega⟩, by omega, by omega⟩
  have e1 : ((a + 1 : Nat) : Int) = (a : Int) + 1 := by omega
  have hI0 : InS V W2 t r n s 2 a (a + 1) 0 pl (.slice none 0 0) (.slice none 0 0) [] [] (W2.setCell ⟨t, 1, none⟩ (.int .i64 ((a + 1 : Nat) : Int))) := ⟨hX3, m2.size, (m2.block r (Array.getElem?_eq_some_iff.1 hrb).1 (by simp; omega)).trans hrb, (m2.block n (Array.getElem?_eq_some_iff.1 hnb).1 (by simp; omega)).trans hnb, ⟨rfl, .inl ⟨rfl, rfl⟩⟩, ⟨rfl, .inl ⟨rfl, rfl⟩⟩, fun g e => by cases e⟩
  rw [e1] at hI0
  have HI0 := hide hI0
  have HWs : Hid (W.heap.size ≤ W2.heap.size) := by show _ ≤ _; omega
  have HL := hide (strN_len s)
  have hrow := row_aft (ea := (valR (strN s) d)) hc hk (c := 91) (shut := 93) rfl rfl
  obtain ⟨R, hR⟩ : ∃ R, rowR (strN s) (valR (strN s) d) 91 93 a = R := ⟨_, rfl⟩
  rw [hR] at hrow ⊢
  have HR := hide hrow
  have Hc := hide hc
  have Hval := hide hval
  obtain ⟨cs, c1, -, -, tf⟩ := h.cells
  have t1 := tf 1
  have ct : W2.cell? ⟨t, 1, none⟩ = some (.int .i64 (a : Int)) := hX2.cells.2.1
  have tz : W2.frozen? ⟨t, 1, none⟩ = false := hX2.cells.2.2.2.2 1
  have nz : ¬ n = t := (unhide HG).gn.2.1
  obtain ⟨⟨n0, n1, n2, n3, n4, n5⟩, nf⟩ := cells6 hnb
  have nf0 := nf 0
  have HW2 := hide hW2
  have Hr0 := hide hr
  have Hn0 := hide hn
  clear h hb2 hrb hnb hR hvs hs2 hW2 hr hn hX2 hX3 m1 m2 hI0 hrow hc hk hval cs tf nf e1
  go_enter Tryd.func32, Tryd.ntmps32
  go_upto_region 6 with fail
  rw [unhide HW2, unhide Hr0, unhide Hn0]
  clear HW2 Hr0 Hn0 c1 t1 ht
  go_wp2_with fail
  go_loopg [9, 10] (s.size + 2) (fun gk v9 _ wr => ∃ (fst : Bool) (a' er' pl' : Nat) (vN vI : Value) (lN lI : List NdV) (its : List It), v9 = .bool fst ∧ Hid (InS V W2 t r n s 2 a a' er' pl' vN vI lN lI wr) ∧ Hid (Ch W2 (strN s) vN vI its wr) ∧ Hid (InR s 91 93 2 (valR (strN s) d) R pl fst a' er' pl' lN lI its gk))
  case atStart =>
    refine ⟨true, a + 1, 0, pl, _, _, [], [], [], rfl, HI0, (fun i hi => by cases hi), .inr ⟨s.size + 1, rfl, rfl, rfl, (fun _ => rfl), (fun i hi => by cases hi), Nat.zero_le _, by omega, by omega, ?_⟩⟩
    rw [if_pos rfl]
    refine ⟨rfl, ?_⟩
    rw [unhide HR, unhide HL]
  case round =>
    obtain ⟨fst, a', er', pl', vN, vI, lN, lI, its, rfl, HI, HCh, HRR⟩ := hrel
    clear HI0 HR ct tz n0 n1 n2 n3 n4 n5 nf0
    have G := unhide HG
    obtain ⟨oN, aN, cN, rfl⟩ := row_one (unhide HI).rn
    obtain ⟨oI, aI, cI, rfl⟩ := row_one (unhide HI).ri
    have c2 := (unhide HI).tx.cells.2.2.1
    rcases unhide HRR with ⟨he, hre⟩ | ⟨f, rfl, rfl, hlI, hlN, hms, hil, hfg, hfs, hst⟩
    · have q : ((er' : Int) == 0) = false := by simp; omega
      have Hre := hide hre
      clear he hre HRR
      have hI1 := unhide HI
      obtain ⟨⟨n0, n1, n2, n3, n4, n5⟩, nf⟩ := cells6 hI1.nb
      obtain ⟨⟨p0, p1, p2, p3, p4, p5⟩, pf⟩ := cells6 hI1.rb
      have g10 := pf 0
      have g11 := pf 1
      have g12 := pf 2
      have g13 := pf 3
      have g14 := pf 4
      have g15 := pf 5
      have nz3 : ¬ n = r := G.ne
      obtain ⟨k1, k2⟩ := set6_block hI1.rb (.int .i64 2) (.int .i64 (a : Int)) (.int .i64 0) (.string ⟨#[]⟩) (.slice aN lN.length cN) (.slice aI lI.length cI)
      have htx := hI1.tx.other k2 G.gr.2.1 G.gr.2.2
      have K1 := hide k1
      have Htx := hide htx
      have HON := hide oN
      have HOI := hide oI
      unfold set6 at K1 Htx
      clear hI1 nf pf k1 k2 htx oN oI HI HCh
      go_wp2
      refine bodyPost_ret (results_cell_row rfl _ _ r 43 #[.int .i64 2, .int .i64 (a : Int), .int .i64 0, .string ⟨#[]⟩, .slice aN lN.length cN, .slice aI lI.length cI] (0, 0) _ rfl (unhide K1) Tryd.underlying43 rfl sizeNode) rfl ?_
      rw [unhide Hre]
      exact ⟨⟨2, a, 0, ⟨#[]⟩, .slice aN lN.length cN, .slice aI lI.length cI⟩, rfl, ⟨⟨_, _, _, rfl⟩, ⟨_, _, _, rfl⟩⟩, _, unhide Htx⟩
    have Hst := hide hst
    have HLs := hide (show lI = its.map It.v ∧ True ∧ True ∧ its.length ≤ a' from ⟨hlI, trivial, trivial, hil⟩)
    have Hfg := hide (show f < gk ∧ s.size < a' + f from ⟨hfg, hfs⟩)
    have HNx := hide (next_any (unhide HI).tx.self hs)
    have hle := (unhide HI).tx.le
    have Hsk := hide (skB_in hle)
    obtain ⟨k, hk⟩ : ∃ k, skB (strN s) a' = k := ⟨_, rfl⟩
    rw [hk] at HNx Hsk
    have Hk := hide hk
    have hx256 := bt_256 s k
    obtain ⟨x, hx⟩ : ∃ x, bt (strN s) k = x := ⟨_, rfl⟩
    rw [hx] at HNx hx256
    have Hx := hide hx
    clear hk hx HRR hst hlI hlN hms hil hfg hfs
    go_wp2_with fail
    refine (unhide HNx).mono ?_
    rintro e w1 ⟨rfl, h1⟩
    have HI1 := hide ((unhide HI).call G h1)
    have HC1 := hide ((unhide HCh).call G.gt h1.gr)
    clear h1 HNx HI HCh c2
    by_cases hsh : x = 93
    · subst hsh
      have hst := unhide Hst
      have hI1 := unhide HI1
      obtain ⟨cs1, cp1, -, -, tf1⟩ := hI1.tx.cells
      have g1 := tf1 1
      obtain ⟨⟨n0, n1, n2, n3, n4, n5⟩, nf⟩ := cells6 hI1.nb
      have nf2 := nf 2
      have nz1 : ¬ n = t := G.gn.2.1
      have nz2 : ¬ r = t := G.gr.2.1
      have nz3 : ¬ n = r := G.ne
      obtain ⟨m1, m2⟩ := set_block (j := 1) hI1.tx.blk (.int .i64 ((k : Int) + 1))
      have nb1 := (m2.block n (Array.getElem?_eq_some_iff.1 hI1.nb).1 (by simpa using nz1)).trans hI1.nb
      have rb1 := (m2.block r (Array.getElem?_eq_some_iff.1 hI1.rb).1 (by simpa using nz2)).trans hI1.rb
      obtain ⟨m3, m4⟩ := set_block (j := 2) nb1 (.int .i64 ((k : Int) + 1))
      have rb2 := (m4.block r (Array.getElem?_eq_some_iff.1 rb1).1 (by simpa using (Ne.symm nz3))).trans rb1
      obtain ⟨⟨r0, r1, r2, r3, r4, r5⟩, rf⟩ := cells6 rb2
      obtain ⟨⟨p0, p1, p2, p3, p4, p5⟩, pf⟩ := cells6 hI1.rb
      have g10 := pf 0
      have g11 := pf 1
      have g12 := pf 2
      have g13 := pf 3
      have g14 := pf 4
      have g15 := pf 5
      obtain ⟨k1, k2⟩ := set6_block rb2 (.int .i64 2) (.int .i64 (a : Int)) (.int .i64 ((k : Int) + 1)) (.string ⟨#[]⟩) (.slice aN lN.length cN) (.slice aI lI.length cI)
      have hlt : k < s.size := bt_in (unhide Hx) (by omega)
      have h6 := hI1.tx.at (k + 1) (by omega)
      have e1 : ((k + 1 : Nat) : Int) = (k : Int) + 1 := by omega
      rw [e1] at h6
      have htx := (h6.other m4 nz1 G.gn.2.2).other k2 nz2 G.gr.2.2
      have hfin := hI1.fin (W := W) (e := k + 1) (its := its) (unhide HC1) (unhide HWs) (by omega) (unhide HLs).1 (fun q => (by cases q)) (fun i _ q => (by cases q)) (by rw [unhide HL]; exact hal) (by rw [unhide HL]; omega) (Nat.le_trans m2.size (Nat.le_trans m4.size k2.size)) (fun g hg hl => ((k2.block g (Nat.lt_of_lt_of_le hl (Nat.le_trans m2.size m4.size)) (by have := G.gr.1; simp; omega)).trans (m4.block g (Nat.lt_of_lt_of_le hl m2.size) (by have := G.gn.1; simp; omega))).trans (m2.block g hl (by have := G.gt; simp; omega)))
      have hRf : R = .ok (bt (strN s) a :: jn (its.map (itB (strN s) 2)) ++ [bt (strN s) (k + 1 - 1)], k + 1) := by
        rw [show k + 1 - 1 = k by omega, unhide Hx, unhide Hc]
        cases fst with
        | true =>
          rw [if_pos rfl] at hst
          rw [hst.2, hst.1, unhide Hk, if_pos (unhide Hx)]
          rfl
        | false =>
          rw [if_neg (by decide)] at hst
          rw [hst.2]
          unfold aftR
          rw [unhide Hk, if_pos (unhide Hx)]
          simp [RR.pre]
      have K1 := hide k1
      have Htx := hide htx
      have HFin := hide hfin
      have HRf := hide hRf
      unfold set6 at K1 Htx HFin
      have HON := hide oN
      have HOI := hide oI
      clear hst hI1 tf1 nf m1 m2 nb1 rb1 m3 m4 rb2 r0 r1 r2 r3 r4 r5 rf pf k1 k2 h6 e1 htx hfin hRf HI1 HC1 oN oI cs1 HLs
      go_wp2
      refine bodyPost_ret (results_cell_row rfl _ _ r 43 #[.int .i64 2, .int .i64 (a : Int), .int .i64 ((k : Int) + 1), .string ⟨#[]⟩, .slice aN lN.length cN, .slice aI lI.length cI] (0, 0) _ rfl (unhide K1) Tryd.underlying43 rfl sizeNode) rfl ?_
      rw [unhide HRf]
      exact ⟨⟨2, a, ((k + 1 : Nat) : Int), ⟨#[]⟩, .slice aN lN.length cN, .slice aI lI.length cI⟩, rfl, ⟨⟨_, _, _, rfl⟩, ⟨_, _, _, rfl⟩⟩, unhide Htx, unhide HFin⟩
    have d1 : ((x : Int) == 93) = false := by simp; omega
    have Hne : Hid (¬ bt (strN s) k = 93) := by show ¬ _; rw [unhide Hx]; exact hsh
    go_upto_if 50 with fail
    go_cut [10, 50] (fun v10 _ wx => ∃ (a1 er1 pl1 x1 : Nat), v10 = .int .u8 (x1 : Int) ∧ Hid (InS V W2 t r n s 2 a a1 er1 pl1 (.slice aN lN.length cN) (.slice aI lI.length cI) lN lI wx) ∧ Hid (Ch W2 (strN s) (.slice aN lN.length cN) (.slice aI lI.length cI) its wx) ∧ Hid ((er1 ≠ 0 ∧ R = .error (er1, pl1)) ∨ (er1 = 0 ∧ pl1 = pl' ∧ a' ≤ a1 ∧ skB (strN s) a1 = a1 ∧ x1 = bt (strN s) a1 ∧ ∃ f1, f1 < f ∧ s.size < a1 + f1 + 1 ∧ R = RR.pre (frt (strN s) 91 2 its) (itemsR (strN s) (valR (strN s) d) 93 (f1 + 1) a1))))
    case first =>
      obtain ⟨f, rfl⟩ : ∃ j, f = j + 1 := ⟨f - 1, by have := (unhide Hfg).2; omega⟩
      cases fst with
      | true =>
        have hst := unhide Hst
        rw [if_pos rfl] at hst
        go_wp2
        go_meet
        refine ⟨k, 0, pl', x, rfl, HI1, HC1, .inr ⟨rfl, rfl, (unhide Hsk).1, ?_, (unhide Hx).symm, f, by omega, ?_, ?_⟩⟩
        · rw [← unhide Hk, skB_sk]
        · have := (unhide Hfg).2; have := (unhide Hsk).1; omega
        · rw [hst.2, hst.1, unhide Hk, if_neg (unhide Hne), ← unhide Hk, items_sk (fun q => valR_sk _ d q)]
          rfl
      | false =>
        have hst := unhide Hst
        rw [if_neg (by decide)] at hst
        have HS := hide (sign_any (unhide HI1).tx.self hs 44 (by omega))
        have hkk : skB (strN s) k = k := by rw [← unhide Hk, skB_sk]
        rw [hkk] at HS
        rw [unhide Hx] at HS
        have Hst2 := hide hst
        clear hst hkk
        go_wp2_with fail
        refine (unhide HS).mono ?_
        rintro e w2 ⟨rfl, h2⟩
        by_cases q44 : x = 44
        · rw [if_pos q44] at h2
          have HI2 := (unhide HI1).call G h2
          have HC2 := (unhide HC1).call G.gt h2.gr
          have HN2 := hide (next_any h2.self hs)
          have Hsk2 := hide (skB_in h2.le)
          obtain ⟨k2, hk2⟩ : ∃ k2, skB (strN s) (k + 1) = k2 := ⟨_, rfl⟩
          rw [hk2] at HN2 Hsk2
          have Hk2 := hide hk2
          have HI2' := hide HI2
          have HC2' := hide HC2
          clear h2 hk2 HI2 HC2 HS
          go_wp2_with fail
          refine (unhide HN2).mono ?_
          rintro e w3 ⟨rfl, h3⟩
          have HI3 := hide ((unhide HI2').call G h3)
          have HC3 := hide ((unhide HC2').call G.gt h3.gr)
          clear h3 HN2
          go_wp2
          go_meet
          refine ⟨k2, 0, pl', _, rfl, HI3, HC3, .inr ⟨rfl, rfl, ?_, ?_, rfl, f, by omega, ?_, ?_⟩⟩
          · have := (unhide Hsk).1; have := (unhide Hsk2).1; omega
          · rw [← unhide Hk2, skB_sk]
          · have := (unhide Hfg).2; have := (unhide Hsk).1; have := (unhide Hsk2).1; omega
          · rw [(unhide Hst2).2]
            unfold aftR frt
            rw [unhide Hk, if_neg (unhide Hne), unhide Hx, if_pos q44, ← unhide Hk2, items_sk (fun q => valR_sk _ d q), RR.pre_pre, if_neg (unhide Hst2).1]
        · rw [if_neg q44] at h2
          have HI2 := (unhide HI1).call G h2
          have HC2 := (unhide HC1).call G.gt h2.gr
          have HN2 := hide (next_any h2.self hs)
          have HI2' := hide HI2
          have HC2' := hide HC2
          have Hq := hide q44
          clear h2 HI2 HC2 HS
          go_wp2_with fail
          refine (unhide HN2).mono ?_
          rintro e w3 ⟨rfl, h3⟩
          have HI3 := hide ((unhide HI2').call G h3)
          have HC3 := hide ((unhide HC2').call G.gt h3.gr)
          clear h3 HN2
          go_wp2
          go_meet
          refine ⟨_, 120, k, _, rfl, HI3, HC3, .inl ⟨by omega, ?_⟩⟩
          rw [(unhide Hst2).2]
          unfold aftR
          rw [unhide Hk, if_neg (unhide Hne), unhide Hx, if_neg (unhide Hq)]
          rfl
    case rest =>
    obtain ⟨a1, er1, pl1, x1, rfl, HI2, HC2, HRR2⟩ := hcut
    clear HI1 HC1 Hst Hne Hk Hx Hsk d1 hsh
    obtain ⟨-, -, c2, -, -⟩ := (unhide HI2).tx.cells
    obtain ⟨⟨n0, n1, n2, n3, n4, n5⟩, nf⟩ := cells6 (unhide HI2).nb
    have nf5 := nf 5
    clear nf
    rcases unhide HRR2 with ⟨he, hre⟩ | ⟨rfl, rfl, ha1, hk1, hx1, f1, hf1, hf2, hr1⟩
    · have q : ((er1 : Int) == 0) = false := by simp; omega
      have HF : Hid (InR s 91 93 2 (valR (strN s) d) R pl' false a1 er1 pl1 lN lI its 0) := .inl ⟨he, hre⟩
      have Hg0 := hide (unhide Hfg).1
      clear he hre HRR2
      go_wp2_with fail
      go_roundg 0
      case measure => have := unhide Hg0; omega
      case rel => exact ⟨false, a1, er1, pl1, _, _, lN, lI, its, rfl, HI2, HC2, HF⟩
    rw [items_succ] at hr1
    have HR1 : Hid (R = RR.pre (frt (strN s) 91 2 its) ((valR (strN s) d a1).go (moreR (strN s) (valR (strN s) d) 93 f1))) := hr1
    have Hff := hide (show f1 < f ∧ s.size < a1 + f1 + 1 ∧ a' ≤ a1 from ⟨hf1, hf2, ha1⟩)
    clear hk1 hx1
    have c2' : wc.cell? ⟨t, 2, none⟩ = some (.int .i64 0) := c2
    clear c2 hr1 hf1 hf2 ha1 HRR2
    go_upto_region 24 with fail
    have hT : (fun w : World => w.cell? ⟨n, 5, none⟩ = some (.slice aI lI.length cI)) wc.drew := n5
    refine wp_region_any (by kernel_rfl) (wpAny_of_Z (z := 8) (T := fun w => w.cell? ⟨n, 5, none⟩ = some (.slice aI lI.length cI)) _ _ _ _ ?_)
    try (change wpAnyZ _ _ _ _ _ _ _ _ _ (World.drew _))
    refine wpAnyZ_tk 0 (.pointer (some ⟨n, 5, none⟩)) 79 rfl rfl (Or.inl ⟨by rfl, fun w hw => by go_simp⟩) hT ?_
    simp only [Act.put, List.setIfInBounds_toArray, List.set_cons_zero, List.set_cons_succ]
    refine wpAnyZ_tk 1 (.slice aI lI.length cI) 80 rfl rfl (Or.inl ⟨by rfl, fun w hw => by go_simp⟩) hT ?_
    simp only [Act.put, List.setIfInBounds_toArray, List.set_cons_zero, List.set_cons_succ]
    refine wpAnyZ_tk 2 (.pointer (some ⟨t, 0, none⟩)) 81 rfl rfl (Or.inl ⟨by rfl, fun w hw => by go_simp⟩) hT ?_
    simp only [Act.put, List.setIfInBounds_toArray, List.set_cons_zero, List.set_cons_succ]
    refine wpAnyZ_tk 3 (.int .i64 (op : Int)) 82 rfl rfl (Or.inl ⟨by rfl, fun w hw => by go_simp⟩) hT ?_
    simp only [Act.put, List.setIfInBounds_toArray, List.set_cons_zero, List.set_cons_succ]
    have hbd : Below wc.heap.size wc wc.drew := ⟨rfl, rfl, rfl, Nat.le_refl _, fun _ _ => rfl⟩
    have hI3 := (unhide HI2).same hbd
    have hC3 := (unhide HC2).same hbd
    refine wpAnyZ_one 4 (by kernel_rfl) rfl (fun K hK => ?_)
    refine step_callD 83 rfl rfl 19 (cf_tvalue _) #[.tmp 81, .tmp 82] #[53, 3] rfl #[.pointer (some ⟨t, 0, none⟩), .int .i64 (op : Int)] (by first | rfl | simp [Act.eval]) (unhide Hval a1 wc.drew hI3.tx.self) ?_
    rintro e w4 ⟨d4, rfl, ⟨⟨_, _, _, q1⟩, ⟨_, _, _, q2⟩⟩, hv⟩
    have q1' : d4.vn.oneCell' = true := by rw [q1]; rfl
    have q2' : d4.vi.oneCell' = true := by rw [q2]; rfl
    clear q1 q2
    obtain ⟨a5, er5, pl5, hx5, hv5⟩ : ∃ a5 er5 pl5, Tx wc.drew t s a5 er5 pl5 w4 ∧ ((er5 ≠ 0 ∧ R = .error (er5, pl5)) ∨ (er5 = 0 ∧ pl5 = pl1 ∧ ∃ l, valR (strN s) d a1 = .ok (l, a5) ∧ HasNd (strN s) (fun g => wc.drew.heap.size ≤ g) w4 d4 l)) := by
      have hgd := val_gd (s := s) d a1 hI3.tx.le
      match hr : valR (strN s) d a1, hv with
      | .error (c5, p5), ⟨a5, h5⟩ =>
        refine ⟨a5, c5, p5, h5, .inl ⟨hgd.2 _ _ hr, ?_⟩⟩
        rw [unhide HR1, hr]
        rfl
      | .ok (l, p5), ⟨h5, h6⟩ => exact ⟨p5, 0, pl1, h5, .inr ⟨rfl, rfl, l, rfl, h6⟩⟩
    have hI4 := hI3.call (unhide HG) hx5
    have hC4 := hC3.call (unhide HG).gt hx5.gr
    have n5' : w4.cell? ⟨n, 5, none⟩ = some (.slice aI lI.length cI) := (cells6 hI4.nb).1.2.2.2.2.2
    refine ⟨_, rfl, hK _ _ ⟨fun _ => n5', ?_⟩⟩
    clear hK K hT
    simp only [Act.put, List.setIfInBounds_toArray, List.set_cons_zero, List.set_cons_succ]
    refine wpAnyZ_one 5 (by kernel_rfl) rfl (fun K hK => ?_)
    unfold NdV.val
    go_simp
    have hbA : Below w4.heap.size w4 (w4.alloc (.cells #[.int .i64 d4.k, .int .i64 d4.a, .int .i64 d4.e, .string d4.x, d4.vn, d4.vi] 43)) := (Below.refl _ _).alloc (Nat.le_refl _) _
    have hI5 := hI4.same hbA
    have hC5 := hC4.same hbA
    have n5'' : (w4.alloc (.cells #[.int .i64 d4.k, .int .i64 d4.a, .int .i64 d4.e, .string d4.x, d4.vn, d4.vi] 43)).cell? ⟨n, 5, none⟩ = some (.slice aI lI.length cI) := (cells6 hI5.nb).1.2.2.2.2.2
    refine hK _ _ ⟨fun _ => n5'', ?_⟩
    clear hK K
    have hlI : lI.length ≤ s.size := by rw [(unhide HLs).1, List.length_map]; have := (unhide HLs).2.2.2; have := (unhide Hff).2.2; have := hI3.tx.le; omega
    have hbz := hI5.bs
    refine wpAnyZ_one 6 (by kernel_rfl) rfl (fun K hK => ?_)
    refine step_app_own rfl (.tmp 80) (.tmp 84) 41 rfl W2.heap.size 43 k0 (.agg #[.int .i64 0, .int .i64 0, .int .i64 0, .string ⟨#[]⟩, .slice none 0 0, .slice none 0 0]) 6 88 Tryd.underlying41 hk0 kz0 kz1 kz2 rfl (by decide) (.slice aI lI.length cI) lI.length (ndF lI) (by first | rfl | simp [Act.eval]) hI5.ri ⟨w4.heap.size, 0, none⟩ 1 1 d4.cells (by first | rfl | simp [Act.eval]) rfl (cells_lit w4 d4.cells 43) (by intro u hu; simp [NdV.cells] at hu; rcases hu with rfl | rfl | rfl | rfl | rfl | rfl <;> first | rfl | assumption) (by unfold maxLen; omega) (by omega) hbz ?_
    intro v6 w6 hown6 hgrow6 hat6
    have nb6 := (hgrow6.block n (Array.getElem?_eq_some_iff.1 hI5.nb).1 (fun e => by have := own_le hI5.ri e.symm; have := (unhide HG).gn.1; omega)).trans hI5.nb
    have n56 : w6.cell? ⟨n, 5, none⟩ = some (.slice aI lI.length cI) := (cells6 nb6).1.2.2.2.2.2
    have nf6 := (cells6 nb6).2 5
    have k2 := (set_block (j := 5) nb6 v6).2
    have hI6 := hI5.appI (unhide HG) (d := d4) hown6 hgrow6 hat6
    obtain ⟨o6, a6, c6, rfl⟩ := row_one hown6
    refine hK _ _ ⟨fun _ => n56, ?_⟩
    clear hK K
    simp only [Act.put, List.setIfInBounds_toArray]
    have HI6 := hide hI6
    have HF : Hid (∃ its', Ch W2 (strN s) (.slice aN lN.length cN) (.slice a6 (lI.length + 1) c6) its' (w6.setCell ⟨n, 5, none⟩ (.slice a6 (lI.length + 1) c6)) ∧ InR s 91 93 2 (valR (strN s) d) R pl1 false a5 er5 pl5 lN (lI ++ [d4]) its' f) := by
      rcases hv5 with ⟨e1, e2⟩ | ⟨rfl, rfl, l, hval, hnd⟩
      · exact ⟨its, hC5.appI (unhide HG).gn.1 hgrow6 hat6 k2, .inl ⟨e1, e2⟩⟩
      · refine ⟨its ++ [⟨0, 0, ⟨#[]⟩, d4, l⟩], ?_, .inr ⟨f1, rfl, rfl, (by rw [(unhide HLs).1, List.map_append]; rfl), (fun q => (by cases q)), (fun i _ q => (by cases q)), ?_, (unhide Hff).1, ?_, ?_⟩⟩
        · refine Ch.appI (fun i hi => ?_) (unhide HG).gn.1 hgrow6 hat6 k2
          rcases List.mem_append.1 hi with hi | hi
          · exact hC5 i hi
          · obtain rfl : i = ⟨0, 0, ⟨#[]⟩, d4, l⟩ := by simpa using hi
            exact hnd.to hbA.size (fun g hg hl => ⟨⟨Nat.le_trans hI3.bs hg, fun e => by have := (own_le hI3.rn e).2; omega, fun e => by have := (own_le hI3.ri e).2; omega⟩, hbA.block g hl⟩)
        · rw [List.length_append]
          have := val_gt (strN s) d a1 l a5 hval
          have := (unhide HLs).2.2.2
          have := (unhide Hff).2.2
          simp
          omega
        · have := val_gt (strN s) d a1 l a5 hval
          have := (unhide Hff).2.1
          omega
        · rw [if_neg (by decide)]
          refine ⟨by simp, ?_⟩
          rw [← frt_snoc, unhide HR1, hval]
          show RR.pre _ (RR.pre l (moreR _ _ _ _ _)) = _
          rw [RR.pre_pre, more_aft rfl (by omega)]
          rfl
    have HF2 := hide (show f < gk from (unhide Hfg).1)
    clear hI3 hC3 hI4 hC4 hI5 hC5 hI6 hown6 hgrow6 hat6 nb6 k2 hbA hbd hv hv5 hx5 n5' n5'' hlI hbz
    refine wpAnyZ_one 7 (by kernel_rfl) rfl (fun K hK => ?_)
    go_simp
    refine hK _ _ ⟨fun _ => n56, ?_⟩
    clear hK K
    refine wpAnyZ_one 8 (by kernel_rfl) rfl (fun K hK => ?_)
    go_simp
    refine hK _ _ ⟨fun q => absurd rfl q, ?_⟩
    clear hK K
    refine wpAnyZ_done (by kernel_rfl) ?_
    go_wp2_with fail
    obtain ⟨its', hc', hr'⟩ := unhide HF
    go_roundg f
    case measure => exact unhide HF2
    case rel => exact ⟨false, a5, er5, pl5, _, _, _, _, its', rfl, HI6, hc', hr'⟩

end Go.Proofs.YthodjkeppobcmaaDoor
