import Derived.Test.YtlblllghgdfpoaaDoorJ47
import Derived.Test.YtlblllghgdfpoaaDoorFC
import Derived.Test.YtlblllghgdfpoaaDoorJ40
import Derived.Test.YtlblllghgdfpoaaDoorGC
import Derived.Test.YtlblllghgdfpoaaDoorGD
import Derived.Test.YtlblllghgdfpoaaDoorJ43
import Derived.Test.YtlblllghgdfpoaaDoorJ43

namespace Go.Proofs.YtlblllghgdfpoaaDoor
open Go.RowKit
attribute [local go_sem ↓] Go.wp_at_zero Go.wp_at_succ

set_option maxRecDepth 100000 in
set_option maxHeartbeats 4000000 in
theorem quiet_any {W : World} {v : Value} {ls : List (List Nat)} (hS : HasS W) (hK : HasK W) (hX : HasX W) (h : HasBB W v ls) (hl : BytB ls) (hf : 4 + fsize ls ≤ 67108864) :
    Calls Tryd.prog 21 #[v] W fun e w' => e = .returned (.bool true) ∧ Below W.heap.size W w' := by
  obtain ⟨va, vc, rfl, -⟩ := id h
  refine calls_of_wp Tryd.func21 q_split ?_
  have H1 := hide (fun (tm : Array Value) (Q : Exit → Act → World → Prop) => l1_any (tm := tm) (Q := Q) hS hK hX h hl hf)
  obtain ⟨t1, ht1⟩ : ∃ t, qL1 = t := ⟨_, rfl⟩
  obtain ⟨t4, ht4⟩ : ∃ t, qL4 = t := ⟨_, rfl⟩
  obtain ⟨t5, ht5⟩ : ∃ t, qL5 = t := ⟨_, rfl⟩
  obtain ⟨t7, ht7⟩ : ∃ t, qL7 = t := ⟨_, rfl⟩
  obtain ⟨t8, ht8⟩ : ∃ t, qL8 = t := ⟨_, rfl⟩
  rw [ht1, ht4, ht5, ht7, ht8]
  clear hS hK hX h hl hf
  unfold qW qR58 qEnd
  dsimp only [tl, hd, qBody, Tryd.f21]
  simp only [List.size_toArray, List.length_cons, List.length_nil, Nat.reduceAdd, Nat.reduceSub, Array.replicate_succ, Array.replicate_zero, List.push_toArray, List.append_toArray, List.nil_append, List.cons_append]
  go_wp2
  rw [← ht1]
  refine unhide H1 _ _ rfl ⟨rfl, rfl, rfl, trivial⟩ ?_
  intro vL vW w1 tm s1 k1 q1
  obtain ⟨xs, ls', hq, hn, -⟩ := q1
  obtain ⟨u, rfl⟩ := frame401 s1
  obtain ⟨e0, e3, e4, _⟩ := k1
  replace e3 : u 3 = vL := Option.some.inj e3
  replace e4 : u 4 = vW := Option.some.inj e4
  rw [e3, e4]
  have HQ := hide hq
  have HN := hide hn
  clear e0 e3 e4 hq hn H1
  go_wp2
  rw [← ht4]
  refine l4_any (unhide HQ) (unhide HN) rfl ⟨rfl, rfl, trivial⟩ ?_
  intro m tm s2 k2
  have hb1 : Below w1.heap.size w1 (w1.drewN m) := below_drewN (Below.refl _ _) m
  have HQ2 := hide ((unhide HQ).keep hb1)
  obtain ⟨w2, hw2⟩ : ∃ w2, w1.drewN m = w2 := ⟨_, rfl⟩
  rw [hw2] at HQ2 ⊢
  obtain ⟨z, rfl⟩ := frame401 s2
  obtain ⟨e3, e4, _⟩ := k2
  replace e3 : z 3 = vL := Option.some.inj e3
  rw [e3]
  clear e3 e4 hb1 hw2 HQ
  go_wp2
  rw [← ht5]
  refine l5_any (unhide HQ2).rl (unhide HQ2).lb (fun q e => ((unhide HQ2).ap q e).1) (fun l hl => ((unhide HQ2).by_ l hl).2) (unhide HN) rfl ⟨rfl, trivial⟩ ?_
  intro w3 cs tm s3 k3 hT
  have hq2 := unhide HQ2
  have hc : ∀ (k : Nat) (l : List Nat), cs[k]? = some l → l = mkL k l.length ∧ l.length ≤ 67108864 ∧ Byt l := fun k l hk => by
    have hk2 := (List.getElem?_eq_some_iff.1 hk).1
    have h1 := hT.md k l (by rw [← hT.lb.len]; exact hk2) hk
    rw [Nat.zero_add] at h1
    refine ⟨h1, ?_, by rw [h1]; exact mkL_byt _ _⟩
    have e := hT.ln k
    rw [hk] at e
    cases hq : ls'[k]? with
    | none => rw [hq] at e; cases e
    | some q => rw [hq] at e; have e1 : l.length = q.length := by simpa using e
                have := (hq2.by_ q (List.mem_of_getElem? hq)).2
                omega
  have HC := hide hc
  have HT := hide hT
  have HR3 : Hid (w3.ownsRow W.heap.size 29 1 vL xs.length xs) := own_same hq2.rl (fun q e => hT.fr.far q (hq2.rl.lt q e).2 (fun e2 => (hq2.ap q e2).1 e))
  have HBw : Hid (W.heap.size ≤ w3.heap.size) := Nat.le_trans hq2.bw hT.fr.size
  have HBe : Hid (Below W.heap.size W w3) := ⟨hT.fr.os.trans hq2.be.os, hT.fr.tape.trans hq2.be.tape, hT.fr.output.trans hq2.be.output, unhide HBw, fun q hq => (hT.fr.far q (by have := hq2.bw; omega) (fun e => by have := (hq2.lb.lt e).1; omega)).trans (hq2.be.block q hq)⟩
  obtain ⟨y, rfl⟩ := frame401 s3
  obtain ⟨e3, _⟩ := k3
  replace e3 : y 3 = vL := Option.some.inj e3
  rw [e3]
  clear e3 hT hq2 hc
  go_wp2
  rw [← ht7]
  refine l7_any (unhide HR3) (unhide HT).lb (fun q e => ((unhide HQ2).ap q e).1) (fun l hl => by obtain ⟨k, hk⟩ := List.mem_iff_getElem?.1 hl; exact ⟨(unhide HC k l hk).2.2, (unhide HC k l hk).2.1⟩) (unhide HN) (unhide HBw) rfl ⟨rfl, rfl, trivial⟩ ?_
  intro w4 vM rs tm s4 k4 hG
  have HG := hide hG
  have HR4 : Hid (w4.ownsRow W.heap.size 29 1 vL xs.length xs) := own_same (unhide HR3) (fun q e => hG.fr.far q ((unhide HR3).lt q e).2 (fun e2 => ((unhide HQ2).ap q e2).1 e))
  have HB4 : Hid (Below W.heap.size W w4) := ⟨hG.fr.os.trans (unhide HBe).os, hG.fr.tape.trans (unhide HBe).tape, hG.fr.output.trans (unhide HBe).output, Nat.le_trans (unhide HBw) hG.fr.size, fun q hq => (hG.fr.far q (by have := unhide HBw; omega) (fun e => by have := (hG.lb.lt e).1; omega)).trans ((unhide HBe).block q hq)⟩
  obtain ⟨x, rfl⟩ := frame401 s4
  obtain ⟨e3, e28, _⟩ := k4
  replace e3 : x 3 = vL := Option.some.inj e3
  replace e28 : x 28 = vM := Option.some.inj e28
  rw [e3, e28]
  clear e3 e28 hG HQ2 HT HR3 HBw HBe
  go_wp2
  rw [← ht8]
  refine l8_any (unhide HR4) (unhide HG) (unhide HC) (unhide HN) rfl ⟨rfl, rfl, trivial⟩ ?_
  intro w5 tm s5 hb5
  have HE : Hid (Below W.heap.size W w5) := (unhide HB4).trans (hb5.mono (unhide HB4).size)
  obtain ⟨x, rfl⟩ := frame401 s5
  clear hb5
  go_wp2
  go_ret
  exact ⟨rfl, unhide HE⟩
end Go.Proofs.YtlblllghgdfpoaaDoor

namespace Go.Proofs.YtlblllghgdfpoaaDoor
open Go.RowKit
attribute [local go_sem ↓] Go.wp_at_zero Go.wp_at_succ

set_option maxRecDepth 100000 in
set_option maxHeartbeats 4000000 in
theorem bround_ok {b i nv vc : Nat} {va : Option Addr} {W1 w : World} {vo : Value} {pl : List (List Nat)} {tm : Array Value} {Q : Exit → Act → World → Prop} (hW : W1.heap.size = b) (hS : HasS W1) (hK : HasK W1) (hp : HasBB W1 (.slice va i vc) pl) (hpn : pl.length = i) (hi : i ≤ 200) (hpb : ∀ l ∈ pl, Byt l) (hz2 : ∀ l ∈ pl, l.length ≤ 140737488351232) (hok : 4 + fsize pl ≤ 67108864) (j1 : (i : Int) ≤ (vc : Int)) (hM : MK b W1 (fun _ => False) (300000 * i) (3 * i) w vo) (hsz : tm.size = 228) (hchk : chk tm [(0, .slice va nv vc), (3, .pointer (some ⟨b, 0, none⟩)), (4, vo), (5, .int .i64 (i : Int))])
    (hQ : ∀ (vo' : Value) (w' : World) (tm' : Array Value), tm'.size = 228 → chk tm' [(0, .slice va nv vc), (3, .pointer (some ⟨b, 0, none⟩)), (4, vo'), (5, .int .i64 (i : Int))] → MK b W1 (fun _ => False) (300000 * (i + 1)) (3 * (i + 1)) w' vo' → Q .normal { tmps := tm', defers := [] } w') :
    bRnd.wp Tryd.prog Q { tmps := tm, defers := [] } w := by
  have up : ∀ w, Below b W1 w → Below W1.heap.size W1 w := fun w h => by rw [hW]; exact h
  have hP : ∀ w, Below b W1 w → HasBB w (.slice va i vc) pl := fun w h => hp.up (up w h)
  have hbz : ∀ l ∈ pl, Byt l ∧ l.length ≤ 140737488351232 := fun l hl => ⟨hpb l hl, hz2 l hl⟩
  have hz : ∀ l ∈ pl, l.length ≤ 67108864 := fun l hl => by have := fsize_mem0 hl; omega
  have hbw := hM.le
  have hFL : Byt (frameL pl) ∧ (frameL pl).length ≤ 67108864 := ⟨frameL_byt hpb, by rw [frameL_len]; exact hok⟩
  have hPA := partsA_frame hok (show pl.length ≤ 65536 by omega)
  have hDb := domA_ok ⟨#[120]⟩ pl
  have beW : ∀ w1, Below w.heap.size w w1 → Below b W1 w1 := fun w1 h => hM.be.trans (h.mono hbw)
  rw [bRnd_split]
  refine b0_ok (FL := frameL pl) j1 (by have k := frame_own (hP w hM.be) (fun hh => fsize_few hz2 hh); rw [frameA_ok ⟨by omega, hok⟩] at k; exact k) hsz hchk ?_
  intro vf w1 tm1 s1 k1 b1 f1
  have be1 := beW w1 b1
  have c1 := b1.size
  have rf : ∀ q, vf.ownBlock = some q → w.heap.size ≤ q ∧ q < w1.heap.size := fun q e => World.ownsRow.lt f1 q e
  have be1W : ∀ w2, Below w1.heap.size w1 w2 → Below b W1 w2 := fun w2 h => be1.trans (h.mono (by omega))
  refine b1_any (pl := pl) (DL := (domainA ⟨#[120]⟩ pl).2) (RL := rootF 65536 pl) (SL := sha (frameL pl)) (zd := (domainA ⟨#[120]⟩ pl).1) (by have k := parts_own f1.has hFL.1; rw [hPA] at k; exact k) (fun w2 h => (domain_own (hK.up (up w2 (be1W w2 h))) (hS.up (up w2 (be1W w2 h))) (s := ⟨#[120]⟩) (hP w2 (be1W w2 h)) hpb (by decide) ⟨by omega, hz2⟩).mono (fun e w' ⟨v', h1, ⟨h2, _⟩, h3⟩ => ⟨v', h1, h2, h3⟩)) (fun w2 h => by have k := root_own (hK.up (up w2 (be1W w2 h))) (hS.up (up w2 (be1W w2 h))) (hP w2 (be1W w2 h)) hbz; rw [rootA_in (by omega)] at k; exact k.mono (fun e w' ⟨v', h1, ⟨h2, _⟩, h3⟩ => ⟨v', h1, h2, h3⟩)) (fun w2 h => sum_any (hK.up (up w2 (be1W w2 h))) (hS.up (up w2 (be1W w2 h))) (f1.upw2 h).has hFL.1 (by have := hFL.2; omega)) s1 k1 ?_
  intro vl vd vr vs vt usl w2 z1 z2 z3 z4 z5 tm2 s2 k2 b2 hl rl hd rd hr rr hs rs ht rt hzz
  have hb2 : Below w.heap.size w w2 := b1.trans (b2.mono c1)
  have be2 := beW w2 hb2
  have c2 := b2.size
  refine b2_any (domA_z _ _) (fun w3 h => by have k := sameAll_any (hl.up h).has (hP w3 (beW w3 (hb2.trans (h.mono hb2.size)))) hpb hpb; rw [decide_eq_true rfl] at k; exact k) (fun w3 h => by have k := same_any (hs.upw2 h).has (ht.upw2 h).has (sha_byt _) (sha_byt _); rw [decide_eq_true rfl] at k; exact k) (fun w3 h => (hM.up (hb2.trans (h.mono hb2.size))).still (by omega)) s2 k2 ?_
  intro w3 tm3 s3 k3 b3
  have hs3 := hs.upw2 b3
  have c3 := b3.size
  refine b3_any (hx := ofN (hexL (sha (frameL pl)))) (SL := sha (frameL pl)) (hex_any hs3.has (sha_byt _) (by rw [sha_len]; omega)) (fun w4 => ?_) (fun w4 v' h hv => by have k := same_any hv (hs3.upw2 h).has (sha_byt _) (sha_byt _); rw [decide_eq_true rfl] at k; exact k) s3 k3 ?_
  · refine (unhex_own w4 (ofN (hexL (sha (frameL pl)))) (by rw [ofN_size, hexL_len, sha_len]; omega)).mono ?_
    rintro e w' ⟨vu, ku, LU, rfl, hu, hk, hbf⟩
    rw [strN_ofN (hexL_byt (sha_byt _)), unh_hex _ (sha_byt _)] at hk
    rcases hk with ⟨k1, rfl⟩ | ⟨k1, -⟩
    · obtain rfl := Option.some.inj k1
      exact ⟨vu, rfl, hu, hbf⟩
    · cases k1
  intro vu w4 z6 tm4 s4 k4 b4 hu hz6
  have c4 := b4.size
  have ru : ∀ q, vu.ownBlock = some q → z6 ≤ q ∧ q < w4.heap.size := fun q e => World.ownsRow.lt hu q e
  have b24 : Below w2.heap.size w2 w4 := b3.trans (b4.mono c3)
  have b04 : Below w.heap.size w w4 := hb2.trans (b24.mono hb2.size)
  have rl1 : ∀ q, vl.ownBlock = some q → w1.heap.size ≤ q ∧ q < z1 := fun q e => rl q (.inl e)
  have rl2 : ∀ q, InB usl q → w1.heap.size ≤ q ∧ q < z1 := fun q e => rl q (.inr e)
  have rd2 : ∀ q, vd.ownBlock = some q → z1 ≤ q ∧ q < z2 := fun q e => ⟨(World.ownsRow.lt hd q e).1, rd q e⟩
  have rr2 : ∀ q, vr.ownBlock = some q → z2 ≤ q ∧ q < z3 := fun q e => ⟨(World.ownsRow.lt hr q e).1, rr q e⟩
  have rs2 : ∀ q, vs.ownBlock = some q → z3 ≤ q ∧ q < z4 := fun q e => ⟨(World.ownsRow.lt hs q e).1, rs q e⟩
  have rt2 : ∀ q, vt.ownBlock = some q → z4 ≤ q ∧ q < z5 := fun q e => ⟨(World.ownsRow.lt ht q e).1, rt q e⟩
  obtain ⟨y1, y2, y3, y4, y5, y6⟩ := hzz
  replace f1 : Bytes b w4 vf (frameL pl) := own_lower ((f1.upw2 b2).upw2 b24) hbw
  replace hl : OwnBA w1.heap.size w4 vl usl pl := hl.up b24
  replace hd : Bytes b w4 vd _ := own_lower (hd.upw2 b24) (by omega)
  replace hr : Bytes b w4 vr _ := own_lower (hr.upw2 b24) (by omega)
  replace hs : Bytes b w4 vs _ := own_lower (hs.upw2 b24) (by omega)
  replace ht : Bytes b w4 vt _ := own_lower (ht.upw2 b24) (by omega)
  replace hu : Bytes b w4 vu _ := own_lower hu (by omega)
  obtain ⟨af, cf, rfl, -⟩ := bytes_shape f1
  obtain ⟨ad, cd, rfl, -⟩ := bytes_shape hd
  obtain ⟨ar, cr, rfl, -⟩ := bytes_shape hr
  obtain ⟨aS, cS, rfl, -⟩ := bytes_shape hs
  obtain ⟨aT, cT, rfl, -⟩ := bytes_shape ht
  obtain ⟨au, cu, rfl, -⟩ := bytes_shape hu
  have hM4 : MK b W1 (fun q => w.heap.size ≤ q ∧ q < w4.heap.size) (300000 * i) (3 * i) w4 vo := (hM.up b04).weak (fun q hq => .inr hq) (Nat.le_refl _) (Nat.le_refl _)
  have hul : usl.length = i := by have := hl.bb.len; omega
  have fin : ∀ (vo' : Value) (w5 : World) (tm5 : Array Value), tm5.size = 228 → chk tm5 [(0, .slice va nv vc), (3, .pointer (some ⟨b, 0, none⟩)), (4, vo'), (5, .int .i64 (i : Int)), (6, .slice va i vc), (7, .slice af (frameL pl).length cf), (9, vl), (11, .slice ad (domainA ⟨#[120]⟩ pl).2.length cd), (13, .slice ar (rootF 65536 pl).length cr), (15, .slice aS (sha (frameL pl)).length cS), (16, .slice aT (sha (frameL pl)).length cT), (17, .slice au (sha (frameL pl)).length cu)] → MK b W1 (fun q => w.heap.size ≤ q ∧ q < w4.heap.size) (300000 * i + 270000) (3 * i + 1) w5 vo' → (∀ q, w.heap.size ≤ q ∧ q < w4.heap.size → w5.heap[q]? = w4.heap[q]?) → w4.heap.size ≤ w5.heap.size → (bb5 (bb6 bb7)).wp Tryd.prog Q { tmps := tm5, defers := [] } w5 := by
    intro vo' w5 tm5 s5 k5 m5 g5 e5
    have hl5 : OwnBA w1.heap.size w5 vl usl pl := hl.far e5 g5 (fun q e => by have := rl1 q e; omega) (fun q e => by have := rl2 q e; omega)
    have l6 : Lb b w5 [.slice ad (domainA ⟨#[120]⟩ pl).2.length cd, .slice ar (rootF 65536 pl).length cr, .slice aS (sha (frameL pl)).length cS, .slice aT (sha (frameL pl)).length cT, .slice af (frameL pl).length cf, .slice au (sha (frameL pl)).length cu] [(domainA ⟨#[120]⟩ pl).2, rootF 65536 pl, sha (frameL pl), sha (frameL pl), frameL pl, sha (frameL pl)] := by
      refine Lb.cons (hd.far g5 (fun q e => by have := rd2 q e; omega)) (Lb.cons (hr.far g5 (fun q e => by have := rr2 q e; omega)) (Lb.cons (hs.far g5 (fun q e => by have := rs2 q e; omega)) (Lb.cons (ht.far g5 (fun q e => by have := rt2 q e; omega)) (Lb.cons (f1.far g5 (fun q e => by have := rf q e; omega)) (Lb.cons (hu.far g5 (fun q e => by have := ru q e; omega)) (Lb.nil _ _) (fun q _ => inB_nil q)) ?_) ?_) ?_) ?_) ?_
      · intro q e h
        have h0 := rf q e
        rcases inB_cons h with h | h
        · have := ru q h; omega
        exact inB_nil q h
      · intro q e h
        have h0 := rt2 q e
        rcases inB_cons h with h | h
        · have := rf q h; omega
        rcases inB_cons h with h | h
        · have := ru q h; omega
        exact inB_nil q h
      · intro q e h
        have h0 := rs2 q e
        rcases inB_cons h with h | h
        · have := rt2 q h; omega
        rcases inB_cons h with h | h
        · have := rf q h; omega
        rcases inB_cons h with h | h
        · have := ru q h; omega
        exact inB_nil q h
      · intro q e h
        have h0 := rr2 q e
        rcases inB_cons h with h | h
        · have := rs2 q h; omega
        rcases inB_cons h with h | h
        · have := rt2 q h; omega
        rcases inB_cons h with h | h
        · have := rf q h; omega
        rcases inB_cons h with h | h
        · have := ru q h; omega
        exact inB_nil q h
      · intro q e h
        have h0 := rd2 q e
        rcases inB_cons h with h | h
        · have := rr2 q h; omega
        rcases inB_cons h with h | h
        · have := rs2 q h; omega
        rcases inB_cons h with h | h
        · have := rt2 q h; omega
        rcases inB_cons h with h | h
        · have := rf q h; omega
        rcases inB_cons h with h | h
        · have := ru q h; omega
        exact inB_nil q h
    have r6 : ∀ q, InB [.slice ad (domainA ⟨#[120]⟩ pl).2.length cd, .slice ar (rootF 65536 pl).length cr, .slice aS (sha (frameL pl)).length cS, .slice aT (sha (frameL pl)).length cT, .slice af (frameL pl).length cf, .slice au (sha (frameL pl)).length cu] q → (w.heap.size ≤ q ∧ q < w4.heap.size) ∧ (q < w1.heap.size ∨ z1 ≤ q) := fun q h => by
      rcases inB_cons h with h | h
      · have := rd2 q h; omega
      rcases inB_cons h with h | h
      · have := rr2 q h; omega
      rcases inB_cons h with h | h
      · have := rs2 q h; omega
      rcases inB_cons h with h | h
      · have := rt2 q h; omega
      rcases inB_cons h with h | h
      · have := rf q h; omega
      rcases inB_cons h with h | h
      · have := ru q h; omega
      exact absurd h (inB_nil q)
    refine b5_any m5 (fun q hq => by omega) (hl5.lb.lower (by omega)) hl5.hd l6 (fun q e => by have := rl2 q e; omega) (fun q e => by have := rl1 q e; omega) (fun q e => ⟨(r6 q e).1, fun e2 => by have := rl2 q e2; have := (r6 q e).2; omega⟩) (fun x hx => by have := hz x hx; omega) (fun x hx => ?_) (by omega) s5 k5 ?_
    · have h1 := hDb.2
      have h2 := rootF_len 65536 pl
      have h3 := sha_len (frameL pl)
      have h4 := hFL.2
      simp only [List.mem_cons, List.not_mem_nil, or_false] at hx
      rcases hx with rfl | rfl | rfl | rfl | rfl | rfl <;> omega
    intro w6 tm6 s6 k6 m6 g6 e6
    have hlK : ∀ q, vl.ownBlock = some q → ((w.heap.size ≤ q ∧ q < w4.heap.size) ∧ ¬ InB usl q) ∧ ¬ InB [.slice ad (domainA ⟨#[120]⟩ pl).2.length cd, .slice ar (rootF 65536 pl).length cr, .slice aS (sha (frameL pl)).length cS, .slice aT (sha (frameL pl)).length cT, .slice af (frameL pl).length cf, .slice au (sha (frameL pl)).length cu] q := fun q e => ⟨⟨by have := rl1 q e; omega, hl5.row_no e⟩, fun e2 => by have := rl1 q e; have := (r6 q e2).2; omega⟩
    have hrow : w6.ownsRow b 29 1 vl usl.length usl := by
      have k := hl5.bb.row
      rw [← hl5.bb.len] at k
      exact own_same (own_lower k (by omega)) (fun q e => g6 q (hlK q e))
    refine b6_any (FL := frameL pl) (pl := pl) m6 hrow (by omega) hlK (by omega) (fun w7 h => by have k := mustFrame_any (hP w7 h) (fun hh => fsize_few hz2 hh); rw [frameA_ok ⟨by omega, hok⟩] at k; exact k) (fun w7 v' hv => by have k := parts_own hv hFL.1; rw [hPA] at k; exact k) hpn s6 k6 ?_
    intro vo2 am cm usm w7 z7 tm7 s7 k7 m7 hm7 hb7
    have hum : usm.length = i := by have := hm7.bb.len; omega
    have hrow7 : w7.ownsRow b 29 1 (.slice am i cm) usm.length usm := by
      have k := hm7.bb.row
      rw [← hm7.bb.len] at k
      exact own_lower k hb7
    refine b7_any m7 (by have k := sameAll_any hm7.has (hP w7 m7.be) hpb hpb; rw [decide_eq_true rfl] at k; exact k) hrow7 (by omega) (fun q e => hm7.bb.row.lt q e) (by omega) s7 k7 ?_
    intro vo3 w8 tm8 s8 k8 m8
    exact hQ vo3 w8 tm8 s8 k8 (m8.weak (fun q h => h) (by omega) (by omega))
  rcases Nat.eq_zero_or_pos i with hi0 | hpos
  · refine b4_zero hi0 s4 k4 ?_
    intro tm5 s5 k5
    exact fin vo w4 tm5 s5 k5 (hM4.weak (fun q h => h) (by omega) (by omega)) (fun _ _ => rfl) (Nat.le_refl _)
  · obtain ⟨xl, hxl⟩ : ∃ x, pl[i - 1]? = some x := ⟨_, List.getElem?_eq_getElem (by omega)⟩
    obtain ⟨a', cp, ea, -, h3⟩ := id hp
    injection ea with ea1 _ _
    subst ea1
    obtain ⟨gp, op, rfl, hgp, hcp⟩ := h3 (by omega)
    obtain ⟨x, hxc, hxb⟩ := hcp _ _ hxl
    have be4 : ∀ w5, Below w4.heap.size w4 w5 → Below b W1 w5 := fun w5 h => beW w5 (b04.trans (h.mono b04.size))
    have hcast : ((i - 1 : Nat) : Int) = (i : Int) - 1 := by omega
    have hRw : rebuildA xl ((i : Int) - 1) (i : Int) (wayF 65536 pl (i - 1)) = (0, rootF 65536 pl) := by
      have k := rebuildA_way hxl (by omega)
      rw [hpn, hcast] at k
      exact k
    refine b4_pos (WL := wayF 65536 pl (i - 1)) (RL := rootF 65536 pl) (x := x) hpos hi (by have k := prove_ba (at' := i - 1) (hK.up (up w4 (be4 w4 (Below.refl _ _)))) (hS.up (up w4 (be4 w4 (Below.refl _ _)))) (hP w4 (be4 w4 (Below.refl _ _))) hbz (by omega) (by omega); rw [hcast] at k; exact k) (fun w5 vw h hw => by have k := rebuild_own (z := (i : Int) - 1) (c := (i : Int)) (hK.up (up w5 (be4 w5 h))) (hS.up (up w5 (be4 w5 h))) (hxb.up (up w5 (be4 w5 h))) (hpb _ (List.mem_of_getElem? hxl)) (hz2 _ (List.mem_of_getElem? hxl)) hw (fun l hl => (wayF_byt _ _ _ l hl).1); rw [hRw] at k; exact k.mono (fun e w' ⟨v', h1, ⟨h2, _⟩, h3⟩ => ⟨v', h1, h2, h3⟩)) (fun w5 h => ((up w5 (be4 w5 h)).cell (p := ⟨gp, op + (i - 1), none⟩) hgp).trans hxc) hr ⟨rootF_byt _ _, rootF_len _ _⟩ hM4 (fun q hq => hq.2) ⟨wayF_len _ _ _, fun l hl => by rw [(wayF_byt _ _ _ l hl).2]; omega⟩ (by omega) (by omega) s4 k4 ?_
    intro vo' w5 tm5 s5 k5 m5 g5 e5
    exact fin vo' w5 tm5 s5 k5 m5 g5 e5
end Go.Proofs.YtlblllghgdfpoaaDoor
