import Derived.Test.YtlblllghgdfpoaaDoorEV
import Derived.Test.YtlblllghgdfpoaaDoorJ32
import Derived.Test.YtlblllghgdfpoaaDoorJ33
import Derived.Test.YtlblllghgdfpoaaDoorJ40
import Derived.BigQuiet
import Derived.Deep.RegionHeld3
import Derived.Deep.DeepCutAuto

namespace Go.Proofs.YtlblllghgdfpoaaDoor
open Go.RowKit
attribute [local go_sem ↓] Go.wp_at_zero Go.wp_at_succ

set_option maxRecDepth 100000 in
set_option maxHeartbeats 4000000 in
theorem rnd_any {B : Nat} {W w : World} {i n nv vc : Nat} {va : Option Addr} {vL vW : Value} {pl : List (List Nat)} {tm : Array Value} {Q : Exit → Act → World → Prop} (hW : W.heap.size = B) (hS : HasS W) (hK : HasK W) (hX : HasX W) (hp : HasBB W (.slice va i vc) pl) (hpn : pl.length = i) (hi : i ≤ 7) (hpb : ∀ l ∈ pl, Byt l) (hpf : 4 + fsize pl ≤ 67108864) (j1 : (i : Int) ≤ (vc : Int)) (hq : QK B W (fun _ => False) n w vL vW) (hn : n ≤ 9000000) (hsz : tm.size = 401) (hchk : chk tm [(0, .slice va nv vc), (3, vL), (4, vW), (5, .int .i64 (i : Int))])
    (hQ : ∀ (ex : Exit) (vL' vW' : Value) (w' : World) (tm' : Array Value), (ex = .normal ∨ ex = .exit 1) → tm'.size = 401 → chk tm' [(0, .slice va nv vc), (3, vL'), (4, vW'), (5, .int .i64 (i : Int))] → QK B W (fun _ => False) (n + 200000) w' vL' vW' → Q ex { tmps := tm', defers := [] } w') :
    qRnd.wp Tryd.prog Q { tmps := tm, defers := [] } w := by
  have up : ∀ w, Below B W w → Below W.heap.size W w := fun w h => by rw [hW]; exact h
  have hP : ∀ w, Below B W w → HasBB w (.slice va i vc) pl := fun w h => hp.up (up w h)
  have hz : ∀ l ∈ pl, l.length ≤ 67108864 := fun l hl => by have := fsize_mem0 hl; omega
  have hz2 : ∀ l ∈ pl, l.length ≤ 140737488351232 := fun l hl => by have := hz l hl; omega
  have hbz : ∀ l ∈ pl, Byt l ∧ l.length ≤ 140737488351232 := fun l hl => ⟨hpb l hl, hz2 l hl⟩
  have hle := hq.le
  rw [qRnd_split]
  refine p0_any hq (fun w h => xframe_own (hP w h) (by omega) hpf) (fun w h => (xdomain_own (hX.up (up w h)) (s := ⟨#[120]⟩) (hP w h) hpb (by decide) ⟨by omega, hz2⟩).mono (fun e w' ⟨v', h1, ⟨h2, _⟩, h3⟩ => ⟨v', h1, h2, h3⟩)) (fun w h => xroot_own (hX.up (up w h)) (hP w h) hbz (by omega)) j1 hsz hchk ?_
  intro vf vd vr w1 tm1 s1 k1 q1 f1 rf1 d1 rd1 r1 rr1
  obtain ⟨af, cf, rfl, -⟩ := bytes_shape f1
  have hFL : Byt (frameL pl) ∧ (frameL pl).length ≤ 67108864 := ⟨frameL_byt hpb, by rw [frameL_len]; exact hpf⟩
  have hDb := domA_ok ⟨#[120]⟩ pl
  -- Frame
  refine p1_any (z := .int .i64 0) q1 (fun w h => by have k := frame_own (hP w h) (fun hh => fsize_few hz2 hh); rw [frameA_ok ⟨by omega, hpf⟩] at k; exact k) f1 rf1 hFL.1 hFL.2 (by omega) s1 k1 ?_
  intro vL2 vW2 w2 tm2 s2 k2 q2 g2 e2
  replace f1 := f1.far g2 rf1
  replace d1 := d1.far g2 rd1
  replace r1 := r1.far g2 rr1
  -- Domain
  refine p2_any (z := .int .i64 (domainA ⟨#[120]⟩ pl).1) q2 (fun w h => (domain_own (hK.up (up w h)) (hS.up (up w h)) (s := ⟨#[120]⟩) (hP w h) hpb (by decide) ⟨by omega, hz2⟩).mono (fun e w' ⟨v', h1, ⟨h2, _⟩, h3⟩ => ⟨v', h1, h2, h3⟩)) d1 rd1 hDb.1 (by have := hDb.2; omega) (by omega) s2 k2 ?_
  intro vL3 vW3 w3 tm3 s3 k3 q3 g3 e3
  replace f1 := f1.far g3 rf1
  replace r1 := r1.far g3 rr1
  -- Root
  refine p3_any (z := .int .i64 0) q3 (fun w h => by have k := root_own (hK.up (up w h)) (hS.up (up w h)) (hP w h) hbz; rw [rootA_in (by omega)] at k; exact k.mono (fun e w' ⟨v', h1, ⟨h2, _⟩, h3⟩ => ⟨v', h1, h2, h3⟩)) r1 rr1 (rootF_byt _ _) (by rw [rootF_len]; omega) (by omega) s3 k3 ?_
  intro vL4 vW4 w4 tm4 s4 k4 q4 g4 e4
  replace f1 := f1.far g4 rf1
  replace r1 := r1.far g4 rr1
  -- Sum
  refine p4_any (fl := frameL pl) (li := sha (frameL pl)) q4 (fun w h hv => sum_any (hK.up (up w h)) (hS.up (up w h)) hv hFL.1 (by have := hFL.2; omega)) (fun w h hv => xsum_any (hX.up (up w h)) hv hFL.1 (by have := hFL.2; omega)) f1 (sha_byt _) (by rw [sha_len]; omega) (by omega) s4 k4 ?_
  intro vL5 vW5 w5 tm5 s5 k5 q5 g5 e5
  replace f1 := f1.far g5 rf1
  replace r1 := r1.far g5 rr1
  -- Unhex
  refine p5_any (z := .int .i64 0) q5 (fun w _ => unhex_lit w) (fun x hx => by simp at hx; omega) (by decide) (by omega) rfl s5 k5 ?_
  intro vL6 vW6 w6 tm6 s6 k6 q6 g6 e6
  replace f1 := f1.far g6 rf1
  replace r1 := r1.far g6 rr1
  -- Parts
  obtain ⟨c0, c3, c4, c5, c6, c7, c9, c11, _⟩ := k6
  refine p6_any q6 f1 hFL.1 (partsA_frame hpf (by omega)) hpn (by rw [frameL_len]; omega) s6 ⟨c0, c3, c4, c5, c6, c7, c11, trivial⟩ ?_
  intro a17 a19 d17 d19 us vs w7 tm7 s7 k7 q7 t7 row1 row2 lu lv b7
  replace r1 := r1.upw2 b7
  clear c0 c3 c4 c5 c6 c7 c9 c11
  obtain ⟨c0, c3, c4, c5, c6, c7, c11, c17, c19, _⟩ := k7
  refine p7_any (fun q hq => q7.be.block q hq) q7 t7 row1 row2 (srcIn hp hW q7.be) hpn lu lv (fun l hl => ⟨hpb l hl, hz l hl⟩) (by omega) (by omega) s7 ⟨c0, c3, c4, c5, c6, c11, c17, c19, trivial⟩ ?_
  intro vL8 vW8 w8 tm8 s8 k8 q8 g8 e8
  replace r1 := r1.far (fun q hq => g8 q (.inl hq)) rr1
  replace q8 := q8.weak (K' := fun q => w.heap.size ≤ q ∧ q < w1.heap.size) (n' := n + 10 + 2 * i) (fun q hq => .inl hq) (by omega)
  clear c0 c3 c4 c5 c6 c7 c11 c17 c19
  obtain ⟨c0, c3, c4, c5, c6, c11, c17, c19, _⟩ := k8
  rcases Nat.eq_zero_or_pos i with hi0 | hpos
  · refine p8_zero hi0 s8 ⟨c0, c3, c4, c5, c6, c11, trivial⟩ ?_
    intro tm9 s9 k9
    exact hQ _ _ _ _ _ (.inr rfl) s9 k9 (q8.weak (fun q hq => hq.elim) (by omega))
  · refine p8_pos hpos s8 ⟨c0, c3, c4, c5, c6, c11, trivial⟩ ?_
    intro tm9 s9 k9
    have hcast : ((i - 1 : Nat) : Int) = (i : Int) - 1 := by omega
    have hWl := wayF_len 65536 pl (i - 1)
    have hWb := wayF_byt 65536 pl (i - 1)
    refine p9_any (z1 := .int .i64 0) (z2 := .int .i64 0) (WL := wayF 65536 pl (i - 1)) q8 (fun w h => by have k := xprove_own (at' := i - 1) (hX.up (up w h)) (hP w h) hbz (by omega) (by omega); rw [hcast] at k; exact k) (fun w h => by have k := prove_ba (at' := i - 1) (hK.up (up w h)) (hS.up (up w h)) (hP w h) hbz (by omega) (by omega); rw [hcast] at k; exact k) hpos (by omega) s9 k9 ?_
    intro b17 b19 b22 f17 f19 f22 S9 us2 vs2 w10 tm10 s10 k10 q10 t10 ro1 ro2 lu2 lv2 sr hbb b10
    clear c0 c3 c4 c5 c6 c11 c17 c19
    obtain ⟨c0, c3, c4, c5, c6, c11, c17, c19, c22, _⟩ := k10
    replace r1 := r1.upw2 b10
    refine p10_any (fun q hq => q10.be.block q hq) q10 t10 ro1 ro2 sr rfl lu2 lv2 (fun l hl => ⟨(hWb l hl).1, by rw [(hWb l hl).2]; omega⟩) hWl (by omega) s10 ⟨c0, c3, c4, c5, c6, c11, c17, c19, c22, trivial⟩ ?_
    intro vL11 vW11 w11 tm11 s11 k11 q11 g11 e11
    clear c0 c3 c4 c5 c6 c11 c17 c19 c22
    obtain ⟨c0, c3, c4, c5, c6, c11, c17, c19, c22, _⟩ := k11
    replace r1 := r1.far (fun q hq => g11 q (.inl (.inl hq))) rr1
    obtain ⟨xl, hxl⟩ : ∃ x, pl[i - 1]? = some x := ⟨_, List.getElem?_eq_getElem (by omega)⟩
    obtain ⟨a', cp, ea, -, h3⟩ := id hp
    injection ea with ea1 _ _
    subst ea1
    obtain ⟨gp, op, rfl, hgp, hcp⟩ := h3 (by omega)
    obtain ⟨x, hxc, hxb⟩ := hcp _ _ hxl
    have be11 := q11.be
    have upW : ∀ w1, Below w11.heap.size w11 w1 → Below B W w1 := fun w1 h => be11.trans (h.mono q11.le)
    have hRw : rebuildA xl ((i : Int) - 1) (i : Int) (wayF 65536 pl (i - 1)) = (0, rootF 65536 pl) := by
      have k := rebuildA_way hxl (by omega)
      rw [hpn, hcast] at k
      exact k
    refine p11_any (z := .int .i64 0) (q11.weak (K' := fun q => w.heap.size ≤ q ∧ q < w1.heap.size) (n' := n + 10 + 2 * i + 2 * (wayF 65536 pl (i - 1)).length) (fun q hq => .inl (.inl hq)) (by omega)) (x := x) (fun w1 h => ?_) (fun w1 h => ?_) hpos (by omega) r1 rr1 (rootF_byt _ _) (by rw [rootF_len]; omega) (by omega) s11 ⟨c0, c3, c4, c5, c6, c11, c22, trivial⟩ ?_
    · have hway := hbb w1 (Nat.le_trans e11 h.size) (fun q hq => by
        rcases hq with hq | hq
        · exact (h.block q (q11.kl (.inl hq))).trans (g11 q (.inl hq))
        · exact ((upW w1 h).block q hq).trans (q10.be.block q hq).symm)
      have k := rebuild_own (z := (i : Int) - 1) (c := (i : Int)) (hK.up (up w1 (upW w1 h))) (hS.up (up w1 (upW w1 h))) (hxb.up (up w1 (upW w1 h))) (hpb _ (List.mem_of_getElem? hxl)) (hz2 _ (List.mem_of_getElem? hxl)) hway (fun l hl => (hWb l hl).1)
      rw [hRw] at k
      exact k.mono (fun e w' ⟨v', h1, ⟨h2, _⟩, h3⟩ => ⟨v', h1, h2, h3⟩)
    · exact ((up w1 (upW w1 h)).cell (p := ⟨gp, op + (i - 1), none⟩) hgp).trans hxc
    · intro vL12 vW12 w12 tm12 s12 k12 q12
      exact hQ _ _ _ _ _ (.inl rfl) s12 k12 (q12.weak (fun q hq => hq.elim) (by omega))
/-- Between two rounds. -/
def QJ (B : Nat) (W : World) (v0 : Value) (m : Nat) (a : Act) (w : World) : Prop := ∃ (tm : Array Value) (i : Nat) (vL vW : Value), a = ⟨tm, []⟩ ∧ tm.size = 401 ∧ chk tm [(0, v0), (3, vL), (4, vW), (5, .int .i64 (i : Int))] ∧ m = 9 - i ∧ i ≤ 8 ∧ QK B W (fun _ => False) (200000 * i) w vL vW
set_option maxRecDepth 100000 in
set_option maxHeartbeats 4000000 in
theorem l1_any {W : World} {vc : Nat} {va : Option Addr} {ls : List (List Nat)} {tm : Array Value} {Q : Exit → Act → World → Prop} (hS : HasS W) (hK : HasK W) (hX : HasX W) (h : HasBB W (.slice va ls.length vc) ls) (hl : BytB ls) (hf : 4 + fsize ls ≤ 67108864) (hsz : tm.size = 401) (hchk : chk tm [(0, .slice va ls.length vc), (3, .slice none 0 0), (4, .slice none 0 0)])
    (hQ : ∀ (vL' vW' : Value) (w' : World) (tm' : Array Value), tm'.size = 401 → chk tm' [(0, .slice va ls.length vc), (3, vL'), (4, vW')] → QK W.heap.size W (fun _ => False) 2000000 w' vL' vW' → Q .normal { tmps := tm', defers := [] } w') :
    qL1.wp Tryd.prog Q { tmps := tm, defers := [] } W := by
  have HQ := hide hQ
  have HR : Hid (∀ (i : Nat) (w : World) (vL vW : Value) (tm : Array Value) (Q' : Exit → Act → World → Prop), i ≤ ls.length → i < 8 → tm.size = 401 → chk tm [(0, .slice va ls.length vc), (3, vL), (4, vW), (5, .int .i64 (i : Int))] → QK W.heap.size W (fun _ => False) (200000 * i) w vL vW → (∀ (ex : Exit) (vL' vW' : Value) (w' : World) (tm' : Array Value), (ex = .normal ∨ ex = .exit 1) → tm'.size = 401 → chk tm' [(0, .slice va ls.length vc), (3, vL'), (4, vW'), (5, .int .i64 (i : Int))] → QK W.heap.size W (fun _ => False) (200000 * i + 200000) w' vL' vW' → Q' ex { tmps := tm', defers := [] } w') → qRnd.wp Tryd.prog Q' { tmps := tm, defers := [] } w) := fun i w vL vW tm Q' h1 h2 h3 h4 h5 h6 => by
    have hvc : ls.length ≤ vc := by obtain ⟨_, _, e, hm, -⟩ := h; injection e with _ _ e3; rw [e3]; exact hm.1
    exact rnd_any rfl hS hK hX (h.take i h1) (by rw [List.length_take]; omega) (by omega) (fun l hm => hl l (List.mem_of_mem_take hm)) (by have := fsize_take ls i; omega) (by omega) h5 (by omega) h3 h4 h6
  obtain ⟨u, rfl⟩ := frame401 hsz
  obtain ⟨e0, e3, e4, _⟩ := hchk
  replace e0 : u 0 = .slice va ls.length vc := Option.some.inj e0
  replace e3 : u 3 = .slice none 0 0 := Option.some.inj e3
  replace e4 : u 4 = .slice none 0 0 := Option.some.inj e4
  rw [e0, e3, e4]
  clear hQ hS hK hX h hl hf e0 e3 e4
  rw [qL1_split]
  obtain ⟨t, ht⟩ : ∃ t, qRnd = t := ⟨_, rfl⟩
  rw [ht] at HR ⊢
  clear ht
  unfold qL1W
  dsimp only [tl, qL1, hd, qBody, Tryd.f21]
  go_wp2
  refine wp_loop_count (QJ W.heap.size W (.slice va ls.length vc)) ?_ 9 _ _ ⟨_, 0, _, _, rfl, rfl, ⟨rfl, rfl, rfl, rfl, trivial⟩, rfl, Nat.zero_le _, QK.start W⟩
  rintro m _ wr ⟨tm, i, vL, vW, rfl, hsz, hchk, hm, hi, hq⟩
  have Hm := hide hm
  have Hq := hide hq
  obtain ⟨z, rfl⟩ := frame401 hsz
  obtain ⟨e0, e3, e4, e5, _⟩ := hchk
  replace e0 : z 0 = .slice va ls.length vc := Option.some.inj e0
  replace e3 : z 3 = vL := Option.some.inj e3
  replace e4 : z 4 = vW := Option.some.inj e4
  replace e5 : z 5 = .int .i64 (i : Int) := Option.some.inj e5
  rw [e0, e3, e4, e5]
  clear e0 e3 e4 e5 hm hq
  by_cases c1 : i ≤ ls.length
  · have q1 : (i : Int) ≤ (ls.length : Int) := by omega
    by_cases c2 : i < 8
    · have q2 : (i : Int) < 8 := by omega
      have HC := hide (And.intro c1 c2)
      clear c1 c2
      go_wp2
      refine unhide HR i _ _ _ _ _ (unhide HC).1 (unhide HC).2 rfl ⟨rfl, rfl, rfl, rfl, trivial⟩ (unhide Hq) ?_
      intro ex vL' vW' w' tm' hex hsz hchk hq'
      have Hq' := hide hq'
      obtain ⟨y, rfl⟩ := frame401 hsz
      obtain ⟨e0, e3, e4, e5, _⟩ := hchk
      replace e0 : y 0 = .slice va ls.length vc := Option.some.inj e0
      replace e3 : y 3 = vL' := Option.some.inj e3
      replace e4 : y 4 = vW' := Option.some.inj e4
      replace e5 : y 5 = .int .i64 (i : Int) := Option.some.inj e5
      rw [e0, e3, e4, e5]
      clear e0 e3 e4 e5 hq'
      rcases hex with rfl | rfl
      all_goals
        go_wp2
        exact ⟨9 - (i + 1), by have := unhide Hm; have := (unhide HC).2; omega, _, i + 1, _, _, rfl, rfl, ⟨rfl, rfl, rfl, by go_num, trivial⟩, rfl, (unhide HC).2, (unhide Hq').weak (fun q hq => hq) (by omega)⟩
    · have q2 : ¬ (i : Int) < 8 := by omega
      clear c1 c2
      go_wp2
      exact unhide HQ _ _ _ _ rfl ⟨rfl, rfl, rfl, trivial⟩ ((unhide Hq).weak (fun q hq => hq) (by omega))
  · have q1 : ¬ (i : Int) ≤ (ls.length : Int) := by omega
    clear c1
    go_wp2
    exact unhide HQ _ _ _ _ rfl ⟨rfl, rfl, rfl, trivial⟩ ((unhide Hq).weak (fun q hq => hq) (by omega))
end Go.Proofs.YtlblllghgdfpoaaDoor

namespace Go.Proofs.YtlblllghgdfpoaaDoor
open Go.RowKit
attribute [local go_sem ↓] Go.wp_at_zero Go.wp_at_succ

set_option maxRecDepth 100000 in
set_option maxHeartbeats 4000000 in
theorem l4_any {B : Nat} {W w : World} {vL vW : Value} {xs : List Value} {ls : List (List Nat)} {tm : Array Value} {Q : Exit → Act → World → Prop} (h : Qt B W w vL vW xs ls) (hn : xs.length ≤ 2000000) (hsz : tm.size = 401) (hchk : chk tm [(3, vL), (4, vW)]) (hQ : ∀ (m : Nat) (tm' : Array Value), tm'.size = 401 → chk tm' [(3, vL), (4, vW)] → Q .normal { tmps := tm', defers := [] } (w.drewN m)) : qL4.wp Tryd.prog Q { tmps := tm, defers := [] } w := by
  have hln := h.lb.len
  obtain ⟨aW, cW, rfl, -, hcW, hW⟩ := own_form h.rw
  obtain ⟨aL, cL, rfl, -, hcL, hL⟩ := own_form h.rl
  have HQ := hide hQ
  rw [hln] at HQ hchk hW
  have HW := hide hW
  have HL := hide hL
  have HH := hide h
  have Hln := hide hln
  clear hW hL h hln hcW hcL hQ
  obtain ⟨u, rfl⟩ := frame401 hsz
  obtain ⟨e3, e4, _⟩ := hchk
  replace e3 : u 3 = .slice aL xs.length cL := Option.some.inj e3
  replace e4 : u 4 = .slice aW xs.length cW := Option.some.inj e4
  rw [e3, e4]
  clear e3 e4
  unfold qL4
  dsimp only [tl, hd, qBody, Tryd.f21]
  go_wp2
  go_loopg [25] xs.length (fun gk v25 wr => ∃ (k m : Nat), v25 = .int .i64 (k : Int) ∧ gk = xs.length - k ∧ k ≤ xs.length ∧ wr = w.drewN m)
  case atStart => exact ⟨0, 0, rfl, rfl, by omega, rfl⟩
  case round =>
    obtain ⟨k, m, rfl, hgk, hk, rfl⟩ := hrel
    have Hgk := hide hgk
    clear hgk
    by_cases hlt : k < xs.length
    · obtain ⟨gW, rfl, hcw⟩ := unhide HW (by omega)
      obtain ⟨gL, rfl, hcl⟩ := unhide HL (by omega)
      obtain ⟨v, l, hv, hl, hB⟩ := (unhide HH).lb.at hlt
      have hBy := ((unhide HH).by_ l (List.mem_of_getElem? hl)).1
      have x1 := hcw k (.string (ofN l)) (by rw [List.getElem?_map, hl]; rfl)
      have x2 := hcl k v hv
      have cv : ∀ j, (convert 29 9 v).run Tryd.prog (w.drewN j) = .ok (.string (ofN l)) (w.drewN j) := fun j => conv_any (hB.has.up (below_drewN (Below.refl _ _) j)) hBy
      obtain ⟨av, cv', rfl, -⟩ := bytes_shape hB
      have j0 : (0 : Int) ≤ (k : Int) := Int.natCast_nonneg _
      have j1 : (k : Int) < (xs.length : Int) := by omega
      have Hlt := hide hlt
      clear hcw hcl hv hl hB hBy hlt
      go_wp2
      refine wp_region_noPanic ?_
      go_quiet (fail)
      refine NoPanic.normal ?_
      go_wp2
      go_roundg (xs.length - (k + 1))
      case measure => have := unhide Hgk; have := unhide Hlt; omega
      case rel => exact ⟨k + 1, m + nq, by go_num, rfl, unhide Hlt, rfl⟩
    · obtain rfl : k = xs.length := by omega
      have j1 : ¬ (xs.length : Int) < (xs.length : Int) := by omega
      clear hlt hk Hgk
      go_wp2
      exact unhide HQ m _ rfl ⟨rfl, rfl, trivial⟩
set_option maxRecDepth 100000 in
set_option maxHeartbeats 4000000 in
theorem l5_any {B : Nat} {w : World} {vL : Value} {xs : List Value} {ls : List (List Nat)} {tm : Array Value} {Q : Exit → Act → World → Prop} (hr : w.ownsRow B 29 1 vL xs.length xs) (hlb : Lb B w xs ls) (hap : ∀ q, InB xs q → vL.ownBlock ≠ some q) (hls : ∀ l ∈ ls, l.length ≤ 67108864) (hn : xs.length ≤ 2000000) (hsz : tm.size = 401) (hchk : chk tm [(3, vL)])
    (hQ : ∀ (w' : World) (cs : List (List Nat)) (tm' : Array Value), tm'.size = 401 → chk tm' [(3, vL)] → TkA w B 0 xs ls xs.length w' cs → Q .normal { tmps := tm', defers := [] } w') : qL5.wp Tryd.prog Q { tmps := tm, defers := [] } w := by
  have hd : HdB w vL xs := by
    obtain ⟨a, c, rfl, -, -, h3⟩ := own_form hr
    refine ⟨a, c, rfl, fun hp => ?_⟩
    obtain ⟨g, rfl, hc⟩ := h3 hp
    exact ⟨g, 0, rfl, (hr.lt g rfl).2, fun e => hap g e rfl, fun i v hv => by rw [Nat.zero_add]; exact hc i v hv⟩
  obtain ⟨a, c, rfl, h3⟩ := hd
  have H3 := hide h3
  have HX := hide hls
  have HQ := hide hQ
  have HA0 : Hid (TkA w B 0 xs ls 0 w ls) := ⟨hlb, Fr.refl _ _, fun _ => rfl, fun j c hj => by omega⟩
  clear hr hlb hap hls h3 hQ
  obtain ⟨u, rfl⟩ := frame401 hsz
  obtain ⟨e3, _⟩ := hchk
  replace e3 : u 3 = .slice a xs.length c := Option.some.inj e3
  rw [e3]
  clear e3
  unfold qL5
  dsimp only [tl, hd, qBody, Tryd.f21]
  go_wp2
  go_loopg [26, 27] xs.length (fun gk v26 _ wr => ∃ (i : Nat) (cs : List (List Nat)), v26 = .int .i64 (i : Int) ∧ gk = xs.length - i ∧ i ≤ xs.length ∧ Hid (TkA w B 0 xs ls i wr cs))
  case atStart => exact ⟨0, ls, rfl, rfl, by omega, unhide HA0⟩
  case round =>
    obtain ⟨i, cs, rfl, hgk, hi, HG⟩ := hrel
    have HgkO := hide hgk
    clear hgk HA0
    obtain ⟨wo, hwo⟩ : ∃ x, x = wr := ⟨_, rfl⟩
    subst hwo
    by_cases hlt : i < xs.length
    · obtain ⟨gA, oA, rfl, hgA, hnI, hc⟩ := unhide H3 (by omega)
      obtain ⟨v, l, hv, hb, hB⟩ := (unhide HG).lb.at hlt
      obtain ⟨av, cv, rfl, hsh⟩ := bytes_shape hB
      have Hx : Hid (∀ w', Fr w w' (InB xs) → w'.cell? ⟨gA, oA + i, none⟩ = some (.slice av l.length cv)) := fun w' hf => (World.cell?_of_block (a := ⟨gA, oA + i, none⟩) (hf.far gA hgA hnI)).trans (hc i _ hv)
      have hbl : l.length ≤ 1073741824 := by
        have e := (unhide HG).ln i
        rw [hb] at e
        cases hq : ls[i]? with
        | none => rw [hq] at e; cases e
        | some q => rw [hq] at e; have e1 : l.length = q.length := by simpa using e
                    have := unhide HX q (List.mem_of_getElem? hq)
                    omega
      have x0 := unhide Hx wo (unhide HG).fr
      have HI0 : Hid (∃ cs' bs', TkA w B 0 xs ls i wo cs' ∧ cs'[i]? = some bs' ∧ bs'.length = l.length ∧ bs'.take 0 = (mkL (0 + i) l.length).take 0) := ⟨cs, l, unhide HG, hb, rfl, by simp⟩
      have Hsh := hide hsh
      have Hv := hide hv
      have j0 : (0 : Int) ≤ (i : Int) := Int.natCast_nonneg _
      have j1 : (i : Int) < (xs.length : Int) := by omega
      have HltO := hide hlt
      clear hc hgA hnI hB hsh hv hb hlt HG
      go_wp2
      go_loopg [27] l.length (fun gk v27 wr => ∃ (k : Nat), v27 = .int .i64 (k : Int) ∧ gk = l.length - k ∧ k ≤ l.length ∧ Hid (∃ cs' bs', TkA w B 0 xs ls i wr cs' ∧ cs'[i]? = some bs' ∧ bs'.length = l.length ∧ bs'.take k = (mkL (0 + i) l.length).take k))
      case atStart => exact ⟨0, rfl, rfl, by omega, unhide HI0⟩
      case round =>
        obtain ⟨k, rfl, hgk, hk, HI⟩ := hrel
        have Hgk := hide hgk
        clear hgk x0 HI0
        obtain ⟨cs', bs', hG, hb, hl, ht⟩ := unhide HI
        have x0 := unhide Hx wr hG.fr
        by_cases hlt : k < l.length
        · obtain ⟨g, rfl⟩ := unhide Hsh (by omega)
          obtain ⟨y, hy⟩ : ∃ y, bs'[k]? = some y := ⟨_, List.getElem?_eq_getElem (by omega)⟩
          have hcl := bytes_cell (hG.lb.own i _ bs' (unhide Hv) hb) hy
          obtain ⟨y0, z0⟩ := hcl
          have HM := hide (fun w => mark_any w i k)
          have HIn : Hid (∃ cs' bs', TkA w B 0 xs ls i (wr.setCell ⟨g, k, none⟩ (.int .u8 (mkB i k : Int))).drew cs' ∧ cs'[i]? = some bs' ∧ bs'.length = l.length ∧ bs'.take (k + 1) = (mkL (0 + i) l.length).take (k + 1)) := by
            refine ⟨_, _, (hG.put (unhide Hv) hb (mkB i k)).drew, List.getElem?_set_self (by rw [hG.lb.len]; exact unhide HltO), by rw [List.length_set, hl], ?_⟩
            apply List.ext_getElem?
            intro j
            have ej := congrArg (fun l => l[j]?) ht
            simp only [List.getElem?_take] at ej ⊢
            by_cases h1 : j < k
            · rw [if_pos h1, if_pos h1] at ej
              rw [if_pos (by omega), if_pos (by omega), List.getElem?_set_ne (by omega)]
              exact ej
            · by_cases h2 : j = k
              · subst h2
                rw [if_pos (by omega), if_pos (by omega), List.getElem?_set_self (by omega), mkL_at hlt, Nat.zero_add]
              · rw [if_neg (by omega), if_neg (by omega)]
          obtain ⟨m, hm⟩ : ∃ m, mkB i k = m := ⟨_, rfl⟩
          rw [hm] at HIn
          simp only [hm] at HM
          have i0 : (0 : Int) ≤ (k : Int) := Int.natCast_nonneg _
          have i1' : (k : Int) < (l.length : Int) := by omega
          have Hlt := hide hlt
          clear hG hb hl ht hy hlt HI hm
          go_wp2
          refine wp_region_noPanic ?_
          go_region_with (go_at_call 36; refine (unhide HM _).mono ?_; rintro e w2 ⟨rfl, rfl⟩)
          all_goals
            refine NoPanic.normal ?_
            go_wp2
            go_roundg (l.length - (k + 1))
            case measure => have := unhide Hgk; have := unhide Hlt; omega
            case rel => exact ⟨k + 1, by go_num, rfl, unhide Hlt, unhide HIn⟩
        · obtain rfl : k = l.length := by omega
          have HGn := hide (hG.next hb hl ht)
          clear hG hb hl ht HI hlt hk Hgk
          go_wp2
          go_roundg (xs.length - (i + 1))
          case measure => have := unhide HgkO; have := unhide HltO; omega
          case rel => exact ⟨i + 1, cs', by go_num, rfl, unhide HltO, unhide HGn⟩
    · obtain rfl : i = xs.length := by omega
      clear hlt hi HgkO
      go_wp2
      exact unhide HQ _ cs _ rfl ⟨rfl, trivial⟩ (unhide HG)
end Go.Proofs.YtlblllghgdfpoaaDoor
