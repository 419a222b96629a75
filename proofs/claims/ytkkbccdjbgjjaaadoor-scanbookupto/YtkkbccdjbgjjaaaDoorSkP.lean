import Derived.Test.YtkkbccdjbgjjaaaDoorSKO

namespace Go.Proofs.YtkkbccdjbgjjaaaDoor
open Go.RowKit
attribute [local go_sem ↓] Go.wp_at_zero Go.wp_at_succ

noncomputable def skHalf : Code := match skRound with
  | .seq _ (.seq _ (.seq _ (.seq _ (.seq _ x)))) => x
  | _ => .skip
noncomputable def skZ : Code := match skHalf with
  | .seq _ (.seq z _) => z
  | _ => .skip
theorem skHalf_eq : skHalf = .seq skFill (.seq skZ (.seq skMore skEnd)) := rfl
noncomputable def skRoundW (c h : Code) : Code := match skRound with
  | .seq a0 (.seq a1 (.seq a2 (.seq _ (.seq a4 _)))) => .seq a0 (.seq a1 (.seq a2 (.seq c (.seq a4 h))))
  | _ => .skip
theorem skRound_two : skRound = skRoundW skCheck1 skHalf := rfl
set_option maxRecDepth 100000 in
theorem z_any {W : World} {p0 p3 p4 vl : Value} {bx : Nat} {tm : Array Value} (hsz : tm.size = 160) (hchk : chk tm [(0, p0), (3, p3), (4, p4), (5, vl), (13, .pointer (some ⟨bx, 0, none⟩))]) {Q : Exit → Act → World → Prop} (hQ : ∀ tm : Array Value, tm.size = 160 → chk tm [(0, p0), (3, p3), (4, p4), (5, vl), (13, .pointer (some ⟨bx, 0, none⟩)), (15, .slice none 0 0)] → Q .normal { tmps := tm, defers := [] } W) : skZ.wp Tryd.prog Q { tmps := tm, defers := [] } W := by
  have HQ := hide hQ
  obtain ⟨x, rfl⟩ := frame160 hsz
  obtain ⟨e0, e3, e4, e5, e13, _⟩ := hchk
  replace e0 : x 0 = p0 := Option.some.inj e0
  replace e3 : x 3 = p3 := Option.some.inj e3
  replace e4 : x 4 = p4 := Option.some.inj e4
  replace e5 : x 5 = vl := Option.some.inj e5
  replace e13 : x 13 = .pointer (some ⟨bx, 0, none⟩) := Option.some.inj e13
  rw [e0, e3, e4, e5, e13]
  clear hQ e0 e3 e4 e5 e13
  unfold skZ skHalf skRound skLoop
  dsimp only [Tryd.f3]
  go_wp2
  exact unhide HQ _ rfl ⟨rfl, rfl, rfl, rfl, rfl, rfl, trivial⟩
theorem x_new (w : World) (t : Tk) (ty : TypeId) : XAt (w.alloc (.cells #[.int .i64 t.kind, .int .i64 t.spot, .string t.text] ty)) w.heap.size t := by
  refine ⟨?_, ?_, ?_⟩ <;> rw [cell_of_row _ _ _ _ _ _ (heap_new w _)] <;> rfl
set_option maxRecDepth 100000 in
set_option maxHeartbeats 4000000 in
theorem round_any {V W : World} {a0 : Option Addr} {c0 r : Nat} {v3 : Value} {us : List Value} {l : List ByteArray} (hF : HasF V) (hE : HasE V) (hM : HasM V) (hT : HasS V (.slice a0 l.length c0) l) (hn : l.length ≤ 1048576) (hr : r < l.length) (hB : Below V.heap.size V W) (hS : St V.heap.size W v3 us) (hul5 : us.length = 5 * r)
    {tm : Array Value} (hsz : tm.size = 160) (hchk : chk tm [(0, .slice a0 l.length c0), (3, v3), (4, .int .i64 (r : Int))]) {Q : Exit → Act → World → Prop}
    (hQ : ∀ W' v3' us', St V.heap.size W' v3' us' → us'.length = us.length + 5 → Below V.heap.size V W' → ∀ tm : Array Value, tm.size = 160 → chk tm [(0, .slice a0 l.length c0), (3, v3'), (4, .int .i64 (r : Int))] → Q .normal { tmps := tm, defers := [] } W') :
    skRound.wp Tryd.prog Q { tmps := tm, defers := [] } W := by
  obtain ⟨a3, c3, rfl⟩ := hS.form
  have hS' := hide hS
  obtain ⟨_, _, ea, hm0, h3⟩ := id hT
  simp only [Value.slice.injEq] at ea
  obtain ⟨rfl, _, rfl⟩ := ea
  obtain ⟨g, off, rfl, hg, hc⟩ := h3 (by omega)
  obtain ⟨s, hs⟩ : ∃ s, l[r]? = some s := ⟨_, List.getElem?_eq_getElem hr⟩
  have hcell : W.cell? ⟨g, off + r, none⟩ = some (.string s) := (hB.cell (p := ⟨g, off + r, none⟩) hg).trans (hc r s hs)
  obtain ⟨ts, kk, cc, hO⟩ : ∃ ts kk cc, tkO s = (ts, kk, cc) := ⟨_, _, _, rfl⟩
  have hL : ts.length ≤ 16384 := by have := tkO_len s; rw [hO] at this; exact this
  have tok1 := tokens_own (hF.up hB) (hE.up hB) (hM.up hB hM.1) s
  unfold TkA at tok1
  rw [hO] at tok1
  have T1 := hide tok1
  have T2 : Hid (∀ w1, Below W.heap.size W w1 → Calls Tryd.prog 5 #[.string s] w1 fun e w => ∃ v, e = .returned (.tuple #[v, .int .i64 (kk : Int), .int .i64 (cc : Int)]) ∧ RowT w1.heap.size w v (ts.map Tok.tk) ∧ HasTok w v ts ∧ Below w1.heap.size w1 w) := fun w1 hb => by
    have hb1 := hB.trans (hb.mono hB.size)
    have := tokens_own (hF.up hb1) (hE.up hb1) (hM.up hb1 hM.1) s
    unfold TkA at this
    rw [hO] at this
    exact this
  have HQ := hide hQ
  have HB := hide hB
  have Hul5 := hide hul5
  have hsB := hB.size
  obtain ⟨x, rfl⟩ := frame160 hsz
  obtain ⟨e0, e3, e4, _⟩ := hchk
  replace e0 : x 0 = .slice (some ⟨g, off, none⟩) l.length c0 := Option.some.inj e0
  replace e3 : x 3 = .slice a3 us.length c3 := Option.some.inj e3
  replace e4 : x 4 = .int .i64 (r : Int) := Option.some.inj e4
  rw [e0, e3, e4]
  clear hQ hF hE hM hT hm0 h3 hc hs hB hS tok1 hO hul5 e0 e3 e4
  rw [skRound_two]
  obtain ⟨tC, hC⟩ : ∃ t, skCheck1 = t := ⟨_, rfl⟩
  obtain ⟨tH, hH⟩ : ∃ t, skHalf = t := ⟨_, rfl⟩
  rw [hC, hH]
  unfold skRoundW skRound skLoop
  dsimp only [Tryd.f3]
  have hr0 : (0 : Int) ≤ (r : Int) := Int.natCast_nonneg _
  have hr1 : (r : Int) < (l.length : Int) := by omega
  have hWg : g < W.heap.size := by omega
  go_wp2_with fail
  refine (unhide T1).mono ?_
  rintro e w1 ⟨v, rfl, q1, q2, hb1⟩
  obtain ⟨al, cl, rfl⟩ := q1.form
  rw [List.length_map] at q1 q2 ⊢
  have Q1 := hide q1
  have Q2 := hide q2
  have Hb1 := hide hb1
  have hcell1 : w1.cell? ⟨g, off + r, none⟩ = some (.string s) := (hb1.cell (p := ⟨g, off + r, none⟩) hWg).trans hcell
  clear q1 q2 hb1 hcell
  go_wp2_with fail
  refine (unhide T2 w1 (unhide Hb1)).mono ?_
  rintro e w2 ⟨v, rfl, p1, p2, hb2⟩
  obtain ⟨am, cm, rfl⟩ := p1.form
  rw [List.length_map] at p2 ⊢
  have P2 := hide p2
  have Hb2 : Hid (Below W.heap.size W w2) := (unhide Hb1).trans (hb2.mono (unhide Hb1).size)
  have Q1' := hide ((unhide Q1).up hb2)
  have Q2' := hide ((unhide Q2).up hb2)
  have hcc : ((cc : Int) != (cc : Int)) = false := by simp
  clear p1 p2 hb2 hcell1 Q1 Q2 T1 T2
  go_wp2_with fail
  refine (sameTok_any (unhide Q2') (unhide P2) (by omega)).mono ?_
  rintro e w3 ⟨rfl, n3, rfl⟩
  have Hb3 : Hid (Below W.heap.size W (w2.drewN n3)) := below_drewN (unhide Hb2) _
  have Q3 : Hid (RowT W.heap.size (w2.drewN n3) (.slice al ts.length cl) (ts.map Tok.tk)) := (unhide Q1').up (below_drewN (Below.refl _ _) _)
  generalize w2.drewN n3 = w3 at *
  clear Q1' Q2' P2 Hb2
  go_wp2
  rw [← hC]
  refine check_all ((unhide hS').up (unhide Hb3)) (by have := unhide Hul5; omega) rfl ⟨rfl, rfl, rfl, rfl, trivial⟩ ?_
  intro w4 hb4 tm hsz hchk
  obtain ⟨u, rfl⟩ := frame160 hsz
  obtain ⟨e0, e3, e4, e5, _⟩ := hchk
  replace e0 : u 0 = .slice (some ⟨g, off, none⟩) l.length c0 := Option.some.inj e0
  replace e3 : u 3 = .slice a3 us.length c3 := Option.some.inj e3
  replace e4 : u 4 = .int .i64 (r : Int) := Option.some.inj e4
  replace e5 : u 5 = .slice al ts.length cl := Option.some.inj e5
  rw [e0, e3, e4, e5]
  clear e0 e3 e4 e5
  have Hb4 : Hid (Below W.heap.size W w4) := (unhide Hb3).trans (hb4.mono (unhide Hb3).size)
  have Q4 := hide ((unhide Q3).up hb4)
  have hq : (us.length : Int) / 5 = (r : Int) := by have := unhide Hul5; omega
  have hulb : us.length ≤ 10485760 := by have := unhide Hul5; omega
  clear hb4 Q3 Hb3
  go_wp2_with fail
  refine (mark_any _ r (by omega)).mono ?_
  rintro e w5 ⟨rfl, hb5⟩
  have Hb5 : Hid (Below W.heap.size W w5) := (unhide Hb4).trans (hb5.mono (unhide Hb4).size)
  have Q5 := hide ((unhide Q4).up hb5)
  have Hx := hide (x_new w5 (mkT r) 31)
  unfold Tk.val
  obtain ⟨t, ht⟩ : ∃ t, mkT r = t := ⟨_, rfl⟩
  have HT := hide ht
  rw [ht] at Hx ⊢
  clear hb5 Q4 Hb4 ht
  obtain ⟨kd, sp, tx⟩ := t
  simp only at Hx
  go_wp2
  rw [← hH, skHalf_eq]
  have hb6 : Below W.heap.size W (w5.alloc (.cells #[.int .i64 kd, .int .i64 sp, .string tx] 31)) := (unhide Hb5).alloc (unhide Hb5).size _
  refine half_any (W0 := W) (B := V.heap.size) (r := r) (bx := w5.heap.size) (unhide hS') hsB hb6 (World.ownsRow.alloc (unhide Q5) _) (by rw [unhide HT]; exact unhide Hx) (unhide Hb5).size (fun k e q => by have := (World.ownsRow.lt (unhide Q5) k e).2; omega) (by rw [List.length_map]; exact hL) (unhide Hul5) hulb rfl ⟨rfl, rfl, rfl, rfl, rfl, trivial⟩ (fun W' tm Q' h1 h2 h3 => z_any h1 h2 h3) ?_
  intro W' v3' us' h1 h2 h3
  exact unhide HQ W' v3' us' h1 h2 ((unhide HB).trans h3)
/-- Between two rounds. -/
def SkJ (V : World) (v0 : Value) (n0 m : Nat) (a : Act) (w : World) : Prop := ∃ (tm : Array Value) (r : Nat) (v3 : Value) (us : List Value), a = ⟨tm, []⟩ ∧ tm.size = 160 ∧ chk tm [(0, v0), (3, v3), (4, .int .i64 (r : Int))] ∧ m = n0 - r ∧ r ≤ n0 ∧ us.length = 5 * r ∧ St V.heap.size w v3 us ∧ Below V.heap.size V w
set_option maxRecDepth 100000 in
set_option maxHeartbeats 4000000 in
theorem loop_any {V W : World} {a0 : Option Addr} {c0 : Nat} {l : List ByteArray} (hF : HasF V) (hE : HasE V) (hM : HasM V) (hT : HasS V (.slice a0 l.length c0) l) (hn : l.length ≤ 1048576) (hB : Below V.heap.size V W)
    {tm : Array Value} (hsz : tm.size = 160) (hchk : chk tm [(0, .slice a0 l.length c0), (3, .slice none 0 0), (4, .int .i64 0)]) {Q : Exit → Act → World → Prop}
    (hQ : ∀ W' v3' us', St V.heap.size W' v3' us' → us'.length ≤ 10485760 → Below V.heap.size V W' → ∀ tm : Array Value, tm.size = 160 → chk tm [(0, .slice a0 l.length c0), (3, v3')] → Q .normal { tmps := tm, defers := [] } W') :
    skLoop.wp Tryd.prog Q { tmps := tm, defers := [] } W := by
  have HQ := hide hQ
  have HT := hide hT
  have HB := hide hB
  have HF := hide hF
  have HE := hide hE
  have HM := hide hM
  obtain ⟨x, rfl⟩ := frame160 hsz
  obtain ⟨e0, e3, e4, _⟩ := hchk
  replace e0 : x 0 = .slice a0 l.length c0 := Option.some.inj e0
  replace e3 : x 3 = .slice none 0 0 := Option.some.inj e3
  replace e4 : x 4 = .int .i64 0 := Option.some.inj e4
  rw [e0, e3, e4]
  clear hQ hT hB hF hE hM e0 e3 e4
  rw [skLoop_split]
  obtain ⟨t, ht⟩ : ∃ t, skRound = t := ⟨_, rfl⟩
  rw [ht]
  unfold skLoopWith skLoop
  dsimp only [Tryd.f3]
  go_wp2
  refine wp_loop_count (SkJ V (.slice a0 l.length c0) l.length) ?_ l.length _ _ ⟨_, 0, _, [], rfl, rfl, ⟨rfl, rfl, rfl, trivial⟩, rfl, Nat.zero_le _, rfl, ⟨World.ownsRow_nil _ _ _ _, fun k v h => by simp at h, fun v h => by simp at h⟩, unhide HB⟩
  rintro m _ wr ⟨tm, r, v3, us, rfl, hsz, hchk, hm, hr, hul5, hS, hB⟩
  obtain ⟨u, rfl⟩ := frame160 hsz
  obtain ⟨e0, e3, e4, _⟩ := hchk
  replace e0 : u 0 = .slice a0 l.length c0 := Option.some.inj e0
  replace e3 : u 3 = v3 := Option.some.inj e3
  replace e4 : u 4 = .int .i64 (r : Int) := Option.some.inj e4
  rw [e0, e3, e4]
  clear e0 e3 e4
  have Hm := hide hm
  have HS := hide hS
  have HB' := hide hB
  have Hu := hide hul5
  clear hm hS hB hul5
  by_cases hlt : r < l.length
  · have hd : decide ((r : Int) < (l.length : Int)) = true := by simp; omega
    go_wp2
    rw [← ht]
    refine round_any (unhide HF) (unhide HE) (unhide HM) (unhide HT) hn hlt (unhide HB') (unhide HS) (unhide Hu) rfl ⟨rfl, rfl, rfl, trivial⟩ ?_
    intro W' v3' us' h1 h2 h3 tm hsz hchk
    have H1 := hide h1
    have H3 := hide h3
    have H2 := hide h2
    clear h1 h2 h3
    obtain ⟨z, rfl⟩ := frame160 hsz
    obtain ⟨e0, e3, e4, _⟩ := hchk
    replace e0 : z 0 = .slice a0 l.length c0 := Option.some.inj e0
    replace e3 : z 3 = v3' := Option.some.inj e3
    replace e4 : z 4 = .int .i64 (r : Int) := Option.some.inj e4
    rw [e0, e3, e4]
    clear e0 e3 e4
    go_wp2
    exact ⟨l.length - (r + 1), by have := unhide Hm; omega, _, r + 1, _, us', rfl, rfl, ⟨rfl, rfl, rfl, trivial⟩, rfl, by omega, by have := unhide H2; have := unhide Hu; omega, unhide H1, unhide H3⟩
  · obtain rfl : r = l.length := by omega
    have hd : decide ((l.length : Int) < (l.length : Int)) = false := by simp
    go_wp2
    exact unhide HQ _ _ us (unhide HS) (by have := unhide Hu; omega) (unhide HB') _ rfl ⟨rfl, rfl, trivial⟩
end Go.Proofs.YtkkbccdjbgjjaaaDoor
