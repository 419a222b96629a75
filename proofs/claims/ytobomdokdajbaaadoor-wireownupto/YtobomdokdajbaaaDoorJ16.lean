import Derived.Test.YtobomdokdajbaaaDoorJ11
import Derived.Test.YtobomdokdajbaaaDoorWMs

namespace Go.Proofs.YtobomdokdajbaaaDoor
open Go.RowKit
attribute [local go_sem ↓] Go.wp_at_zero Go.wp_at_succ

/-- Skip. -/
def skipM (s : ByteArray) (st : Bool) (depth : Int) (k : Nat) (x y : Int) : Nat ⊕ (Nat × Nat) :=
  if x < 1 ∨ 536870911 < x then .inr (24, k) else if y < 0 ∨ 5 < y then .inr (23, k) else runM s st depth (s.size + 2) (tkM s st depth k k 0 [] x.toNat y.toNat)
def SkA (W : World) (b : Nat) (s : ByteArray) (st : Bool) (e : Ending) (w : World) : Nat ⊕ (Nat × Nat) → Prop
  | .inl k' => e = .returned (.int .i64 0) ∧ Upd W b (.cells #[.string s, .int .i64 (k' : Int), .bool st] 78 (0, 0)) w
  | .inr (c, p) => e = .returned (.int .i64 (c : Int)) ∧ c ≠ 0 ∧ Upd W b (.cells #[.string s, .int .i64 (p : Int), .bool st] 78 (0, 0)) w
/-- Where the loop stands. -/
def LpA (W0 : World) (B b wb : Nat) (s : ByteArray) (st : Bool) (depth : Int) (f : Nat) (v : Value) (w : World) : (Nat × Nat × List Nat) ⊕ (Nat × Nat) → Prop
  | .inl (k, num, ar) => v = .int .i64 0 ∧ (∃ t, SkSt w B b wb s st t depth k num ar) ∧ OkM s k num ar ∧ s.size < k + f ∧ BZ B b wb W0 w
  | .inr (c, p) => v = .int .i64 (c : Int) ∧ c ≠ 0 ∧ RdAt w b s p st ∧ BZ B b wb W0 w
theorem upd_of_bz {W W0 w : World} {b : Nat} {o : Obj} (h0 : Below W.heap.size W W0) (h : BZ (W.heap.size + 1) b W.heap.size W0 w) (hr : w.heap[b]? = some o) : Upd W b o w :=
  ⟨h.os.trans h0.os, h.tape.trans h0.tape, h.output.trans h0.output, Nat.le_trans h0.size h.size, hr, fun q hq hn => (h.block q (by omega) hn (by omega)).trans (h0.block q hq)⟩
set_option maxRecDepth 100000 in
set_option maxHeartbeats 4000000 in
theorem rSkip_any {W : World} {b k : Nat} {s : ByteArray} {st : Bool} {x y depth : Int} (h : RdAt W b s k st) (hk : k ≤ s.size) (hs : s.size ≤ 1048576) :
    Calls Tryd.prog 59 #[.pointer (some ⟨b, 0, none⟩), .int .i64 x, .int .i64 y, .int .i64 depth] W fun e w => SkA W b s st e w (skipM s st depth k x y) := by
  have htg := tag_any W x y
  have Htg := hide htg
  have Hh := hide h
  unfold skipM
  clear htg
  by_cases h24 : x < 1 ∨ 536870911 < x
  · rw [if_pos h24]
    rw [if_pos h24] at Htg
    have Hend : Hid (SkA W b s st (.returned (.int .i64 24)) W (.inr (24, k))) := ⟨rfl, by decide, rfl, rfl, rfl, Nat.le_refl _, h, fun _ _ _ => rfl⟩
    clear h h24
    go_enter Tryd.func59, Tryd.ntmps59
    go_wp2_with fail
    refine (unhide Htg).mono ?_
    rintro e w1 ⟨rfl, hw⟩
    obtain rfl : W = w1 := hw.symm
    clear hw Htg
    go_wp2
    go_ret
    exact unhide Hend
  · rw [if_neg h24]
    rw [if_neg h24] at Htg
    by_cases h23 : y < 0 ∨ 5 < y
    · rw [if_pos h23]
      rw [if_pos h23] at Htg
      have Hend : Hid (SkA W b s st (.returned (.int .i64 23)) W (.inr (23, k))) := ⟨rfl, by decide, rfl, rfl, rfl, Nat.le_refl _, h, fun _ _ _ => rfl⟩
      clear h h24 h23
      go_enter Tryd.func59, Tryd.ntmps59
      go_wp2_with fail
      refine (unhide Htg).mono ?_
      rintro e w1 ⟨rfl, hw⟩
      obtain rfl : W = w1 := hw.symm
      clear hw Htg
      go_wp2
      go_ret
      exact unhide Hend
    · rw [if_neg h23]
      rw [if_neg h23] at Htg
      obtain ⟨n, rfl⟩ : ∃ n : Nat, x = (n : Int) := ⟨x.toNat, by omega⟩
      obtain ⟨kd, rfl⟩ : ∃ n : Nat, y = (n : Int) := ⟨y.toNat, by omega⟩
      rw [Int.toNat_natCast, Int.toNat_natCast]
      have hn1 : 1 ≤ n := by omega
      have hkd : kd ≤ 5 := by omega
      obtain ⟨R, hR⟩ : ∃ R, runM s st depth (s.size + 2) (tkM s st depth k k 0 [] n kd) = R := ⟨_, rfl⟩
      rw [hR]
      have HR := hide hR
      have Hnw := hide (newWalk_skip (depth := depth) h)
      clear h h24 h23 hR
      go_enter Tryd.func59, Tryd.ntmps59
      go_wp2_with fail
      refine (unhide Htg).mono ?_
      rintro e w1 ⟨rfl, hw⟩
      obtain rfl : W = w1 := hw.symm
      clear hw Htg
      go_wp2_with fail
      refine (unhide Hnw).mono ?_
      rintro e w0 ⟨rfl, hS0, hb0⟩
      have HS0 := hide hS0
      have Hb0 := hide hb0
      clear hS0 hb0 Hnw
      go_wp2_with fail
      refine (wtake_skip (unhide HS0) hk hs hkd (by simp) (fun _ => by omega)).mono ?_
      intro e w2 hq
      obtain ⟨wb, hwb⟩ : ∃ wb, W.heap.size = wb := ⟨_, rfl⟩
      have hlp : ∃ v, e = .returned v ∧ LpA w0 (W.heap.size + 1) b W.heap.size s st depth (s.size + 2) v w2 (tkM s st depth k k 0 [] n kd) := by
        generalize hr : tkM s st depth k k 0 [] n kd = r at hq
        match r, hq with
        | .inl (k2, num2, ar2), hq => exact ⟨_, hq.1, rfl, ⟨_, hq.2.1⟩, (tkM_ok hk (by simp) (fun _ => rfl) (fun e => absurd rfl e) hr).2, by omega, hq.2.2⟩
        | .inr (c, p), hq => exact ⟨_, hq.1, rfl, hq.2.1, hq.2.2.1, hq.2.2.2⟩
      obtain ⟨v0, rfl, hL⟩ := hlp
      have HL := hide hL
      clear hq hL hwb
      go_wp2_with fail
      have hwW := Nat.lt_succ_self W.heap.size
      clear Hh HS0
      go_loopg [11] (s.size + 2) (fun gk v11 wr => ∃ r, LpA w0 (W.heap.size + 1) b W.heap.size s st depth gk v11 wr r ∧ Hid (runM s st depth gk r = R))
      case atStart => exact ⟨_, unhide HL, HR⟩
      case round =>
        obtain ⟨r, hL2, HR2⟩ := hrel
        clear HL HR
        rcases r with ⟨k1, num, ar⟩ | ⟨c, p⟩
        · obtain ⟨rfl, ⟨t, hS⟩, hok, hf, hbz⟩ := hL2
          obtain ⟨ag, g1, g2⟩ := hS.wk
          obtain ⟨va, vc, rfl⟩ : ∃ a c, ag = .slice a ar.length c := by
            obtain ⟨_, ⟨e, h0⟩ | ⟨g, c, _, e, _⟩⟩ := g2
            · exact ⟨none, 0, by rw [e, h0]⟩
            · exact ⟨_, _, e⟩
          have Hin := hide (inGroup_any g1)
          by_cases har : ar = []
          · have hRk : R = .inl k1 := by
              rw [← unhide HR2]
              cases gk with
              | zero => rfl
              | succ f => rw [runM, if_pos har]
            have Hend : Hid (SkA W b s st (.returned (.int .i64 0)) wr R) := by
              rw [hRk]
              exact ⟨rfl, upd_of_bz (unhide Hb0) hbz hS.rd⟩
            have hm : decide (0 < ar.length) = false := by rw [har]; rfl
            rw [hm] at Hin
            clear hS hok hf hbz g1 g2 har hRk HR2 hm
            go_wp2_with fail
            refine (unhide Hin).mono ?_
            rintro e w3 ⟨rfl, hw⟩
            obtain rfl : wr = w3 := hw.symm
            clear hw Hin
            go_wp2
            go_ret
            exact unhide Hend
          · have hm : decide (0 < ar.length) = true := decide_eq_true (by cases ar with | nil => exact absurd rfl har | cons a l => simp)
            rw [hm] at Hin
            obtain ⟨f, hgf⟩ : ∃ f, gk = f + 1 := ⟨gk - 1, by have := hok.le; omega⟩
            have Hst := hide (wstep_skip hS hok.le hs (by have := hok.len; have := hok.le; omega) hok.top)
            have hnext : ∀ e w4, MA wr (W.heap.size + 1) b W.heap.size s st k1 depth e w4 (stepM s st depth k1 num ar) → ∃ v, e = .returned v ∧ LpA w0 (W.heap.size + 1) b W.heap.size s st depth f v w4 (stepM s st depth k1 num ar) := by
              intro e w4 hq
              generalize hr : stepM s st depth k1 num ar = r at hq
              match r, hq with
              | .inl (k2, num2, ar2), hq =>
                have := stepM_ok hok hr
                exact ⟨_, hq.1, rfl, ⟨_, hq.2.1⟩, this.2, by omega, hbz.trans hq.2.2⟩
              | .inr (c, p), hq => exact ⟨_, hq.1, rfl, hq.2.1, hq.2.2.1, hbz.trans hq.2.2.2⟩
            have HRn : Hid (runM s st depth f (stepM s st depth k1 num ar) = R) := by
              have q := unhide HR2
              rw [hgf, runM, if_neg har] at q
              exact q
            have Hnext := hide hnext
            have Hgf := hide hgf
            clear hS hok hf hbz g1 g2 har HR2 hm hnext hgf
            go_wp2_with fail
            refine (unhide Hin).mono ?_
            rintro e w3 ⟨rfl, hw⟩
            obtain rfl : wr = w3 := hw.symm
            clear hw Hin
            go_wp2_with fail
            refine (unhide Hst).mono ?_
            intro e w4 hq
            obtain ⟨v4, rfl, hL4⟩ := unhide Hnext e w4 hq
            have HL4 := hide hL4
            clear hq hL4 Hst Hnext
            go_wp2
            go_roundg f
            case measure => have := unhide Hgf; omega
            case rel => exact ⟨_, unhide HL4, HRn⟩
        · obtain ⟨rfl, hc, hr, hbz⟩ := hL2
          have hRk : R = .inr (c, p) := by
            rw [← unhide HR2]
            cases gk <;> rfl
          have Hend : Hid (SkA W b s st (.returned (.int .i64 (c : Int))) wr R) := by
            rw [hRk]
            exact ⟨rfl, hc, upd_of_bz (unhide Hb0) hbz hr⟩
          have q0 : ((c : Int) == 0) = false := beq_eq_false_iff_ne.2 (by omega)
          clear hc hr hbz hRk HR2
          go_wp2
          go_ret
          exact unhide Hend
#print axioms rSkip_any
end Go.Proofs.YtobomdokdajbaaaDoor

namespace Go.Proofs.YtobomdokdajbaaaDoor
open Go.RowKit
attribute [local go_sem ↓] Go.wp_at_zero Go.wp_at_succ

/-- The machine of groups against the recursion, for Skip. -/
theorem skipM_eq {s : ByteArray} {st : Bool} {depth : Int} {k n kd : Nat} (hk : k ≤ s.size) (h1 : 1 ≤ n) (h2 : n ≤ 536870911) (hkd : kd ≤ 5) :
    skipM s st depth k (n : Int) (kd : Int) = if kd = 4 then .inr (25, k) else if kd = 3 ∧ depth < 1 then .inr (4, k) else if kd = 3 then recM s st depth (s.size + 2) n 1 k else plcE k (bodyR s st k kd) := by
  unfold skipM
  rw [if_neg (by omega), if_neg (by omega), Int.toNat_natCast, Int.toNat_natCast]
  by_cases h4 : kd = 4
  · rw [if_pos h4]
    have ht : tkM s st depth k k 0 [] n kd = .inr (25, k) := by
      unfold tkM
      rw [if_neg (by omega), if_pos h4, if_pos (by omega)]
    rw [ht]
    exact runM_err _ _ _ _ _
  · rw [if_neg h4]
    by_cases h3 : kd = 3
    · by_cases hd : depth < 1
      · rw [if_pos ⟨h3, hd⟩]
        have ht : tkM s st depth k k 0 [] n kd = .inr (4, k) := by
          unfold tkM
          rw [if_pos h3, if_pos (by simp; omega)]
        rw [ht]
        exact runM_err _ _ _ _ _
      · rw [if_neg (fun q => hd q.2), if_pos h3]
        have ht : tkM s st depth k k 0 [] n kd = .inl (k, n, [] ++ [0]) := by
          unfold tkM
          rw [if_pos h3, if_neg (by simp; omega)]
        rw [ht, rec_run s st depth (s.size + 2) n 0 k (s.size + 2) (s.size + 2) [] ⟨hk, by simp, fun e => by simp at e, fun _ => rfl⟩ (by omega) (by simp; omega) (by omega) (by omega) (by omega)]
        show goOn s st depth (s.size + 2) 0 [] (recM s st depth (s.size + 2) n 1 k) = _
        generalize recM s st depth (s.size + 2) n 1 k = r
        match r with
        | .inr x => rfl
        | .inl k2 => exact runM_nil _ _ _ _ _ _
    · rw [if_neg (fun q => h3 q.1), if_neg h3]
      have ht : tkM s st depth k k 0 [] n kd = plcM 0 [] k (bodyR s st k kd) := by
        unfold tkM
        rw [if_neg h3, if_neg h4]
        rfl
      rw [ht]
      generalize bodyR s st k kd = r
      match r with
      | .inr x => exact runM_err _ _ _ _ _
      | .inl k2 => exact runM_nil _ _ _ _ _ _
def CsA (W : World) (c : Nat) (v : Value) (s : ByteArray) (st : Bool) (e : Ending) (w : World) (R : Nat ⊕ (Nat × Nat)) : Prop :=
  ∃ q k2 : Nat, e = .returned (.int .i64 (q : Int)) ∧ Upd W c (.cells #[v, .int .i64 (k2 : Int), .int .i64 (s.size : Int), .bool st] 88 (0, 0)) w ∧ RelC q k2 R
set_option maxRecDepth 100000 in
set_option maxHeartbeats 4000000 in
/-- The reference's Skip. -/
theorem cSkip_any {W : World} {c : Nat} {v : Value} {s : ByteArray} {k : Nat} {st : Bool} {x y depth : Int} (h : CuAt W c v s k st) (hB : Bs W v s) (hk : k ≤ s.size) (hs : s.size ≤ 1048576) (hne : ∀ a l cp, v = .slice (some a) l cp → 0 < s.size → a.block ≠ c ∧ cp ≤ 9223372036854775807) :
    Calls Tryd.prog 60 #[.pointer (some ⟨c, 0, none⟩), .int .i64 x, .int .i64 y, .int .i64 depth] W fun e w => CsA W c v s st e w (skipM s st depth k x y) := by
  have hU0 : Upd W c _ W := ⟨rfl, rfl, rfl, Nat.le_refl _, h, fun _ _ _ => rfl⟩
  by_cases h24 : x < 1 ∨ 536870911 < x
  · have hd : decide (x < 1) = true ∨ (decide (x < 1) = false ∧ decide (536870911 < x) = true) := by
      by_cases q : x < 1
      · exact .inl (decide_eq_true q)
      · exact .inr ⟨decide_eq_false q, decide_eq_true (by omega)⟩
    have Hend : Hid (CsA W c v s st (.returned (.int .i64 24)) W (skipM s st depth k x y)) := by
      unfold skipM
      rw [if_pos h24]
      exact ⟨24, k, rfl, hU0, rfl, by decide, rfl⟩
    clear hU0 h hB hne h24
    rcases hd with d1 | ⟨d1, d2⟩
    all_goals (
      go_enter Tryd.func60, Tryd.ntmps60
      go_wp2
      go_ret
      exact unhide Hend)
  · have d1 : decide (x < 1) = false := decide_eq_false (by omega)
    have d2 : decide (536870911 < x) = false := decide_eq_false (by omega)
    by_cases h23 : y < 0 ∨ 5 < y
    · have hd : decide (y < 0) = true ∨ (decide (y < 0) = false ∧ decide (5 < y) = true) := by
        by_cases q : y < 0
        · exact .inl (decide_eq_true q)
        · exact .inr ⟨decide_eq_false q, decide_eq_true (by omega)⟩
      have Hend : Hid (CsA W c v s st (.returned (.int .i64 23)) W (skipM s st depth k x y)) := by
        unfold skipM
        rw [if_neg h24, if_pos h23]
        exact ⟨23, k, rfl, hU0, rfl, by decide, rfl⟩
      clear hU0 h hB hne h24 h23
      rcases hd with d3 | ⟨d3, d4⟩
      all_goals (
        go_enter Tryd.func60, Tryd.ntmps60
        go_wp2
        go_ret
        exact unhide Hend)
    · have d3 : decide (y < 0) = false := decide_eq_false (by omega)
      have d4 : decide (5 < y) = false := decide_eq_false (by omega)
      obtain ⟨n, rfl⟩ : ∃ n : Nat, x = (n : Int) := ⟨x.toNat, by omega⟩
      obtain ⟨kd, rfl⟩ : ∃ n : Nat, y = (n : Int) := ⟨y.toNat, by omega⟩
      have hkd : kd ≤ 5 := by omega
      rw [skipM_eq hk (by omega) (by omega) hkd]
      by_cases h4 : kd = 4
      · rw [if_pos h4]
        have e4 : ((kd : Int) == 4) = true := by rw [h4]; rfl
        have Hend : Hid (CsA W c v s st (.returned (.int .i64 25)) W (.inr (25, k))) := ⟨25, k, rfl, hU0, rfl, by decide, rfl⟩
        clear hU0 h hB hne h24 h23 h4
        go_enter Tryd.func60, Tryd.ntmps60
        go_wp2
        go_ret
        exact unhide Hend
      · rw [if_neg h4]
        have e4 : ((kd : Int) == 4) = false := beq_eq_false_iff_ne.2 (by omega)
        by_cases h3 : kd = 3 ∧ depth < 1
        · rw [if_pos h3]
          have e5 : ((kd : Int) == 3) = true := by rw [h3.1]; rfl
          have e6 : decide (depth < 1) = true := decide_eq_true h3.2
          have Hend : Hid (CsA W c v s st (.returned (.int .i64 4)) W (.inr (4, k))) := ⟨4, k, rfl, hU0, rfl, by decide, rfl⟩
          clear hU0 h hB hne h24 h23 h4 h3
          go_enter Tryd.func60, Tryd.ntmps60
          go_wp2
          go_ret
          exact unhide Hend
        · rw [if_neg h3]
          have h3' : ((kd : Int) == 3) = false ∨ (((kd : Int) == 3) = true ∧ decide (depth < 1) = false) := by
            by_cases q3 : kd = 3
            · exact .inr ⟨by rw [q3]; rfl, decide_eq_false (fun q => h3 ⟨q3, q⟩)⟩
            · exact .inl (beq_eq_false_iff_ne.2 (by omega))
          have hbeh := behind_any (W := W) (n := n) (o := 0) (kd := kd) (most := depth) (R := recM s st depth (s.size + 2) n 1 k) h hB hk hs hne (by omega) hkd h4 (fun _ X hX hXc => records_any hs hne (s.size + 2) X n 1 k hXc (hB.lift hX) hk (by omega) (by omega))
          obtain ⟨Rb, hRb⟩ : ∃ Rb, (if kd = 3 then recM s st depth (s.size + 2) n 1 k else plcE k (bodyR s st k kd)) = Rb := ⟨_, rfl⟩
          rw [hRb] at hbeh ⊢
          have Hbeh := hide hbeh
          clear hRb hbeh hU0 h hB hne h24 h23 h4 h3
          rcases h3' with q3 | ⟨q3, q4⟩
          all_goals (
            go_enter Tryd.func60, Tryd.ntmps60
            go_wp2_with fail
            refine (unhide Hbeh).mono ?_
            intro e w2 hq
            obtain ⟨x, t, va, vn, vc, q, k2, rfl, hU2, hrel⟩ := hq
            have HU2 := hide hU2
            have Hrel := hide hrel
            clear hU2 hrel Hbeh
            go_wp2
            go_ret
            exact ⟨q, k2, rfl, (unhide HU2).below' ((Below.refl _ _).alloc (Nat.le_refl _) _), unhide Hrel⟩)
#print axioms cSkip_any
end Go.Proofs.YtobomdokdajbaaaDoor

namespace Go.Proofs.YtobomdokdajbaaaDoor
open Go.RowKit
attribute [local go_sem ↓] Go.wp_at_zero Go.wp_at_succ

/-- What a call answers, and where it stands then. -/
def fV (k : Nat) : (Nat × Nat) ⊕ Nat → Int × Nat × Nat
  | .inl (u, k') => (wrap64 (u : Int), 0, k')
  | .inr c => (0, c, k)
def fT (k : Nat) : (ByteArray × Nat) ⊕ Nat → ByteArray × Nat × Nat
  | .inl (t, k') => (t, 0, k')
  | .inr c => (.empty, c, k)
def fG (k : Nat) : (Nat × Nat × Nat) ⊕ Nat → Nat × Nat × Nat × Nat
  | .inl (n, kd, k') => (n, kd, 0, k')
  | .inr c => (0, 0, c, k)
def fS : Nat ⊕ (Nat × Nat) → Nat × Nat
  | .inl k => (0, k)
  | .inr x => x
def rdO (s : ByteArray) (st : Bool) (k : Nat) : Obj := .cells #[.string s, .int .i64 (k : Int), .bool st] 78 (0, 0)
def cuO (v : Value) (s : ByteArray) (st : Bool) (k : Nat) : Obj := .cells #[v, .int .i64 (k : Int), .int .i64 (s.size : Int), .bool st] 88 (0, 0)
theorem fV_le {s : ByteArray} {st : Bool} {k x : _} {q k2 : Nat} (hk : k ≤ s.size) (h : fV k (vAt s st k) = (x, q, k2)) : k2 ≤ s.size := by
  generalize hv : vAt s st k = r at h
  match r, h with
  | .inl (u, k'), h =>
    have := vAt_lt hv
    obtain ⟨_, h⟩ := Prod.mk.inj h
    obtain ⟨_, rfl⟩ := Prod.mk.inj h
    omega
  | .inr c, h =>
    obtain ⟨_, h⟩ := Prod.mk.inj h
    obtain ⟨_, rfl⟩ := Prod.mk.inj h
    exact hk
theorem fX_le {s : ByteArray} {k n x : _} {q k2 : Nat} (hk : k ≤ s.size) (h : fV k (xAt s k n) = (x, q, k2)) : k2 ≤ s.size := by
  generalize hv : xAt s k n = r at h
  match r, h with
  | .inl (u, k'), h =>
    have := xAt_lt hv
    obtain ⟨_, h⟩ := Prod.mk.inj h
    obtain ⟨_, rfl⟩ := Prod.mk.inj h
    omega
  | .inr c, h =>
    obtain ⟨_, h⟩ := Prod.mk.inj h
    obtain ⟨_, rfl⟩ := Prod.mk.inj h
    exact hk
theorem fT_le {s : ByteArray} {st : Bool} {k : Nat} {x : ByteArray} {q k2 : Nat} (hk : k ≤ s.size) (h : fT k (tAt s st k) = (x, q, k2)) : k2 ≤ s.size := by
  generalize hv : tAt s st k = r at h
  match r, h with
  | .inl (u, k'), h =>
    have := tAt_lt hv
    obtain ⟨_, h⟩ := Prod.mk.inj h
    obtain ⟨_, rfl⟩ := Prod.mk.inj h
    omega
  | .inr c, h =>
    obtain ⟨_, h⟩ := Prod.mk.inj h
    obtain ⟨_, rfl⟩ := Prod.mk.inj h
    exact hk
theorem fG_le {s : ByteArray} {st : Bool} {k n kd q k2 : Nat} (hk : k ≤ s.size) (h : fG k (tagR s st k) = (n, kd, q, k2)) : k2 ≤ s.size := by
  generalize hv : tagR s st k = r at h
  match r, h with
  | .inl (u, kd, k'), h =>
    have := tagR_lt hv
    obtain ⟨_, h⟩ := Prod.mk.inj h
    obtain ⟨_, h⟩ := Prod.mk.inj h
    obtain ⟨_, rfl⟩ := Prod.mk.inj h
    omega
  | .inr c, h =>
    obtain ⟨_, h⟩ := Prod.mk.inj h
    obtain ⟨_, h⟩ := Prod.mk.inj h
    obtain ⟨_, rfl⟩ := Prod.mk.inj h
    exact hk
theorem plcE_fS {s : ByteArray} {st : Bool} {k kd : Nat} (hk : k ≤ s.size) : (fS (plcE k (bodyR s st k kd))).2 ≤ s.size := by
  generalize hb : bodyR s st k kd = r
  match r, hb with
  | .inl k', hb => exact (bodyR_lt hb).2
  | .inr c, _ => exact hk
theorem recM_le (s : ByteArray) (st : Bool) (most : Int) : ∀ (F g o k : Nat), k ≤ s.size → (fS (recM s st most F g o k)).2 ≤ s.size := by
  intro F
  induction F with
  | zero => intro g o k hk; exact hk
  | succ F ih =>
    intro g o k hk
    rw [recM_succ]
    split
    · split
      · exact hk
      · exact hk
    · split
      · exact hk
      · rename_i n kd k' ht
        have hb := tagR_lt ht
        split
        · split
          · exact hb.2.2.2.2
          · exact hk
        · split
          · exact hk
          · have hq : (fS (if kd = 3 then recM s st most F n (o + 1) k' else plcE k' (bodyR s st k' kd))).2 ≤ s.size := by
              split
              · exact ih _ _ _ hb.2.2.2.2
              · exact plcE_fS hb.2.2.2.2
            generalize (if kd = 3 then recM s st most F n (o + 1) k' else plcE k' (bodyR s st k' kd)) = r at hq
            match r, hq with
            | .inr x, hq => exact hq
            | .inl k2, hq => exact ih _ _ _ hq
theorem skipM_le {s : ByteArray} {st : Bool} {depth x y : Int} {k : Nat} (hk : k ≤ s.size) : (fS (skipM s st depth k x y)).2 ≤ s.size := by
  by_cases h24 : x < 1 ∨ 536870911 < x
  · unfold skipM; rw [if_pos h24]; exact hk
  · by_cases h23 : y < 0 ∨ 5 < y
    · unfold skipM; rw [if_neg h24, if_pos h23]; exact hk
    · obtain ⟨n, rfl⟩ : ∃ n : Nat, x = (n : Int) := ⟨x.toNat, by omega⟩
      obtain ⟨kd, rfl⟩ : ∃ n : Nat, y = (n : Int) := ⟨y.toNat, by omega⟩
      rw [skipM_eq hk (by omega) (by omega) (by omega)]
      split
      · exact hk
      · split
        · exact hk
        · split
          · exact recM_le _ _ _ _ _ _ _ hk
          · exact plcE_fS hk
theorem relC_fS {q k2 : Nat} {R : Nat ⊕ (Nat × Nat)} (h : RelC q k2 R) : fS R = (q, k2) := by
  match R, h with
  | .inl k', h => obtain ⟨rfl, rfl⟩ := h; rfl
  | .inr (c, k'), h => obtain ⟨rfl, _, rfl⟩ := h; rfl
section
variable {W : World} {b c : Nat} {v : Value} {s : ByteArray} {k : Nat} {st : Bool} (h : RdAt W b s k st) (hc : CuAt W c v s k st) (hB : Bs W v s) (hk : k ≤ s.size) (hs : s.size ≤ 1048576) (hne : ∀ a l cp, v = .slice (some a) l cp → 0 < s.size → a.block ≠ c ∧ cp ≤ 9223372036854775807)
include h in
theorem va_fun {e : Ending} {w : World} {r : (Nat × Nat) ⊕ Nat} {x : Int} {q k2 : Nat} (hf : fV k r = (x, q, k2)) (hq : VarA W b s st e w r) : e = .returned (.tuple #[.int .i64 x, .int .i64 (q : Int)]) ∧ Upd W b (rdO s st k2) w := by
  match r, hq with
  | .inl (u, k'), hq => cases hf; exact hq
  | .inr c, ⟨h1, _, n, h3⟩ => cases hf; exact ⟨h1, by rw [h3]; exact upd_same h n⟩
include hc in
theorem cv_fun {e : Ending} {w : World} {r : (Nat × Nat) ⊕ Nat} {x : Int} {q k2 : Nat} (hf : fV k r = (x, q, k2)) (hq : CvA W c v s st e w r) : e = .returned (.tuple #[.int .i64 x, .int .i64 (q : Int)]) ∧ Upd W c (cuO v s st k2) w := by
  match r, hq with
  | .inl (u, k'), hq => cases hf; exact hq
  | .inr n, ⟨h1, _, m, h3⟩ => cases hf; exact ⟨h1, by rw [h3]; exact upd_same hc m⟩
theorem rt_fun {e : Ending} {w : World} {r : (ByteArray × Nat) ⊕ Nat} {x : ByteArray} {q k2 : Nat} (hf : fT k r = (x, q, k2)) (hq : TxtA W b s k st e w r) : e = .returned (.tuple #[.string x, .int .i64 (q : Int)]) ∧ Upd W b (rdO s st k2) w := by
  match r, hq with
  | .inl (u, k'), hq => cases hf; exact hq
  | .inr c, ⟨h1, _, h3⟩ => cases hf; exact ⟨h1, h3⟩
theorem ct_fun {e : Ending} {w : World} {r : (ByteArray × Nat) ⊕ Nat} {x : ByteArray} {q k2 : Nat} (hf : fT k r = (x, q, k2)) (hq : CtA W c v s k st e w r) : e = .returned (.tuple #[.string x, .int .i64 (q : Int)]) ∧ Upd W c (cuO v s st k2) w := by
  match r, hq with
  | .inl (u, k'), hq => cases hf; exact hq
  | .inr n, ⟨h1, _, h3⟩ => cases hf; exact ⟨h1, h3⟩
include h in
theorem rg_fun {e : Ending} {w : World} {n kd q k2 : Nat} (hf : fG k (tagR s st k) = (n, kd, q, k2)) (hq : TagA W b s k st e w (vAt s st k)) : e = .returned (.tuple #[.int .i64 (n : Int), .int .i64 (kd : Int), .int .i64 (q : Int)]) ∧ Upd W b (rdO s st k2) w := by
  unfold tagR at hf
  generalize vAt s st k = r at hq hf
  match r, hq with
  | .inr n, ⟨h1, h2, m, h3⟩ => cases hf; exact ⟨h1, by rw [h3]; exact upd_same h m⟩
  | .inl (u, k'), hq =>
    replace hf : fG k (if u / 8 < 1 ∨ 536870911 < u / 8 then .inr 24 else if 5 < u % 8 then .inr 23 else .inl (u / 8, u % 8, k')) = (n, kd, q, k2) := hf
    unfold TagA at hq
    dsimp only at hq
    by_cases h24 : u / 8 < 1 ∨ 536870911 < u / 8
    · rw [if_pos h24] at hq hf
      cases hf
      exact hq
    · rw [if_neg h24] at hq hf
      by_cases h23 : 5 < u % 8
      · rw [if_pos h23] at hq hf
        cases hf
        exact hq
      · rw [if_neg h23] at hq hf
        cases hf
        exact hq
include hc in
theorem cg_fun {e : Ending} {w : World} {n kd q k2 : Nat} (hf : fG k (tagR s st k) = (n, kd, q, k2)) (hq : CgA W c v s k st e w (vAt s st k)) : e = .returned (.tuple #[.int .i64 (n : Int), .int .i64 (kd : Int), .int .i64 (q : Int)]) ∧ Upd W c (cuO v s st k2) w := by
  rcases cg_uni hc hq with ⟨p, _, htr, he, hU⟩ | ⟨n1, kd1, k1, htr, he, hU⟩
  · rw [htr] at hf
    cases hf
    exact ⟨he, hU⟩
  · rw [htr] at hf
    cases hf
    exact ⟨he, hU⟩
theorem rs_fun {e : Ending} {w : World} {R : Nat ⊕ (Nat × Nat)} {q k2 : Nat} (hf : fS R = (q, k2)) (hq : SkA W b s st e w R) : e = .returned (.int .i64 (q : Int)) ∧ Upd W b (rdO s st k2) w := by
  match R, hq with
  | .inl k', hq => cases hf; exact hq
  | .inr (c, p), ⟨h1, _, h3⟩ => cases hf; exact ⟨h1, h3⟩
theorem cs_fun {e : Ending} {w : World} {R : Nat ⊕ (Nat × Nat)} {q k2 : Nat} (hf : fS R = (q, k2)) (hq : CsA W c v s st e w R) : e = .returned (.int .i64 (q : Int)) ∧ Upd W c (cuO v s st k2) w := by
  obtain ⟨q1, k1, h1, h2, h3⟩ := hq
  rw [relC_fS h3] at hf
  cases hf
  exact ⟨h1, h2⟩
end
set_option maxRecDepth 100000 in
theorem rAt_any {W : World} {b k : Nat} {s : ByteArray} {st : Bool} (h : RdAt W b s k st) :
    Calls Tryd.prog 61 #[.pointer (some ⟨b, 0, none⟩)] W fun e W' => e = .returned (.int .i64 (k : Int)) ∧ W' = W := by
  obtain ⟨d0, d1, d2, _⟩ := cells3_of h
  clear h
  go_enter Tryd.func61, Tryd.ntmps61
  go_wp2
  go_ret
  exact ⟨rfl, rfl⟩
/-- A reader, a cursor and an operation's box in memory. -/
structure St2 (W : World) (b c : Nat) (bx o1 o2 : Obj) (w : World) : Prop where
  os : w.os = W.os
  tape : w.tape = W.tape
  output : w.output = W.output
  size : W.heap.size < w.heap.size
  rb : w.heap[b]? = some o1
  rc : w.heap[c]? = some o2
  box : w.heap[W.heap.size]? = some bx
  far : ∀ q, q < W.heap.size → q ≠ b → q ≠ c → w.heap[q]? = W.heap[q]?
theorem St2.start {W : World} {b c : Nat} {bx o1 o2 : Obj} (h1 : W.heap[b]? = some o1) (h2 : W.heap[c]? = some o2) : St2 W b c bx o1 o2 (W.alloc bx) := by
  have hb := (Array.getElem?_eq_some_iff.1 h1).1
  have hc := (Array.getElem?_eq_some_iff.1 h2).1
  have hB : Below W.heap.size W (W.alloc bx) := (Below.refl _ _).alloc (Nat.le_refl _) _
  exact ⟨rfl, rfl, rfl, by rw [World.size_alloc]; omega, (hB.block b hb).trans h1, (hB.block c hc).trans h2, heap_alloc_new _ _, fun q hq _ _ => hB.block q hq⟩
theorem St2.updB {W w w' : World} {b c : Nat} {bx o1 o2 o : Obj} (h : St2 W b c bx o1 o2 w) (hU : Upd w b o w') (hbc : b ≠ c) (hb : b < W.heap.size) : St2 W b c bx o o2 w' :=
  ⟨hU.os.trans h.os, hU.tape.trans h.tape, hU.output.trans h.output, Nat.lt_of_lt_of_le h.size hU.size, hU.at', (hU.far c (Array.getElem?_eq_some_iff.1 h.rc).1 (fun e => hbc e.symm)).trans h.rc, (hU.far _ h.size (by omega)).trans h.box, fun q hq h1 h2 => (hU.far q (Nat.lt_trans hq h.size) h1).trans (h.far q hq h1 h2)⟩
theorem St2.updC {W w w' : World} {b c : Nat} {bx o1 o2 o : Obj} (h : St2 W b c bx o1 o2 w) (hU : Upd w c o w') (hbc : b ≠ c) (hc : c < W.heap.size) : St2 W b c bx o1 o w' :=
  ⟨hU.os.trans h.os, hU.tape.trans h.tape, hU.output.trans h.output, Nat.lt_of_lt_of_le h.size hU.size, (hU.far b (Array.getElem?_eq_some_iff.1 h.rb).1 hbc).trans h.rb, hU.at', (hU.far _ h.size (by omega)).trans h.box, fun q hq h1 h2 => (hU.far q (Nat.lt_trans hq h.size) h2).trans (h.far q hq h1 h2)⟩
theorem St2.drewN {W w : World} {b c : Nat} {bx o1 o2 : Obj} (h : St2 W b c bx o1 o2 w) (n : Nat) : St2 W b c bx o1 o2 (w.drewN n) := ⟨h.os, h.tape, h.output, h.size, h.rb, h.rc, h.box, h.far⟩
theorem St2.bs {W w : World} {b c : Nat} {bx o1 o2 : Obj} {v : Value} {s : ByteArray} (h : St2 W b c bx o1 o2 w) (hB : Bs W v s) (hne : ∀ a l cp, v = .slice (some a) l cp → 0 < s.size → a.block ≠ c ∧ cp ≤ 9223372036854775807) (hnb : ∀ a l cp, v = .slice (some a) l cp → 0 < s.size → a.block ≠ b) : Bs w v s := by
  obtain ⟨a, cp, rfl, hle, h3⟩ := hB
  refine ⟨a, cp, rfl, hle, fun hp => ?_⟩
  obtain ⟨g, off, rfl, hg, hc⟩ := h3 hp
  refine ⟨g, off, rfl, Nat.lt_trans hg h.size, fun i hi => ?_⟩
  rw [← hc i hi]
  unfold World.cell?
  rw [h.far g hg (hnb _ _ _ rfl hp) (hne _ _ _ rfl hp).1]
end Go.Proofs.YtobomdokdajbaaaDoor
