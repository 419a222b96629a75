import Derived.Test.YtphccijiniolcaaDoorWML
namespace Go.Proofs.YtphccijiniolcaaDoor
open Go.RowKit
attribute [local go_sem ↓] Go.wp_at_zero Go.wp_at_succ

/-- Skip. -/
def skipM (s : ByteArray) (st : Bool) (depth : Int) (k : Nat) (x y : Int) : Nat ⊕ (Nat × Nat) :=
  if x < 1 ∨ 536870911 < x then .inr (24, k) else if y < 0 ∨ 5 < y then .inr (23, k) else runM s st depth (s.size + 2) (tkM s st depth k k 0 [] x.toNat y.toNat)
def SkA (W : World) (b : Nat) (s : ByteArray) (st : Bool) (e : Ending) (w : World) : Nat ⊕ (Nat × Nat) → Prop
  | .inl k' => e = .returned (.int .i64 0) ∧ Upd W b (.cells #[.string s, .int .i64 (k' : Int), .bool st] 70 (0, 0)) w
  | .inr (c, p) => e = .returned (.int .i64 (c : Int)) ∧ c ≠ 0 ∧ Upd W b (.cells #[.string s, .int .i64 (p : Int), .bool st] 70 (0, 0)) w
/-- Where the loop stands. -/
def LpA (W0 : World) (B b wb : Nat) (s : ByteArray) (st : Bool) (depth : Int) (f : Nat) (v : Value) (w : World) : (Nat × Nat × List Nat) ⊕ (Nat × Nat) → Prop
  | .inl (k, num, ar) => v = .int .i64 0 ∧ (∃ t, SkSt w B b wb s st t depth k num ar) ∧ OkM s k num ar ∧ s.size < k + f ∧ BZ B b wb W0 w
  | .inr (c, p) => v = .int .i64 (c : Int) ∧ c ≠ 0 ∧ RdAt w b s p st ∧ BZ B b wb W0 w
theorem upd_of_bz {W W0 w : World} {b : Nat} {o : Obj} (h0 : Below W.heap.size W W0) (h : BZ (W.heap.size + 1) b W.heap.size W0 w) (hr : w.heap[b]? = some o) : Upd W b o w :=
  ⟨h.os.trans h0.os, h.tape.trans h0.tape, h.output.trans h0.output, Nat.le_trans h0.size h.size, hr, fun q hq hn => (h.block q (by omega) hn (by omega)).trans (h0.block q hq)⟩
set_option maxRecDepth 100000 in
set_option maxHeartbeats 4000000 in
theorem rSkip_any {W : World} {b k : Nat} {s : ByteArray} {st : Bool} {x y depth : Int} (h : RdAt W b s k st) (hk : k ≤ s.size) (hs : s.size ≤ 1048576) :
    Calls Tryd.prog 65 #[.pointer (some ⟨b, 0, none⟩), .int .i64 x, .int .i64 y, .int .i64 depth] W fun e w => SkA W b s st e w (skipM s st depth k x y) := by
  have htg := tag_any W x y
  have Htg := hide htg
  have Hh := hide h
  unfold skipM
  clear htg
  by_cases h24 : x < 1 ∨ 536870911 < x
  · rw [if_pos h24]
    rw [if_pos h24] at Htg
    have Hend : Hid (SkA W b s st (.returned (.int .i64 24)) W (.inr (24, k))) := ⟨rfl, by decide, rfl, rfl, rfl, Nat.le_refl _, h, fun _ _ _ => rfl⟩
    clear h h24
    go_enter Tryd.func65, Tryd.ntmps65
    go_wp2_with fail
    refine (unhide Htg).mono ?_
    rintro e w1 ⟨rfl, hw⟩
    obtain rfl : W = w1 := hw.symm
    clear hw Htg
    go_wp2
    go_ret
    exact unhide Hend
  · rw [if_neg h24]
    rw [if_neg h24] at Htg
    by_cases h23 : y < 0 ∨ 5 < y
    · rw [if_pos h23]
      rw [if_pos h23] at Htg
      have Hend : Hid (SkA W b s st (.returned (.int .i64 23)) W (.inr (23, k))) := ⟨rfl, by decide, rfl, rfl, rfl, Nat.le_refl _, h, fun _ _ _ => rfl⟩
      clear h h24 h23
      go_enter Tryd.func65, Tryd.ntmps65
      go_wp2_with fail
      refine (unhide Htg).mono ?_
      rintro e w1 ⟨rfl, hw⟩
      obtain rfl : W = w1 := hw.symm
      clear hw Htg
      go_wp2
      go_ret
      exact unhide Hend
    · rw [if_neg h23]
      rw [if_neg h23] at Htg
      obtain ⟨n, rfl⟩ : ∃ n : Nat, x = (n : Int) := ⟨x.toNat, by omega⟩
      obtain ⟨kd, rfl⟩ : ∃ n : Nat, y = (n : Int) := ⟨y.toNat, by omega⟩
      rw [Int.toNat_natCast, Int.toNat_natCast]
      have hn1 : 1 ≤ n := by omega
      have hkd : kd ≤ 5 := by omega
      obtain ⟨R, hR⟩ : ∃ R, runM s st depth (s.size + 2) (tkM s st depth k k 0 [] n kd) = R := ⟨_, rfl⟩
      rw [hR]
      have HR := hide hR
      have Hnw := hide (newWalk_skip (depth := depth) h)
      clear h h24 h23 hR
      go_enter Tryd.func65, Tryd.ntmps65
      go_wp2_with fail
      refine (unhide Htg).mono ?_
      rintro e w1 ⟨rfl, hw⟩
      obtain rfl : W = w1 := hw.symm
      clear hw Htg
      go_wp2_with fail
      refine (unhide Hnw).mono ?_
      rintro e w0 ⟨rfl, hS0, hb0⟩
      have HS0 := hide hS0
      have Hb0 := hide hb0
      clear hS0 hb0 Hnw
      go_wp2_with fail
      refine (wtake_skip (unhide HS0) hk hs hkd (by simp) (fun _ => by omega)).mono ?_
      intro e w2 hq
      obtain ⟨wb, hwb⟩ : ∃ wb, W.heap.size = wb := ⟨_, rfl⟩
      have hlp : ∃ v, e = .returned v ∧ LpA w0 (W.heap.size + 1) b W.heap.size s st depth (s.size + 2) v w2 (tkM s st depth k k 0 [] n kd) := by
        generalize hr : tkM s st depth k k 0 [] n kd = r at hq
        match r, hq with
        | .inl (k2, num2, ar2), hq => exact ⟨_, hq.1, rfl, ⟨_, hq.2.1⟩, (tkM_ok hk (by simp) (fun _ => rfl) (fun e => absurd rfl e) hr).2, by omega, hq.2.2⟩
        | .inr (c, p), hq => exact ⟨_, hq.1, rfl, hq.2.1, hq.2.2.1, hq.2.2.2⟩
      obtain ⟨v0, rfl, hL⟩ := hlp
      have HL := hide hL
      clear hq hL hwb
      go_wp2_with fail
      have hwW := Nat.lt_succ_self W.heap.size
      clear Hh HS0
      go_loopg [11] (s.size + 2) (fun gk v11 wr => ∃ r, LpA w0 (W.heap.size + 1) b W.heap.size s st depth gk v11 wr r ∧ Hid (runM s st depth gk r = R))
      case atStart => exact ⟨_, unhide HL, HR⟩
      case round =>
        obtain ⟨r, hL2, HR2⟩ := hrel
        clear HL HR
        rcases r with ⟨k1, num, ar⟩ | ⟨c, p⟩
        · obtain ⟨rfl, ⟨t, hS⟩, hok, hf, hbz⟩ := hL2
          obtain ⟨ag, g1, g2⟩ := hS.wk
          obtain ⟨va, vc, rfl⟩ : ∃ a c, ag = .slice a ar.length c := by
            obtain ⟨_, ⟨e, h0⟩ | ⟨g, c, _, e, _⟩⟩ := g2
            · exact ⟨none, 0, by rw [e, h0]⟩
            · exact ⟨_, _, e⟩
          have Hin := hide (inGroup_any g1)
          by_cases har : ar = []
          · have hRk : R = .inl k1 := by
              rw [← unhide HR2]
              cases gk with
              | zero => rfl
              | succ f => rw [runM, if_pos har]
            have Hend : Hid (SkA W b s st (.returned (.int .i64 0)) wr R) := by
              rw [hRk]
              exact ⟨rfl, upd_of_bz (unhide Hb0) hbz hS.rd⟩
            have hm : decide (0 < ar.length) = false := by rw [har]; rfl
            rw [hm] at Hin
            clear hS hok hf hbz g1 g2 har hRk HR2 hm
            go_wp2_with fail
            refine (unhide Hin).mono ?_
            rintro e w3 ⟨rfl, hw⟩
            obtain rfl : wr = w3 := hw.symm
            clear hw Hin
            go_wp2
            go_ret
            exact unhide Hend
          · have hm : decide (0 < ar.length) = true := decide_eq_true (by cases ar with | nil => exact absurd rfl har | cons a l => simp)
            rw [hm] at Hin
            obtain ⟨f, hgf⟩ : ∃ f, gk = f + 1 := ⟨gk - 1, by have := hok.le; omega⟩
            have Hst := hide (wstep_skip hS hok.le hs (by have := hok.len; have := hok.le; omega) hok.top)
            have hnext : ∀ e w4, MA wr (W.heap.size + 1) b W.heap.size s st k1 depth e w4 (stepM s st depth k1 num ar) → ∃ v, e = .returned v ∧ LpA w0 (W.heap.size + 1) b W.heap.size s st depth f v w4 (stepM s st depth k1 num ar) := by
              intro e w4 hq
              generalize hr : stepM s st depth k1 num ar = r at hq
              match r, hq with
              | .inl (k2, num2, ar2), hq =>
                have := stepM_ok hok hr
                exact ⟨_, hq.1, rfl, ⟨_, hq.2.1⟩, this.2, by omega, hbz.trans hq.2.2⟩
              | .inr (c, p), hq => exact ⟨_, hq.1, rfl, hq.2.1, hq.2.2.1, hbz.trans hq.2.2.2⟩
            have HRn : Hid (runM s st depth f (stepM s st depth k1 num ar) = R) := by
              have q := unhide HR2
              rw [hgf, runM, if_neg har] at q
              exact q
            have Hnext := hide hnext
            have Hgf := hide hgf
            clear hS hok hf hbz g1 g2 har HR2 hm hnext hgf
            go_wp2_with fail
            refine (unhide Hin).mono ?_
            rintro e w3 ⟨rfl, hw⟩
            obtain rfl : wr = w3 := hw.symm
            clear hw Hin
            go_wp2_with fail
            refine (unhide Hst).mono ?_
            intro e w4 hq
            obtain ⟨v4, rfl, hL4⟩ := unhide Hnext e w4 hq
            have HL4 := hide hL4
            clear hq hL4 Hst Hnext
            go_wp2
            go_roundg f
            case measure => have := unhide Hgf; omega
            case rel => exact ⟨_, unhide HL4, HRn⟩
        · obtain ⟨rfl, hc, hr, hbz⟩ := hL2
          have hRk : R = .inr (c, p) := by
            rw [← unhide HR2]
            cases gk <;> rfl
          have Hend : Hid (SkA W b s st (.returned (.int .i64 (c : Int))) wr R) := by
            rw [hRk]
            exact ⟨rfl, hc, upd_of_bz (unhide Hb0) hbz hr⟩
          have q0 : ((c : Int) == 0) = false := beq_eq_false_iff_ne.2 (by omega)
          clear hc hr hbz hRk HR2
          go_wp2
          go_ret
          exact unhide Hend
#print axioms rSkip_any
end Go.Proofs.YtphccijiniolcaaDoor
