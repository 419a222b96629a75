import Derived.Test.YthodjkeppobcmaaDoorKI
import Derived.Outline

namespace Go.Proofs.YthodjkeppobcmaaDoor
open Go.RowKit Go.Lib
attribute [local go_sem ↓] Go.wp_at_zero Go.wp_at_succ

theorem CR.split {V : World × World} {s : ByteArray} {bb b op : Nat} {out : List Nat} {A : Value → Prop} {r : RR} {e : Ending} {w : World} (h : CR V s bb b op out A r e w) : (∃ c p, r = .error (c, p) ∧ e = flt (c : Int) (p : Int) ∧ Fw V bb b w) ∨ ∃ l p v, r = .ok (l, p) ∧ e = .returned v ∧ A v ∧ Sc V s bb b p op (out ++ l) w := by
  match r, h with
  | .error (c, p), h => exact .inl ⟨c, p, rfl, h⟩
  | .ok (l, p), ⟨v, h1, h2, h3⟩ => exact .inr ⟨l, p, v, rfl, h1, h2, h3⟩
theorem CR.err {V : World × World} {s : ByteArray} {bb b op : Nat} {out : List Nat} {A : Value → Prop} {w : World} (c p : Nat) (h : Fw V bb b w) : CR V s bb b op out A (.error (c, p)) (flt (c : Int) (p : Int)) w := ⟨rfl, h⟩
theorem CR.good {V : World × World} {s : ByteArray} {bb b op : Nat} {out l : List Nat} {A : Value → Prop} {w : World} {p : Nat} {v : Value} (ha : A v) (h : Sc V s bb b p op (out ++ l) w) : CR V s bb b op out A (.ok (l, p)) (.returned v) w := ⟨v, rfl, ha, h⟩
theorem tokR_sk (L : List Nat) (a : Nat) : tokR L (skB L a) = tokR L a := by
  unfold tokR
  rw [show skB L (skB L a) = skB L a from tw_idem _ _ _]
/-- Behind a call whose answer is r. -/
theorem CR.then_ {V : World × World} {s : ByteArray} {bb b op : Nat} {out : List Nat} {A : Value → Prop} {r : RR} {e : Ending} {w : World} (h : CR V s bb b op out A r e w) (k : Nat → RR) (B : Value → Prop) : (∃ c p, e = flt (c : Int) (p : Int) ∧ CR V s bb b op out B (r.go k) e w) ∨ ∃ l p v, e = .returned v ∧ A v ∧ Sc V s bb b p op (out ++ l) w ∧ r.go k = RR.pre l (k p) := by
  rcases h.split with ⟨c, p, rfl, rfl, h1⟩ | ⟨l, p, v, rfl, rfl, h1, h2⟩
  · exact .inl ⟨c, p, rfl, rfl, h1⟩
  · exact .inr ⟨l, p, v, rfl, h1, h2, rfl⟩
theorem CR.pre {V : World × World} {s : ByteArray} {bb b op : Nat} {out l : List Nat} {A : Value → Prop} {r : RR} {e : Ending} {w : World} (h : CR V s bb b op (out ++ l) A r e w) : CR V s bb b op out A (RR.pre l r) e w := by
  rcases h.split with ⟨c, p, rfl, rfl, h1⟩ | ⟨l2, p, v, rfl, rfl, h1, h2⟩
  · exact ⟨rfl, h1⟩
  · exact ⟨v, rfl, h1, by rw [← List.append_assoc]; exact h2⟩
def isStr (v : Value) : Prop := ∃ x, v = .string x
def isNil (v : Value) : Prop := v = .tuple #[]
set_option maxRecDepth 100000 in
theorem must_any {V : World × World} {s : ByteArray} {bb b a op c : Nat} {out : List Nat} {W : World} (hE : HasE V.1) (h : Sc V s bb b a op out W) (hs : s.size ≤ 67108864) (hc : c < 256) : Calls Tryd.prog 38 #[.pointer (some ⟨b, 0, none⟩), .int .u8 (c : Int)] W (CR V s bb b op out isStr (mustR (strN s) c a)) := by
  have HP := hide (peek_any h hs)
  have HT : Hid (∀ w, Sc V s bb b (skB (strN s) a) op out w → Calls Tryd.prog 29 #[.pointer (some ⟨b, 0, none⟩)] w (CR V s bb b op out isStr (tokR (strN s) a))) := fun w hw => by
    have := token_any hE hw hs
    rw [tokR_sk] at this
    exact this
  have hx : bt (strN s) (skB (strN s) a) < 256 := bt_256 _ _
  unfold mustR
  obtain ⟨k, hk⟩ : ∃ k, skB (strN s) a = k := ⟨_, rfl⟩
  rw [hk] at HP HT hx ⊢
  obtain ⟨x, hxe⟩ : ∃ x, bt (strN s) k = x := ⟨_, rfl⟩
  rw [hxe] at HP hx ⊢
  clear hk h hE hxe
  by_cases hq : x = c
  · rw [if_pos hq]
    subst hq
    go_enter Tryd.func38, Tryd.ntmps38
    go_wp2_with fail
    refine (unhide HP).mono ?_
    rintro e w1 ⟨rfl, h1⟩
    have H2 := hide (unhide HT w1 h1)
    clear h1 HP HT
    go_wp2_with fail
    refine (unhide H2).mono ?_
    intro e w2 h2
    rcases h2.split with ⟨c', p, hr, rfl, hb⟩ | ⟨l, p, v, hr, rfl, ⟨y, rfl⟩, h3⟩
    · exact ⟨rfl, h2⟩
    · have H3 := hide h2
      clear h2 hr h3 H2
      go_wp2
      go_ret
      exact unhide H3
  · rw [if_neg hq]
    have q : ((x : Int) == (c : Int)) = false := by simp; omega
    go_enter Tryd.func38, Tryd.ntmps38
    go_wp2_with fail
    refine (unhide HP).mono ?_
    rintro e w1 ⟨rfl, h1⟩
    have H1 := hide h1
    have c1 := h1.cells.2.1
    clear h1 HP HT
    go_wp2_with fail
    refine (refuse_any _ _ _).mono ?_
    rintro e w2 ⟨rfl, rfl⟩
    exact ⟨rfl, CR.err 120 k (unhide H1).bel⟩
set_option maxRecDepth 100000 in
theorem comma_any {V : World × World} {s : ByteArray} {bb b a op : Nat} {out : List Nat} {W : World} (hE : HasE V.1) (h : Sc V s bb b a op out W) (hs : s.size ≤ 67108864) : Calls Tryd.prog 39 #[.pointer (some ⟨b, 0, none⟩)] W (fun e w => if bt (strN s) (skB (strN s) a) = 44 then CR V s bb b op out (fun v => v = .bool true) (tokR (strN s) a) e w else e = .returned (.bool false) ∧ Sc V s bb b (skB (strN s) a) op out w) := by
  have HP := hide (peek_any h hs)
  have HT : Hid (∀ w, Sc V s bb b (skB (strN s) a) op out w → Calls Tryd.prog 29 #[.pointer (some ⟨b, 0, none⟩)] w (CR V s bb b op out isStr (tokR (strN s) a))) := fun w hw => by
    have := token_any hE hw hs
    rw [tokR_sk] at this
    exact this
  obtain ⟨k, hk⟩ : ∃ k, skB (strN s) a = k := ⟨_, rfl⟩
  rw [hk] at HP HT ⊢
  obtain ⟨x, hxe⟩ : ∃ x, bt (strN s) k = x := ⟨_, rfl⟩
  rw [hxe] at HP ⊢
  clear hk h hE hxe
  by_cases hq : x = 44
  · simp only [if_pos hq]
    subst hq
    go_enter Tryd.func39, Tryd.ntmps39
    go_wp2_with fail
    refine (unhide HP).mono ?_
    rintro e w1 ⟨rfl, h1⟩
    have H2 := hide (unhide HT w1 h1)
    clear h1 HP HT
    go_wp2_with fail
    refine (unhide H2).mono ?_
    intro e w2 h2
    rcases h2.split with ⟨c', p, hr, rfl, hb⟩ | ⟨l, p, v, hr, rfl, ⟨y, rfl⟩, h3⟩
    · have HEnd : CR V s bb b op out (fun v => v = .bool true) (tokR (strN s) a) (flt (c' : Int) (p : Int)) w2 := by
        rw [hr]
        exact CR.err _ _ hb
      exact ⟨rfl, HEnd⟩
    · have H3 := hide h3
      have HR := hide hr
      clear h2 hr h3 H2
      go_wp2
      go_ret
      rw [unhide HR]
      exact CR.good rfl (unhide H3)
  · simp only [if_neg hq]
    have q : ((x : Int) == 44) = false := by simp; omega
    go_enter Tryd.func39, Tryd.ntmps39
    go_wp2_with fail
    refine (unhide HP).mono ?_
    rintro e w1 ⟨rfl, h1⟩
    have H1 := hide h1
    clear h1 HP HT
    go_wp2
    go_ret
    exact ⟨rfl, unhide H1⟩
set_option maxRecDepth 100000 in
theorem end_any {V : World × World} {s : ByteArray} {bb b a op : Nat} {out : List Nat} {W : World} (h : Sc V s bb b a op out W) (hs : s.size ≤ 67108864) : Calls Tryd.prog 16 #[.pointer (some ⟨b, 0, none⟩)] W (fun e w => if skB (strN s) a < s.size then e = flt 120 (skB (strN s) a : Int) ∧ Fw V bb b w else e = .returned (.tuple #[]) ∧ Sc V s bb b (skB (strN s) a) op out w) := by
  have HP := hide (peek_any h hs)
  obtain ⟨k, hk⟩ : ∃ k, skB (strN s) a = k := ⟨_, rfl⟩
  rw [hk] at HP ⊢
  obtain ⟨x, hxe⟩ : ∃ x, bt (strN s) k = x := ⟨_, rfl⟩
  rw [hxe] at HP
  clear hk h hxe
  by_cases hq : k < s.size
  · simp only [if_pos hq]
    have i1 : (k : Int) < (s.size : Int) := by omega
    clear hq
    go_enter Tryd.func16, Tryd.ntmps16
    go_wp2_with fail
    refine (unhide HP).mono ?_
    rintro e w1 ⟨rfl, h1⟩
    have H1 := hide h1
    obtain ⟨c0, c1, -, -, -⟩ := h1.cells
    clear h1 HP
    go_wp2_with fail
    go_region
    go_wp2_with fail
    refine (refuse_any _ _ _).mono ?_
    rintro e w2 ⟨rfl, rfl⟩
    exact ⟨rfl, rfl, (unhide H1).drew.bel⟩
  · simp only [if_neg hq]
    have i1 : decide ((k : Int) < (s.size : Int)) = false := by simp; omega
    go_enter Tryd.func16, Tryd.ntmps16
    go_wp2_with fail
    refine (unhide HP).mono ?_
    rintro e w1 ⟨rfl, h1⟩
    have H1 := hide h1
    obtain ⟨c0, c1, -, -, -⟩ := h1.cells
    clear h1 HP
    go_wp2_with fail
    go_region
    go_wp2
    go_end0
    exact ⟨rfl, (unhide H1).drew⟩
end Go.Proofs.YthodjkeppobcmaaDoor
