import Derived.Test.YtgbadnbhgpnppaaDoorWMO
import Derived.BigQuiet
namespace Go.Proofs.YtgbadnbhgpnppaaDoor
open Go.RowKit
attribute [local go_sem ↓] Go.wp_at_zero Go.wp_at_succ

/-- What a call answers, and where it stands then. -/
def fV (k : Nat) : (Nat × Nat) ⊕ Nat → Int × Nat × Nat
  | .inl (u, k') => (wrap64 (u : Int), 0, k')
  | .inr c => (0, c, k)
def fT (k : Nat) : (ByteArray × Nat) ⊕ Nat → ByteArray × Nat × Nat
  | .inl (t, k') => (t, 0, k')
  | .inr c => (.empty, c, k)
def fG (k : Nat) : (Nat × Nat × Nat) ⊕ Nat → Nat × Nat × Nat × Nat
  | .inl (n, kd, k') => (n, kd, 0, k')
  | .inr c => (0, 0, c, k)
def fS : Nat ⊕ (Nat × Nat) → Nat × Nat
  | .inl k => (0, k)
  | .inr x => x
def rdO (s : ByteArray) (st : Bool) (k : Nat) : Obj := .cells #[.string s, .int .i64 (k : Int), .bool st] 70 (0, 0)
def cuO (v : Value) (s : ByteArray) (st : Bool) (k : Nat) : Obj := .cells #[v, .int .i64 (k : Int), .int .i64 (s.size : Int), .bool st] 72 (0, 0)
theorem fV_le {s : ByteArray} {st : Bool} {k x : _} {q k2 : Nat} (hk : k ≤ s.size) (h : fV k (vAt s st k) = (x, q, k2)) : k2 ≤ s.size := by
  generalize hv : vAt s st k = r at h
  match r, h with
  | .inl (u, k'), h =>
    have := vAt_lt hv
    obtain ⟨_, h⟩ := Prod.mk.inj h
    obtain ⟨_, rfl⟩ := Prod.mk.inj h
    omega
  | .inr c, h =>
    obtain ⟨_, h⟩ := Prod.mk.inj h
    obtain ⟨_, rfl⟩ := Prod.mk.inj h
    exact hk
theorem fX_le {s : ByteArray} {k n x : _} {q k2 : Nat} (hk : k ≤ s.size) (h : fV k (xAt s k n) = (x, q, k2)) : k2 ≤ s.size := by
  generalize hv : xAt s k n = r at h
  match r, h with
  | .inl (u, k'), h =>
    have := xAt_lt hv
    obtain ⟨_, h⟩ := Prod.mk.inj h
    obtain ⟨_, rfl⟩ := Prod.mk.inj h
    omega
  | .inr c, h =>
    obtain ⟨_, h⟩ := Prod.mk.inj h
    obtain ⟨_, rfl⟩ := Prod.mk.inj h
    exact hk
theorem fT_le {s : ByteArray} {st : Bool} {k : Nat} {x : ByteArray} {q k2 : Nat} (hk : k ≤ s.size) (h : fT k (tAt s st k) = (x, q, k2)) : k2 ≤ s.size := by
  generalize hv : tAt s st k = r at h
  match r, h with
  | .inl (u, k'), h =>
    have := tAt_lt hv
    obtain ⟨_, h⟩ := Prod.mk.inj h
    obtain ⟨_, rfl⟩ := Prod.mk.inj h
    omega
  | .inr c, h =>
    obtain ⟨_, h⟩ := Prod.mk.inj h
    obtain ⟨_, rfl⟩ := Prod.mk.inj h
    exact hk
theorem fG_le {s : ByteArray} {st : Bool} {k n kd q k2 : Nat} (hk : k ≤ s.size) (h : fG k (tagR s st k) = (n, kd, q, k2)) : k2 ≤ s.size := by
  generalize hv : tagR s st k = r at h
  match r, h with
  | .inl (u, kd, k'), h =>
    have := tagR_lt hv
    obtain ⟨_, h⟩ := Prod.mk.inj h
    obtain ⟨_, h⟩ := Prod.mk.inj h
    obtain ⟨_, rfl⟩ := Prod.mk.inj h
    omega
  | .inr c, h =>
    obtain ⟨_, h⟩ := Prod.mk.inj h
    obtain ⟨_, h⟩ := Prod.mk.inj h
    obtain ⟨_, rfl⟩ := Prod.mk.inj h
    exact hk
theorem plcE_fS {s : ByteArray} {st : Bool} {k kd : Nat} (hk : k ≤ s.size) : (fS (plcE k (bodyR s st k kd))).2 ≤ s.size := by
  generalize hb : bodyR s st k kd = r
  match r, hb with
  | .inl k', hb => exact (bodyR_lt hb).2
  | .inr c, _ => exact hk
theorem recM_le (s : ByteArray) (st : Bool) (most : Int) : ∀ (F g o k : Nat), k ≤ s.size → (fS (recM s st most F g o k)).2 ≤ s.size := by
  intro F
  induction F with
  | zero => intro g o k hk; exact hk
  | succ F ih =>
    intro g o k hk
    rw [recM_succ]
    split
    · split
      · exact hk
      · exact hk
    · split
      · exact hk
      · rename_i n kd k' ht
        have hb := tagR_lt ht
        split
        · split
          · exact hb.2.2.2.2
          · exact hk
        · split
          · exact hk
          · have hq : (fS (if kd = 3 then recM s st most F n (o + 1) k' else plcE k' (bodyR s st k' kd))).2 ≤ s.size := by
              split
              · exact ih _ _ _ hb.2.2.2.2
              · exact plcE_fS hb.2.2.2.2
            generalize (if kd = 3 then recM s st most F n (o + 1) k' else plcE k' (bodyR s st k' kd)) = r at hq
            match r, hq with
            | .inr x, hq => exact hq
            | .inl k2, hq => exact ih _ _ _ hq
theorem skipM_le {s : ByteArray} {st : Bool} {depth x y : Int} {k : Nat} (hk : k ≤ s.size) : (fS (skipM s st depth k x y)).2 ≤ s.size := by
  by_cases h24 : x < 1 ∨ 536870911 < x
  · unfold skipM; rw [if_pos h24]; exact hk
  · by_cases h23 : y < 0 ∨ 5 < y
    · unfold skipM; rw [if_neg h24, if_pos h23]; exact hk
    · obtain ⟨n, rfl⟩ : ∃ n : Nat, x = (n : Int) := ⟨x.toNat, by omega⟩
      obtain ⟨kd, rfl⟩ : ∃ n : Nat, y = (n : Int) := ⟨y.toNat, by omega⟩
      rw [skipM_eq hk (by omega) (by omega) (by omega)]
      split
      · exact hk
      · split
        · exact hk
        · split
          · exact recM_le _ _ _ _ _ _ _ hk
          · exact plcE_fS hk
theorem relC_fS {q k2 : Nat} {R : Nat ⊕ (Nat × Nat)} (h : RelC q k2 R) : fS R = (q, k2) := by
  match R, h with
  | .inl k', h => obtain ⟨rfl, rfl⟩ := h; rfl
  | .inr (c, k'), h => obtain ⟨rfl, _, rfl⟩ := h; rfl
section
variable {W : World} {b c : Nat} {v : Value} {s : ByteArray} {k : Nat} {st : Bool} (h : RdAt W b s k st) (hc : CuAt W c v s k st) (hB : Bs W v s) (hk : k ≤ s.size) (hs : s.size ≤ 1048576) (hne : ∀ a l cp, v = .slice (some a) l cp → 0 < s.size → a.block ≠ c ∧ cp ≤ 9223372036854775807)
include h in
theorem va_fun {e : Ending} {w : World} {r : (Nat × Nat) ⊕ Nat} {x : Int} {q k2 : Nat} (hf : fV k r = (x, q, k2)) (hq : VarA W b s st e w r) : e = .returned (.tuple #[.int .i64 x, .int .i64 (q : Int)]) ∧ Upd W b (rdO s st k2) w := by
  match r, hq with
  | .inl (u, k'), hq => cases hf; exact hq
  | .inr c, ⟨h1, _, n, h3⟩ => cases hf; exact ⟨h1, by rw [h3]; exact upd_same h n⟩
include hc in
theorem cv_fun {e : Ending} {w : World} {r : (Nat × Nat) ⊕ Nat} {x : Int} {q k2 : Nat} (hf : fV k r = (x, q, k2)) (hq : CvA W c v s st e w r) : e = .returned (.tuple #[.int .i64 x, .int .i64 (q : Int)]) ∧ Upd W c (cuO v s st k2) w := by
  match r, hq with
  | .inl (u, k'), hq => cases hf; exact hq
  | .inr n, ⟨h1, _, m, h3⟩ => cases hf; exact ⟨h1, by rw [h3]; exact upd_same hc m⟩
theorem rt_fun {e : Ending} {w : World} {r : (ByteArray × Nat) ⊕ Nat} {x : ByteArray} {q k2 : Nat} (hf : fT k r = (x, q, k2)) (hq : TxtA W b s k st e w r) : e = .returned (.tuple #[.string x, .int .i64 (q : Int)]) ∧ Upd W b (rdO s st k2) w := by
  match r, hq with
  | .inl (u, k'), hq => cases hf; exact hq
  | .inr c, ⟨h1, _, h3⟩ => cases hf; exact ⟨h1, h3⟩
theorem ct_fun {e : Ending} {w : World} {r : (ByteArray × Nat) ⊕ Nat} {x : ByteArray} {q k2 : Nat} (hf : fT k r = (x, q, k2)) (hq : CtA W c v s k st e w r) : e = .returned (.tuple #[.string x, .int .i64 (q : Int)]) ∧ Upd W c (cuO v s st k2) w := by
  match r, hq with
  | .inl (u, k'), hq => cases hf; exact hq
  | .inr n, ⟨h1, _, h3⟩ => cases hf; exact ⟨h1, h3⟩
include h in
theorem rg_fun {e : Ending} {w : World} {n kd q k2 : Nat} (hf : fG k (tagR s st k) = (n, kd, q, k2)) (hq : TagA W b s k st e w (vAt s st k)) : e = .returned (.tuple #[.int .i64 (n : Int), .int .i64 (kd : Int), .int .i64 (q : Int)]) ∧ Upd W b (rdO s st k2) w := by
  unfold tagR at hf
  generalize vAt s st k = r at hq hf
  match r, hq with
  | .inr n, ⟨h1, h2, m, h3⟩ => cases hf; exact ⟨h1, by rw [h3]; exact upd_same h m⟩
  | .inl (u, k'), hq =>
    replace hf : fG k (if u / 8 < 1 ∨ 536870911 < u / 8 then .inr 24 else if 5 < u % 8 then .inr 23 else .inl (u / 8, u % 8, k')) = (n, kd, q, k2) := hf
    unfold TagA at hq
    dsimp only at hq
    by_cases h24 : u / 8 < 1 ∨ 536870911 < u / 8
    · rw [if_pos h24] at hq hf
      cases hf
      exact hq
    · rw [if_neg h24] at hq hf
      by_cases h23 : 5 < u % 8
      · rw [if_pos h23] at hq hf
        cases hf
        exact hq
      · rw [if_neg h23] at hq hf
        cases hf
        exact hq
include hc in
theorem cg_fun {e : Ending} {w : World} {n kd q k2 : Nat} (hf : fG k (tagR s st k) = (n, kd, q, k2)) (hq : CgA W c v s k st e w (vAt s st k)) : e = .returned (.tuple #[.int .i64 (n : Int), .int .i64 (kd : Int), .int .i64 (q : Int)]) ∧ Upd W c (cuO v s st k2) w := by
  rcases cg_uni hc hq with ⟨p, _, htr, he, hU⟩ | ⟨n1, kd1, k1, htr, he, hU⟩
  · rw [htr] at hf
    cases hf
    exact ⟨he, hU⟩
  · rw [htr] at hf
    cases hf
    exact ⟨he, hU⟩
theorem rs_fun {e : Ending} {w : World} {R : Nat ⊕ (Nat × Nat)} {q k2 : Nat} (hf : fS R = (q, k2)) (hq : SkA W b s st e w R) : e = .returned (.int .i64 (q : Int)) ∧ Upd W b (rdO s st k2) w := by
  match R, hq with
  | .inl k', hq => cases hf; exact hq
  | .inr (c, p), ⟨h1, _, h3⟩ => cases hf; exact ⟨h1, h3⟩
theorem cs_fun {e : Ending} {w : World} {R : Nat ⊕ (Nat × Nat)} {q k2 : Nat} (hf : fS R = (q, k2)) (hq : CsA W c v s st e w R) : e = .returned (.int .i64 (q : Int)) ∧ Upd W c (cuO v s st k2) w := by
  obtain ⟨q1, k1, h1, h2, h3⟩ := hq
  rw [relC_fS h3] at hf
  cases hf
  exact ⟨h1, h2⟩
end
set_option maxRecDepth 100000 in
theorem rAt_any {W : World} {b k : Nat} {s : ByteArray} {st : Bool} (h : RdAt W b s k st) :
    Calls Tryd.prog 46 #[.pointer (some ⟨b, 0, none⟩)] W fun e W' => e = .returned (.int .i64 (k : Int)) ∧ W' = W := by
  obtain ⟨d0, d1, d2, _⟩ := cells3_of h
  clear h
  go_enter Tryd.func46, Tryd.ntmps46
  go_wp2
  go_ret
  exact ⟨rfl, rfl⟩
/-- A reader, a cursor and an operation's box in memory. -/
structure St2 (W : World) (b c : Nat) (bx o1 o2 : Obj) (w : World) : Prop where
  os : w.os = W.os
  tape : w.tape = W.tape
  output : w.output = W.output
  size : W.heap.size < w.heap.size
  rb : w.heap[b]? = some o1
  rc : w.heap[c]? = some o2
  box : w.heap[W.heap.size]? = some bx
  far : ∀ q, q < W.heap.size → q ≠ b → q ≠ c → w.heap[q]? = W.heap[q]?
theorem St2.start {W : World} {b c : Nat} {bx o1 o2 : Obj} (h1 : W.heap[b]? = some o1) (h2 : W.heap[c]? = some o2) : St2 W b c bx o1 o2 (W.alloc bx) := by
  have hb := (Array.getElem?_eq_some_iff.1 h1).1
  have hc := (Array.getElem?_eq_some_iff.1 h2).1
  have hB : Below W.heap.size W (W.alloc bx) := (Below.refl _ _).alloc (Nat.le_refl _) _
  exact ⟨rfl, rfl, rfl, by rw [World.size_alloc]; omega, (hB.block b hb).trans h1, (hB.block c hc).trans h2, heap_alloc_new _ _, fun q hq _ _ => hB.block q hq⟩
theorem St2.updB {W w w' : World} {b c : Nat} {bx o1 o2 o : Obj} (h : St2 W b c bx o1 o2 w) (hU : Upd w b o w') (hbc : b ≠ c) (hb : b < W.heap.size) : St2 W b c bx o o2 w' :=
  ⟨hU.os.trans h.os, hU.tape.trans h.tape, hU.output.trans h.output, Nat.lt_of_lt_of_le h.size hU.size, hU.at', (hU.far c (Array.getElem?_eq_some_iff.1 h.rc).1 (fun e => hbc e.symm)).trans h.rc, (hU.far _ h.size (by omega)).trans h.box, fun q hq h1 h2 => (hU.far q (Nat.lt_trans hq h.size) h1).trans (h.far q hq h1 h2)⟩
theorem St2.updC {W w w' : World} {b c : Nat} {bx o1 o2 o : Obj} (h : St2 W b c bx o1 o2 w) (hU : Upd w c o w') (hbc : b ≠ c) (hc : c < W.heap.size) : St2 W b c bx o1 o w' :=
  ⟨hU.os.trans h.os, hU.tape.trans h.tape, hU.output.trans h.output, Nat.lt_of_lt_of_le h.size hU.size, (hU.far b (Array.getElem?_eq_some_iff.1 h.rb).1 hbc).trans h.rb, hU.at', (hU.far _ h.size (by omega)).trans h.box, fun q hq h1 h2 => (hU.far q (Nat.lt_trans hq h.size) h2).trans (h.far q hq h1 h2)⟩
theorem St2.drewN {W w : World} {b c : Nat} {bx o1 o2 : Obj} (h : St2 W b c bx o1 o2 w) (n : Nat) : St2 W b c bx o1 o2 (w.drewN n) := ⟨h.os, h.tape, h.output, h.size, h.rb, h.rc, h.box, h.far⟩
theorem St2.bs {W w : World} {b c : Nat} {bx o1 o2 : Obj} {v : Value} {s : ByteArray} (h : St2 W b c bx o1 o2 w) (hB : Bs W v s) (hne : ∀ a l cp, v = .slice (some a) l cp → 0 < s.size → a.block ≠ c ∧ cp ≤ 9223372036854775807) (hnb : ∀ a l cp, v = .slice (some a) l cp → 0 < s.size → a.block ≠ b) : Bs w v s := by
  obtain ⟨a, cp, rfl, hle, h3⟩ := hB
  refine ⟨a, cp, rfl, hle, fun hp => ?_⟩
  obtain ⟨g, off, rfl, hg, hc⟩ := h3 hp
  refine ⟨g, off, rfl, Nat.lt_trans hg h.size, fun i hi => ?_⟩
  rw [← hc i hi]
  unfold World.cell?
  rw [h.far g hg (hnb _ _ _ rfl hp) (hne _ _ _ rfl hp).1]
end Go.Proofs.YtgbadnbhgpnppaaDoor
namespace Go.Proofs.YtgbadnbhgpnppaaDoor
open Go.RowKit
attribute [local go_sem ↓] Go.wp_at_zero Go.wp_at_succ

/-- What step leaves. -/
def SpA (W : World) (b c : Nat) (v : Value) (s : ByteArray) (st : Bool) (bx : Obj) (e : Ending) (w : World) : Prop := e = .returned (.bool true) ∧ ∃ k', k' ≤ s.size ∧ St2 W b c bx (rdO s st k') (cuO v s st k') w
set_option maxRecDepth 100000 in
set_option maxHeartbeats 4000000 in
theorem step_varint {W : World} {b c : Nat} {v : Value} {s : ByteArray} {k : Nat} {st : Bool} {A B C : Int} (h : RdAt W b s k st) (hc : CuAt W c v s k st) (hbc : b ≠ c) (hB : Bs W v s) (hk : k ≤ s.size) (hs : s.size ≤ 1048576) (hne : ∀ a l cp, v = .slice (some a) l cp → 0 < s.size → a.block ≠ c ∧ cp ≤ 9223372036854775807) (hnb : ∀ a l cp, v = .slice (some a) l cp → 0 < s.size → a.block ≠ b) :
    Calls Tryd.prog 18 #[.pointer (some ⟨b, 0, none⟩), .pointer (some ⟨c, 0, none⟩), .agg #[.int .i64 2, .int .i64 A, .int .i64 B, .int .i64 C]] W fun e w => SpA W b c v s st (.cells #[.int .i64 2, .int .i64 A, .int .i64 B, .int .i64 C] 50) e w := by
  have hbl := (Array.getElem?_eq_some_iff.1 h).1
  have hcl := (Array.getElem?_eq_some_iff.1 hc).1
  have hS0 : St2 W b c (.cells #[.int .i64 2, .int .i64 A, .int .i64 B, .int .i64 C] 50) (rdO s st k) (cuO v s st k) (W.alloc (.cells #[.int .i64 2, .int .i64 A, .int .i64 B, .int .i64 C] 50)) := St2.start h hc
  obtain ⟨x, q, k2, hf⟩ : ∃ x q k2, fV k (vAt s st k) = (x, q, k2) := ⟨_, _, _, rfl⟩
  have Hk2 : Hid (k2 ≤ s.size) := fV_le hk hf
  have Hr : Hid (∀ w, St2 W b c (.cells #[.int .i64 2, .int .i64 A, .int .i64 B, .int .i64 C] 50) (rdO s st k) (cuO v s st k) w → Calls Tryd.prog 36 #[.pointer (some ⟨b, 0, none⟩)] w fun e w' => e = .returned (.tuple #[.int .i64 x, .int .i64 (q : Int)]) ∧ St2 W b c (.cells #[.int .i64 2, .int .i64 A, .int .i64 B, .int .i64 C] 50) (rdO s st k2) (cuO v s st k) w') := fun w hS => (rVarint_any hS.rb hk hs).mono fun e w' hq => by
    have q := va_fun hS.rb hf hq
    exact ⟨q.1, hS.updB q.2 hbc hbl⟩
  have Hc : Hid (∀ w, St2 W b c (.cells #[.int .i64 2, .int .i64 A, .int .i64 B, .int .i64 C] 50) (rdO s st k2) (cuO v s st k) w → Calls Tryd.prog 37 #[.pointer (some ⟨c, 0, none⟩)] w fun e w' => e = .returned (.tuple #[.int .i64 x, .int .i64 (q : Int)]) ∧ St2 W b c (.cells #[.int .i64 2, .int .i64 A, .int .i64 B, .int .i64 C] 50) (rdO s st k2) (cuO v s st k2) w') := fun w hS => (cVarint_any hS.rc (hS.bs hB hne hnb) hk hs).mono fun e w' hq => by
    have q := cv_fun hS.rc hf hq
    exact ⟨q.1, hS.updC q.2 hbc hcl⟩
  have HS0 := hide hS0
  clear hS0 h hc hB hne hnb hf
  go_enter Tryd.func18, Tryd.ntmps18
  go_wp2_with fail
  refine (unhide Hr _ (unhide HS0)).mono ?_
  rintro e w1 ⟨rfl, hS1⟩
  obtain ⟨x0, x1, x2, x3, xf⟩ := cells4_of hS1.box
  have HS1 := hide hS1
  clear hS1 HS0 Hr
  go_wp2_with fail
  refine (unhide Hc w1 (unhide HS1)).mono ?_
  rintro e w2 ⟨rfl, hS2⟩
  have HS2 := hide hS2
  clear hS2 HS1 Hc x0 x1 x2 x3 xf
  have hSt := unhide HS2
  obtain ⟨y0, y1, y2, y3, yf⟩ := cells4_of hSt.rc
  have Hat := hide (rAt_any (W := w2) (b := b) (s := s) (k := k2) (st := st) hSt.rb)
  have hmore := more_any (W := w2) (b := b) (s := s) (k := k2) (st := st) hSt.rb
  obtain ⟨mr, hmr⟩ : ∃ mr, decide (k2 < s.size) = mr := ⟨_, rfl⟩
  have Hmr := hide hmr
  rw [hmr] at hmore
  have Hmore := hide hmore
  clear hSt hmr hmore
  go_wp2_with fail
  refine (unhide Hat).mono ?_
  rintro e w3 ⟨rfl, hw⟩
  obtain rfl : w2 = w3 := hw.symm
  clear hw Hat
  go_wp2_with fail
  refine (unhide Hmore).mono ?_
  rintro e w4 ⟨rfl, nd, rfl⟩
  clear Hmore
  go_wp2
  go_quiet (fail)
  go_wp2
  go_ret
  exact ⟨by first | rfl | (simp; exact (unhide Hmr).symm), k2, unhide Hk2, by first | exact (unhide HS2).drewN _ | exact ((unhide HS2).drewN _).drewN _⟩
set_option maxRecDepth 100000 in
set_option maxHeartbeats 4000000 in
theorem step_fixed4 {W : World} {b c : Nat} {v : Value} {s : ByteArray} {k : Nat} {st : Bool} {B C : Int} (h : RdAt W b s k st) (hc : CuAt W c v s k st) (hbc : b ≠ c) (hB : Bs W v s) (hk : k ≤ s.size) (hs : s.size ≤ 1048576) (hne : ∀ a l cp, v = .slice (some a) l cp → 0 < s.size → a.block ≠ c ∧ cp ≤ 9223372036854775807) (hnb : ∀ a l cp, v = .slice (some a) l cp → 0 < s.size → a.block ≠ b) :
    Calls Tryd.prog 18 #[.pointer (some ⟨b, 0, none⟩), .pointer (some ⟨c, 0, none⟩), .agg #[.int .i64 3, .int .i64 4, .int .i64 B, .int .i64 C]] W fun e w => SpA W b c v s st (.cells #[.int .i64 3, .int .i64 4, .int .i64 B, .int .i64 C] 50) e w := by
  have hbl := (Array.getElem?_eq_some_iff.1 h).1
  have hcl := (Array.getElem?_eq_some_iff.1 hc).1
  have hS0 : St2 W b c (.cells #[.int .i64 3, .int .i64 4, .int .i64 B, .int .i64 C] 50) (rdO s st k) (cuO v s st k) (W.alloc (.cells #[.int .i64 3, .int .i64 4, .int .i64 B, .int .i64 C] 50)) := St2.start h hc
  obtain ⟨x, q, k2, hf⟩ : ∃ x q k2, fV k (xAt s k 4) = (x, q, k2) := ⟨_, _, _, rfl⟩
  have Hk2 : Hid (k2 ≤ s.size) := fX_le hk hf
  have Hr : Hid (∀ w, St2 W b c (.cells #[.int .i64 3, .int .i64 4, .int .i64 B, .int .i64 C] 50) (rdO s st k) (cuO v s st k) w → Calls Tryd.prog 38 #[.pointer (some ⟨b, 0, none⟩), .int .i64 4] w fun e w' => e = .returned (.tuple #[.int .i64 x, .int .i64 (q : Int)]) ∧ St2 W b c (.cells #[.int .i64 3, .int .i64 4, .int .i64 B, .int .i64 C] 50) (rdO s st k2) (cuO v s st k) w') := fun w hS => (rFixed_any (n := 4) hS.rb hs hk (by decide)).mono fun e w' hq => by
    have q := va_fun hS.rb hf hq
    exact ⟨q.1, hS.updB q.2 hbc hbl⟩
  have Hc : Hid (∀ w, St2 W b c (.cells #[.int .i64 3, .int .i64 4, .int .i64 B, .int .i64 C] 50) (rdO s st k2) (cuO v s st k) w → Calls Tryd.prog 39 #[.pointer (some ⟨c, 0, none⟩), .int .i64 4] w fun e w' => e = .returned (.tuple #[.int .i64 x, .int .i64 (q : Int)]) ∧ St2 W b c (.cells #[.int .i64 3, .int .i64 4, .int .i64 B, .int .i64 C] 50) (rdO s st k2) (cuO v s st k2) w') := fun w hS => (cFixed_any (n := 4) hS.rc (hS.bs hB hne hnb) hk hs (by decide)).mono fun e w' hq => by
    have q := cv_fun hS.rc hf hq
    exact ⟨q.1, hS.updC q.2 hbc hcl⟩
  have HS0 := hide hS0
  clear hS0 h hc hB hne hnb hf
  go_enter Tryd.func18, Tryd.ntmps18
  go_wp2_with fail
  refine (unhide Hr _ (unhide HS0)).mono ?_
  rintro e w1 ⟨rfl, hS1⟩
  obtain ⟨x0, x1, x2, x3, xf⟩ := cells4_of hS1.box
  have HS1 := hide hS1
  clear hS1 HS0 Hr
  go_wp2_with fail
  refine (unhide Hc w1 (unhide HS1)).mono ?_
  rintro e w2 ⟨rfl, hS2⟩
  have HS2 := hide hS2
  clear hS2 HS1 Hc x0 x1 x2 x3 xf
  have hSt := unhide HS2
  obtain ⟨y0, y1, y2, y3, yf⟩ := cells4_of hSt.rc
  have Hat := hide (rAt_any (W := w2) (b := b) (s := s) (k := k2) (st := st) hSt.rb)
  have hmore := more_any (W := w2) (b := b) (s := s) (k := k2) (st := st) hSt.rb
  obtain ⟨mr, hmr⟩ : ∃ mr, decide (k2 < s.size) = mr := ⟨_, rfl⟩
  have Hmr := hide hmr
  rw [hmr] at hmore
  have Hmore := hide hmore
  clear hSt hmr hmore
  go_wp2_with fail
  refine (unhide Hat).mono ?_
  rintro e w3 ⟨rfl, hw⟩
  obtain rfl : w2 = w3 := hw.symm
  clear hw Hat
  go_wp2_with fail
  refine (unhide Hmore).mono ?_
  rintro e w4 ⟨rfl, nd, rfl⟩
  clear Hmore
  go_wp2
  go_quiet (fail)
  go_wp2
  go_ret
  exact ⟨by first | rfl | (simp; exact (unhide Hmr).symm), k2, unhide Hk2, by first | exact (unhide HS2).drewN _ | exact ((unhide HS2).drewN _).drewN _⟩
set_option maxRecDepth 100000 in
set_option maxHeartbeats 4000000 in
theorem step_fixed8 {W : World} {b c : Nat} {v : Value} {s : ByteArray} {k : Nat} {st : Bool} {B C : Int} (h : RdAt W b s k st) (hc : CuAt W c v s k st) (hbc : b ≠ c) (hB : Bs W v s) (hk : k ≤ s.size) (hs : s.size ≤ 1048576) (hne : ∀ a l cp, v = .slice (some a) l cp → 0 < s.size → a.block ≠ c ∧ cp ≤ 9223372036854775807) (hnb : ∀ a l cp, v = .slice (some a) l cp → 0 < s.size → a.block ≠ b) :
    Calls Tryd.prog 18 #[.pointer (some ⟨b, 0, none⟩), .pointer (some ⟨c, 0, none⟩), .agg #[.int .i64 3, .int .i64 8, .int .i64 B, .int .i64 C]] W fun e w => SpA W b c v s st (.cells #[.int .i64 3, .int .i64 8, .int .i64 B, .int .i64 C] 50) e w := by
  have hbl := (Array.getElem?_eq_some_iff.1 h).1
  have hcl := (Array.getElem?_eq_some_iff.1 hc).1
  have hS0 : St2 W b c (.cells #[.int .i64 3, .int .i64 8, .int .i64 B, .int .i64 C] 50) (rdO s st k) (cuO v s st k) (W.alloc (.cells #[.int .i64 3, .int .i64 8, .int .i64 B, .int .i64 C] 50)) := St2.start h hc
  obtain ⟨x, q, k2, hf⟩ : ∃ x q k2, fV k (xAt s k 8) = (x, q, k2) := ⟨_, _, _, rfl⟩
  have Hk2 : Hid (k2 ≤ s.size) := fX_le hk hf
  have Hr : Hid (∀ w, St2 W b c (.cells #[.int .i64 3, .int .i64 8, .int .i64 B, .int .i64 C] 50) (rdO s st k) (cuO v s st k) w → Calls Tryd.prog 38 #[.pointer (some ⟨b, 0, none⟩), .int .i64 8] w fun e w' => e = .returned (.tuple #[.int .i64 x, .int .i64 (q : Int)]) ∧ St2 W b c (.cells #[.int .i64 3, .int .i64 8, .int .i64 B, .int .i64 C] 50) (rdO s st k2) (cuO v s st k) w') := fun w hS => (rFixed_any (n := 8) hS.rb hs hk (by decide)).mono fun e w' hq => by
    have q := va_fun hS.rb hf hq
    exact ⟨q.1, hS.updB q.2 hbc hbl⟩
  have Hc : Hid (∀ w, St2 W b c (.cells #[.int .i64 3, .int .i64 8, .int .i64 B, .int .i64 C] 50) (rdO s st k2) (cuO v s st k) w → Calls Tryd.prog 39 #[.pointer (some ⟨c, 0, none⟩), .int .i64 8] w fun e w' => e = .returned (.tuple #[.int .i64 x, .int .i64 (q : Int)]) ∧ St2 W b c (.cells #[.int .i64 3, .int .i64 8, .int .i64 B, .int .i64 C] 50) (rdO s st k2) (cuO v s st k2) w') := fun w hS => (cFixed_any (n := 8) hS.rc (hS.bs hB hne hnb) hk hs (by decide)).mono fun e w' hq => by
    have q := cv_fun hS.rc hf hq
    exact ⟨q.1, hS.updC q.2 hbc hcl⟩
  have HS0 := hide hS0
  clear hS0 h hc hB hne hnb hf
  go_enter Tryd.func18, Tryd.ntmps18
  go_wp2_with fail
  refine (unhide Hr _ (unhide HS0)).mono ?_
  rintro e w1 ⟨rfl, hS1⟩
  obtain ⟨x0, x1, x2, x3, xf⟩ := cells4_of hS1.box
  have HS1 := hide hS1
  clear hS1 HS0 Hr
  go_wp2_with fail
  refine (unhide Hc w1 (unhide HS1)).mono ?_
  rintro e w2 ⟨rfl, hS2⟩
  have HS2 := hide hS2
  clear hS2 HS1 Hc x0 x1 x2 x3 xf
  have hSt := unhide HS2
  obtain ⟨y0, y1, y2, y3, yf⟩ := cells4_of hSt.rc
  have Hat := hide (rAt_any (W := w2) (b := b) (s := s) (k := k2) (st := st) hSt.rb)
  have hmore := more_any (W := w2) (b := b) (s := s) (k := k2) (st := st) hSt.rb
  obtain ⟨mr, hmr⟩ : ∃ mr, decide (k2 < s.size) = mr := ⟨_, rfl⟩
  have Hmr := hide hmr
  rw [hmr] at hmore
  have Hmore := hide hmore
  clear hSt hmr hmore
  go_wp2_with fail
  refine (unhide Hat).mono ?_
  rintro e w3 ⟨rfl, hw⟩
  obtain rfl : w2 = w3 := hw.symm
  clear hw Hat
  go_wp2_with fail
  refine (unhide Hmore).mono ?_
  rintro e w4 ⟨rfl, nd, rfl⟩
  clear Hmore
  go_wp2
  go_quiet (fail)
  go_wp2
  go_ret
  exact ⟨by first | rfl | (simp; exact (unhide Hmr).symm), k2, unhide Hk2, by first | exact (unhide HS2).drewN _ | exact ((unhide HS2).drewN _).drewN _⟩
set_option maxRecDepth 100000 in
set_option maxHeartbeats 4000000 in
theorem step_fixedno {W : World} {b c : Nat} {v : Value} {s : ByteArray} {k : Nat} {st : Bool} {A B C : Int} (h : RdAt W b s k st) (hc : CuAt W c v s k st) (hbc : b ≠ c) (hB : Bs W v s) (hk : k ≤ s.size) (hs : s.size ≤ 1048576) (hne : ∀ a l cp, v = .slice (some a) l cp → 0 < s.size → a.block ≠ c ∧ cp ≤ 9223372036854775807) (hnb : ∀ a l cp, v = .slice (some a) l cp → 0 < s.size → a.block ≠ b) (h4 : A ≠ 4) (h8 : A ≠ 8) :
    Calls Tryd.prog 18 #[.pointer (some ⟨b, 0, none⟩), .pointer (some ⟨c, 0, none⟩), .agg #[.int .i64 3, .int .i64 A, .int .i64 B, .int .i64 C]] W fun e w => SpA W b c v s st (.cells #[.int .i64 3, .int .i64 A, .int .i64 B, .int .i64 C] 50) e w := by
  have hbl := (Array.getElem?_eq_some_iff.1 h).1
  have hcl := (Array.getElem?_eq_some_iff.1 hc).1
  have hS0 : St2 W b c (.cells #[.int .i64 3, .int .i64 A, .int .i64 B, .int .i64 C] 50) (rdO s st k) (cuO v s st k) (W.alloc (.cells #[.int .i64 3, .int .i64 A, .int .i64 B, .int .i64 C] 50)) := St2.start h hc
  have Hk2 : Hid (k ≤ s.size) := hk
  have _ := hB
  have _ := hs
  have _ := hne
  have _ := hnb
  have Hr : Hid (∀ w, St2 W b c (.cells #[.int .i64 3, .int .i64 A, .int .i64 B, .int .i64 C] 50) (rdO s st k) (cuO v s st k) w → Calls Tryd.prog 38 #[.pointer (some ⟨b, 0, none⟩), .int .i64 A] w fun e w' => e = .returned (.tuple #[.int .i64 0, .int .i64 1]) ∧ St2 W b c (.cells #[.int .i64 3, .int .i64 A, .int .i64 B, .int .i64 C] 50) (rdO s st k) (cuO v s st k) w') := fun w hS => (rFixed_bad (s := s) (st := st) h4 h8).mono fun e w' hq => by
    have q := va_fun (k := k) (x := 0) (q := 1) (k2 := k) hS.rb rfl hq
    exact ⟨q.1, hS.updB q.2 hbc hbl⟩
  have d4 : (A == 4) = false := beq_eq_false_iff_ne.2 h4
  have d8 : (A == 8) = false := beq_eq_false_iff_ne.2 h8
  have HS0 := hide hS0
  clear hS0 h hc hB hne hnb h4 h8
  go_enter Tryd.func18, Tryd.ntmps18
  go_wp2_with fail
  refine (unhide Hr _ (unhide HS0)).mono ?_
  rintro e w2 ⟨rfl, hS2⟩
  obtain ⟨x0, x1, x2, x3, xf⟩ := cells4_of hS2.box
  have HS2 := hide hS2
  clear hS2 HS0 Hr
  have hSt := unhide HS2
  obtain ⟨y0, y1, y2, y3, yf⟩ := cells4_of hSt.rc
  have Hat := hide (rAt_any (W := w2) (b := b) (s := s) (k := k) (st := st) hSt.rb)
  have hmore := more_any (W := w2) (b := b) (s := s) (k := k) (st := st) hSt.rb
  obtain ⟨mr, hmr⟩ : ∃ mr, decide (k < s.size) = mr := ⟨_, rfl⟩
  have Hmr := hide hmr
  rw [hmr] at hmore
  have Hmore := hide hmore
  clear hSt hmr hmore
  go_wp2_with fail
  refine (unhide Hat).mono ?_
  rintro e w3 ⟨rfl, hw⟩
  obtain rfl : w2 = w3 := hw.symm
  clear hw Hat
  go_wp2_with fail
  refine (unhide Hmore).mono ?_
  rintro e w4 ⟨rfl, nd, rfl⟩
  clear Hmore
  go_wp2
  go_quiet (fail)
  go_wp2
  go_ret
  exact ⟨by first | rfl | (simp; exact (unhide Hmr).symm), k, unhide Hk2, by first | exact (unhide HS2).drewN _ | exact ((unhide HS2).drewN _).drewN _⟩
set_option maxRecDepth 100000 in
set_option maxHeartbeats 4000000 in
theorem step_text {W : World} {b c : Nat} {v : Value} {s : ByteArray} {k : Nat} {st : Bool} {A B C : Int} (h : RdAt W b s k st) (hc : CuAt W c v s k st) (hbc : b ≠ c) (hB : Bs W v s) (hk : k ≤ s.size) (hs : s.size ≤ 1048576) (hne : ∀ a l cp, v = .slice (some a) l cp → 0 < s.size → a.block ≠ c ∧ cp ≤ 9223372036854775807) (hnb : ∀ a l cp, v = .slice (some a) l cp → 0 < s.size → a.block ≠ b) :
    Calls Tryd.prog 18 #[.pointer (some ⟨b, 0, none⟩), .pointer (some ⟨c, 0, none⟩), .agg #[.int .i64 4, .int .i64 A, .int .i64 B, .int .i64 C]] W fun e w => SpA W b c v s st (.cells #[.int .i64 4, .int .i64 A, .int .i64 B, .int .i64 C] 50) e w := by
  have hbl := (Array.getElem?_eq_some_iff.1 h).1
  have hcl := (Array.getElem?_eq_some_iff.1 hc).1
  have hS0 : St2 W b c (.cells #[.int .i64 4, .int .i64 A, .int .i64 B, .int .i64 C] 50) (rdO s st k) (cuO v s st k) (W.alloc (.cells #[.int .i64 4, .int .i64 A, .int .i64 B, .int .i64 C] 50)) := St2.start h hc
  obtain ⟨x, q, k2, hf⟩ : ∃ x q k2, fT k (tAt s st k) = (x, q, k2) := ⟨_, _, _, rfl⟩
  have Hk2 : Hid (k2 ≤ s.size) := fT_le hk hf
  have Hr : Hid (∀ w, St2 W b c (.cells #[.int .i64 4, .int .i64 A, .int .i64 B, .int .i64 C] 50) (rdO s st k) (cuO v s st k) w → Calls Tryd.prog 40 #[.pointer (some ⟨b, 0, none⟩)] w fun e w' => e = .returned (.tuple #[.string x, .int .i64 (q : Int)]) ∧ St2 W b c (.cells #[.int .i64 4, .int .i64 A, .int .i64 B, .int .i64 C] 50) (rdO s st k2) (cuO v s st k) w') := fun w hS => (rText_any hS.rb hk hs).mono fun e w' hq => by
    have q := rt_fun hf hq
    exact ⟨q.1, hS.updB q.2 hbc hbl⟩
  have Hc : Hid (∀ w, St2 W b c (.cells #[.int .i64 4, .int .i64 A, .int .i64 B, .int .i64 C] 50) (rdO s st k2) (cuO v s st k) w → Calls Tryd.prog 41 #[.pointer (some ⟨c, 0, none⟩)] w fun e w' => e = .returned (.tuple #[.string x, .int .i64 (q : Int)]) ∧ St2 W b c (.cells #[.int .i64 4, .int .i64 A, .int .i64 B, .int .i64 C] 50) (rdO s st k2) (cuO v s st k2) w') := fun w hS => (cText_any hS.rc (hS.bs hB hne hnb) hk hs hne).mono fun e w' hq => by
    have q := ct_fun hf hq
    exact ⟨q.1, hS.updC q.2 hbc hcl⟩
  have HS0 := hide hS0
  clear hS0 h hc hB hne hnb hf
  go_enter Tryd.func18, Tryd.ntmps18
  go_wp2_with fail
  refine (unhide Hr _ (unhide HS0)).mono ?_
  rintro e w1 ⟨rfl, hS1⟩
  obtain ⟨x0, x1, x2, x3, xf⟩ := cells4_of hS1.box
  have HS1 := hide hS1
  clear hS1 HS0 Hr
  go_wp2_with fail
  refine (unhide Hc w1 (unhide HS1)).mono ?_
  rintro e w2 ⟨rfl, hS2⟩
  have HS2 := hide hS2
  clear hS2 HS1 Hc x0 x1 x2 x3 xf
  have hSt := unhide HS2
  obtain ⟨y0, y1, y2, y3, yf⟩ := cells4_of hSt.rc
  have Hat := hide (rAt_any (W := w2) (b := b) (s := s) (k := k2) (st := st) hSt.rb)
  have hmore := more_any (W := w2) (b := b) (s := s) (k := k2) (st := st) hSt.rb
  obtain ⟨mr, hmr⟩ : ∃ mr, decide (k2 < s.size) = mr := ⟨_, rfl⟩
  have Hmr := hide hmr
  rw [hmr] at hmore
  have Hmore := hide hmore
  clear hSt hmr hmore
  go_wp2_with fail
  refine (unhide Hat).mono ?_
  rintro e w3 ⟨rfl, hw⟩
  obtain rfl : w2 = w3 := hw.symm
  clear hw Hat
  go_wp2_with fail
  refine (unhide Hmore).mono ?_
  rintro e w4 ⟨rfl, nd, rfl⟩
  clear Hmore
  go_wp2
  go_quiet (fail)
  go_wp2
  go_ret
  exact ⟨by first | rfl | (simp; exact (unhide Hmr).symm), k2, unhide Hk2, by first | exact (unhide HS2).drewN _ | exact ((unhide HS2).drewN _).drewN _⟩
set_option maxRecDepth 100000 in
set_option maxHeartbeats 4000000 in
theorem step_tag {W : World} {b c : Nat} {v : Value} {s : ByteArray} {k : Nat} {st : Bool} {A B C : Int} (h : RdAt W b s k st) (hc : CuAt W c v s k st) (hbc : b ≠ c) (hB : Bs W v s) (hk : k ≤ s.size) (hs : s.size ≤ 1048576) (hne : ∀ a l cp, v = .slice (some a) l cp → 0 < s.size → a.block ≠ c ∧ cp ≤ 9223372036854775807) (hnb : ∀ a l cp, v = .slice (some a) l cp → 0 < s.size → a.block ≠ b) :
    Calls Tryd.prog 18 #[.pointer (some ⟨b, 0, none⟩), .pointer (some ⟨c, 0, none⟩), .agg #[.int .i64 5, .int .i64 A, .int .i64 B, .int .i64 C]] W fun e w => SpA W b c v s st (.cells #[.int .i64 5, .int .i64 A, .int .i64 B, .int .i64 C] 50) e w := by
  have hbl := (Array.getElem?_eq_some_iff.1 h).1
  have hcl := (Array.getElem?_eq_some_iff.1 hc).1
  have hS0 : St2 W b c (.cells #[.int .i64 5, .int .i64 A, .int .i64 B, .int .i64 C] 50) (rdO s st k) (cuO v s st k) (W.alloc (.cells #[.int .i64 5, .int .i64 A, .int .i64 B, .int .i64 C] 50)) := St2.start h hc
  obtain ⟨n, kd, q, k2, hf⟩ : ∃ n kd q k2, fG k (tagR s st k) = (n, kd, q, k2) := ⟨_, _, _, _, rfl⟩
  have Hk2 : Hid (k2 ≤ s.size) := fG_le hk hf
  have Hr : Hid (∀ w, St2 W b c (.cells #[.int .i64 5, .int .i64 A, .int .i64 B, .int .i64 C] 50) (rdO s st k) (cuO v s st k) w → Calls Tryd.prog 42 #[.pointer (some ⟨b, 0, none⟩)] w fun e w' => e = .returned (.tuple #[.int .i64 (n : Int), .int .i64 (kd : Int), .int .i64 (q : Int)]) ∧ St2 W b c (.cells #[.int .i64 5, .int .i64 A, .int .i64 B, .int .i64 C] 50) (rdO s st k2) (cuO v s st k) w') := fun w hS => (rTag_any hS.rb hk hs).mono fun e w' hq => by
    have q := rg_fun hS.rb hf hq
    exact ⟨q.1, hS.updB q.2 hbc hbl⟩
  have Hc : Hid (∀ w, St2 W b c (.cells #[.int .i64 5, .int .i64 A, .int .i64 B, .int .i64 C] 50) (rdO s st k2) (cuO v s st k) w → Calls Tryd.prog 43 #[.pointer (some ⟨c, 0, none⟩)] w fun e w' => e = .returned (.tuple #[.int .i64 (n : Int), .int .i64 (kd : Int), .int .i64 (q : Int)]) ∧ St2 W b c (.cells #[.int .i64 5, .int .i64 A, .int .i64 B, .int .i64 C] 50) (rdO s st k2) (cuO v s st k2) w') := fun w hS => (cTag_any hS.rc (hS.bs hB hne hnb) hk hs).mono fun e w' hq => by
    have q := cg_fun hS.rc hf hq
    exact ⟨q.1, hS.updC q.2 hbc hcl⟩
  have HS0 := hide hS0
  clear hS0 h hc hB hne hnb hf
  go_enter Tryd.func18, Tryd.ntmps18
  go_wp2_with fail
  refine (unhide Hr _ (unhide HS0)).mono ?_
  rintro e w1 ⟨rfl, hS1⟩
  obtain ⟨x0, x1, x2, x3, xf⟩ := cells4_of hS1.box
  have HS1 := hide hS1
  clear hS1 HS0 Hr
  go_wp2_with fail
  refine (unhide Hc w1 (unhide HS1)).mono ?_
  rintro e w2 ⟨rfl, hS2⟩
  have HS2 := hide hS2
  clear hS2 HS1 Hc x0 x1 x2 x3 xf
  have hSt := unhide HS2
  obtain ⟨y0, y1, y2, y3, yf⟩ := cells4_of hSt.rc
  have Hat := hide (rAt_any (W := w2) (b := b) (s := s) (k := k2) (st := st) hSt.rb)
  have hmore := more_any (W := w2) (b := b) (s := s) (k := k2) (st := st) hSt.rb
  obtain ⟨mr, hmr⟩ : ∃ mr, decide (k2 < s.size) = mr := ⟨_, rfl⟩
  have Hmr := hide hmr
  rw [hmr] at hmore
  have Hmore := hide hmore
  clear hSt hmr hmore
  go_wp2_with fail
  refine (unhide Hat).mono ?_
  rintro e w3 ⟨rfl, hw⟩
  obtain rfl : w2 = w3 := hw.symm
  clear hw Hat
  go_wp2_with fail
  refine (unhide Hmore).mono ?_
  rintro e w4 ⟨rfl, nd, rfl⟩
  clear Hmore
  go_wp2
  go_quiet (fail)
  go_wp2
  go_ret
  exact ⟨by first | rfl | (simp; exact (unhide Hmr).symm), k2, unhide Hk2, by first | exact (unhide HS2).drewN _ | exact ((unhide HS2).drewN _).drewN _⟩
set_option maxRecDepth 100000 in
set_option maxHeartbeats 4000000 in
theorem step_skip {W : World} {b c : Nat} {v : Value} {s : ByteArray} {k : Nat} {st : Bool} {A B C : Int} (h : RdAt W b s k st) (hc : CuAt W c v s k st) (hbc : b ≠ c) (hB : Bs W v s) (hk : k ≤ s.size) (hs : s.size ≤ 1048576) (hne : ∀ a l cp, v = .slice (some a) l cp → 0 < s.size → a.block ≠ c ∧ cp ≤ 9223372036854775807) (hnb : ∀ a l cp, v = .slice (some a) l cp → 0 < s.size → a.block ≠ b) :
    Calls Tryd.prog 18 #[.pointer (some ⟨b, 0, none⟩), .pointer (some ⟨c, 0, none⟩), .agg #[.int .i64 6, .int .i64 A, .int .i64 B, .int .i64 C]] W fun e w => SpA W b c v s st (.cells #[.int .i64 6, .int .i64 A, .int .i64 B, .int .i64 C] 50) e w := by
  have hbl := (Array.getElem?_eq_some_iff.1 h).1
  have hcl := (Array.getElem?_eq_some_iff.1 hc).1
  have hS0 : St2 W b c (.cells #[.int .i64 6, .int .i64 A, .int .i64 B, .int .i64 C] 50) (rdO s st k) (cuO v s st k) (W.alloc (.cells #[.int .i64 6, .int .i64 A, .int .i64 B, .int .i64 C] 50)) := St2.start h hc
  obtain ⟨q, k2, hf⟩ : ∃ q k2, fS (skipM s st C k A B) = (q, k2) := ⟨_, _, rfl⟩
  have Hk2 : Hid (k2 ≤ s.size) := by have q := skipM_le (s := s) (st := st) (depth := C) (x := A) (y := B) (k := k) hk; rw [hf] at q; exact q
  have Hr : Hid (∀ w, St2 W b c (.cells #[.int .i64 6, .int .i64 A, .int .i64 B, .int .i64 C] 50) (rdO s st k) (cuO v s st k) w → Calls Tryd.prog 44 #[.pointer (some ⟨b, 0, none⟩), .int .i64 A, .int .i64 B, .int .i64 C] w fun e w' => e = .returned (.int .i64 (q : Int)) ∧ St2 W b c (.cells #[.int .i64 6, .int .i64 A, .int .i64 B, .int .i64 C] 50) (rdO s st k2) (cuO v s st k) w') := fun w hS => (rSkip_any hS.rb hk hs).mono fun e w' hq => by
    have q := rs_fun hf hq
    exact ⟨q.1, hS.updB q.2 hbc hbl⟩
  have Hc : Hid (∀ w, St2 W b c (.cells #[.int .i64 6, .int .i64 A, .int .i64 B, .int .i64 C] 50) (rdO s st k2) (cuO v s st k) w → Calls Tryd.prog 45 #[.pointer (some ⟨c, 0, none⟩), .int .i64 A, .int .i64 B, .int .i64 C] w fun e w' => e = .returned (.int .i64 (q : Int)) ∧ St2 W b c (.cells #[.int .i64 6, .int .i64 A, .int .i64 B, .int .i64 C] 50) (rdO s st k2) (cuO v s st k2) w') := fun w hS => (cSkip_any hS.rc (hS.bs hB hne hnb) hk hs hne).mono fun e w' hq => by
    have q := cs_fun hf hq
    exact ⟨q.1, hS.updC q.2 hbc hcl⟩
  have HS0 := hide hS0
  clear hS0 h hc hB hne hnb hf
  go_enter Tryd.func18, Tryd.ntmps18
  go_wp2_with fail
  refine (unhide Hr _ (unhide HS0)).mono ?_
  rintro e w1 ⟨rfl, hS1⟩
  obtain ⟨x0, x1, x2, x3, xf⟩ := cells4_of hS1.box
  have HS1 := hide hS1
  clear hS1 HS0 Hr
  go_wp2_with fail
  refine (unhide Hc w1 (unhide HS1)).mono ?_
  rintro e w2 ⟨rfl, hS2⟩
  have HS2 := hide hS2
  clear hS2 HS1 Hc x0 x1 x2 x3 xf
  have hSt := unhide HS2
  obtain ⟨y0, y1, y2, y3, yf⟩ := cells4_of hSt.rc
  have Hat := hide (rAt_any (W := w2) (b := b) (s := s) (k := k2) (st := st) hSt.rb)
  have hmore := more_any (W := w2) (b := b) (s := s) (k := k2) (st := st) hSt.rb
  obtain ⟨mr, hmr⟩ : ∃ mr, decide (k2 < s.size) = mr := ⟨_, rfl⟩
  have Hmr := hide hmr
  rw [hmr] at hmore
  have Hmore := hide hmore
  clear hSt hmr hmore
  go_wp2_with fail
  refine (unhide Hat).mono ?_
  rintro e w3 ⟨rfl, hw⟩
  obtain rfl : w2 = w3 := hw.symm
  clear hw Hat
  go_wp2_with fail
  refine (unhide Hmore).mono ?_
  rintro e w4 ⟨rfl, nd, rfl⟩
  clear Hmore
  go_wp2
  go_quiet (fail)
  go_wp2
  go_ret
  exact ⟨by first | rfl | (simp; exact (unhide Hmr).symm), k2, unhide Hk2, by first | exact (unhide HS2).drewN _ | exact ((unhide HS2).drewN _).drewN _⟩
set_option maxRecDepth 100000 in
set_option maxHeartbeats 4000000 in
theorem step_rest {W : World} {b c : Nat} {v : Value} {s : ByteArray} {k : Nat} {st : Bool} {A B C : Int} (h : RdAt W b s k st) (hc : CuAt W c v s k st) (hbc : b ≠ c) (hB : Bs W v s) (hk : k ≤ s.size) (hs : s.size ≤ 1048576) (hne : ∀ a l cp, v = .slice (some a) l cp → 0 < s.size → a.block ≠ c ∧ cp ≤ 9223372036854775807) (hnb : ∀ a l cp, v = .slice (some a) l cp → 0 < s.size → a.block ≠ b) :
    Calls Tryd.prog 18 #[.pointer (some ⟨b, 0, none⟩), .pointer (some ⟨c, 0, none⟩), .agg #[.int .i64 7, .int .i64 A, .int .i64 B, .int .i64 C]] W fun e w => SpA W b c v s st (.cells #[.int .i64 7, .int .i64 A, .int .i64 B, .int .i64 C] 50) e w := by
  have hbl := (Array.getElem?_eq_some_iff.1 h).1
  have hcl := (Array.getElem?_eq_some_iff.1 hc).1
  have hS0 : St2 W b c (.cells #[.int .i64 7, .int .i64 A, .int .i64 B, .int .i64 C] 50) (rdO s st k) (cuO v s st k) (W.alloc (.cells #[.int .i64 7, .int .i64 A, .int .i64 B, .int .i64 C] 50)) := St2.start h hc
  obtain ⟨n, kd, q, k2, hf⟩ : ∃ n kd q k2, fG k (tagR s st k) = (n, kd, q, k2) := ⟨_, _, _, _, rfl⟩
  have Hk2 : Hid (k2 ≤ s.size) := fG_le hk hf
  have Hr : Hid (∀ w, St2 W b c (.cells #[.int .i64 7, .int .i64 A, .int .i64 B, .int .i64 C] 50) (rdO s st k) (cuO v s st k) w → Calls Tryd.prog 42 #[.pointer (some ⟨b, 0, none⟩)] w fun e w' => e = .returned (.tuple #[.int .i64 (n : Int), .int .i64 (kd : Int), .int .i64 (q : Int)]) ∧ St2 W b c (.cells #[.int .i64 7, .int .i64 A, .int .i64 B, .int .i64 C] 50) (rdO s st k2) (cuO v s st k) w') := fun w hS => (rTag_any hS.rb hk hs).mono fun e w' hq => by
    have q := rg_fun hS.rb hf hq
    exact ⟨q.1, hS.updB q.2 hbc hbl⟩
  have Hc : Hid (∀ w, St2 W b c (.cells #[.int .i64 7, .int .i64 A, .int .i64 B, .int .i64 C] 50) (rdO s st k2) (cuO v s st k) w → Calls Tryd.prog 43 #[.pointer (some ⟨c, 0, none⟩)] w fun e w' => e = .returned (.tuple #[.int .i64 (n : Int), .int .i64 (kd : Int), .int .i64 (q : Int)]) ∧ St2 W b c (.cells #[.int .i64 7, .int .i64 A, .int .i64 B, .int .i64 C] 50) (rdO s st k2) (cuO v s st k2) w') := fun w hS => (cTag_any hS.rc (hS.bs hB hne hnb) hk hs).mono fun e w' hq => by
    have q := cg_fun hS.rc hf hq
    exact ⟨q.1, hS.updC q.2 hbc hcl⟩
  have hk2 : k2 ≤ s.size := unhide Hk2
  obtain ⟨q5, k5, hg⟩ : ∃ q k3, fS (skipM s st C k2 (n : Int) (kd : Int)) = (q, k3) := ⟨_, _, rfl⟩
  have Hk5 : Hid (k5 ≤ s.size) := by have q := skipM_le (s := s) (st := st) (depth := C) (x := (n : Int)) (y := (kd : Int)) (k := k2) hk2; rw [hg] at q; exact q
  have Hr5 : Hid (∀ w, St2 W b c (.cells #[.int .i64 7, .int .i64 A, .int .i64 B, .int .i64 C] 50) (rdO s st k2) (cuO v s st k2) w → Calls Tryd.prog 44 #[.pointer (some ⟨b, 0, none⟩), .int .i64 (n : Int), .int .i64 (kd : Int), .int .i64 C] w fun e w' => e = .returned (.int .i64 (q5 : Int)) ∧ St2 W b c (.cells #[.int .i64 7, .int .i64 A, .int .i64 B, .int .i64 C] 50) (rdO s st k5) (cuO v s st k2) w') := fun w hS => (rSkip_any hS.rb hk2 hs).mono fun e w' hq => by
    have q := rs_fun hg hq
    exact ⟨q.1, hS.updB q.2 hbc hbl⟩
  have Hc5 : Hid (∀ w, St2 W b c (.cells #[.int .i64 7, .int .i64 A, .int .i64 B, .int .i64 C] 50) (rdO s st k5) (cuO v s st k2) w → Calls Tryd.prog 45 #[.pointer (some ⟨c, 0, none⟩), .int .i64 (n : Int), .int .i64 (kd : Int), .int .i64 C] w fun e w' => e = .returned (.int .i64 (q5 : Int)) ∧ St2 W b c (.cells #[.int .i64 7, .int .i64 A, .int .i64 B, .int .i64 C] 50) (rdO s st k5) (cuO v s st k5) w') := fun w hS => (cSkip_any hS.rc (hS.bs hB hne hnb) hk2 hs hne).mono fun e w' hq => by
    have q := cs_fun hg hq
    exact ⟨q.1, hS.updC q.2 hbc hcl⟩
  have HS0 := hide hS0
  clear hS0 h hc hB hne hnb hf hg hk2
  go_enter Tryd.func18, Tryd.ntmps18
  go_wp2_with fail
  refine (unhide Hr _ (unhide HS0)).mono ?_
  rintro e w1 ⟨rfl, hS1⟩
  obtain ⟨x0, x1, x2, x3, xf⟩ := cells4_of hS1.box
  have HS1 := hide hS1
  clear hS1 HS0 Hr
  go_wp2_with fail
  refine (unhide Hc w1 (unhide HS1)).mono ?_
  rintro e w2 ⟨rfl, hS2⟩
  have HS2 := hide hS2
  clear HS1 Hc x0 x1 x2 x3 xf
  by_cases hq0 : q = 0
  · have q0 : ((q : Int) == 0) = true := by rw [hq0]; rfl
    obtain ⟨x0, x1, x2, x3, xf⟩ := cells4_of hS2.box
    clear hS2 hq0
    go_wp2_with fail
    refine (unhide Hr5 w2 (unhide HS2)).mono ?_
    rintro e w5 ⟨rfl, hS5⟩
    obtain ⟨z0, z1, z2, z3, zf⟩ := cells4_of hS5.box
    have HS5 := hide hS5
    clear hS5 HS2 Hr5 x0 x1 x2 x3 xf
    go_wp2_with fail
    refine (unhide Hc5 w5 (unhide HS5)).mono ?_
    rintro e w6 ⟨rfl, hS6⟩
    have HS2 := hide hS6
    clear hS6 HS5 Hc5 z0 z1 z2 z3 zf Hk2
    have Hk2 := Hk5
    have hSt := unhide HS2
    obtain ⟨y0, y1, y2, y3, yf⟩ := cells4_of hSt.rc
    have Hat := hide (rAt_any (W := w6) (b := b) (s := s) (k := k5) (st := st) hSt.rb)
    have hmore := more_any (W := w6) (b := b) (s := s) (k := k5) (st := st) hSt.rb
    obtain ⟨mr, hmr⟩ : ∃ mr, decide (k5 < s.size) = mr := ⟨_, rfl⟩
    have Hmr := hide hmr
    rw [hmr] at hmore
    have Hmore := hide hmore
    clear hSt hmr hmore
    go_wp2_with fail
    refine (unhide Hat).mono ?_
    rintro e w3 ⟨rfl, hw⟩
    obtain rfl : w6 = w3 := hw.symm
    clear hw Hat
    go_wp2_with fail
    refine (unhide Hmore).mono ?_
    rintro e w4 ⟨rfl, nd, rfl⟩
    clear Hmore
    go_wp2
    go_quiet (fail)
    go_wp2
    go_ret
    exact ⟨by first | rfl | (simp; exact (unhide Hmr).symm), k5, unhide Hk2, by first | exact (unhide HS2).drewN _ | exact ((unhide HS2).drewN _).drewN _⟩
  · have q0 : ((q : Int) == 0) = false := beq_eq_false_iff_ne.2 (by omega)
    clear hS2 hq0 Hr5 Hc5
    have hSt := unhide HS2
    obtain ⟨y0, y1, y2, y3, yf⟩ := cells4_of hSt.rc
    have Hat := hide (rAt_any (W := w2) (b := b) (s := s) (k := k2) (st := st) hSt.rb)
    have hmore := more_any (W := w2) (b := b) (s := s) (k := k2) (st := st) hSt.rb
    obtain ⟨mr, hmr⟩ : ∃ mr, decide (k2 < s.size) = mr := ⟨_, rfl⟩
    have Hmr := hide hmr
    rw [hmr] at hmore
    have Hmore := hide hmore
    clear hSt hmr hmore
    go_wp2_with fail
    refine (unhide Hat).mono ?_
    rintro e w3 ⟨rfl, hw⟩
    obtain rfl : w2 = w3 := hw.symm
    clear hw Hat
    go_wp2_with fail
    refine (unhide Hmore).mono ?_
    rintro e w4 ⟨rfl, nd, rfl⟩
    clear Hmore
    go_wp2
    go_quiet (fail)
    go_wp2
    go_ret
    exact ⟨by first | rfl | (simp; exact (unhide Hmr).symm), k2, unhide Hk2, by first | exact (unhide HS2).drewN _ | exact ((unhide HS2).drewN _).drewN _⟩
set_option maxRecDepth 100000 in
set_option maxHeartbeats 4000000 in
theorem step_none {W : World} {b c : Nat} {v : Value} {s : ByteArray} {k : Nat} {st : Bool} {kind A B C : Int} (h : RdAt W b s k st) (hc : CuAt W c v s k st) (hbc : b ≠ c) (hB : Bs W v s) (hk : k ≤ s.size) (hs : s.size ≤ 1048576) (hne : ∀ a l cp, v = .slice (some a) l cp → 0 < s.size → a.block ≠ c ∧ cp ≤ 9223372036854775807) (hnb : ∀ a l cp, v = .slice (some a) l cp → 0 < s.size → a.block ≠ b) (n2 : kind ≠ 2) (n3 : kind ≠ 3) (n4 : kind ≠ 4) (n5 : kind ≠ 5) (n6 : kind ≠ 6) (n7 : kind ≠ 7) :
    Calls Tryd.prog 18 #[.pointer (some ⟨b, 0, none⟩), .pointer (some ⟨c, 0, none⟩), .agg #[.int .i64 kind, .int .i64 A, .int .i64 B, .int .i64 C]] W fun e w => SpA W b c v s st (.cells #[.int .i64 kind, .int .i64 A, .int .i64 B, .int .i64 C] 50) e w := by
  have hbl := (Array.getElem?_eq_some_iff.1 h).1
  have hcl := (Array.getElem?_eq_some_iff.1 hc).1
  have hS0 : St2 W b c (.cells #[.int .i64 kind, .int .i64 A, .int .i64 B, .int .i64 C] 50) (rdO s st k) (cuO v s st k) (W.alloc (.cells #[.int .i64 kind, .int .i64 A, .int .i64 B, .int .i64 C] 50)) := St2.start h hc
  have Hk2 : Hid (k ≤ s.size) := hk
  have _ := hB
  have _ := hs
  have _ := hne
  have _ := hnb
  have _ := hbc
  have d2 : (kind == 2) = false := beq_eq_false_iff_ne.2 n2
  have d3 : (kind == 3) = false := beq_eq_false_iff_ne.2 n3
  have d4 : (kind == 4) = false := beq_eq_false_iff_ne.2 n4
  have d5 : (kind == 5) = false := beq_eq_false_iff_ne.2 n5
  have d6 : (kind == 6) = false := beq_eq_false_iff_ne.2 n6
  have d7 : (kind == 7) = false := beq_eq_false_iff_ne.2 n7
  have HS2 := hide hS0
  clear hS0 h hc hB hne hnb n2 n3 n4 n5 n6 n7
  go_enter Tryd.func18, Tryd.ntmps18
  go_wp2_with fail
  generalize W.alloc (.cells #[.int .i64 kind, .int .i64 A, .int .i64 B, .int .i64 C] 50) = w2 at *
  have hSt := unhide HS2
  obtain ⟨y0, y1, y2, y3, yf⟩ := cells4_of hSt.rc
  have Hat := hide (rAt_any (W := w2) (b := b) (s := s) (k := k) (st := st) hSt.rb)
  have hmore := more_any (W := w2) (b := b) (s := s) (k := k) (st := st) hSt.rb
  obtain ⟨mr, hmr⟩ : ∃ mr, decide (k < s.size) = mr := ⟨_, rfl⟩
  have Hmr := hide hmr
  rw [hmr] at hmore
  have Hmore := hide hmore
  clear hSt hmr hmore
  go_wp2_with fail
  refine (unhide Hat).mono ?_
  rintro e w3 ⟨rfl, hw⟩
  obtain rfl : w2 = w3 := hw.symm
  clear hw Hat
  go_wp2_with fail
  refine (unhide Hmore).mono ?_
  rintro e w4 ⟨rfl, nd, rfl⟩
  clear Hmore
  go_wp2
  go_quiet (fail)
  go_wp2
  go_ret
  exact ⟨by first | rfl | (simp; exact (unhide Hmr).symm), k, unhide Hk2, by first | exact (unhide HS2).drewN _ | exact ((unhide HS2).drewN _).drewN _⟩
/-- One call on both. -/
theorem step_any {W : World} {b c : Nat} {v : Value} {s : ByteArray} {k : Nat} {st : Bool} {kind A B C : Int} (h : RdAt W b s k st) (hc : CuAt W c v s k st) (hbc : b ≠ c) (hB : Bs W v s) (hk : k ≤ s.size) (hs : s.size ≤ 1048576) (hne : ∀ a l cp, v = .slice (some a) l cp → 0 < s.size → a.block ≠ c ∧ cp ≤ 9223372036854775807) (hnb : ∀ a l cp, v = .slice (some a) l cp → 0 < s.size → a.block ≠ b) :
    Calls Tryd.prog 18 #[.pointer (some ⟨b, 0, none⟩), .pointer (some ⟨c, 0, none⟩), .agg #[.int .i64 kind, .int .i64 A, .int .i64 B, .int .i64 C]] W fun e w => SpA W b c v s st (.cells #[.int .i64 kind, .int .i64 A, .int .i64 B, .int .i64 C] 50) e w := by
  by_cases n2 : kind = 2
  · subst n2; exact step_varint h hc hbc hB hk hs hne hnb
  by_cases n3 : kind = 3
  · subst n3
    by_cases h4 : A = 4
    · subst h4; exact step_fixed4 h hc hbc hB hk hs hne hnb
    by_cases h8 : A = 8
    · subst h8; exact step_fixed8 h hc hbc hB hk hs hne hnb
    exact step_fixedno h hc hbc hB hk hs hne hnb h4 h8
  by_cases n4 : kind = 4
  · subst n4; exact step_text h hc hbc hB hk hs hne hnb
  by_cases n5 : kind = 5
  · subst n5; exact step_tag h hc hbc hB hk hs hne hnb
  by_cases n6 : kind = 6
  · subst n6; exact step_skip h hc hbc hB hk hs hne hnb
  by_cases n7 : kind = 7
  · subst n7; exact step_rest h hc hbc hB hk hs hne hnb
  exact step_none h hc hbc hB hk hs hne hnb n2 n3 n4 n5 n6 n7
#print axioms step_any
end Go.Proofs.YtgbadnbhgpnppaaDoor
