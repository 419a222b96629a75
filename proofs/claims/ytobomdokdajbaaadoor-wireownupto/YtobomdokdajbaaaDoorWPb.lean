import Derived.Test.YtobomdokdajbaaaDoorJ16
import Derived.BigQuiet

namespace Go.Proofs.YtobomdokdajbaaaDoor
open Go.RowKit
attribute [local go_sem ↓] Go.wp_at_zero Go.wp_at_succ

/-- What step leaves. -/
def SpA (W : World) (b c : Nat) (v : Value) (s : ByteArray) (st : Bool) (bx : Obj) (e : Ending) (w : World) : Prop := e = .returned (.bool true) ∧ ∃ k', k' ≤ s.size ∧ St2 W b c bx (rdO s st k') (cuO v s st k') w
set_option maxRecDepth 100000 in
set_option maxHeartbeats 4000000 in
theorem step_varint {W : World} {b c : Nat} {v : Value} {s : ByteArray} {k : Nat} {st : Bool} {A B C : Int} (h : RdAt W b s k st) (hc : CuAt W c v s k st) (hbc : b ≠ c) (hB : Bs W v s) (hk : k ≤ s.size) (hs : s.size ≤ 1048576) (hne : ∀ a l cp, v = .slice (some a) l cp → 0 < s.size → a.block ≠ c ∧ cp ≤ 9223372036854775807) (hnb : ∀ a l cp, v = .slice (some a) l cp → 0 < s.size → a.block ≠ b) :
    Calls Tryd.prog 26 #[.pointer (some ⟨b, 0, none⟩), .pointer (some ⟨c, 0, none⟩), .agg #[.int .i64 2, .int .i64 A, .int .i64 B, .int .i64 C]] W fun e w => SpA W b c v s st (.cells #[.int .i64 2, .int .i64 A, .int .i64 B, .int .i64 C] 59) e w := by
  have hbl := (Array.getElem?_eq_some_iff.1 h).1
  have hcl := (Array.getElem?_eq_some_iff.1 hc).1
  have hS0 : St2 W b c (.cells #[.int .i64 2, .int .i64 A, .int .i64 B, .int .i64 C] 59) (rdO s st k) (cuO v s st k) (W.alloc (.cells #[.int .i64 2, .int .i64 A, .int .i64 B, .int .i64 C] 59)) := St2.start h hc
  obtain ⟨x, q, k2, hf⟩ : ∃ x q k2, fV k (vAt s st k) = (x, q, k2) := ⟨_, _, _, rfl⟩
  have Hk2 : Hid (k2 ≤ s.size) := fV_le hk hf
  have Hr : Hid (∀ w, St2 W b c (.cells #[.int .i64 2, .int .i64 A, .int .i64 B, .int .i64 C] 59) (rdO s st k) (cuO v s st k) w → Calls Tryd.prog 51 #[.pointer (some ⟨b, 0, none⟩)] w fun e w' => e = .returned (.tuple #[.int .i64 x, .int .i64 (q : Int)]) ∧ St2 W b c (.cells #[.int .i64 2, .int .i64 A, .int .i64 B, .int .i64 C] 59) (rdO s st k2) (cuO v s st k) w') := fun w hS => (rVarint_any hS.rb hk hs).mono fun e w' hq => by
    have q := va_fun hS.rb hf hq
    exact ⟨q.1, hS.updB q.2 hbc hbl⟩
  have Hc : Hid (∀ w, St2 W b c (.cells #[.int .i64 2, .int .i64 A, .int .i64 B, .int .i64 C] 59) (rdO s st k2) (cuO v s st k) w → Calls Tryd.prog 52 #[.pointer (some ⟨c, 0, none⟩)] w fun e w' => e = .returned (.tuple #[.int .i64 x, .int .i64 (q : Int)]) ∧ St2 W b c (.cells #[.int .i64 2, .int .i64 A, .int .i64 B, .int .i64 C] 59) (rdO s st k2) (cuO v s st k2) w') := fun w hS => (cVarint_any hS.rc (hS.bs hB hne hnb) hk hs).mono fun e w' hq => by
    have q := cv_fun hS.rc hf hq
    exact ⟨q.1, hS.updC q.2 hbc hcl⟩
  have HS0 := hide hS0
  clear hS0 h hc hB hne hnb hf
  go_enter Tryd.func26, Tryd.ntmps26
  go_wp2_with fail
  refine (unhide Hr _ (unhide HS0)).mono ?_
  rintro e w1 ⟨rfl, hS1⟩
  obtain ⟨x0, x1, x2, x3, xf⟩ := cells4_of hS1.box
  have HS1 := hide hS1
  clear hS1 HS0 Hr
  go_wp2_with fail
  refine (unhide Hc w1 (unhide HS1)).mono ?_
  rintro e w2 ⟨rfl, hS2⟩
  have HS2 := hide hS2
  clear hS2 HS1 Hc x0 x1 x2 x3 xf
  have hSt := unhide HS2
  obtain ⟨y0, y1, y2, y3, yf⟩ := cells4_of hSt.rc
  have Hat := hide (rAt_any (W := w2) (b := b) (s := s) (k := k2) (st := st) hSt.rb)
  have hmore := more_any (W := w2) (b := b) (s := s) (k := k2) (st := st) hSt.rb
  obtain ⟨mr, hmr⟩ : ∃ mr, decide (k2 < s.size) = mr := ⟨_, rfl⟩
  have Hmr := hide hmr
  rw [hmr] at hmore
  have Hmore := hide hmore
  clear hSt hmr hmore
  go_wp2_with fail
  refine (unhide Hat).mono ?_
  rintro e w3 ⟨rfl, hw⟩
  obtain rfl : w2 = w3 := hw.symm
  clear hw Hat
  go_wp2_with fail
  refine (unhide Hmore).mono ?_
  rintro e w4 ⟨rfl, nd, rfl⟩
  clear Hmore
  go_wp2
  go_quiet (fail)
  go_wp2
  go_ret
  exact ⟨by first | rfl | (simp; exact (unhide Hmr).symm), k2, unhide Hk2, by first | exact (unhide HS2).drewN _ | exact ((unhide HS2).drewN _).drewN _⟩
set_option maxRecDepth 100000 in
set_option maxHeartbeats 4000000 in
theorem step_fixed4 {W : World} {b c : Nat} {v : Value} {s : ByteArray} {k : Nat} {st : Bool} {B C : Int} (h : RdAt W b s k st) (hc : CuAt W c v s k st) (hbc : b ≠ c) (hB : Bs W v s) (hk : k ≤ s.size) (hs : s.size ≤ 1048576) (hne : ∀ a l cp, v = .slice (some a) l cp → 0 < s.size → a.block ≠ c ∧ cp ≤ 9223372036854775807) (hnb : ∀ a l cp, v = .slice (some a) l cp → 0 < s.size → a.block ≠ b) :
    Calls Tryd.prog 26 #[.pointer (some ⟨b, 0, none⟩), .pointer (some ⟨c, 0, none⟩), .agg #[.int .i64 3, .int .i64 4, .int .i64 B, .int .i64 C]] W fun e w => SpA W b c v s st (.cells #[.int .i64 3, .int .i64 4, .int .i64 B, .int .i64 C] 59) e w := by
  have hbl := (Array.getElem?_eq_some_iff.1 h).1
  have hcl := (Array.getElem?_eq_some_iff.1 hc).1
  have hS0 : St2 W b c (.cells #[.int .i64 3, .int .i64 4, .int .i64 B, .int .i64 C] 59) (rdO s st k) (cuO v s st k) (W.alloc (.cells #[.int .i64 3, .int .i64 4, .int .i64 B, .int .i64 C] 59)) := St2.start h hc
  obtain ⟨x, q, k2, hf⟩ : ∃ x q k2, fV k (xAt s k 4) = (x, q, k2) := ⟨_, _, _, rfl⟩
  have Hk2 : Hid (k2 ≤ s.size) := fX_le hk hf
  have Hr : Hid (∀ w, St2 W b c (.cells #[.int .i64 3, .int .i64 4, .int .i64 B, .int .i64 C] 59) (rdO s st k) (cuO v s st k) w → Calls Tryd.prog 53 #[.pointer (some ⟨b, 0, none⟩), .int .i64 4] w fun e w' => e = .returned (.tuple #[.int .i64 x, .int .i64 (q : Int)]) ∧ St2 W b c (.cells #[.int .i64 3, .int .i64 4, .int .i64 B, .int .i64 C] 59) (rdO s st k2) (cuO v s st k) w') := fun w hS => (rFixed_any (n := 4) hS.rb hs hk (by decide)).mono fun e w' hq => by
    have q := va_fun hS.rb hf hq
    exact ⟨q.1, hS.updB q.2 hbc hbl⟩
  have Hc : Hid (∀ w, St2 W b c (.cells #[.int .i64 3, .int .i64 4, .int .i64 B, .int .i64 C] 59) (rdO s st k2) (cuO v s st k) w → Calls Tryd.prog 54 #[.pointer (some ⟨c, 0, none⟩), .int .i64 4] w fun e w' => e = .returned (.tuple #[.int .i64 x, .int .i64 (q : Int)]) ∧ St2 W b c (.cells #[.int .i64 3, .int .i64 4, .int .i64 B, .int .i64 C] 59) (rdO s st k2) (cuO v s st k2) w') := fun w hS => (cFixed_any (n := 4) hS.rc (hS.bs hB hne hnb) hk hs (by decide)).mono fun e w' hq => by
    have q := cv_fun hS.rc hf hq
    exact ⟨q.1, hS.updC q.2 hbc hcl⟩
  have HS0 := hide hS0
  clear hS0 h hc hB hne hnb hf
  go_enter Tryd.func26, Tryd.ntmps26
  go_wp2_with fail
  refine (unhide Hr _ (unhide HS0)).mono ?_
  rintro e w1 ⟨rfl, hS1⟩
  obtain ⟨x0, x1, x2, x3, xf⟩ := cells4_of hS1.box
  have HS1 := hide hS1
  clear hS1 HS0 Hr
  go_wp2_with fail
  refine (unhide Hc w1 (unhide HS1)).mono ?_
  rintro e w2 ⟨rfl, hS2⟩
  have HS2 := hide hS2
  clear hS2 HS1 Hc x0 x1 x2 x3 xf
  have hSt := unhide HS2
  obtain ⟨y0, y1, y2, y3, yf⟩ := cells4_of hSt.rc
  have Hat := hide (rAt_any (W := w2) (b := b) (s := s) (k := k2) (st := st) hSt.rb)
  have hmore := more_any (W := w2) (b := b) (s := s) (k := k2) (st := st) hSt.rb
  obtain ⟨mr, hmr⟩ : ∃ mr, decide (k2 < s.size) = mr := ⟨_, rfl⟩
  have Hmr := hide hmr
  rw [hmr] at hmore
  have Hmore := hide hmore
  clear hSt hmr hmore
  go_wp2_with fail
  refine (unhide Hat).mono ?_
  rintro e w3 ⟨rfl, hw⟩
  obtain rfl : w2 = w3 := hw.symm
  clear hw Hat
  go_wp2_with fail
  refine (unhide Hmore).mono ?_
  rintro e w4 ⟨rfl, nd, rfl⟩
  clear Hmore
  go_wp2
  go_quiet (fail)
  go_wp2
  go_ret
  exact ⟨by first | rfl | (simp; exact (unhide Hmr).symm), k2, unhide Hk2, by first | exact (unhide HS2).drewN _ | exact ((unhide HS2).drewN _).drewN _⟩
set_option maxRecDepth 100000 in
set_option maxHeartbeats 4000000 in
theorem step_fixed8 {W : World} {b c : Nat} {v : Value} {s : ByteArray} {k : Nat} {st : Bool} {B C : Int} (h : RdAt W b s k st) (hc : CuAt W c v s k st) (hbc : b ≠ c) (hB : Bs W v s) (hk : k ≤ s.size) (hs : s.size ≤ 1048576) (hne : ∀ a l cp, v = .slice (some a) l cp → 0 < s.size → a.block ≠ c ∧ cp ≤ 9223372036854775807) (hnb : ∀ a l cp, v = .slice (some a) l cp → 0 < s.size → a.block ≠ b) :
    Calls Tryd.prog 26 #[.pointer (some ⟨b, 0, none⟩), .pointer (some ⟨c, 0, none⟩), .agg #[.int .i64 3, .int .i64 8, .int .i64 B, .int .i64 C]] W fun e w => SpA W b c v s st (.cells #[.int .i64 3, .int .i64 8, .int .i64 B, .int .i64 C] 59) e w := by
  have hbl := (Array.getElem?_eq_some_iff.1 h).1
  have hcl := (Array.getElem?_eq_some_iff.1 hc).1
  have hS0 : St2 W b c (.cells #[.int .i64 3, .int .i64 8, .int .i64 B, .int .i64 C] 59) (rdO s st k) (cuO v s st k) (W.alloc (.cells #[.int .i64 3, .int .i64 8, .int .i64 B, .int .i64 C] 59)) := St2.start h hc
  obtain ⟨x, q, k2, hf⟩ : ∃ x q k2, fV k (xAt s k 8) = (x, q, k2) := ⟨_, _, _, rfl⟩
  have Hk2 : Hid (k2 ≤ s.size) := fX_le hk hf
  have Hr : Hid (∀ w, St2 W b c (.cells #[.int .i64 3, .int .i64 8, .int .i64 B, .int .i64 C] 59) (rdO s st k) (cuO v s st k) w → Calls Tryd.prog 53 #[.pointer (some ⟨b, 0, none⟩), .int .i64 8] w fun e w' => e = .returned (.tuple #[.int .i64 x, .int .i64 (q : Int)]) ∧ St2 W b c (.cells #[.int .i64 3, .int .i64 8, .int .i64 B, .int .i64 C] 59) (rdO s st k2) (cuO v s st k) w') := fun w hS => (rFixed_any (n := 8) hS.rb hs hk (by decide)).mono fun e w' hq => by
    have q := va_fun hS.rb hf hq
    exact ⟨q.1, hS.updB q.2 hbc hbl⟩
  have Hc : Hid (∀ w, St2 W b c (.cells #[.int .i64 3, .int .i64 8, .int .i64 B, .int .i64 C] 59) (rdO s st k2) (cuO v s st k) w → Calls Tryd.prog 54 #[.pointer (some ⟨c, 0, none⟩), .int .i64 8] w fun e w' => e = .returned (.tuple #[.int .i64 x, .int .i64 (q : Int)]) ∧ St2 W b c (.cells #[.int .i64 3, .int .i64 8, .int .i64 B, .int .i64 C] 59) (rdO s st k2) (cuO v s st k2) w') := fun w hS => (cFixed_any (n := 8) hS.rc (hS.bs hB hne hnb) hk hs (by decide)).mono fun e w' hq => by
    have q := cv_fun hS.rc hf hq
    exact ⟨q.1, hS.updC q.2 hbc hcl⟩
  have HS0 := hide hS0
  clear hS0 h hc hB hne hnb hf
  go_enter Tryd.func26, Tryd.ntmps26
  go_wp2_with fail
  refine (unhide Hr _ (unhide HS0)).mono ?_
  rintro e w1 ⟨rfl, hS1⟩
  obtain ⟨x0, x1, x2, x3, xf⟩ := cells4_of hS1.box
  have HS1 := hide hS1
  clear hS1 HS0 Hr
  go_wp2_with fail
  refine (unhide Hc w1 (unhide HS1)).mono ?_
  rintro e w2 ⟨rfl, hS2⟩
  have HS2 := hide hS2
  clear hS2 HS1 Hc x0 x1 x2 x3 xf
  have hSt := unhide HS2
  obtain ⟨y0, y1, y2, y3, yf⟩ := cells4_of hSt.rc
  have Hat := hide (rAt_any (W := w2) (b := b) (s := s) (k := k2) (st := st) hSt.rb)
  have hmore := more_any (W := w2) (b := b) (s := s) (k := k2) (st := st) hSt.rb
  obtain ⟨mr, hmr⟩ : ∃ mr, decide (k2 < s.size) = mr := ⟨_, rfl⟩
  have Hmr := hide hmr
  rw [hmr] at hmore
  have Hmore := hide hmore
  clear hSt hmr hmore
  go_wp2_with fail
  refine (unhide Hat).mono ?_
  rintro e w3 ⟨rfl, hw⟩
  obtain rfl : w2 = w3 := hw.symm
  clear hw Hat
  go_wp2_with fail
  refine (unhide Hmore).mono ?_
  rintro e w4 ⟨rfl, nd, rfl⟩
  clear Hmore
  go_wp2
  go_quiet (fail)
  go_wp2
  go_ret
  exact ⟨by first | rfl | (simp; exact (unhide Hmr).symm), k2, unhide Hk2, by first | exact (unhide HS2).drewN _ | exact ((unhide HS2).drewN _).drewN _⟩
set_option maxRecDepth 100000 in
set_option maxHeartbeats 4000000 in
theorem step_fixedno {W : World} {b c : Nat} {v : Value} {s : ByteArray} {k : Nat} {st : Bool} {A B C : Int} (h : RdAt W b s k st) (hc : CuAt W c v s k st) (hbc : b ≠ c) (hB : Bs W v s) (hk : k ≤ s.size) (hs : s.size ≤ 1048576) (hne : ∀ a l cp, v = .slice (some a) l cp → 0 < s.size → a.block ≠ c ∧ cp ≤ 9223372036854775807) (hnb : ∀ a l cp, v = .slice (some a) l cp → 0 < s.size → a.block ≠ b) (h4 : A ≠ 4) (h8 : A ≠ 8) :
    Calls Tryd.prog 26 #[.pointer (some ⟨b, 0, none⟩), .pointer (some ⟨c, 0, none⟩), .agg #[.int .i64 3, .int .i64 A, .int .i64 B, .int .i64 C]] W fun e w => SpA W b c v s st (.cells #[.int .i64 3, .int .i64 A, .int .i64 B, .int .i64 C] 59) e w := by
  have hbl := (Array.getElem?_eq_some_iff.1 h).1
  have hcl := (Array.getElem?_eq_some_iff.1 hc).1
  have hS0 : St2 W b c (.cells #[.int .i64 3, .int .i64 A, .int .i64 B, .int .i64 C] 59) (rdO s st k) (cuO v s st k) (W.alloc (.cells #[.int .i64 3, .int .i64 A, .int .i64 B, .int .i64 C] 59)) := St2.start h hc
  have Hk2 : Hid (k ≤ s.size) := hk
  have _ := hB
  have _ := hs
  have _ := hne
  have _ := hnb
  have Hr : Hid (∀ w, St2 W b c (.cells #[.int .i64 3, .int .i64 A, .int .i64 B, .int .i64 C] 59) (rdO s st k) (cuO v s st k) w → Calls Tryd.prog 53 #[.pointer (some ⟨b, 0, none⟩), .int .i64 A] w fun e w' => e = .returned (.tuple #[.int .i64 0, .int .i64 1]) ∧ St2 W b c (.cells #[.int .i64 3, .int .i64 A, .int .i64 B, .int .i64 C] 59) (rdO s st k) (cuO v s st k) w') := fun w hS => (rFixed_bad (s := s) (st := st) h4 h8).mono fun e w' hq => by
    have q := va_fun (k := k) (x := 0) (q := 1) (k2 := k) hS.rb rfl hq
    exact ⟨q.1, hS.updB q.2 hbc hbl⟩
  have d4 : (A == 4) = false := beq_eq_false_iff_ne.2 h4
  have d8 : (A == 8) = false := beq_eq_false_iff_ne.2 h8
  have HS0 := hide hS0
  clear hS0 h hc hB hne hnb h4 h8
  go_enter Tryd.func26, Tryd.ntmps26
  go_wp2_with fail
  refine (unhide Hr _ (unhide HS0)).mono ?_
  rintro e w2 ⟨rfl, hS2⟩
  obtain ⟨x0, x1, x2, x3, xf⟩ := cells4_of hS2.box
  have HS2 := hide hS2
  clear hS2 HS0 Hr
  have hSt := unhide HS2
  obtain ⟨y0, y1, y2, y3, yf⟩ := cells4_of hSt.rc
  have Hat := hide (rAt_any (W := w2) (b := b) (s := s) (k := k) (st := st) hSt.rb)
  have hmore := more_any (W := w2) (b := b) (s := s) (k := k) (st := st) hSt.rb
  obtain ⟨mr, hmr⟩ : ∃ mr, decide (k < s.size) = mr := ⟨_, rfl⟩
  have Hmr := hide hmr
  rw [hmr] at hmore
  have Hmore := hide hmore
  clear hSt hmr hmore
  go_wp2_with fail
  refine (unhide Hat).mono ?_
  rintro e w3 ⟨rfl, hw⟩
  obtain rfl : w2 = w3 := hw.symm
  clear hw Hat
  go_wp2_with fail
  refine (unhide Hmore).mono ?_
  rintro e w4 ⟨rfl, nd, rfl⟩
  clear Hmore
  go_wp2
  go_quiet (fail)
  go_wp2
  go_ret
  exact ⟨by first | rfl | (simp; exact (unhide Hmr).symm), k, unhide Hk2, by first | exact (unhide HS2).drewN _ | exact ((unhide HS2).drewN _).drewN _⟩
set_option maxRecDepth 100000 in
set_option maxHeartbeats 4000000 in
theorem step_text {W : World} {b c : Nat} {v : Value} {s : ByteArray} {k : Nat} {st : Bool} {A B C : Int} (h : RdAt W b s k st) (hc : CuAt W c v s k st) (hbc : b ≠ c) (hB : Bs W v s) (hk : k ≤ s.size) (hs : s.size ≤ 1048576) (hne : ∀ a l cp, v = .slice (some a) l cp → 0 < s.size → a.block ≠ c ∧ cp ≤ 9223372036854775807) (hnb : ∀ a l cp, v = .slice (some a) l cp → 0 < s.size → a.block ≠ b) :
    Calls Tryd.prog 26 #[.pointer (some ⟨b, 0, none⟩), .pointer (some ⟨c, 0, none⟩), .agg #[.int .i64 4, .int .i64 A, .int .i64 B, .int .i64 C]] W fun e w => SpA W b c v s st (.cells #[.int .i64 4, .int .i64 A, .int .i64 B, .int .i64 C] 59) e w := by
  have hbl := (Array.getElem?_eq_some_iff.1 h).1
  have hcl := (Array.getElem?_eq_some_iff.1 hc).1
  have hS0 : St2 W b c (.cells #[.int .i64 4, .int .i64 A, .int .i64 B, .int .i64 C] 59) (rdO s st k) (cuO v s st k) (W.alloc (.cells #[.int .i64 4, .int .i64 A, .int .i64 B, .int .i64 C] 59)) := St2.start h hc
  obtain ⟨x, q, k2, hf⟩ : ∃ x q k2, fT k (tAt s st k) = (x, q, k2) := ⟨_, _, _, rfl⟩
  have Hk2 : Hid (k2 ≤ s.size) := fT_le hk hf
  have Hr : Hid (∀ w, St2 W b c (.cells #[.int .i64 4, .int .i64 A, .int .i64 B, .int .i64 C] 59) (rdO s st k) (cuO v s st k) w → Calls Tryd.prog 55 #[.pointer (some ⟨b, 0, none⟩)] w fun e w' => e = .returned (.tuple #[.string x, .int .i64 (q : Int)]) ∧ St2 W b c (.cells #[.int .i64 4, .int .i64 A, .int .i64 B, .int .i64 C] 59) (rdO s st k2) (cuO v s st k) w') := fun w hS => (rText_any hS.rb hk hs).mono fun e w' hq => by
    have q := rt_fun hf hq
    exact ⟨q.1, hS.updB q.2 hbc hbl⟩
  have Hc : Hid (∀ w, St2 W b c (.cells #[.int .i64 4, .int .i64 A, .int .i64 B, .int .i64 C] 59) (rdO s st k2) (cuO v s st k) w → Calls Tryd.prog 56 #[.pointer (some ⟨c, 0, none⟩)] w fun e w' => e = .returned (.tuple #[.string x, .int .i64 (q : Int)]) ∧ St2 W b c (.cells #[.int .i64 4, .int .i64 A, .int .i64 B, .int .i64 C] 59) (rdO s st k2) (cuO v s st k2) w') := fun w hS => (cText_any hS.rc (hS.bs hB hne hnb) hk hs hne).mono fun e w' hq => by
    have q := ct_fun hf hq
    exact ⟨q.1, hS.updC q.2 hbc hcl⟩
  have HS0 := hide hS0
  clear hS0 h hc hB hne hnb hf
  go_enter Tryd.func26, Tryd.ntmps26
  go_wp2_with fail
  refine (unhide Hr _ (unhide HS0)).mono ?_
  rintro e w1 ⟨rfl, hS1⟩
  obtain ⟨x0, x1, x2, x3, xf⟩ := cells4_of hS1.box
  have HS1 := hide hS1
  clear hS1 HS0 Hr
  go_wp2_with fail
  refine (unhide Hc w1 (unhide HS1)).mono ?_
  rintro e w2 ⟨rfl, hS2⟩
  have HS2 := hide hS2
  clear hS2 HS1 Hc x0 x1 x2 x3 xf
  have hSt := unhide HS2
  obtain ⟨y0, y1, y2, y3, yf⟩ := cells4_of hSt.rc
  have Hat := hide (rAt_any (W := w2) (b := b) (s := s) (k := k2) (st := st) hSt.rb)
  have hmore := more_any (W := w2) (b := b) (s := s) (k := k2) (st := st) hSt.rb
  obtain ⟨mr, hmr⟩ : ∃ mr, decide (k2 < s.size) = mr := ⟨_, rfl⟩
  have Hmr := hide hmr
  rw [hmr] at hmore
  have Hmore := hide hmore
  clear hSt hmr hmore
  go_wp2_with fail
  refine (unhide Hat).mono ?_
  rintro e w3 ⟨rfl, hw⟩
  obtain rfl : w2 = w3 := hw.symm
  clear hw Hat
  go_wp2_with fail
  refine (unhide Hmore).mono ?_
  rintro e w4 ⟨rfl, nd, rfl⟩
  clear Hmore
  go_wp2
  go_quiet (fail)
  go_wp2
  go_ret
  exact ⟨by first | rfl | (simp; exact (unhide Hmr).symm), k2, unhide Hk2, by first | exact (unhide HS2).drewN _ | exact ((unhide HS2).drewN _).drewN _⟩
set_option maxRecDepth 100000 in
set_option maxHeartbeats 4000000 in
theorem step_tag {W : World} {b c : Nat} {v : Value} {s : ByteArray} {k : Nat} {st : Bool} {A B C : Int} (h : RdAt W b s k st) (hc : CuAt W c v s k st) (hbc : b ≠ c) (hB : Bs W v s) (hk : k ≤ s.size) (hs : s.size ≤ 1048576) (hne : ∀ a l cp, v = .slice (some a) l cp → 0 < s.size → a.block ≠ c ∧ cp ≤ 9223372036854775807) (hnb : ∀ a l cp, v = .slice (some a) l cp → 0 < s.size → a.block ≠ b) :
    Calls Tryd.prog 26 #[.pointer (some ⟨b, 0, none⟩), .pointer (some ⟨c, 0, none⟩), .agg #[.int .i64 5, .int .i64 A, .int .i64 B, .int .i64 C]] W fun e w => SpA W b c v s st (.cells #[.int .i64 5, .int .i64 A, .int .i64 B, .int .i64 C] 59) e w := by
  have hbl := (Array.getElem?_eq_some_iff.1 h).1
  have hcl := (Array.getElem?_eq_some_iff.1 hc).1
  have hS0 : St2 W b c (.cells #[.int .i64 5, .int .i64 A, .int .i64 B, .int .i64 C] 59) (rdO s st k) (cuO v s st k) (W.alloc (.cells #[.int .i64 5, .int .i64 A, .int .i64 B, .int .i64 C] 59)) := St2.start h hc
  obtain ⟨n, kd, q, k2, hf⟩ : ∃ n kd q k2, fG k (tagR s st k) = (n, kd, q, k2) := ⟨_, _, _, _, rfl⟩
  have Hk2 : Hid (k2 ≤ s.size) := fG_le hk hf
  have Hr : Hid (∀ w, St2 W b c (.cells #[.int .i64 5, .int .i64 A, .int .i64 B, .int .i64 C] 59) (rdO s st k) (cuO v s st k) w → Calls Tryd.prog 57 #[.pointer (some ⟨b, 0, none⟩)] w fun e w' => e = .returned (.tuple #[.int .i64 (n : Int), .int .i64 (kd : Int), .int .i64 (q : Int)]) ∧ St2 W b c (.cells #[.int .i64 5, .int .i64 A, .int .i64 B, .int .i64 C] 59) (rdO s st k2) (cuO v s st k) w') := fun w hS => (rTag_any hS.rb hk hs).mono fun e w' hq => by
    have q := rg_fun hS.rb hf hq
    exact ⟨q.1, hS.updB q.2 hbc hbl⟩
  have Hc : Hid (∀ w, St2 W b c (.cells #[.int .i64 5, .int .i64 A, .int .i64 B, .int .i64 C] 59) (rdO s st k2) (cuO v s st k) w → Calls Tryd.prog 58 #[.pointer (some ⟨c, 0, none⟩)] w fun e w' => e = .returned (.tuple #[.int .i64 (n : Int), .int .i64 (kd : Int), .int .i64 (q : Int)]) ∧ St2 W b c (.cells #[.int .i64 5, .int .i64 A, .int .i64 B, .int .i64 C] 59) (rdO s st k2) (cuO v s st k2) w') := fun w hS => (cTag_any hS.rc (hS.bs hB hne hnb) hk hs).mono fun e w' hq => by
    have q := cg_fun hS.rc hf hq
    exact ⟨q.1, hS.updC q.2 hbc hcl⟩
  have HS0 := hide hS0
  clear hS0 h hc hB hne hnb hf
  go_enter Tryd.func26, Tryd.ntmps26
  go_wp2_with fail
  refine (unhide Hr _ (unhide HS0)).mono ?_
  rintro e w1 ⟨rfl, hS1⟩
  obtain ⟨x0, x1, x2, x3, xf⟩ := cells4_of hS1.box
  have HS1 := hide hS1
  clear hS1 HS0 Hr
  go_wp2_with fail
  refine (unhide Hc w1 (unhide HS1)).mono ?_
  rintro e w2 ⟨rfl, hS2⟩
  have HS2 := hide hS2
  clear hS2 HS1 Hc x0 x1 x2 x3 xf
  have hSt := unhide HS2
  obtain ⟨y0, y1, y2, y3, yf⟩ := cells4_of hSt.rc
  have Hat := hide (rAt_any (W := w2) (b := b) (s := s) (k := k2) (st := st) hSt.rb)
  have hmore := more_any (W := w2) (b := b) (s := s) (k := k2) (st := st) hSt.rb
  obtain ⟨mr, hmr⟩ : ∃ mr, decide (k2 < s.size) = mr := ⟨_, rfl⟩
  have Hmr := hide hmr
  rw [hmr] at hmore
  have Hmore := hide hmore
  clear hSt hmr hmore
  go_wp2_with fail
  refine (unhide Hat).mono ?_
  rintro e w3 ⟨rfl, hw⟩
  obtain rfl : w2 = w3 := hw.symm
  clear hw Hat
  go_wp2_with fail
  refine (unhide Hmore).mono ?_
  rintro e w4 ⟨rfl, nd, rfl⟩
  clear Hmore
  go_wp2
  go_quiet (fail)
  go_wp2
  go_ret
  exact ⟨by first | rfl | (simp; exact (unhide Hmr).symm), k2, unhide Hk2, by first | exact (unhide HS2).drewN _ | exact ((unhide HS2).drewN _).drewN _⟩
set_option maxRecDepth 100000 in
set_option maxHeartbeats 4000000 in
theorem step_skip {W : World} {b c : Nat} {v : Value} {s : ByteArray} {k : Nat} {st : Bool} {A B C : Int} (h : RdAt W b s k st) (hc : CuAt W c v s k st) (hbc : b ≠ c) (hB : Bs W v s) (hk : k ≤ s.size) (hs : s.size ≤ 1048576) (hne : ∀ a l cp, v = .slice (some a) l cp → 0 < s.size → a.block ≠ c ∧ cp ≤ 9223372036854775807) (hnb : ∀ a l cp, v = .slice (some a) l cp → 0 < s.size → a.block ≠ b) :
    Calls Tryd.prog 26 #[.pointer (some ⟨b, 0, none⟩), .pointer (some ⟨c, 0, none⟩), .agg #[.int .i64 6, .int .i64 A, .int .i64 B, .int .i64 C]] W fun e w => SpA W b c v s st (.cells #[.int .i64 6, .int .i64 A, .int .i64 B, .int .i64 C] 59) e w := by
  have hbl := (Array.getElem?_eq_some_iff.1 h).1
  have hcl := (Array.getElem?_eq_some_iff.1 hc).1
  have hS0 : St2 W b c (.cells #[.int .i64 6, .int .i64 A, .int .i64 B, .int .i64 C] 59) (rdO s st k) (cuO v s st k) (W.alloc (.cells #[.int .i64 6, .int .i64 A, .int .i64 B, .int .i64 C] 59)) := St2.start h hc
  obtain ⟨q, k2, hf⟩ : ∃ q k2, fS (skipM s st C k A B) = (q, k2) := ⟨_, _, rfl⟩
  have Hk2 : Hid (k2 ≤ s.size) := by have q := skipM_le (s := s) (st := st) (depth := C) (x := A) (y := B) (k := k) hk; rw [hf] at q; exact q
  have Hr : Hid (∀ w, St2 W b c (.cells #[.int .i64 6, .int .i64 A, .int .i64 B, .int .i64 C] 59) (rdO s st k) (cuO v s st k) w → Calls Tryd.prog 59 #[.pointer (some ⟨b, 0, none⟩), .int .i64 A, .int .i64 B, .int .i64 C] w fun e w' => e = .returned (.int .i64 (q : Int)) ∧ St2 W b c (.cells #[.int .i64 6, .int .i64 A, .int .i64 B, .int .i64 C] 59) (rdO s st k2) (cuO v s st k) w') := fun w hS => (rSkip_any hS.rb hk hs).mono fun e w' hq => by
    have q := rs_fun hf hq
    exact ⟨q.1, hS.updB q.2 hbc hbl⟩
  have Hc : Hid (∀ w, St2 W b c (.cells #[.int .i64 6, .int .i64 A, .int .i64 B, .int .i64 C] 59) (rdO s st k2) (cuO v s st k) w → Calls Tryd.prog 60 #[.pointer (some ⟨c, 0, none⟩), .int .i64 A, .int .i64 B, .int .i64 C] w fun e w' => e = .returned (.int .i64 (q : Int)) ∧ St2 W b c (.cells #[.int .i64 6, .int .i64 A, .int .i64 B, .int .i64 C] 59) (rdO s st k2) (cuO v s st k2) w') := fun w hS => (cSkip_any hS.rc (hS.bs hB hne hnb) hk hs hne).mono fun e w' hq => by
    have q := cs_fun hf hq
    exact ⟨q.1, hS.updC q.2 hbc hcl⟩
  have HS0 := hide hS0
  clear hS0 h hc hB hne hnb hf
  go_enter Tryd.func26, Tryd.ntmps26
  go_wp2_with fail
  refine (unhide Hr _ (unhide HS0)).mono ?_
  rintro e w1 ⟨rfl, hS1⟩
  obtain ⟨x0, x1, x2, x3, xf⟩ := cells4_of hS1.box
  have HS1 := hide hS1
  clear hS1 HS0 Hr
  go_wp2_with fail
  refine (unhide Hc w1 (unhide HS1)).mono ?_
  rintro e w2 ⟨rfl, hS2⟩
  have HS2 := hide hS2
  clear hS2 HS1 Hc x0 x1 x2 x3 xf
  have hSt := unhide HS2
  obtain ⟨y0, y1, y2, y3, yf⟩ := cells4_of hSt.rc
  have Hat := hide (rAt_any (W := w2) (b := b) (s := s) (k := k2) (st := st) hSt.rb)
  have hmore := more_any (W := w2) (b := b) (s := s) (k := k2) (st := st) hSt.rb
  obtain ⟨mr, hmr⟩ : ∃ mr, decide (k2 < s.size) = mr := ⟨_, rfl⟩
  have Hmr := hide hmr
  rw [hmr] at hmore
  have Hmore := hide hmore
  clear hSt hmr hmore
  go_wp2_with fail
  refine (unhide Hat).mono ?_
  rintro e w3 ⟨rfl, hw⟩
  obtain rfl : w2 = w3 := hw.symm
  clear hw Hat
  go_wp2_with fail
  refine (unhide Hmore).mono ?_
  rintro e w4 ⟨rfl, nd, rfl⟩
  clear Hmore
  go_wp2
  go_quiet (fail)
  go_wp2
  go_ret
  exact ⟨by first | rfl | (simp; exact (unhide Hmr).symm), k2, unhide Hk2, by first | exact (unhide HS2).drewN _ | exact ((unhide HS2).drewN _).drewN _⟩
set_option maxRecDepth 100000 in
set_option maxHeartbeats 4000000 in
theorem step_rest {W : World} {b c : Nat} {v : Value} {s : ByteArray} {k : Nat} {st : Bool} {A B C : Int} (h : RdAt W b s k st) (hc : CuAt W c v s k st) (hbc : b ≠ c) (hB : Bs W v s) (hk : k ≤ s.size) (hs : s.size ≤ 1048576) (hne : ∀ a l cp, v = .slice (some a) l cp → 0 < s.size → a.block ≠ c ∧ cp ≤ 9223372036854775807) (hnb : ∀ a l cp, v = .slice (some a) l cp → 0 < s.size → a.block ≠ b) :
    Calls Tryd.prog 26 #[.pointer (some ⟨b, 0, none⟩), .pointer (some ⟨c, 0, none⟩), .agg #[.int .i64 7, .int .i64 A, .int .i64 B, .int .i64 C]] W fun e w => SpA W b c v s st (.cells #[.int .i64 7, .int .i64 A, .int .i64 B, .int .i64 C] 59) e w := by
  have hbl := (Array.getElem?_eq_some_iff.1 h).1
  have hcl := (Array.getElem?_eq_some_iff.1 hc).1
  have hS0 : St2 W b c (.cells #[.int .i64 7, .int .i64 A, .int .i64 B, .int .i64 C] 59) (rdO s st k) (cuO v s st k) (W.alloc (.cells #[.int .i64 7, .int .i64 A, .int .i64 B, .int .i64 C] 59)) := St2.start h hc
  obtain ⟨n, kd, q, k2, hf⟩ : ∃ n kd q k2, fG k (tagR s st k) = (n, kd, q, k2) := ⟨_, _, _, _, rfl⟩
  have Hk2 : Hid (k2 ≤ s.size) := fG_le hk hf
  have Hr : Hid (∀ w, St2 W b c (.cells #[.int .i64 7, .int .i64 A, .int .i64 B, .int .i64 C] 59) (rdO s st k) (cuO v s st k) w → Calls Tryd.prog 57 #[.pointer (some ⟨b, 0, none⟩)] w fun e w' => e = .returned (.tuple #[.int .i64 (n : Int), .int .i64 (kd : Int), .int .i64 (q : Int)]) ∧ St2 W b c (.cells #[.int .i64 7, .int .i64 A, .int .i64 B, .int .i64 C] 59) (rdO s st k2) (cuO v s st k) w') := fun w hS => (rTag_any hS.rb hk hs).mono fun e w' hq => by
    have q := rg_fun hS.rb hf hq
    exact ⟨q.1, hS.updB q.2 hbc hbl⟩
  have Hc : Hid (∀ w, St2 W b c (.cells #[.int .i64 7, .int .i64 A, .int .i64 B, .int .i64 C] 59) (rdO s st k2) (cuO v s st k) w → Calls Tryd.prog 58 #[.pointer (some ⟨c, 0, none⟩)] w fun e w' => e = .returned (.tuple #[.int .i64 (n : Int), .int .i64 (kd : Int), .int .i64 (q : Int)]) ∧ St2 W b c (.cells #[.int .i64 7, .int .i64 A, .int .i64 B, .int .i64 C] 59) (rdO s st k2) (cuO v s st k2) w') := fun w hS => (cTag_any hS.rc (hS.bs hB hne hnb) hk hs).mono fun e w' hq => by
    have q := cg_fun hS.rc hf hq
    exact ⟨q.1, hS.updC q.2 hbc hcl⟩
  have hk2 : k2 ≤ s.size := unhide Hk2
  obtain ⟨q5, k5, hg⟩ : ∃ q k3, fS (skipM s st C k2 (n : Int) (kd : Int)) = (q, k3) := ⟨_, _, rfl⟩
  have Hk5 : Hid (k5 ≤ s.size) := by have q := skipM_le (s := s) (st := st) (depth := C) (x := (n : Int)) (y := (kd : Int)) (k := k2) hk2; rw [hg] at q; exact q
  have Hr5 : Hid (∀ w, St2 W b c (.cells #[.int .i64 7, .int .i64 A, .int .i64 B, .int .i64 C] 59) (rdO s st k2) (cuO v s st k2) w → Calls Tryd.prog 59 #[.pointer (some ⟨b, 0, none⟩), .int .i64 (n : Int), .int .i64 (kd : Int), .int .i64 C] w fun e w' => e = .returned (.int .i64 (q5 : Int)) ∧ St2 W b c (.cells #[.int .i64 7, .int .i64 A, .int .i64 B, .int .i64 C] 59) (rdO s st k5) (cuO v s st k2) w') := fun w hS => (rSkip_any hS.rb hk2 hs).mono fun e w' hq => by
    have q := rs_fun hg hq
    exact ⟨q.1, hS.updB q.2 hbc hbl⟩
  have Hc5 : Hid (∀ w, St2 W b c (.cells #[.int .i64 7, .int .i64 A, .int .i64 B, .int .i64 C] 59) (rdO s st k5) (cuO v s st k2) w → Calls Tryd.prog 60 #[.pointer (some ⟨c, 0, none⟩), .int .i64 (n : Int), .int .i64 (kd : Int), .int .i64 C] w fun e w' => e = .returned (.int .i64 (q5 : Int)) ∧ St2 W b c (.cells #[.int .i64 7, .int .i64 A, .int .i64 B, .int .i64 C] 59) (rdO s st k5) (cuO v s st k5) w') := fun w hS => (cSkip_any hS.rc (hS.bs hB hne hnb) hk2 hs hne).mono fun e w' hq => by
    have q := cs_fun hg hq
    exact ⟨q.1, hS.updC q.2 hbc hcl⟩
  have HS0 := hide hS0
  clear hS0 h hc hB hne hnb hf hg hk2
  go_enter Tryd.func26, Tryd.ntmps26
  go_wp2_with fail
  refine (unhide Hr _ (unhide HS0)).mono ?_
  rintro e w1 ⟨rfl, hS1⟩
  obtain ⟨x0, x1, x2, x3, xf⟩ := cells4_of hS1.box
  have HS1 := hide hS1
  clear hS1 HS0 Hr
  go_wp2_with fail
  refine (unhide Hc w1 (unhide HS1)).mono ?_
  rintro e w2 ⟨rfl, hS2⟩
  have HS2 := hide hS2
  clear HS1 Hc x0 x1 x2 x3 xf
  by_cases hq0 : q = 0
  · have q0 : ((q : Int) == 0) = true := by rw [hq0]; rfl
    obtain ⟨x0, x1, x2, x3, xf⟩ := cells4_of hS2.box
    clear hS2 hq0
    go_wp2_with fail
    refine (unhide Hr5 w2 (unhide HS2)).mono ?_
    rintro e w5 ⟨rfl, hS5⟩
    obtain ⟨z0, z1, z2, z3, zf⟩ := cells4_of hS5.box
    have HS5 := hide hS5
    clear hS5 HS2 Hr5 x0 x1 x2 x3 xf
    go_wp2_with fail
    refine (unhide Hc5 w5 (unhide HS5)).mono ?_
    rintro e w6 ⟨rfl, hS6⟩
    have HS2 := hide hS6
    clear hS6 HS5 Hc5 z0 z1 z2 z3 zf Hk2
    have Hk2 := Hk5
    have hSt := unhide HS2
    obtain ⟨y0, y1, y2, y3, yf⟩ := cells4_of hSt.rc
    have Hat := hide (rAt_any (W := w6) (b := b) (s := s) (k := k5) (st := st) hSt.rb)
    have hmore := more_any (W := w6) (b := b) (s := s) (k := k5) (st := st) hSt.rb
    obtain ⟨mr, hmr⟩ : ∃ mr, decide (k5 < s.size) = mr := ⟨_, rfl⟩
    have Hmr := hide hmr
    rw [hmr] at hmore
    have Hmore := hide hmore
    clear hSt hmr hmore
    go_wp2_with fail
    refine (unhide Hat).mono ?_
    rintro e w3 ⟨rfl, hw⟩
    obtain rfl : w6 = w3 := hw.symm
    clear hw Hat
    go_wp2_with fail
    refine (unhide Hmore).mono ?_
    rintro e w4 ⟨rfl, nd, rfl⟩
    clear Hmore
    go_wp2
    go_quiet (fail)
    go_wp2
    go_ret
    exact ⟨by first | rfl | (simp; exact (unhide Hmr).symm), k5, unhide Hk2, by first | exact (unhide HS2).drewN _ | exact ((unhide HS2).drewN _).drewN _⟩
  · have q0 : ((q : Int) == 0) = false := beq_eq_false_iff_ne.2 (by omega)
    clear hS2 hq0 Hr5 Hc5
    have hSt := unhide HS2
    obtain ⟨y0, y1, y2, y3, yf⟩ := cells4_of hSt.rc
    have Hat := hide (rAt_any (W := w2) (b := b) (s := s) (k := k2) (st := st) hSt.rb)
    have hmore := more_any (W := w2) (b := b) (s := s) (k := k2) (st := st) hSt.rb
    obtain ⟨mr, hmr⟩ : ∃ mr, decide (k2 < s.size) = mr := ⟨_, rfl⟩
    have Hmr := hide hmr
    rw [hmr] at hmore
    have Hmore := hide hmore
    clear hSt hmr hmore
    go_wp2_with fail
    refine (unhide Hat).mono ?_
    rintro e w3 ⟨rfl, hw⟩
    obtain rfl : w2 = w3 := hw.symm
    clear hw Hat
    go_wp2_with fail
    refine (unhide Hmore).mono ?_
    rintro e w4 ⟨rfl, nd, rfl⟩
    clear Hmore
    go_wp2
    go_quiet (fail)
    go_wp2
    go_ret
    exact ⟨by first | rfl | (simp; exact (unhide Hmr).symm), k2, unhide Hk2, by first | exact (unhide HS2).drewN _ | exact ((unhide HS2).drewN _).drewN _⟩
set_option maxRecDepth 100000 in
set_option maxHeartbeats 4000000 in
theorem step_none {W : World} {b c : Nat} {v : Value} {s : ByteArray} {k : Nat} {st : Bool} {kind A B C : Int} (h : RdAt W b s k st) (hc : CuAt W c v s k st) (hbc : b ≠ c) (hB : Bs W v s) (hk : k ≤ s.size) (hs : s.size ≤ 1048576) (hne : ∀ a l cp, v = .slice (some a) l cp → 0 < s.size → a.block ≠ c ∧ cp ≤ 9223372036854775807) (hnb : ∀ a l cp, v = .slice (some a) l cp → 0 < s.size → a.block ≠ b) (n2 : kind ≠ 2) (n3 : kind ≠ 3) (n4 : kind ≠ 4) (n5 : kind ≠ 5) (n6 : kind ≠ 6) (n7 : kind ≠ 7) :
    Calls Tryd.prog 26 #[.pointer (some ⟨b, 0, none⟩), .pointer (some ⟨c, 0, none⟩), .agg #[.int .i64 kind, .int .i64 A, .int .i64 B, .int .i64 C]] W fun e w => SpA W b c v s st (.cells #[.int .i64 kind, .int .i64 A, .int .i64 B, .int .i64 C] 59) e w := by
  have hbl := (Array.getElem?_eq_some_iff.1 h).1
  have hcl := (Array.getElem?_eq_some_iff.1 hc).1
  have hS0 : St2 W b c (.cells #[.int .i64 kind, .int .i64 A, .int .i64 B, .int .i64 C] 59) (rdO s st k) (cuO v s st k) (W.alloc (.cells #[.int .i64 kind, .int .i64 A, .int .i64 B, .int .i64 C] 59)) := St2.start h hc
  have Hk2 : Hid (k ≤ s.size) := hk
  have _ := hB
  have _ := hs
  have _ := hne
  have _ := hnb
  have _ := hbc
  have d2 : (kind == 2) = false := beq_eq_false_iff_ne.2 n2
  have d3 : (kind == 3) = false := beq_eq_false_iff_ne.2 n3
  have d4 : (kind == 4) = false := beq_eq_false_iff_ne.2 n4
  have d5 : (kind == 5) = false := beq_eq_false_iff_ne.2 n5
  have d6 : (kind == 6) = false := beq_eq_false_iff_ne.2 n6
  have d7 : (kind == 7) = false := beq_eq_false_iff_ne.2 n7
  have HS2 := hide hS0
  clear hS0 h hc hB hne hnb n2 n3 n4 n5 n6 n7
  go_enter Tryd.func26, Tryd.ntmps26
  go_wp2_with fail
  generalize W.alloc (.cells #[.int .i64 kind, .int .i64 A, .int .i64 B, .int .i64 C] 59) = w2 at *
  have hSt := unhide HS2
  obtain ⟨y0, y1, y2, y3, yf⟩ := cells4_of hSt.rc
  have Hat := hide (rAt_any (W := w2) (b := b) (s := s) (k := k) (st := st) hSt.rb)
  have hmore := more_any (W := w2) (b := b) (s := s) (k := k) (st := st) hSt.rb
  obtain ⟨mr, hmr⟩ : ∃ mr, decide (k < s.size) = mr := ⟨_, rfl⟩
  have Hmr := hide hmr
  rw [hmr] at hmore
  have Hmore := hide hmore
  clear hSt hmr hmore
  go_wp2_with fail
  refine (unhide Hat).mono ?_
  rintro e w3 ⟨rfl, hw⟩
  obtain rfl : w2 = w3 := hw.symm
  clear hw Hat
  go_wp2_with fail
  refine (unhide Hmore).mono ?_
  rintro e w4 ⟨rfl, nd, rfl⟩
  clear Hmore
  go_wp2
  go_quiet (fail)
  go_wp2
  go_ret
  exact ⟨by first | rfl | (simp; exact (unhide Hmr).symm), k, unhide Hk2, by first | exact (unhide HS2).drewN _ | exact ((unhide HS2).drewN _).drewN _⟩
/-- One call on both. -/
theorem step_any {W : World} {b c : Nat} {v : Value} {s : ByteArray} {k : Nat} {st : Bool} {kind A B C : Int} (h : RdAt W b s k st) (hc : CuAt W c v s k st) (hbc : b ≠ c) (hB : Bs W v s) (hk : k ≤ s.size) (hs : s.size ≤ 1048576) (hne : ∀ a l cp, v = .slice (some a) l cp → 0 < s.size → a.block ≠ c ∧ cp ≤ 9223372036854775807) (hnb : ∀ a l cp, v = .slice (some a) l cp → 0 < s.size → a.block ≠ b) :
    Calls Tryd.prog 26 #[.pointer (some ⟨b, 0, none⟩), .pointer (some ⟨c, 0, none⟩), .agg #[.int .i64 kind, .int .i64 A, .int .i64 B, .int .i64 C]] W fun e w => SpA W b c v s st (.cells #[.int .i64 kind, .int .i64 A, .int .i64 B, .int .i64 C] 59) e w := by
  by_cases n2 : kind = 2
  · subst n2; exact step_varint h hc hbc hB hk hs hne hnb
  by_cases n3 : kind = 3
  · subst n3
    by_cases h4 : A = 4
    · subst h4; exact step_fixed4 h hc hbc hB hk hs hne hnb
    by_cases h8 : A = 8
    · subst h8; exact step_fixed8 h hc hbc hB hk hs hne hnb
    exact step_fixedno h hc hbc hB hk hs hne hnb h4 h8
  by_cases n4 : kind = 4
  · subst n4; exact step_text h hc hbc hB hk hs hne hnb
  by_cases n5 : kind = 5
  · subst n5; exact step_tag h hc hbc hB hk hs hne hnb
  by_cases n6 : kind = 6
  · subst n6; exact step_skip h hc hbc hB hk hs hne hnb
  by_cases n7 : kind = 7
  · subst n7; exact step_rest h hc hbc hB hk hs hne hnb
  exact step_none h hc hbc hB hk hs hne hnb n2 n3 n4 n5 n6 n7
#print axioms step_any
end Go.Proofs.YtobomdokdajbaaaDoor
