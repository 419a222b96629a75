import Derived.Test.YtafhombogmilmaaDoorUO
namespace Go.Proofs.YtafhombogmilmaaDoor
open Go.RowKit
attribute [local go_sem ↓] Go.wp_at_zero Go.wp_at_succ

def WB (i w : Nat) : Prop := (i = 1 → w ≤ 31) ∧ (i = 2 → w ≤ 2047) ∧ (i = 3 → w ≤ 131071) ∧ w ≤ 8388607
theorem WB.next {i w y : Nat} (h : WB i w) (h1 : 1 ≤ i) (h3 : i ≤ 3) (hy : y ≤ 191) : WB (i + 1) (64 * w + (y - 128)) := by
  obtain ⟨a, b, c, d⟩ := h
  refine ⟨fun e => by omega, fun e => ?_, fun e => ?_, ?_⟩
  · have := a (by omega); omega
  · have := b (by omega); omega
  · rcases (by omega : i = 1 ∨ i = 2 ∨ i = 3) with q | q | q
    · have := a q; omega
    · have := b q; omega
    · have := c q; omega
theorem WB.top {i w : Nat} (h : WB i w) (h1 : 1 ≤ i) (h3 : i ≤ 3) : w ≤ 131071 := by
  obtain ⟨a, b, c, d⟩ := h
  rcases (by omega : i = 1 ∨ i = 2 ∨ i = 3) with q | q | q
  · have := a q; omega
  · have := b q; omega
  · exact c q
set_option maxRecDepth 100000 in
set_option maxHeartbeats 4000000 in
theorem one_any (W : World) (s : ByteArray) (k : Nat) (hk : k < s.size) (hs : s.size ≤ 140737488351232) :
    Calls Tryd.prog 23 #[.string s, .int .i64 (k : Int)] W fun e w => e = .returned (.int .i64 (chAt s k : Int)) ∧ w = W := by
  obtain ⟨x, hx⟩ : ∃ x : Nat, s[k].toNat = x := ⟨_, rfl⟩
  have hbx : byteAt s k = x := (byteAt_eq s k hk).trans hx
  have hx2 : x < 256 := by rw [← hbx]; exact byteAt_lt s k
  have k0 : (0 : Int) ≤ (k : Int) := Int.natCast_nonneg _
  have k1 : (k : Int) < (s.size : Int) := by omega
  have Hbx := hide hbx
  clear hbx
  go_enter Tryd.func23, Tryd.ntmps23
  go_upto_block 0 with fail
  go_cut [5, 6, 7] from 14 to 43 (fun v5 v6 v7 wc => ∃ w0 n least : Nat, v5 = .int .i64 (w0 : Int) ∧ v6 = .int .i64 (n : Int) ∧ v7 = .int .i64 (least : Int) ∧ wc = W ∧ w0 ≤ 31 ∧ 2 ≤ n ∧ n ≤ 4 ∧ least ≤ 65536 ∧ Hid (OneCase x w0 n least))
  case first =>
    have hcs : x < 128 ∨ (128 ≤ x ∧ x < 192) ∨ (192 ≤ x ∧ x < 224) ∨ (224 ≤ x ∧ x < 240) ∨ (240 ≤ x ∧ x < 248) ∨ 248 ≤ x := by omega
    rcases hcs with hc | hc | hc | hc | hc | hc
    · have b0 := zltT (c := x) (k := 128) (by omega)
      have hc1 : chAt s k = 1 := chAt_ok (c := 0) (d := 0) (e := 0) (by rw [unhide Hbx]; unfold frm; rw [if_pos (by omega)]) ⟨by omega, fun j j1 j2 => by omega⟩
      have Hc := hide hc1
      clear hc1
      go_wp2
      go_ret
      exact ⟨by rw [unhide Hc]; rfl, rfl⟩
    · have b0 := zltF (c := x) (k := 128) (by omega); have b1 := zgeF (c := x) (k := 192) (by omega); have b2 := zgeF (c := x) (k := 224) (by omega); have b3 := zgeF (c := x) (k := 240) (by omega)
      have Hc : Hid (chAt s k = 0) := chAt_none (by rw [unhide Hbx]; exact frm2n (by omega) (by omega))
      go_wp2
      go_ret
      exact ⟨by rw [unhide Hc]; rfl, rfl⟩
    · have b0 := zltF (c := x) (k := 128) (by omega); have b1 := zgeT (c := x) (k := 192) (by omega); have b2 := zltT (c := x) (k := 224) (by omega)
      have Hone : Hid (OneCase x (x - 192) 2 128) := .inl ⟨by omega, by omega, rfl, rfl, rfl⟩
      go_wp2
      go_meet
      case rel => exact ⟨x - 192, 2, 128, by go_num, rfl, rfl, rfl, by omega, by omega, by omega, by omega, Hone⟩
    · have b0 := zltF (c := x) (k := 128) (by omega); have b1 := zgeT (c := x) (k := 192) (by omega); have b2 := zltF (c := x) (k := 224) (by omega); have b3 := zgeT (c := x) (k := 224) (by omega); have b4 := zltT (c := x) (k := 240) (by omega)
      have Hone : Hid (OneCase x (x - 224) 3 2048) := .inr (.inl ⟨by omega, by omega, rfl, rfl, rfl⟩)
      go_wp2
      go_meet
      case rel => exact ⟨x - 224, 3, 2048, by go_num, rfl, rfl, rfl, by omega, by omega, by omega, by omega, Hone⟩
    · have b0 := zltF (c := x) (k := 128) (by omega); have b1 := zgeT (c := x) (k := 192) (by omega); have b2 := zltF (c := x) (k := 224) (by omega); have b3 := zgeT (c := x) (k := 224) (by omega); have b4 := zltF (c := x) (k := 240) (by omega); have b5 := zgeT (c := x) (k := 240) (by omega); have b6 := zltT (c := x) (k := 248) (by omega)
      have Hone : Hid (OneCase x (x - 240) 4 65536) := .inr (.inr ⟨by omega, by omega, rfl, rfl, rfl⟩)
      go_wp2
      go_meet
      case rel => exact ⟨x - 240, 4, 65536, by go_num, rfl, rfl, rfl, by omega, by omega, by omega, by omega, Hone⟩
    · have b0 := zltF (c := x) (k := 128) (by omega); have b1 := zgeT (c := x) (k := 192) (by omega); have b2 := zltF (c := x) (k := 224) (by omega); have b3 := zgeT (c := x) (k := 224) (by omega); have b4 := zltF (c := x) (k := 240) (by omega); have b5 := zgeT (c := x) (k := 240) (by omega); have b6 := zltF (c := x) (k := 248) (by omega)
      have Hc : Hid (chAt s k = 0) := chAt_none (by rw [unhide Hbx]; exact frm4n (by omega))
      go_wp2
      go_ret
      exact ⟨by rw [unhide Hc]; rfl, rfl⟩
  case rest =>
    obtain ⟨w0, n, least, rfl, rfl, rfl, rfl, hw31, n2, n4, hle, Hone⟩ := hcut
    clear hx
    by_cases hsz : k + n ≤ s.size
    · have e1 : decide ((s.size : Int) < (k : Int) + (n : Int)) = false := by simp; omega
      go_wp2
      go_loopg [5, 8, 9] (n - 1) (fun gk v5 v8 _ wr => ∃ (i w : Nat), v8 = .int .i64 (i : Int) ∧ v5 = .int .i64 (w : Int) ∧ 1 ≤ i ∧ i ≤ n ∧ gk = n - i ∧ wr = wc ∧ Hid (w = wk s k w0 (i - 1) ∧ WB i w ∧ ∀ j, 1 ≤ j → j < i → 128 ≤ byteAt s (k + j) ∧ byteAt s (k + j) ≤ 191))
      case atStart => exact ⟨1, w0, rfl, rfl, Nat.le_refl _, by omega, rfl, rfl, rfl, ⟨fun _ => hw31, fun e => by omega, fun e => by omega, by omega⟩, fun j h1 h2 => by omega⟩
      case round =>
        obtain ⟨i, w, rfl, rfl, i1, hi', hgk, rfl, Hh⟩ := hrel
        have Hgk := hide hgk
        clear hgk
        by_cases hlt : i < n
        · obtain ⟨j, hj⟩ : ∃ j, j = k + i := ⟨_, rfl⟩
          have hjs : j < s.size := by omega
          obtain ⟨y, hy⟩ : ∃ y : Nat, (s[j]'hjs).toNat = y := ⟨_, rfl⟩
          have hby : byteAt s (k + i) = y := by rw [← hj]; exact (byteAt_eq s j hjs).trans hy
          have hy2 : y < 256 := by rw [← hby]; exact byteAt_lt s _
          have Hby := hide hby
          have hw0 : (k : Int) + (i : Int) = (j : Int) := by omega
          have j0 : (0 : Int) ≤ (j : Int) := Int.natCast_nonneg _
          have j1 : (j : Int) < (s.size : Int) := by omega
          have wtop : w ≤ 131071 := (unhide Hh).2.1.top i1 (by omega)
          clear hby hj
          by_cases c1 : y < 128
          · have b1 := zltT (c := y) (k := 128) (by omega)
            have Hc : Hid (chAt s k = 0) := one_zero (unhide Hbx) (unhide Hone) (.inr ⟨i, i1, hlt, by rw [unhide Hby]; exact .inl c1⟩)
            go_upto_region 25 with fail
            clear hw0 hy j0 j1 hjs
            go_wp2
            go_ret
            exact ⟨by rw [unhide Hc]; rfl, rfl⟩
          · have b1 := zltF (c := y) (k := 128) (by omega)
            by_cases c2 : 192 ≤ y
            · have b2 := zgeT (c := y) (k := 192) (by omega)
              have Hc : Hid (chAt s k = 0) := one_zero (unhide Hbx) (unhide Hone) (.inr ⟨i, i1, hlt, by rw [unhide Hby]; exact .inr c2⟩)
              go_upto_region 25 with fail
              clear hw0 hy j0 j1 hjs
              go_wp2
              go_ret
              exact ⟨by rw [unhide Hc]; rfl, rfl⟩
            · have b2 := zgeF (c := y) (k := 192) (by omega)
              have Hnext : Hid (64 * w + (y - 128) = wk s k w0 (i + 1 - 1) ∧ WB (i + 1) (64 * w + (y - 128)) ∧ ∀ j, 1 ≤ j → j < i + 1 → 128 ≤ byteAt s (k + j) ∧ byteAt s (k + j) ≤ 191) := by
                obtain ⟨h1, h2, h3⟩ := unhide Hh
                refine ⟨?_, h2.next i1 (by omega) (by omega), fun j j1 j2 => ?_⟩
                · obtain ⟨m, rfl⟩ : ∃ m, i = m + 1 := ⟨i - 1, by omega⟩
                  have e : wk s k w0 (m + 1 + 1 - 1) = 64 * wk s k w0 m + (byteAt s (k + (m + 1)) - 128) := rfl
                  rw [e, unhide Hby, h1]
                  rfl
                · by_cases hj : j = i
                  · subst hj; rw [unhide Hby]; omega
                  · exact h3 j j1 (by omega)
              have hwn : 64 * (w : Int) + (y : Int) - 128 = ((64 * w + (y - 128) : Nat) : Int) := by omega
              have Hwn := hide hwn
              clear hwn
              go_upto_region 25 with fail
              clear hw0 hy j0 j1 hjs
              go_wp2
              go_roundg (n - (i + 1))
              case measure => have := unhide Hgk; omega
              case rel => exact ⟨i + 1, 64 * w + (y - 128), by go_num, by rw [unhide Hwn], by omega, by omega, rfl, rfl, Hnext⟩
        · obtain rfl : i = n := by omega
          obtain ⟨h1, h2, h3⟩ := unhide Hh
          have hfin := one_final (unhide Hbx) (unhide Hone) hsz h3
          rw [← h1] at hfin
          have wb : w ≤ 8388607 := h2.2.2.2
          have Hf := hide hfin
          clear h1 h2 h3 hfin Hh
          obtain ⟨a, ha⟩ : ∃ a : Int, a = (w : Int) := ⟨_, rfl⟩
          obtain ⟨q, hq⟩ : ∃ q : Int, q = (least : Int) := ⟨_, rfl⟩
          rw [← ha, ← hq]
          have a0 : 0 ≤ a := by omega
          by_cases c1 : w < least
          · have b1 : decide (a < q) = true := by simp; omega
            have Hc : Hid (chAt s k = 0) := (unhide Hf).2 (fun q => by have := q.1; omega)
            clear c1 ha hq a0 wb
            go_wp2
            go_ret
            exact ⟨by rw [unhide Hc]; rfl, rfl⟩
          · have b1 : decide (a < q) = false := by simp; omega
            by_cases c2 : 1114111 < w
            · have b2 : decide (1114111 < a) = true := by simp; omega
              have Hc : Hid (chAt s k = 0) := (unhide Hf).2 (fun q => by have := q.2.1; omega)
              clear c1 c2 ha hq a0 wb
              go_wp2
              go_ret
              exact ⟨by rw [unhide Hc]; rfl, rfl⟩
            · have b2 : decide (1114111 < a) = false := by simp; omega
              by_cases c3 : 55296 ≤ w
              · have b3 : decide (55296 ≤ a) = true := by simp; omega
                by_cases c4 : w < 57344
                · have b4 : decide (a < 57344) = true := by simp; omega
                  have Hc : Hid (chAt s k = 0) := (unhide Hf).2 (fun q => by have := q.2.2; omega)
                  clear c1 c2 c3 c4 ha hq a0 wb
                  go_wp2
                  go_ret
                  exact ⟨by rw [unhide Hc]; rfl, rfl⟩
                · have b4 : decide (a < 57344) = false := by simp; omega
                  have Hc : Hid (chAt s k = i) := (unhide Hf).1 ⟨by omega, by omega, by omega⟩
                  clear c1 c2 c3 c4 ha hq a0 wb
                  go_wp2
                  go_ret
                  exact ⟨by rw [unhide Hc]; rfl, rfl⟩
              · have b3 : decide (55296 ≤ a) = false := by simp; omega
                have Hc : Hid (chAt s k = i) := (unhide Hf).1 ⟨by omega, by omega, by omega⟩
                clear c1 c2 c3 ha hq a0 wb
                go_wp2
                go_ret
                exact ⟨by rw [unhide Hc]; rfl, rfl⟩
    · have e1 : decide ((s.size : Int) < (k : Int) + (n : Int)) = true := by simp; omega
      have Hc : Hid (chAt s k = 0) := one_zero (unhide Hbx) (unhide Hone) (.inl (by omega))
      go_wp2
      go_ret
      exact ⟨by rw [unhide Hc]; rfl, rfl⟩

set_option maxRecDepth 100000 in
set_option maxHeartbeats 1000000 in
theorem xutf8_any (W : World) (s : ByteArray) (hs : s.size ≤ 140737488351232) :
    Calls Tryd.prog 9 #[.string s] W fun e w => e = .returned (.int .i64 (utfAt s 0)) ∧ w = W := by
  go_enter Tryd.func9, Tryd.ntmps9
  go_wp2
  go_loopg [3, 4] s.size (fun gk v3 _ wr => ∃ (k : Nat), v3 = .int .i64 (k : Int) ∧ gk = s.size - k ∧ k ≤ s.size ∧ wr = W ∧ Hid (utfAt s 0 = utfAt s k))
  case atStart => exact ⟨0, rfl, rfl, by omega, rfl, rfl⟩
  case round =>
    obtain ⟨k, rfl, hgk, hk, rfl, Hu⟩ := hrel
    have Hgk := hide hgk
    clear hgk
    by_cases hlt : k < s.size
    · go_wp2_with fail
      refine (one_any wr s k hlt hs).mono ?_
      rintro e w2 ⟨rfl, he⟩
      obtain rfl : wr = w2 := he.symm
      obtain ⟨q1, q2⟩ := chAt_le s k hk
      by_cases h0 : chAt s k = 0
      · have Hr : Hid (utfAt s 0 = (k : Int)) := (unhide Hu).trans (utf_bad hlt h0)
        rw [h0]
        clear h0 q1 q2
        go_wp2
        go_ret
        exact ⟨by rw [unhide Hr]; rfl, rfl⟩
      · have Hr : Hid (utfAt s 0 = utfAt s (k + chAt s k)) := (unhide Hu).trans (utf_step hlt h0)
        obtain ⟨n, hn⟩ : ∃ n, n = chAt s k := ⟨_, rfl⟩
        rw [← hn] at h0 q1 q2 Hr ⊢
        have n0 : ((n : Int) == 0) = false := by simp; omega
        clear hn
        go_wp2
        go_roundg (s.size - (k + n))
        case measure => have := unhide Hgk; omega
        case rel => exact ⟨k + n, by go_num, rfl, by omega, rfl, Hr⟩
    · have Hr : Hid (utfAt s 0 = -1) := (unhide Hu).trans (utf_end hlt)
      obtain rfl : k = s.size := by omega
      go_wp2
      go_ret
      exact ⟨by rw [unhide Hr]; rfl, rfl⟩
end Go.Proofs.YtafhombogmilmaaDoor
