import Derived.Test.YtmapmegecdgcpaaDoorSGJ
namespace Go.Proofs.YtmapmegecdgcpaaDoor
open Go.RowKit Go.Lib
attribute [local go_sem ↓] Go.wp_at_zero Go.wp_at_succ

set_option maxRecDepth 100000 in
set_option maxHeartbeats 2000000 in
theorem quote_any {W : World} (h : HasF W) (s : ByteArray) (hs : s.size ≤ 1048576) :
    Calls Tryd.prog 15 #[.string s] W fun e w => e = .returned (.string (ofN (34 :: qAll s 0 ++ [34]))) ∧ Below W.heap.size W w := by
  obtain ⟨i0, hi, hz0, hz1, hz2⟩ := info_parts Tryd.infoByte
  have hy0 : Bytes W.heap.size (W.alloc (.cells #[.int .u8 34] 5)) (.slice (some ⟨W.heap.size, 0, none⟩) 1 1) ([34] ++ []) := bytes_one W 34
  have Hy0 := hide hy0
  have HB0 : Hid (Below W.heap.size W (W.alloc (.cells #[.int .u8 34] 5))) := (Below.refl _ _).alloc (Nat.le_refl _) _
  clear hy0
  go_enter Tryd.func15, Tryd.ntmps15
  go_wp2
  go_loopg [3, 4, 5] s.size (fun gk v3 v4 _ wr => ∃ (k : Nat) (pre : List Nat) (va : Option Addr) (vn vc : Nat), v3 = .slice va vn vc ∧ v4 = .int .i64 (k : Int) ∧ gk = s.size - k ∧ k ≤ s.size ∧ pre.length ≤ 4 * k ∧ Hid (Bytes W.heap.size wr (.slice va vn vc) ([34] ++ pre)) ∧ Hid (Byt pre) ∧ Hid (qAll s 0 = pre ++ qAll s k) ∧ Hid (Below W.heap.size W wr))
  case atStart => exact ⟨0, [], _, _, _, rfl, rfl, rfl, by omega, by simp, Hy0, fun x hx => by simp at hx, rfl, HB0⟩
  case round =>
    obtain ⟨k, pre, va, vn, vc, rfl, rfl, hgk, hk, hpl, HY, Hbyt, Hq, HB⟩ := hrel
    have Hgk := hide hgk
    clear hgk Hy0 HB0
    by_cases hlt : k < s.size
    · have hz := extract_size s k s.size (Nat.le_refl _)
      have hst := qAll_step hlt
      have hql := @qs_len s k
      have hqb := qs_byt s k
      have hqn := qn_le hlt
      have hqp := qn_pos s k
      have hdr := plainK_drop hlt
      have hpn : pre.length + (qs s k).length ≤ 4 * (k + qn s k) := by omega
      have Hnext : Hid (qAll s 0 = (pre ++ qs s k) ++ qAll s (k + qn s k)) := by
        show qAll s 0 = (pre ++ qs s k) ++ qAll s (k + qn s k)
        rw [unhide Hq, hst, List.append_assoc]
      have Hbyt2 : Hid (Byt (pre ++ qs s k)) := (unhide Hbyt).append hqb
      have Hpn := hide hpn
      have Hqn := hide hqn
      have Hqp := hide hqp
      clear hst hql hqb hpn hqn hqp Hq
      go_wp2_with fail
      refine (plain_any (h.up (unhide HB)) (s.extract k s.size) (by omega) (by omega)).mono ?_
      rintro e w2 ⟨rfl, hb2⟩
      rw [hdr]
      have HB2 : Hid (Below W.heap.size W w2) := (unhide HB).trans (hb2.mono (unhide HB).size)
      have HY2 : Hid (Bytes W.heap.size w2 (.slice va vn vc) ([34] ++ pre)) := (unhide HY).up hb2
      have hsz2 : W.heap.size ≤ w2.heap.size := (unhide HB2).size
      have Hdr := hide hdr
      clear hdr hz HY HB hb2
      by_cases h0 : plainK s k = 0
      · obtain ⟨x, hx⟩ : ∃ x : Nat, s[k].toNat = x := ⟨_, rfl⟩
        have hbx : byteAt s k = x := (byteAt_eq s k hlt).trans hx
        have hx2 : x < 256 := by rw [← hbx]; exact byteAt_lt s k
        have hqs : qs s k = esc x := by unfold qs; rw [if_pos h0, hbx]
        have hqn1 : qn s k = 1 := by unfold qn; rw [if_pos h0]
        rw [h0]
        rw [hqs, hqn1] at Hnext Hpn
        rw [hqs] at Hbyt2
        have k0 : (0 : Int) ≤ (k : Int) := Int.natCast_nonneg _
        have k1 : (k : Int) < (s.size : Int) := by omega
        clear hbx hqs hqn1 h0 Hqn Hqp
        go_wp2_with fail
        refine (putEscape_any (unhide HY2) hsz2 (by simp; omega) x hx2).mono ?_
        rintro e w3 ⟨v', rfl, hby, hext⟩
        obtain ⟨va', vn', vc', rfl⟩ := hby.shape
        have HB3 : Hid (Below W.heap.size W w3) := (unhide HB2).trans (hext.below hsz2 (unhide HY2).base_le)
        have HY3 : Hid (Bytes W.heap.size w3 (.slice va' vn' vc') ([34] ++ (pre ++ esc x))) := by rw [← List.append_assoc]; exact hby
        clear hby hext
        go_wp2
        go_roundg (s.size - (k + 1))
        case measure => have := unhide Hgk; omega
        case rel => exact ⟨k + 1, pre ++ esc x, _, _, _, rfl, by go_num, rfl, by omega, by have := unhide Hpn; simp only [List.length_append]; omega, HY3, Hbyt2, Hnext, HB3⟩
      · obtain ⟨n, hn⟩ : ∃ n, n = plainK s k := ⟨_, rfl⟩
        have hqs : qs s k = sub s k n := by unfold qs; rw [if_neg h0, hn]
        have hqn1 : qn s k = n := by unfold qn; rw [if_neg h0, hn]
        have hle := plainK_le hlt
        rw [hqs, hqn1] at Hnext Hpn
        rw [hqs] at Hbyt2
        rw [← hn] at hle h0 ⊢
        obtain ⟨hle1, hle2⟩ := hle
        have e0 : ((n : Int) == 0) = false := by simp; omega
        have hsub := sub_extract s k n
        have hsl := sub_len hle1
        have hxz := extract_size s k (k + n) hle1
        have o1 : ([34] ++ pre).length + (s.extract k (k + n)).size ≤ maxLen := by rw [hxz]; unfold maxLen; simp; omega
        have o2 : ([34] ++ pre).length + (s.extract k (k + n)).size ≤ 140737488355328 := by rw [hxz]; simp; omega
        have k0 : (0 : Int) ≤ (k : Int) := Int.natCast_nonneg _
        have Hsub := hide hsub
        have Hsl := hide hsl
        have O1 := hide o1
        have O2 := hide o2
        clear hqs hqn1 Hqn Hqp hn hsub hsl o1 o2
        go_wp2_with (at_builtin; refine wpList_append_str_at rfl _ _ 30 9 rfl W.heap.size 5 i0 Tryd.underlying30 Tryd.underlying9 hi hz0 hz1 hz2 _ _ _ rfl (unhide HY2) (s.extract k (k + n)) rfl (unhide O1) (unhide O2) hsz2 ?_; intro v4 w4 hown4 hgrow4 hat4; have Hown := hide hown4; have Hgrow := hide hgrow4; have Hat := hide hat4; clear hown4 hgrow4 hat4)
        obtain ⟨v5, hv5, hby, hext⟩ := putE_str (ys := sub s k n) (unhide Hown) (by have := unhide Hsl; omega) ((strCells_nb _).trans (by rw [unhide Hsub])) (unhide Hgrow) (unhide Hat)
        obtain rfl : v4 = v5 := by simpa using hv5
        obtain ⟨va', vn', vc', rfl⟩ := hby.shape
        have HB3 : Hid (Below W.heap.size W w4) := (unhide HB2).trans (hext.below hsz2 (unhide HY2).base_le)
        have HY3 : Hid (Bytes W.heap.size w4 (.slice va' vn' vc') ([34] ++ (pre ++ sub s k n))) := by rw [← List.append_assoc]; exact hby
        clear hby hext Hown Hgrow Hat hv5
        go_roundg (s.size - (k + n))
        case measure => have := unhide Hgk; omega
        case rel => exact ⟨k + n, pre ++ sub s k n, _, _, _, rfl, by go_num, rfl, by omega, by have := unhide Hpn; simp only [List.length_append]; omega, HY3, Hbyt2, Hnext, HB3⟩
    · have hq := unhide Hq
      rw [qAll_end hlt, List.append_nil] at hq
      have Hq2 := hide hq
      obtain rfl : k = s.size := by omega
      have hsz2 : W.heap.size ≤ wr.heap.size := (unhide HB).size
      have o1 : ([34] ++ pre).length + 1 ≤ maxLen := by unfold maxLen; simp; omega
      have o2 : (([34] ++ pre).length + 1) * 1 ≤ 140737488355328 := by simp; omega
      have O1 := hide o1
      have O2 := hide o2
      have hcv : ∀ (w : World) (v : Value) (l : List Nat), HasB w v l → Byt l → (convert 30 9 v).run Tryd.prog w = .ok (.string (ofN l)) w := fun w v l q1 q2 => conv_any q1 q2
      have Hcv := hide hcv
      clear hq Hq o1 o2 hcv
      go_wp2_with (at_builtin; refine wpList_append_own_at _ rfl _ _ 30 rfl W.heap.size 5 i0 (.int .u8 0) 1 1 Tryd.underlying30 hi hz0 hz1 hz2 rfl (by decide) _ _ _ rfl ((unhide HY).alloc _) ⟨wr.heap.size, 0, none⟩ 1 1 [.int .u8 34] rfl rfl (cells_lit _ _ _) (by simp [Value.oneCell']) (unhide O1) (unhide O2) (by rw [World.size_alloc]; omega) ?_; intro v4 w4 hown4 hgrow4 _ hat4; obtain ⟨v5, hv5, hby, hext⟩ := putE_lit (ys := [34]) hown4 rfl rfl hgrow4 hat4; obtain rfl : v4 = v5 := (by simpa using hv5); have HB4 : Hid (Below W.heap.size W w4) := (unhide HB).trans (hext.below hsz2 (unhide HY).base_le); have hcv4 := unhide Hcv w4 v4 _ hby.has ((byt_34.append (unhide Hbyt)).append byt_34); clear hown4 hgrow4 hat4 hby hext hv5 Hcv)
      go_ret
      refine ⟨?_, unhide HB4⟩
      rw [unhide Hq2]
      rfl
end Go.Proofs.YtmapmegecdgcpaaDoor
