import Derived.Test.YtmapmegecdgcpaaDoorSZk
import Derived.Test.YtmapmegecdgcpaaDoorSGJ
namespace Go.Proofs.YtmapmegecdgcpaaDoor
open Go.RowKit
attribute [local go_sem ↓] Go.wp_at_zero Go.wp_at_succ

set_option maxRecDepth 100000 in
set_option maxHeartbeats 2000000 in
theorem scanMany_any {W : World} {p tl : ByteArray} {x : Int} (hF : HasF W) (hE : HasE W) (hM : HasM W) (hp : p.size ≤ 140737488351232) (hx : -9223372036854775808 ≤ x ∧ x ≤ 9223372036854775807) (ht : tl.size ≤ 140737488351232) :
    Calls Tryd.prog 7 #[.string p, .int .i64 x, .string tl] W fun e W' => e = .returned (.bool true) ∧ Below W.heap.size W W' := by
  obtain ⟨i0, hi, hz0, hz1, hz2⟩ := info_parts Tryd.infoByte
  have HF := hide hF
  have HE := hide hE
  have HM := hide hM
  obtain ⟨hx1, hx2⟩ := hx
  have hstr := strN_byt p
  have Hstr := hide hstr
  clear hstr
  go_enter Tryd.func7, Tryd.ntmps7
  go_wp2_with fail
  refine (head_any hF hE hM).mono ?_
  rintro e w1 ⟨rfl, hb1⟩
  have Hb1 := hide hb1
  have Hy0 : Hid (Bytes W.heap.size w1 (.slice none 0 0) []) := bytes_nil _ _
  clear hb1 hF hE hM
  go_wp2
  go_loopg [7, 8] x.toNat (fun gk v7 v8 wr => ∃ (i : Nat) (pre : List Nat) (va : Option Addr) (vc : Nat), v7 = .slice va pre.length vc ∧ v8 = .int .i64 (i : Int) ∧ gk = x.toNat - i ∧ (i ≤ x.toNat) ∧ pre.length ≤ 140737488355328 ∧ Hid (pre.length = 0 ∨ p.size ≤ pre.length) ∧ Hid (Bytes W.heap.size wr (.slice va pre.length vc) pre) ∧ Hid (Byt pre) ∧ Hid (Below W.heap.size W wr))
  case atStart => exact ⟨0, [], none, 0, rfl, rfl, rfl, by omega, by simp, .inl rfl, Hy0, fun x hx => by simp at hx, Hb1⟩
  case round =>
    obtain ⟨i, pre, va, vc, rfl, rfl, hgk, hix, hpb, Hpl, HY, HBy, HB⟩ := hrel
    have Hgk := hide hgk
    clear hgk Hy0
    by_cases h1 : (i : Int) < x
    · have d1 : decide ((i : Int) < x) = true := decide_eq_true h1
      by_cases h2 : pre.length ≤ 65536
      · have d2 : decide ((pre.length : Int) ≤ 65536) = true := by simp; omega
        by_cases h3 : p.size = 0
        · obtain rfl := isEmptyT h3
          have hcat : (ofN pre).size + tl.size ≤ 9223372036854775807 := by rw [ofN_size]; omega
          have hcv := conv_any (unhide HY).has (unhide HBy)
          have hsc := scanned_any ((unhide HF).up (unhide HB)) ((unhide HE).up (unhide HB)) ((unhide HM).up (unhide HB) (unhide HM).1) (ofN pre ++ tl)
          have Hsc := hide hsc
          clear hsc HY HBy Hpl
          go_wp2_with fail
          refine (unhide Hsc).mono ?_
          rintro e w2 ⟨rfl, hb2⟩
          have HB2 : Hid (Below W.heap.size W w2) := (unhide HB).trans (hb2.mono (unhide HB).size)
          clear hb2
          go_wp2
          go_ret
          exact ⟨rfl, unhide HB2⟩
        · have e0 := isEmptyF h3
          have hl : pre.length + p.size ≤ 140737488355328 := by rcases unhide Hpl with q | q <;> omega
          have O1 : Hid (pre.length + p.size ≤ maxLen) := by show _ ≤ _; unfold maxLen; omega
          have O2 := hide hl
          have hsz : W.heap.size ≤ wr.heap.size := (unhide HB).size
          have H1 := hide h1
          have hi63 : i ≤ 9223372036854775806 := by omega
          clear hl h1 h3
          go_wp2_with (at_builtin; refine wpList_append_str_at rfl _ _ 30 9 rfl W.heap.size 5 i0 Tryd.underlying30 Tryd.underlying9 hi hz0 hz1 hz2 _ _ _ rfl (unhide HY) p rfl (unhide O1) (unhide O2) hsz ?_; intro v4 w4 hown4 hgrow4 hat4; have Hown := hide hown4; have Hgrow := hide hgrow4; have Hat := hide hat4; clear hown4 hgrow4 hat4)
          obtain ⟨v5, hv5, hby, hext⟩ := putE_str (ys := strN p) (unhide Hown) (by rw [strN_len]) (strCells_nb _) (unhide Hgrow) (unhide Hat)
          obtain rfl : v4 = v5 := by simpa using hv5
          have HB3 : Hid (Below W.heap.size W w4) := (unhide HB).trans (hext.below hsz (unhide HY).base_le)
          obtain ⟨a4, c4, rfl⟩ : ∃ a c, v4 = .slice a (pre ++ strN p).length c := by
            obtain ⟨a, c, e, _⟩ := hby.has
            exact ⟨a, c, e⟩
          have HY3 := hide hby
          clear hby hext Hown Hgrow Hat hv5 HY HB
          go_roundg (x.toNat - (i + 1))
          case measure => have := unhide Hgk; have := unhide H1; omega
          case rel => exact ⟨i + 1, pre ++ strN p, a4, c4, by first | rfl | (rw [List.length_append, strN_len]), by have := unhide H1; go_num, rfl, by have := unhide H1; omega, by rw [List.length_append, strN_len]; exact unhide O2, .inr (by rw [List.length_append, strN_len]; omega), HY3, (unhide HBy).append (unhide Hstr), HB3⟩
      · have d2 : decide ((pre.length : Int) ≤ 65536) = false := by simp; omega
        have hcat : (ofN pre).size + tl.size ≤ 9223372036854775807 := by rw [ofN_size]; omega
        have hcv := conv_any (unhide HY).has (unhide HBy)
        have hsc := scanned_any ((unhide HF).up (unhide HB)) ((unhide HE).up (unhide HB)) ((unhide HM).up (unhide HB) (unhide HM).1) (ofN pre ++ tl)
        have Hsc := hide hsc
        clear hsc HY HBy Hpl
        go_wp2_with fail
        refine (unhide Hsc).mono ?_
        rintro e w2 ⟨rfl, hb2⟩
        have HB2 : Hid (Below W.heap.size W w2) := (unhide HB).trans (hb2.mono (unhide HB).size)
        clear hb2
        go_wp2
        go_ret
        exact ⟨rfl, unhide HB2⟩
    · have d1 : decide ((i : Int) < x) = false := decide_eq_false h1
      have hcat : (ofN pre).size + tl.size ≤ 9223372036854775807 := by rw [ofN_size]; omega
      have hcv := conv_any (unhide HY).has (unhide HBy)
      have hsc := scanned_any ((unhide HF).up (unhide HB)) ((unhide HE).up (unhide HB)) ((unhide HM).up (unhide HB) (unhide HM).1) (ofN pre ++ tl)
      have Hsc := hide hsc
      clear hsc HY HBy Hpl
      go_wp2_with fail
      refine (unhide Hsc).mono ?_
      rintro e w2 ⟨rfl, hb2⟩
      have HB2 : Hid (Below W.heap.size W w2) := (unhide HB).trans (hb2.mono (unhide HB).size)
      clear hb2
      go_wp2
      go_ret
      exact ⟨rfl, unhide HB2⟩
end Go.Proofs.YtmapmegecdgcpaaDoor
