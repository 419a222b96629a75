import Derived.Test.YtadmamfekodkaaaDoorHU
import Derived.Test.YtadmamfekodkaaaDoorDBB
import Derived.Deep.CutBlock

namespace Go.Proofs.YtadmamfekodkaaaDoor
open Go.RowKit
attribute [local go_sem ↓] Go.wp_at_zero Go.wp_at_succ

theorem strN_app (a b : ByteArray) : strN (a ++ b) = strN a ++ strN b := by simp [strN]
/-- What of a list of bytes becomes a word. -/
def cut4 (l : List Nat) : List Nat := l.take 4000
theorem cut4_len (l : List Nat) : (cut4 l).length ≤ 4000 := by unfold cut4; rw [List.length_take]; omega
theorem cut4_byt {l : List Nat} (h : Byt l) : Byt (cut4 l) := fun x hx => h x (List.mem_of_mem_take hx)
def BytAll (ls : List (List Nat)) : Prop := ∀ l ∈ ls, Byt l
theorem join_step {ls : List (List Nat)} {i : Nat} {l : List Nat} (h : ls[i]? = some l) : joinL ((ls.take (i + 1)).map cut4) = joinL ((ls.take i).map cut4) ++ 32 :: quoteL (cut4 l) := by
  rw [List.take_add_one, h]
  simp [joinL]
set_option maxRecDepth 100000 in
set_option maxHeartbeats 4000000 in
theorem joins_core {W : World} (hE : HasE W) {v : Value} {ls : List (List Nat)} (h : HasBB W v ls) (hl : BytAll ls) (cm : ByteArray) : Calls Tryd.prog 5 #[v, .string cm] W fun e w => e = .returned (.bool true) ∧ Below W.heap.size W w := by
  have HE := hide hE
  have H0 := hide h
  have HL := hide hl
  obtain ⟨a, c, rfl, hm0, h3⟩ := h
  have hls : ls.length ≤ 9223372036854775807 := by have := hm0.1; have := hm0.2.1; unfold maxLen at *; omega
  have H3 := hide h3
  have HB0 : Hid (Below W.heap.size W W) := Below.refl _ _
  clear hE hl h3 hm0
  go_enter Tryd.func5, Tryd.ntmps5
  go_upto_block 0 with fail
  go_cut [5, 6] (fun v5 v6 wx => ∃ (i : Nat) (y : ByteArray), v5 = .string y ∧ v6 = .int .i64 (i : Int) ∧ i ≤ ls.length ∧ Hid (y.size ≤ 36100) ∧ Hid (strN y = joinL ((ls.take i).map cut4)) ∧ Hid (Below W.heap.size W wx))
  case first =>
    go_wp2
    go_loopg [5, 6, 7, 8] ls.length (fun gk v5 v6 v7 _ wr => ∃ (i : Nat) (y : ByteArray), v5 = .string y ∧ v6 = .int .i64 (i : Int) ∧ v7 = .int .i64 (i : Int) ∧ gk = ls.length - i ∧ i ≤ ls.length ∧ Hid (y.size ≤ 36100) ∧ Hid (strN y = joinL ((ls.take i).map cut4)) ∧ Hid (Below W.heap.size W wr))
    case atStart => exact ⟨0, ByteArray.empty, rfl, rfl, rfl, rfl, by omega, by show 0 ≤ _; omega, rfl, HB0⟩
    case round =>
      obtain ⟨i, y, rfl, rfl, rfl, hgk, hil, HY, HJ, HB⟩ := hrel
      have Hgk := hide hgk
      clear hgk HB0
      by_cases hgo : i < ls.length ∧ y.size < 20000
      · obtain ⟨hlt, hsz⟩ := hgo
        obtain ⟨l, hx⟩ : ∃ l, ls[i]? = some l := ⟨_, List.getElem?_eq_getElem hlt⟩
        have hby : Byt l := unhide HL l (List.mem_of_getElem? hx)
        obtain ⟨g, off, rfl, hg, hc⟩ := unhide H3 (by omega)
        obtain ⟨u, hu, hB⟩ := hc i l hx
        have c0 := ((unhide HB).cell (p := ⟨g, off + i, none⟩) hg).trans hu
        have hB1 := hB.up (unhide HB)
        obtain ⟨a1, c1, rfl, hm1, -⟩ := id hB1
        have k0 : (0 : Int) ≤ (i : Int) := Int.natCast_nonneg _
        have k1 : (i : Int) < (ls.length : Int) := by omega
        have k2 : (y.size : Int) < 20000 := by omega
        have HJ2 : Hid (∀ z : ByteArray, strN z = quoteL (cut4 l) → strN (y ++ ⟨#[32]⟩ ++ z) = joinL ((ls.take (i + 1)).map cut4)) := fun z hz => by
          rw [strN_app, strN_app, hz, unhide HJ, join_step hx, List.append_assoc]
          rfl
        have HZ : Hid (∀ z : ByteArray, strN z = quoteL (cut4 l) → (y ++ ⟨#[32]⟩ ++ z).size ≤ 36100) := fun z hz => by
          rw [← strN_len, strN_app, strN_app, List.length_append, List.length_append, hz, strN_len, strN_len]
          have h1 := quote_len (cut4 l)
          have h2 := cut4_len l
          show y.size + 1 + _ ≤ _
          omega
        have Hlt := hide hlt
        have HBy := hide (cut4_byt hby)
        obtain ⟨zq, hzq⟩ : ∃ z, ofN (quoteL (cut4 l)) = z := ⟨_, rfl⟩
        have hzs : zq.size ≤ 16002 := by rw [← hzq, ofN_size]; have h1 := quote_len (cut4 l); have h2 := cut4_len l; omega
        have HJ3 := hide (unhide HJ2 zq (by rw [← hzq]; exact strN_ofN (quote_byt (unhide HBy))))
        have HZ3 := hide (unhide HZ zq (by rw [← hzq]; exact strN_ofN (quote_byt (unhide HBy))))
        have n1 : ¬ 9223372036854775807 < y.size + 1 := by omega
        have n2 : ¬ 9223372036854775807 < y.size + 1 + zq.size := by omega
        clear HJ2 HZ
        by_cases hb : 4000 < l.length
        · have f1 : decide ((4000 : Int) < (l.length : Int)) = true := by simp; omega
          obtain ⟨a', c', e, ht⟩ := hB1.take 4000 (by omega)
          cases e
          have hc4 : (4000 : Int) ≤ (c1 : Int) := by have := hm1.1; omega
          have HQ := hide (hQuote_any ht (unhide HBy) (by have := cut4_len l; unfold cut4 at this; omega))
          rw [show l.take 4000 = cut4 l from rfl, hzq] at HQ
          clear hc hu hB hx hm1 ht hby hB1 hb hsz hzq hzs
          go_wp2_with fail
          refine (unhide HQ).mono ?_
          rintro e w1 ⟨rfl, b1⟩
          have HB1 := hide ((unhide HB).trans (b1.mono (unhide HB).size))
          clear b1 HQ
          go_wp2
          go_roundg (ls.length - (i + 1))
          case measure => have := unhide Hgk; have := unhide Hlt; omega
          case rel => exact ⟨i + 1, _, rfl, by go_num, by go_num, rfl, unhide Hlt, HZ3, HJ3, HB1⟩
        · have f1 : decide ((4000 : Int) < (l.length : Int)) = false := by simp; omega
          have e4 : cut4 l = l := List.take_of_length_le (by omega)
          have HQ := hide (hQuote_any hB1 hby (by omega))
          rw [e4] at hzq
          rw [hzq] at HQ
          clear hc hu hB hx hm1 hby hB1 hb e4 hsz hzq hzs
          go_wp2_with fail
          refine (unhide HQ).mono ?_
          rintro e w1 ⟨rfl, b1⟩
          have HB1 := hide ((unhide HB).trans (b1.mono (unhide HB).size))
          clear b1 HQ
          go_wp2
          go_roundg (ls.length - (i + 1))
          case measure => have := unhide Hgk; have := unhide Hlt; omega
          case rel => exact ⟨i + 1, _, rfl, by go_num, by go_num, rfl, unhide Hlt, HZ3, HJ3, HB1⟩
      · have GO : True := trivial
        rcases (by omega : ¬ (i : Int) < (ls.length : Int) ∨ ((i : Int) < (ls.length : Int) ∧ ¬ (y.size : Int) < 20000)) with k1 | ⟨k1, k2⟩
        all_goals clear hgo
        all_goals (
          go_wp2
          go_meet
          exact ⟨i, y, rfl, rfl, hil, HY, HJ, HB⟩)
  case rest =>
    obtain ⟨n, y, rfl, rfl, hn, HY, HJ, HB⟩ := hcut
    clear HB0
    go_upto_if 42 with fail
    go_cut [1] (fun v1 wx => wc = wx ∧ ∃ cm2 : ByteArray, v1 = .string cm2 ∧ cm2.size ≤ 1000)
    case first =>
      by_cases hb : 1000 < cm.size
      · have f1 : decide ((1000 : Int) < (cm.size : Int)) = true := by simp; omega
        have f2 : (1000 : Int) ≤ (cm.size : Int) := by omega
        have f3 : 1000 ≤ cm.size := by omega
        rw [f1]
        clear hb
        go_wp2
        go_meet
        exact ⟨rfl, _, rfl, by rw [← strN_len, strN_ext, List.length_take]; omega⟩
      · have f1 : decide ((1000 : Int) < (cm.size : Int)) = false := by simp; omega
        rw [f1]
        go_wp2
        go_meet
        exact ⟨rfl, cm, rfl, by omega⟩
    case rest =>
      obtain ⟨rfl, cm2, rfl, hcm⟩ := hcut
      have n1 : ¬ 9223372036854775807 < y.size + 2 := by have := unhide HY; omega
      have n2 : ¬ 9223372036854775807 < y.size + 2 + cm2.size := by have := unhide HY; omega
      obtain ⟨zs, hzs⟩ : ∃ z, y ++ ⟨#[9, 35]⟩ ++ cm2 = z := ⟨_, rfl⟩
      have HWR : Hid (wR zs = ((ls.take n).map cut4, 0)) := by
        refine wR_join (cm := strN cm2) (fun l hl => ?_) ?_ ?_
        · obtain ⟨l', hl', rfl⟩ := List.mem_map.1 hl
          exact cut4_byt (unhide HL l' (List.mem_of_mem_take hl'))
        · rw [← hzs, strN_app, strN_app, unhide HJ, List.append_assoc]
          rfl
        · rw [← hzs, ← strN_len, strN_app, strN_app, List.length_append, List.length_append, strN_len, strN_len, strN_len]
          have := unhide HY
          show y.size + 2 + cm2.size ≤ _
          omega
      have HW := hide (hWords_any ((unhide HE).up (unhide HB)) zs)
      rw [unhide HWR] at HW
      have hwl : ((ls.take n).map cut4).length = n := by rw [List.length_map, List.length_take]; omega
      obtain ⟨ws, hws⟩ : ∃ ws, (ls.take n).map cut4 = ws := ⟨_, rfl⟩
      have HWs := hide hws
      rw [hws] at HW hwl
      rw [← hzs] at HW
      clear HWR hws hzs
      go_wp2_with fail
      refine (unhide HW).mono ?_
      rintro e w1 ⟨v, rfl, ho, hb⟩
      have HO := hide ho
      obtain ⟨aw, qw, rfl⟩ := own_form ho
      have HB1 := hide ((unhide HB).trans (hb.mono (unhide HB).size))
      clear hb ho HW n1 n2
      have Hwl := hide hwl
      have eN : ((ws.length : Int) != (n : Int)) = false := by rw [hwl]; simp
      clear hwl
      go_wp2
      go_loopg [11, 12] n (fun gk v11 _ wr => ∃ (i m : Nat), v11 = .int .i64 (i : Int) ∧ gk = n - i ∧ i ≤ n ∧ wr = w1.drewN m)
      case atStart => exact ⟨0, 0, rfl, rfl, Nat.zero_le _, rfl⟩
      case round =>
        obtain ⟨i, m, rfl, hgk, hil, rfl⟩ := hrel
        have Hgk := hide hgk
        clear hgk
        have hwn := unhide Hwl
        obtain ⟨wr, hwr⟩ : ∃ x, w1.drewN m = x := ⟨_, rfl⟩
        have HBr : Hid (Below W.heap.size W wr) := by rw [← hwr]; exact below_drewN (unhide HB1) m
        have HOr : Hid (wr.ownsRow wc.heap.size 9 1 (.slice aw ws.length qw) ws.length (wsC ws)) := by rw [← hwr]; exact own_up (unhide HO) (below_drewN (Below.refl _ _) m)
        rw [hwr]
        have Hwr := hide hwr
        clear hwr
        by_cases hlt : i < n
        · obtain ⟨l, hx⟩ : ∃ l, ls[i]? = some l := ⟨_, List.getElem?_eq_getElem (by omega)⟩
          have hby : Byt l := unhide HL l (List.mem_of_getElem? hx)
          obtain ⟨g, off, rfl, hg, hc⟩ := unhide H3 (by omega)
          obtain ⟨u, hu, hB⟩ := hc i l hx
          have c0 := ((unhide HBr).cell (p := ⟨g, off + i, none⟩) hg).trans hu
          have hB1 := hB.up (unhide HBr)
          obtain ⟨a1, c1, rfl, hm1, -⟩ := id hB1
          have hwi : ws[i]? = some (cut4 l) := by rw [← unhide HWs, List.getElem?_map, List.getElem?_take_of_lt hlt, hx]; rfl
          obtain ⟨g2, q2, z2, e2, x2, y2⟩ := row_str (unhide HOr) rfl (i := i) (by omega)
          cases e2
          rw [hwi] at y2
          obtain rfl : ofN (cut4 l) = z2 := Option.some.inj y2
          have k0 : (0 : Int) ≤ (i : Int) := Int.natCast_nonneg _
          have k1 : (i : Int) < (ls.length : Int) := by omega
          have k2 : (i : Int) < (n : Int) := by omega
          have k3 : (i : Int) < (ws.length : Int) := by omega
          have Hlt := hide hlt
          obtain ⟨zq, hzq⟩ : ∃ z, ofN (cut4 l) = z := ⟨_, rfl⟩
          rw [hzq] at x2
          by_cases hb : 4000 < l.length
          · have f1 : decide ((4000 : Int) < (l.length : Int)) = true := by simp; omega
            obtain ⟨a', c', e, ht⟩ := hB1.take 4000 (by omega)
            cases e
            have hc4 : (4000 : Int) ≤ (c1 : Int) := by have := hm1.1; omega
            have cv : ∀ k, (convert 30 9 (.slice a1 4000 c1)).run Tryd.prog (wr.drewN k) = .ok (.string zq) (wr.drewN k) := fun k => by
              rw [← hzq]
              exact conv_any (l := cut4 l) (ht.up (below_drewN (Below.refl _ _) k)) (cut4_byt hby)
            clear hc hu hB hx hm1 ht hby hB1 hb hzq hwi hlt y2
            go_wp2
            go_quiet (fail)
            go_wp2
            go_roundg (n - (i + 1))
            case measure => have := unhide Hgk; have := unhide Hlt; omega
            case rel => exact ⟨i + 1, m + nq, by go_num, rfl, unhide Hlt, by rw [← unhide Hwr, World.drewN_drewN]⟩
          · have f1 : decide ((4000 : Int) < (l.length : Int)) = false := by simp; omega
            have e4 : cut4 l = l := List.take_of_length_le (by omega)
            have cv : ∀ k, (convert 30 9 (.slice a1 l.length c1)).run Tryd.prog (wr.drewN k) = .ok (.string zq) (wr.drewN k) := fun k => by
              rw [← hzq, e4]
              exact conv_any (hB1.up (below_drewN (Below.refl _ _) k)) hby
            clear hc hu hB hx hm1 hby hB1 hb hzq hwi e4 hlt y2
            go_wp2
            go_quiet (fail)
            go_wp2
            go_roundg (n - (i + 1))
            case measure => have := unhide Hgk; have := unhide Hlt; omega
            case rel => exact ⟨i + 1, m + nq, by go_num, rfl, unhide Hlt, by rw [← unhide Hwr, World.drewN_drewN]⟩
        · obtain rfl : i = n := by omega
          have k2 : ¬ (i : Int) < (i : Int) := by omega
          have cvc : (convert 30 30 (.slice (some ⟨wr.heap.size, 0, none⟩) 1 1)).run Tryd.prog (wr.alloc (.cells #[.int .u8 120] 5)) = .ok (.slice (some ⟨wr.heap.size, 0, none⟩) 1 1) (wr.alloc (.cells #[.int .u8 120] 5 (1, 2))) := Lib.run_convert_bytes_const (P := Tryd.prog) wr 30 5 #[.int .u8 120] 1 1 Tryd.underlying30 Tryd.underlying5
          have hH : HasB (wr.alloc (.cells #[.int .u8 120] 5 (1, 2))) (.slice (some ⟨wr.heap.size, 0, none⟩) 1 1) [120] := hasB_lit (l := [120]) (t := 5) (fr := (1, 2)) (by rw [heap_new]; simp [nb]) 1 1 rfl (by decide)
          have HQ := hide (hQuote_any hH (fun x hx => by simp at hx; omega) (by decide))
          rw [show ofN (quoteL [120]) = ⟨#[34, 120, 34]⟩ by kernel_rfl] at HQ
          have HBa : Hid (Below W.heap.size W (wr.alloc (.cells #[.int .u8 120] 5 (1, 2)))) := (unhide HBr).alloc (unhide HBr).size _
          clear hH
          go_wp2_with fail
          refine (unhide HQ).mono ?_
          rintro e w2 ⟨rfl, b2⟩
          have HB2 := hide ((unhide HBa).trans (b2.mono (unhide HBa).size))
          clear b2
          go_wp2
          go_ret
          exact ⟨rfl, unhide HB2⟩
end Go.Proofs.YtadmamfekodkaaaDoor
