import Derived.Test.YtadmamfekodkaaaDoorHR
import Derived.Test.YtadmamfekodkaaaDoorHH
import Derived.Test.YtadmamfekodkaaaDoorHL
import Derived.Test.YtadmamfekodkaaaDoorNB165
import Derived.Shelf.Strings.Builder2

namespace Go.Proofs.YtadmamfekodkaaaDoor
open Go.RowKit Go.Shelf
attribute [local go_sem ↓] Go.wp_at_zero Go.wp_at_succ

theorem extraG : Builder.Extra Tryd.prog Tryd.laysNB165165_ren := {
  sizeBuilder := by kernel_rfl
  liesBuilder := by kernel_rfl
  t5 := Tryd.underlying5
  a5 := Tryd.isAgg5
  z5 := Tryd.sizeOf5
  v5 := Tryd.zeroValue5
  infoByte := by kernel_rfl
  cellsByte := by kernel_rfl
  sizeByte := by kernel_rfl
  neB5 := by decide }
theorem bgrow_any (B b n : Nat) (w : World) (hB : B ≤ b) (hbk : w.heap[b]? = some (.cells #[.pointer none, .slice none 0 0] 47 (0, 0))) (hBw : B ≤ w.heap.size) (hn : n ≤ 281474976710656) : Calls Tryd.prog 18 #[.pointer (some ⟨b, 0, none⟩), .int .i64 n] w fun e w' => e = .returned (.tuple #[]) ∧ (Lib.BuilderAt 47 5 B b (.pointer (some ⟨b, 0, none⟩)) [] w' ∧ Below B w w') := Any.Builder_Grow_fresh Tryd.laysNB165165 extraG B b n w hB hbk hBw hn
theorem eqT {c : Nat} {k : Int} (h : (c : Int) = k) : ((c : Int) == k) = true := by simp; omega
theorem ltiT {c : Nat} {k : Int} (h : (c : Int) < k) : decide ((c : Int) < k) = true := by simp; omega
theorem ltiF {c : Nat} {k : Int} (h : k ≤ (c : Int)) : decide ((c : Int) < k) = false := by simp; omega
theorem str_at (w : World) (s : ByteArray) (k : IntKind) (n x : Nat) (h : (strN s)[n]? = some x) : (Instr.index 9 (.string s) (.int k (n : Int))).run Tryd.prog w = .ok (.int .u8 (x : Int)) w := by
  have hn : n < s.size := by rw [← strN_len]; exact (List.getElem?_eq_some_iff.1 h).1
  rw [run_index_string (P := Tryd.prog) (h := Tryd.underlying9), dif_pos (by omega)]
  congr 3
  unfold strN at h
  rw [List.getElem?_map] at h
  obtain ⟨b, hb, rfl⟩ := Option.map_eq_some_iff.1 h
  have hd : n < s.data.toList.length := by simpa using hn
  rw [List.getElem?_eq_getElem hd] at hb
  rw [← Option.some.inj hb]
  simp
  rfl
theorem hx_at (w : World) (n : Nat) (h : n < 16) (i : Int) (hi : i = (n : Int)) : (Instr.index 9 (.string ⟨#[48, 49, 50, 51, 52, 53, 54, 55, 56, 57, 97, 98, 99, 100, 101, 102]⟩) (.int .u8 i)).run Tryd.prog w = .ok (.int .u8 ((hx n : Nat) : Int)) w := by
  subst hi
  have key : ∀ k : Fin 16, (strN ⟨#[48, 49, 50, 51, 52, 53, 54, 55, 56, 57, 97, 98, 99, 100, 101, 102]⟩)[k.val]? = some (hx k.val) := by decide
  exact str_at w _ _ n _ (key ⟨n, h⟩)
theorem qcs_step {l : List Nat} {k x : Nat} (h : l[k]? = some x) : qcs (l.take (k + 1)) = qcs (l.take k) ++ qc x := by
  rw [List.take_add_one, h]
  simp [qcs]
theorem qc_esc {x : Nat} (h : x = 34 ∨ x = 92) : qc x = [92, x] := by unfold qc; rw [if_pos h]
theorem qc_nl : qc 10 = [92, 110] := rfl
theorem qc_tab : qc 9 = [92, 116] := rfl
theorem qc_hex {x : Nat} (h : ctl x = true ∨ 128 ≤ x) (h1 : x ≠ 34) (h2 : x ≠ 92) (h3 : x ≠ 10) (h4 : x ≠ 9) : qc x = [92, 120, hx (x / 16), hx (x % 16)] := by
  unfold qc
  rw [if_neg (by omega), if_neg h3, if_neg h4, if_pos h]
theorem qc_self {x : Nat} (h : ¬ (ctl x = true ∨ 128 ≤ x)) (h1 : x ≠ 34) (h2 : x ≠ 92) (h3 : x ≠ 10) (h4 : x ≠ 9) : qc x = [x] := by
  unfold qc
  rw [if_neg (by omega), if_neg h3, if_neg h4, if_neg h]
theorem ctl_iff {x : Nat} : (ctl x = true ∨ 128 ≤ x) ↔ (x < 32 ∨ 126 < x) := by
  unfold ctl
  simp
  omega
set_option maxRecDepth 100000 in
set_option maxHeartbeats 4000000 in
theorem hQuote_any {W : World} {v : Value} {l : List Nat} (h : HasB W v l) (hl : Byt l) (hn : l.length ≤ 1000000) : Calls Tryd.prog 10 #[v] W fun e w => e = .returned (.string (ofN (quoteL l))) ∧ Below W.heap.size W w := by
  obtain ⟨a, c, rfl, -, h3⟩ := h
  have H3 := hide h3
  have HL := hide hl
  have HN := hide hn
  have hbk : (W.alloc (.cells #[.pointer none, .slice none 0 0] 47)).heap[W.heap.size]? = some (.cells #[.pointer none, .slice none 0 0] 47 (0, 0)) := heap_new _ _
  have HG := hide (bgrow_any W.heap.size W.heap.size (l.length + 2) _ (Nat.le_refl _) hbk (by rw [World.size_alloc]; omega) (by omega))
  have HB0 : Hid (Below W.heap.size W (W.alloc (.cells #[.pointer none, .slice none 0 0] 47))) := (Below.refl _ _).alloc (Nat.le_refl _) _
  have e2 : ((l.length + 2 : Nat) : Int) = (l.length : Int) + 2 := by omega
  rw [e2] at HG
  clear h3 hl hbk e2
  go_enter Tryd.func10, Tryd.ntmps10
  go_wp2_with fail
  refine (unhide HG).mono ?_
  rintro e w1 ⟨rfl, h1, hb1⟩
  have H1 : Hid (BI W.heap.size W.heap.size [] w1) := .inr h1
  have HB1 := hide ((unhide HB0).trans hb1)
  clear h1 hb1 HG HB0
  go_wp2_with fail
  refine (putB (unhide H1) (by simp) (unhide HB1).size 34).mono ?_
  rintro e w2 ⟨rfl, h2, hb2, -⟩
  have H2 : Hid (BI W.heap.size W.heap.size [34] w2) := h2
  have HB2 := hide ((unhide HB1).trans hb2)
  clear h2 hb2 H1 HB1
  go_wp2
  go_loopg [5, 13] l.length (fun gk _ v13 wr => ∃ (i : Nat) (L : List Nat), v13 = .int .i64 (i : Int) ∧ gk = l.length - i ∧ i ≤ l.length ∧ Hid (L.length ≤ 4 * i + 1) ∧ Hid (BI W.heap.size W.heap.size L wr) ∧ Hid (L = 34 :: qcs (l.take i)) ∧ Hid (Below W.heap.size W wr))
  case atStart => exact ⟨0, [34], rfl, rfl, by omega, by show 1 ≤ _; omega, H2, rfl, HB2⟩
  case round =>
    obtain ⟨i, L, rfl, hgk, hi, HLl, HBI, HE, HB⟩ := hrel
    have Hgk := hide hgk
    have hgrow := (unhide HB).size
    clear hgk H2 HB2
    by_cases hlt : i < l.length
    · obtain ⟨x, hx⟩ : ∃ x, l[i]? = some x := ⟨_, List.getElem?_eq_getElem hlt⟩
      have hx2 := (unhide HL).at hx
      obtain ⟨g, off, rfl, hg, hc⟩ := unhide H3 (by omega)
      have c0 := ((unhide HB).cell (p := ⟨g, off + i, none⟩) hg).trans (hc i x hx)
      have hlen : L.length ≤ 4000005 := by have := unhide HLl; have := unhide HN; omega
      have HE2 : Hid (34 :: qcs (l.take (i + 1)) = L ++ qc x) := by show _ = _; rw [qcs_step hx, unhide HE]; rfl
      have HL2 : Hid ((L ++ qc x).length ≤ 4 * (i + 1) + 1) := by show _ ≤ _; have := (qc_len x).2; have := unhide HLl; rw [List.length_append]; omega
      have k0 : (0 : Int) ≤ (i : Int) := Int.natCast_nonneg _
      have k1 : (i : Int) < (l.length : Int) := by omega
      have Hlen := hide hlen
      have Hlt := hide hlt
      have HCt := hide (fun w => hcontrol_any w x)
      have w32 : IntKind.i32.wrap (x : Int) = (x : Int) := by
        first
          | exact Int.emod_eq_of_lt (by omega) (by omega)
          | (unfold IntKind.wrap; simp [IntKind.bits, IntKind.signed]; omega)
      clear hc hx HE hlen
      by_cases g34 : x = 34 ∨ x = 92
      · have He := hide (qc_esc g34)
        have GO : True := trivial
        rcases (by omega : x = 34 ∨ (x ≠ 34 ∧ x = 92)) with f1 | ⟨f1, f2⟩
        all_goals (
          first
            | (have e1 := eqT (c := x) (k := 34) (by omega))
            | (have e1 := eqF (c := x) (k := 34) (by omega); have e2 := eqT (c := x) (k := 92) (by omega))
          clear g34 f1
          try clear f2)
        all_goals (
          go_wp2_with fail
          refine (putB (unhide HBI) (by have := unhide Hlen; omega) hgrow 92).mono ?_
          rintro e w3 ⟨rfl, h3, b3, -⟩
          have H3w := hide h3
          have HB3 := hide ((unhide HB).trans b3)
          have z3 := (unhide HB3).size
          clear h3 b3 HBI HB
          go_wp2_with fail
          refine (putB (unhide H3w) (by rw [List.length_append]; have := unhide Hlen; simp; omega) z3 x).mono ?_
          rintro e w4 ⟨rfl, h4, b4, -⟩
          have H4 := hide h4
          have HB4 := hide ((unhide HB3).trans b4)
          have z4 := (unhide HB4).size
          clear h4 b4 H3w HB3
          have H9 : Hid (BI W.heap.size W.heap.size (L ++ qc x) w4) := by show BI _ _ _ _; rw [unhide He]; have := unhide H4; rw [List.append_assoc] at this; exact this
          have HB9 := HB4
          clear H4 HB4
          go_wp2
          go_roundg (l.length - (i + 1))
          case measure => have := unhide Hgk; have := unhide Hlt; omega
          case rel => exact ⟨i + 1, L ++ qc x, by go_num, rfl, unhide Hlt, HL2, H9, (unhide HE2).symm, HB9⟩)
      · have e1 := eqF (c := x) (k := 34) (by omega)
        have e2 := eqF (c := x) (k := 92) (by omega)
        by_cases g10 : x = 10
        · have He : Hid (qc x = [92, 110]) := by show _ = _; rw [g10]; exact qc_nl
          have e10 := eqT (c := x) (k := 10) (by omega)
          clear g34 g10
          go_wp2_with fail
          refine (putS (unhide HBI) (by have := unhide Hlen; omega) hgrow ⟨#[92, 110]⟩ (by decide)).mono ?_
          rintro e w4 ⟨rfl, h4, b4, -⟩
          have H4 := hide h4
          have HB4 := hide ((unhide HB).trans b4)
          have z4 := (unhide HB4).size
          clear h4 b4 HBI HB
          have H9 : Hid (BI W.heap.size W.heap.size (L ++ qc x) w4) := by show BI _ _ _ _; rw [unhide He]; have := unhide H4; exact this
          have HB9 := HB4
          clear H4 HB4
          go_wp2
          go_roundg (l.length - (i + 1))
          case measure => have := unhide Hgk; have := unhide Hlt; omega
          case rel => exact ⟨i + 1, L ++ qc x, by go_num, rfl, unhide Hlt, HL2, H9, (unhide HE2).symm, HB9⟩
        · have e10 := eqF (c := x) (k := 10) (by omega)
          by_cases g9 : x = 9
          · have He : Hid (qc x = [92, 116]) := by show _ = _; rw [g9]; exact qc_tab
            have e9 := eqT (c := x) (k := 9) (by omega)
            clear g34 g9
            go_wp2_with fail
            refine (putS (unhide HBI) (by have := unhide Hlen; omega) hgrow ⟨#[92, 116]⟩ (by decide)).mono ?_
            rintro e w4 ⟨rfl, h4, b4, -⟩
            have H4 := hide h4
            have HB4 := hide ((unhide HB).trans b4)
            have z4 := (unhide HB4).size
            clear h4 b4 HBI HB
            have H9 : Hid (BI W.heap.size W.heap.size (L ++ qc x) w4) := by show BI _ _ _ _; rw [unhide He]; have := unhide H4; exact this
            have HB9 := HB4
            clear H4 HB4
            go_wp2
            go_roundg (l.length - (i + 1))
            case measure => have := unhide Hgk; have := unhide Hlt; omega
            case rel => exact ⟨i + 1, L ++ qc x, by go_num, rfl, unhide Hlt, HL2, H9, (unhide HE2).symm, HB9⟩
          · have e9 := eqF (c := x) (k := 9) (by omega)
            by_cases g4 : ctl x = true ∨ 128 ≤ x
            · have He := hide (qc_hex g4 (by omega) (by omega) g10 g9)
              obtain ⟨ct, hct⟩ : ∃ ct, ctl x = ct := ⟨_, rfl⟩
              have hand : bits .and .u8 (x : Int) 15 = ((x % 16 : Nat) : Int) := by rw [show (15 : Int) = ((15 : Nat) : Int) from rfl, u8_and_nat x 15 hx2 (by decide), nat_mask4]
              have ix1 : ∀ w, (Instr.index 9 (.string ⟨#[48, 49, 50, 51, 52, 53, 54, 55, 56, 57, 97, 98, 99, 100, 101, 102]⟩) (.int .u8 ((x : Int) / 16))).run Tryd.prog w = .ok (.int .u8 ((hx (x / 16) : Nat) : Int)) w := fun w => hx_at w (x / 16) (by omega) _ (by omega)
              have ix2 : ∀ w, (Instr.index 9 (.string ⟨#[48, 49, 50, 51, 52, 53, 54, 55, 56, 57, 97, 98, 99, 100, 101, 102]⟩) (.int .u8 ((x % 16 : Nat) : Int))).run Tryd.prog w = .ok (.int .u8 ((hx (x % 16) : Nat) : Int)) w := fun w => hx_at w (x % 16) (by omega) _ rfl
              generalize hx (x / 16) = d1 at *
              generalize hx (x % 16) = d2 at *
              generalize x % 16 = x2 at *
              have hcs : ct = true ∨ (ct = false ∧ decide ((128 : Int) ≤ (x : Int)) = true) := by
                cases ct with
                | true => exact .inl rfl
                | false =>
                  refine .inr ⟨rfl, ?_⟩
                  have : 128 ≤ x := g4.resolve_left (fun q => by rw [hct] at q; cases q)
                  simp
                  omega
              rw [hct] at HCt
              clear g34 g10 g9 g4 hct
              rcases hcs with rfl | ⟨rfl, f5⟩
              all_goals (
                go_wp2_with fail
                refine (unhide HCt _).mono ?_
                rintro e w ⟨rfl, hw⟩
                subst hw
                go_wp2_with fail
                refine (putS (unhide HBI) (by have := unhide Hlen; omega) hgrow ⟨#[92, 120]⟩ (by decide)).mono ?_
                rintro e w3 ⟨rfl, h3, b3, -⟩
                have H3w := hide h3
                have HB3 := hide ((unhide HB).trans b3)
                have z3 := (unhide HB3).size
                clear h3 b3 HBI HB
                go_wp2_with fail
                refine (putB (unhide H3w) (by rw [List.length_append]; have := unhide Hlen; show _ + 2 ≤ _; omega) z3 d1).mono ?_
                rintro e w4 ⟨rfl, h4, b4, -⟩
                have H4 := hide h4
                have HB4 := hide ((unhide HB3).trans b4)
                have z4 := (unhide HB4).size
                clear h4 b4 H3w HB3
                go_wp2_with fail
                refine (putB (unhide H4) (by rw [List.length_append, List.length_append]; have := unhide Hlen; show _ + 2 + 1 ≤ _; omega) z4 d2).mono ?_
                rintro e w5 ⟨rfl, h5, b5, -⟩
                have H5 := hide h5
                have HB5 := hide ((unhide HB4).trans b5)
                have z5 := (unhide HB5).size
                clear h5 b5 H4 HB4
                have H9 : Hid (BI W.heap.size W.heap.size (L ++ qc x) w5) := by show BI _ _ _ _; rw [unhide He]; have := unhide H5; rw [List.append_assoc, List.append_assoc] at this; exact this
                have HB9 := HB5
                clear H5 HB5
                go_wp2
                go_roundg (l.length - (i + 1))
                case measure => have := unhide Hgk; have := unhide Hlt; omega
                case rel => exact ⟨i + 1, L ++ qc x, by go_num, rfl, unhide Hlt, HL2, H9, (unhide HE2).symm, HB9⟩)
            · have He := hide (qc_self g4 (by omega) (by omega) g10 g9)
              have f4 : ctl x = false := by
                cases q : ctl x with
                | false => rfl
                | true => exact absurd (.inl q) g4
              have f5 : decide ((128 : Int) ≤ (x : Int)) = false := by
                have : ¬ 128 ≤ x := fun q => g4 (.inr q)
                simp
                omega
              rw [f4] at HCt
              clear g34 g10 g9 g4 f4
              go_wp2_with fail
              refine (unhide HCt _).mono ?_
              rintro e w ⟨rfl, hw⟩
              subst hw
              go_wp2_with fail
              refine (putB (unhide HBI) (by have := unhide Hlen; omega) hgrow x).mono ?_
              rintro e w4 ⟨rfl, h4, b4, -⟩
              have H4 := hide h4
              have HB4 := hide ((unhide HB).trans b4)
              have z4 := (unhide HB4).size
              clear h4 b4 HBI HB
              have H9 : Hid (BI W.heap.size W.heap.size (L ++ qc x) w4) := by show BI _ _ _ _; rw [unhide He]; have := unhide H4; exact this
              have HB9 := HB4
              clear H4 HB4
              go_wp2
              go_roundg (l.length - (i + 1))
              case measure => have := unhide Hgk; have := unhide Hlt; omega
              case rel => exact ⟨i + 1, L ++ qc x, by go_num, rfl, unhide Hlt, HL2, H9, (unhide HE2).symm, HB9⟩
    · obtain rfl : i = l.length := by omega
      have HE3 : Hid (L ++ [34] = quoteL l) := by show _ = _; rw [unhide HE, List.take_length]; rfl
      have hlen : L.length ≤ 4000005 := by have := unhide HLl; have := unhide HN; omega
      clear HE
      go_wp2_with fail
      refine (putB (unhide HBI) (by omega) hgrow 34).mono ?_
      rintro e w3 ⟨rfl, h3, b3, -⟩
      rw [unhide HE3] at h3
      have HB3 := hide ((unhide HB).trans b3)
      have HG := hide (getS h3 (quote_byt (unhide HL)) (unhide HB3).size)
      clear h3 b3 HBI HB
      go_wp2_with fail
      refine (unhide HG).mono ?_
      rintro e w4 ⟨rfl, b4⟩
      have HB4 := hide ((unhide HB3).trans b4)
      clear b4
      go_wp2
      go_ret
      exact ⟨rfl, unhide HB4⟩
end Go.Proofs.YtadmamfekodkaaaDoor
