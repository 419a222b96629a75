import Derived.Test.YtobomdokdajbaaaDoorJ46
import Derived.Test.YtobomdokdajbaaaDoorJ42
import Derived.Laws.BitsAllLaws

namespace Go.Proofs.YtobomdokdajbaaaDoor
open Go.RowKit
attribute [local go_sem ↓] Go.wp_at_zero Go.wp_at_succ

theorem TopK.far {W : World} {g gl i : Nat} {rs : List Ri} {y : Value} (h : TopK W gl rs) (hlt : g < gl) : TopK (W.setCell ⟨g, i, none⟩ y) gl rs := by
  obtain ⟨us, cur, hb, hs, hm, hk, hw, hc, hi⟩ := h
  exact ⟨us, cur, (heap_setCell_other W ⟨g, i, none⟩ gl y (by show gl ≠ g; omega)).trans hb, hs, hm, hk, hw, hc, fun i' r hr => (hi i' r hr).mono (fun q _ hp => ⟨hp, heap_setCell_other W ⟨g, i, none⟩ q y (by have hp' : gl < q := hp; show q ≠ g; omega)⟩) (by rw [World.size_setCell]; exact Nat.le_refl _)⟩
theorem xor3 (x : Nat) (hx : x < 256) : bits .xor .u8 (x : Int) 3 = ((x ^^^ 3 : Nat) : Int) ∧ x ^^^ 3 < 256 := ⟨u8_xor_nat x 3 hx (by decide), Nat.xor_lt_two_pow (n := 8) (x := x) (y := 3) hx (by decide)⟩
theorem rng_wrap (y : Int) : RngI (IntKind.i64.wrap y) := by
  have e1 : (2 : Int) ^ IntKind.i64.bits = 18446744073709551616 := rfl
  have e2 : (2 : Int) ^ (IntKind.i64.bits - 1) = 9223372036854775808 := rfl
  unfold RngI IntKind.wrap
  simp only [e1, e2]
  split
  · rename_i h
    have : y % 18446744073709551616 ≥ 9223372036854775808 := by
      have q := (Bool.and_eq_true _ _ ▸ h : _ ∧ _).2
      exact of_decide_eq_true q
    omega
  · rename_i h
    have : ¬ y % 18446744073709551616 ≥ 9223372036854775808 := fun q => h (by simp [IntKind.signed, q])
    omega
theorem fr_put {W w : World} {g gl i : Nat} {y : Value} (h : Fr W w (fun q => q = g ∨ q = gl)) : Fr W (w.setCell ⟨gl, i, none⟩ y) (fun q => q = g ∨ q = gl) :=
  ⟨h.os, h.tape, h.output, by rw [World.size_setCell]; exact h.size, fun q hq hn => (heap_setCell_other w ⟨gl, i, none⟩ q y (fun e => hn (.inr e))).trans (h.far q hq hn)⟩
theorem fr_up {W w w' : World} {S : Nat → Prop} (f : Fr W w S) (hb : Below w.heap.size w w') : Fr W w' S := ⟨hb.os.trans f.os, hb.tape.trans f.tape, hb.output.trans f.output, Nat.le_trans f.size hb.size, fun q hq hn => (hb.block q (Nat.lt_of_lt_of_le hq f.size)).trans (f.far q hq hn)⟩
theorem fr_wide {W w : World} {S T : Nat → Prop} (f : Fr W w S) (h : ∀ q, S q → T q) : Fr W w T := ⟨f.os, f.tape, f.output, f.size, fun q hq hn => f.far q hq (fun e => hn (h q e))⟩
theorem hasB_nil (w : World) : HasB w (.slice none 0 0) [] := ⟨none, 0, rfl, Nat.zero_le _, fun hp => absurd hp (Nat.not_lt_zero _)⟩
/-- Join of the records as they lie. -/
theorem TopK.join {W : World} {gl n B : Nat} {rs : List Ri} (h : TopK W gl rs) (hn : rs.length = n) (hb : blL rs = B) (hJ : ∀ rs', blL rs' = B → fkL rs' = 0 → (encL (toTL rs')).length ≤ 1099511627000) : Calls Tryd.prog 11 #[.slice (some ⟨gl, 0, none⟩) n (n + 1)] W (JnA W rs) := by
  subst hn
  exact join_rk (h.rk (P := fun _ => True) trivial (fun _ _ => trivial)) (hJ rs hb)
theorem TopK.lent {W : World} {gl n : Nat} {rs : List Ri} (h : TopK W gl rs) (hn : rs.length = n) (hb : blL rs ≤ 1048576) : Calls Tryd.prog 20 #[.slice (some ⟨gl, 0, none⟩) n (n + 1)] W (LentA W rs) := by
  subst hn
  exact lent_any (h.rk (P := fun _ => True) trivial (fun _ _ => trivial)).ri hb W (Below.refl _ _)
theorem news_cells {W : World} {B g n c : Nat} {w : World} {l : List Nat} {o : Obj} (h : WrL W B g n c w l) : ∀ j u, ((byB l).map fun b => Value.int .u8 b)[j]? = some u → (w.alloc o).cell? (Addr.add ⟨g, 0, none⟩ j) = some u := fun j u hu => by
  rw [List.getElem?_map] at hu
  obtain ⟨b, hb, rfl⟩ := Option.map_eq_some_iff.1 hu
  obtain ⟨h1, -, -, h4⟩ := bytes_cell h.row hb
  rw [Go.WideShapes.add_plain, Nat.zero_add]
  exact (World.cell?_alloc_lt _ _ _ h4).trans h1
set_option maxRecDepth 100000 in
set_option maxHeartbeats 8000000 in
theorem written_any {W : World} {B g gl c n : Nat} {l : List Nat} {rs : List Ri} (hw : WrL W B g n c W l) (hB : B ≤ W.heap.size) (hn : n ≤ 1048576) (ht : TopK W gl rs) (hgl : g < gl) (hbl : blL rs ≤ 1048576) (hJ : ∀ rs', blL rs' = blL rs → fkL rs' = 0 → (encL (toTL rs')).length ≤ 1099511627000) :
    Calls Tryd.prog 19 #[.slice (some ⟨g, 0, none⟩) n c, .slice (some ⟨gl, 0, none⟩) rs.length (rs.length + 1)] W fun e w => e = .returned (.bool true) ∧ Fr W w (fun q => q = g ∨ q = gl) := by
  have HJ := hide hJ
  have Hbl := hide hbl
  have HB := hide hB
  have Hgl := hide hgl
  obtain ⟨i2, ri, rz0, rz1, rz2⟩ := info_parts Tryd.infoByte
  have H0 : Hid (∃ l', WrL W B g n c W l' ∧ TopK W gl rs) := ⟨l, hw, ht⟩
  clear hw hB ht hgl hJ hbl
  go_enter Tryd.func19, Tryd.ntmps19
  go_wp2
  go_loopg [5, 6, 7, 8, 9, 10, 11, 12] 2 (fun gk v5 _ _ _ _ _ _ _ wr => ∃ (k : Nat), v5 = .int .i64 (k : Int) ∧ gk = 2 - k ∧ k ≤ 2 ∧ Hid (∃ l', WrL W B g n c wr l' ∧ TopK wr gl rs))
  case atStart => exact ⟨0, rfl, rfl, by omega, unhide H0⟩
  case round =>
    obtain ⟨k, rfl, hgk, hk, HI⟩ := hrel
    have Hgk := hide hgk
    clear hgk H0
    obtain ⟨wo, hwo⟩ : ∃ x, x = wr := ⟨_, rfl⟩
    subst hwo
    by_cases hlt : k < 2
    · have hd : decide ((k : Int) < 2) = true := by simp; omega
      obtain ⟨l1, hL, hT⟩ := unhide HI
      have Hlt := hide hlt
      have HS1 := hide (fun st => split_bytes st hL.row hL.by_ hL.len hn)
      have HL := hide hL
      have HT := hide hT
      clear hlt hL hT HI
      go_wp2_with fail
      refine (unhide HS1 _).mono ?_
      rintro e w2 ⟨⟨a1, m1, c1, rfl, -⟩, hb2⟩
      have HL2 := hide ((unhide HL).up hb2)
      have HT2 := hide ((unhide HT).up hb2)
      clear hb2 HS1 HL HT
      by_cases hp : 0 < n
      case' pos =>
        obtain ⟨q, hq⟩ : ∃ q, n / 2 = q := ⟨_, rfl⟩
        obtain ⟨x, hx⟩ : ∃ x, l1[q]? = some x := ⟨_, List.getElem?_eq_getElem (by have := (unhide HL2).len; omega)⟩
        have hx2 := (unhide HL2).by_ x (List.mem_of_getElem? hx)
        obtain ⟨y0, y1, -, -⟩ := bytes_cell (unhide HL2).row (i := q) (b := (x : Int)) (by unfold byB; rw [List.getElem?_map, hx]; rfl)
        obtain ⟨e3, h3⟩ := xor3 x hx2
        have HL3 := hide ((unhide HL2).put q h3)
        have HT3 := hide ((unhide HT2).far (i := q) (y := .int .u8 ((x ^^^ 3 : Nat) : Int)) (unhide Hgl))
        have h4 : (n : Int).tdiv 2 = (q : Int) := by rw [Int.tdiv_eq_ediv_of_nonneg (Int.natCast_nonneg _)]; omega
        have hq1 : q ≤ 1048576 := by omega
        have i0 : (0 : Int) ≤ (q : Int) := Int.natCast_nonneg _
        have i1 : (q : Int) < (n : Int) := by omega
        have i3 : (0 : Int) < (n : Int) := by omega
        clear hx hx2 h3 HL2 HT2 hp hq
        go_wp2_with fail
      case' neg =>
        have HL3 := HL2
        have HT3 := HT2
        have hn0 : n = 0 := by omega
        have i3 : ¬ (0 : Int) < (n : Int) := by omega
        clear HL2 HT2 hp hn0
        go_wp2_with fail
      all_goals
        refine (split_bytes _ (unhide HL3).row (unhide HL3).by_ (unhide HL3).len hn).mono ?_
        rintro e w3 ⟨⟨a2, m2, c2, rfl, hR2⟩, hb3⟩
        have HL4 := hide ((unhide HL3).up hb3)
        have HT4 := hide ((unhide HT3).up hb3)
        have HR2 := hide hR2
        clear hb3 hR2 HL3 HT3
        go_wp2_with (at_builtin; refine wpList_append_own_at _ rfl _ _ 24 rfl w3.heap.size 5 i2 (.int .u8 0) 1 1 Tryd.underlying24 ri rz0 rz1 rz2 rfl (by decide) _ _ _ rfl (empty_own w3 w3.heap.size (Nat.le_refl _)) ⟨g, 0, none⟩ n c ((byB _).map fun b => .int .u8 b) rfl (by rw [List.length_map, byB, List.length_map, (unhide HL4).len, Nat.mul_one]) (news_cells (unhide HL4)) (by simp [Value.oneCell']) (by unfold maxLen; omega) (by omega) (by simp) ?_; intro v2 w4 hown hgrow hnn _; obtain ⟨g2, c3, rfl, hB4, hb4⟩ := app_all (unhide HL4).len hown hgrow hnn; have HB4 := hide hB4; have Hb4 := hide hb4; clear hown hgrow hnn hB4 hb4)
        refine (split_bytes _ (unhide HB4) (unhide HL4).by_ (unhide HL4).len hn).mono ?_
        rintro e w5 ⟨⟨a3, m3, c4, rfl, hR3⟩, hb5⟩
        have HL5 := hide (((unhide HL4).up (unhide Hb4)).up hb5)
        have HT5 := hide (((unhide HT4).up (unhide Hb4)).up hb5)
        have HSm := hide (same_rt ((unhide HR2).mono (w := w5) (Q := fun _ => True) (fun q hq _ => ⟨trivial, (hb5.block q (Nat.lt_of_lt_of_le hq (unhide Hb4).size)).trans ((unhide Hb4).block q hq)⟩) (Nat.le_trans (unhide Hb4).size hb5.size)) _ hR3 w5 (Below.refl _ _))
        clear hR3 hb5 HL4 HT4 HR2 HB4 Hb4
        go_wp2_with fail
        refine (unhide HSm).mono ?_
        rintro e w6 ⟨rfl, hb6⟩
        have HI6 : Hid (∃ l', WrL W B g n c w6 l' ∧ TopK w6 gl rs) := ⟨_, (unhide HL5).up hb6, (unhide HT5).up hb6⟩
        clear hb6 HL5 HT5 HSm
        go_wp2
        go_roundg (2 - (k + 1))
        case measure => have := unhide Hgk; have := unhide Hlt; omega
        case rel => exact ⟨k + 1, by go_num, rfl, unhide Hlt, unhide HI6⟩
    · obtain rfl : k = 2 := by omega
      have hd : decide ((2 : Int) < 2) = false := by simp
      obtain ⟨l1, hL, hT⟩ := unhide HI
      have HF := hide hL.fr
      have HT := hide hT
      have HJ1 := hide (join_rk (hT.rk (P := fun _ => True) trivial (fun _ _ => trivial)) (unhide HJ rs rfl))
      clear hlt hk Hgk hL hT HI
      go_wp2_with fail
      refine (unhide HJ1).mono ?_
      rintro e w2 ⟨he, hb2⟩
      have HT2 := hide ((unhide HT).up hb2)
      have HF2 := hide (fr_wide (T := fun q => q = g ∨ q = gl) (fr_up (unhide HF) hb2) (fun _ e => .inl e))
      obtain ⟨v2, rfl⟩ : ∃ v2, e = .returned v2 := by rcases he with ⟨-, g0, c0, h, -⟩ | ⟨-, h⟩ <;> exact ⟨_, h⟩
      clear he hb2 HJ1 HT HF
      by_cases hp : 0 < rs.length
      case' pos =>
        obtain ⟨m, hm⟩ : ∃ m, rs.length = m + 1 := ⟨rs.length - 1, by omega⟩
        obtain ⟨r0, hr0⟩ : ∃ r0, rs[0]? = some r0 := ⟨_, List.getElem?_eq_getElem hp⟩
        obtain ⟨nb, kd, x, t, li⟩ := r0
        obtain ⟨-, y2, yf, hn0, hk0, hx0⟩ := (unhide HT2).at hr0
        have y2' : w2.cell? ⟨gl, 2, none⟩ = some (.int .i64 x) := y2
        have hlen : rs.length ≤ 1048576 := by obtain ⟨us, cur, -, -, h, -⟩ := unhide HT2; exact h
        obtain ⟨X, hX⟩ : ∃ X, IntKind.i64.wrap (x + 1) = X := ⟨_, rfl⟩
        have hXr : RngI X := hX ▸ rng_wrap _
        have HT3 : Hid (TopK (w2.setCell ⟨gl, 2, none⟩ (.int .i64 X)) gl (rs.set 0 (.mk nb kd X t li))) := (unhide HT2).put (j := 2) (r' := .mk nb kd X t li) hr0 (by omega) rfl (fun _ => rfl) (fun nb' kd' x' t' li' e => by cases e; exact ⟨hn0, hk0, hXr⟩)
        obtain ⟨rs1, hrs1⟩ : ∃ rs1, rs.set 0 (.mk nb kd X t li) = rs1 := ⟨_, rfl⟩
        have hb1 : blL rs1 = blL rs := by rw [← hrs1]; exact blL_set (r := .mk nb kd x t li) (r' := .mk nb kd X t li) rfl hr0
        have hl1 : rs1.length = rs.length := by rw [← hrs1, List.length_set]
        rw [hrs1] at HT3
        obtain ⟨r1, hr1⟩ : ∃ r1, rs1[m]? = some r1 := ⟨_, List.getElem?_eq_getElem (by omega)⟩
        obtain ⟨nb1, kd1, x1, t1, li1⟩ := r1
        obtain ⟨y3, -, yf3, hn1, hk1, hx1⟩ := (unhide HT3).at hr1
        have HT4 : Hid (TopK ((w2.setCell ⟨gl, 2, none⟩ (.int .i64 X)).setCell ⟨gl, m * 5, none⟩ (.int .i64 5)) gl (rs1.set m (.mk 5 kd1 x1 t1 li1))) := (unhide HT3).put (j := 0) (r' := .mk 5 kd1 x1 t1 li1) hr1 (by omega) rfl (fun _ => rfl) (fun nb' kd' x' t' li' e => by cases e; exact ⟨by unfold RngI; omega, hk1, hx1⟩)
        obtain ⟨rs2, hrs2⟩ : ∃ rs2, rs1.set m (.mk 5 kd1 x1 t1 li1) = rs2 := ⟨_, rfl⟩
        have Hb2 : Hid (blL rs2 = blL rs) := by show _ = _; rw [← hrs2, blL_set (r := .mk nb1 kd1 x1 t1 li1) (r' := .mk 5 kd1 x1 t1 li1) rfl hr1]; exact hb1
        have Hl2 : Hid (rs2.length = rs.length) := by show _ = _; rw [← hrs2, List.length_set]; exact hl1
        rw [hrs2] at HT4
        have HF4 := hide (fr_put (i := m * 5) (y := .int .i64 5) (fr_put (i := 2) (y := .int .i64 X) (unhide HF2)))
        have f2 := yf 2
        have f3 := yf3 (m * 5)
        have em : (rs.length : Int) - 1 = (m : Int) := by omega
        have i0 : (0 : Int) ≤ (m : Int) := Int.natCast_nonneg _
        have i1 : (m : Int) < (rs.length : Int) := by omega
        have i3 : (0 : Int) < (rs.length : Int) := by omega
        clear hr0 hr1 hrs1 hrs2 hb1 hl1 HT2 HT3 HF2 hXr hn0 hk0 hx0 hn1 hk1 hx1 yf yf3 y2 hm hp
        go_wp2_with fail
      case' neg =>
        have i3 : ¬ (0 : Int) < (rs.length : Int) := by omega
        obtain ⟨rs2, hrs2⟩ : ∃ x, x = rs := ⟨_, rfl⟩
        have HT4 : Hid (TopK w2 gl rs2) := by rw [hrs2]; exact unhide HT2
        have HF4 := HF2
        have Hb2 : Hid (blL rs2 = blL rs) := by rw [hrs2]; exact rfl
        have Hl2 : Hid (rs2.length = rs.length) := by rw [hrs2]; exact rfl
        clear HT2 HF2 hrs2 hp
        go_wp2_with fail
      all_goals
        refine ((unhide HT4).join (unhide Hl2) (unhide Hb2) (unhide HJ)).mono ?_
        rintro e w5 ⟨he, hb5⟩
        have HT5 := hide ((unhide HT4).up hb5)
        have HF5 := hide (fr_up (unhide HF4) hb5)
        clear hb5 HT4 HF4
        rcases he with ⟨hj, g1, c1, rfl, hB1⟩ | ⟨hj, rfl⟩
        all_goals
          have HLn := hide ((unhide HT5).lent (unhide Hl2) (by have := unhide Hbl; have := unhide Hb2; omega))
          go_wp2_with fail
          refine (unhide HLn).mono ?_
          rintro e w6 ⟨g3, rfl, hK6, hb6⟩
          have HJ6 := hide (join_rk hK6 (unhide HJ rs2 (unhide Hb2)))
          have Hb6 := hide hb6
          clear hK6 hb6 HLn
          go_wp2_with fail
          refine (unhide HJ6).mono ?_
          rintro e w7 ⟨he2, hb7⟩
          rcases he2 with ⟨hj2, g4, c4, rfl, hB2⟩ | ⟨hj2, rfl⟩
          all_goals first | (exfalso; exact hj hj2) | (exfalso; exact hj2 hj) | skip
          all_goals
            first
              | have HS := hide (same_any (Bytes.has (own_same hB1 (fun b e => (hb7.block b (Nat.lt_of_lt_of_le (hB1.lt b e).2 (unhide Hb6).size)).trans ((unhide Hb6).block b (hB1.lt b e).2)))) hB2.has)
              | have HS := hide (same_any (hasB_nil w7) (hasB_nil w7))
            have HF7 := hide (fr_up (fr_up (unhide HF5) (unhide Hb6)) hb7)
            first | clear hB1 hB2 | skip
            clear hj hj2 hb7 Hb6 HJ6
            go_wp2_with fail
            refine (unhide HS).mono ?_
            rintro e w8 ⟨rfl, hb8⟩
            have HF8 := hide (fr_up (unhide HF7) hb8)
            clear hb8
            go_wp2
            go_ret
            exact ⟨rfl, unhide HF8⟩
end Go.Proofs.YtobomdokdajbaaaDoor

namespace Go.Proofs.YtobomdokdajbaaaDoor
open Go.RowKit

/-- The first records of a list are marked. -/
def MkR (i k : Nat) (c : List Value) : Prop := ∀ (q : Nat), q < k → c[q * 5]? = some (.int .i64 (-7)) ∧ c[q * 5 + 2]? = some (.int .i64 (1000 * (i : Int) + (q : Int)))
structure G1r (W : World) (B : Nat) (vs : List Value) (bss : List (List Value)) (i : Nat) (w : World) (cs : List (List Value)) : Prop where
  lb : Lg B w vs cs
  fr : Fr W w (InB vs)
  ln : ∀ j : Nat, (cs[j]?).map List.length = (bss[j]?).map List.length
  md : ∀ (j : Nat) (c : List Value), j < i → cs[j]? = some c → MkR j (c.length / 5) c
theorem rc_put {B : Nat} {w : World} {g n c k : Nat} {xs : List Value} (h : Rc B w (.slice (some ⟨g, 0, none⟩) n c) xs) (y : Value) : Rc B (w.setCell ⟨g, k, none⟩ y) (.slice (some ⟨g, 0, none⟩) n c) (xs.set k y) := by
  obtain ⟨m, h⟩ := h
  obtain ⟨a', c', e⟩ := own_shape h
  injection e with e1 e2 e3
  subst e2
  exact ⟨n, (World.ownsRow.stored h k y).1⟩
theorem G1r.put {W : World} {B : Nat} {vs : List Value} {bss cs : List (List Value)} {i k : Nat} {w : World} (h : G1r W B vs bss i w cs) {g n c : Nat} {bs : List Value} (hv : vs[i]? = some (.slice (some ⟨g, 0, none⟩) n c)) (hb : cs[i]? = some bs) (x : Value) :
    G1r W B vs bss i (w.setCell ⟨g, k, none⟩ x) (cs.set i (bs.set k x)) := by
  have hlt := (List.getElem?_eq_some_iff.1 hv).1
  have e : vs.set i (.slice (some ⟨g, 0, none⟩) n c) = vs := by
    apply List.ext_getElem?
    intro j
    by_cases hij : i = j
    · subst hij; rw [List.getElem?_set_self hlt, hv]
    · rw [List.getElem?_set_ne hij]
  have h1 := h.lb.set hv (rc_put (k := k) (h.lb.own i _ bs hv hb) x) (.inl rfl) (fun q _ hn => heap_setCell_other w ⟨g, k, none⟩ q _ (fun e => hn (by rw [show q = g from e]; rfl)))
  rw [e] at h1
  refine ⟨h1, h.fr.set ⟨i, _, hv, rfl⟩ k _, fun j => ?_, fun j d hj hd => ?_⟩
  · by_cases hij : i = j
    · subst hij
      rw [List.getElem?_set_self (by rw [h.lb.len]; exact hlt), ← h.ln, hb]
      simp
    · rw [List.getElem?_set_ne hij]; exact h.ln j
  · rw [List.getElem?_set_ne (by omega)] at hd
    exact h.md j d hj hd
theorem G1r.next {W : World} {B : Nat} {vs : List Value} {bss cs : List (List Value)} {i : Nat} {w : World} (h : G1r W B vs bss i w cs) {bs : List Value} (hb : cs[i]? = some bs) (hm : MkR i (bs.length / 5) bs) : G1r W B vs bss (i + 1) w cs := by
  refine ⟨h.lb, h.fr, h.ln, fun j c hj hc => ?_⟩
  by_cases hij : j = i
  · subst hij
    obtain rfl := Option.some.inj (hb.symm.trans hc)
    exact hm
  · exact h.md j c (by omega) hc
theorem MkR.step {i k : Nat} {c : List Value} (h : MkR i k c) (hk : k * 5 + 5 ≤ c.length) : MkR i (k + 1) ((c.set (k * 5 + 2) (.int .i64 (1000 * (i : Int) + (k : Int)))).set (k * 5) (.int .i64 (-7))) := by
  intro q hq
  by_cases hqk : q = k
  · subst hqk
    refine ⟨List.getElem?_set_self (by rw [List.length_set]; omega), ?_⟩
    rw [List.getElem?_set_ne (by omega), List.getElem?_set_self (by omega)]
  · obtain ⟨h1, h2⟩ := h q (by omega)
    refine ⟨?_, ?_⟩
    · rw [List.getElem?_set_ne (by omega), List.getElem?_set_ne (by omega)]; exact h1
    · rw [List.getElem?_set_ne (by omega), List.getElem?_set_ne (by omega)]; exact h2
theorem rc_shape {B : Nat} {w : World} {v : Value} {xs : List Value} (h : Rc B w v xs) : ∃ a n c, v = .slice a n c ∧ xs.length = n * 5 ∧ (0 < n → ∃ g, a = some ⟨g, 0, none⟩) := by
  obtain ⟨n, h⟩ := h
  obtain ⟨a, c, rfl⟩ := own_shape h
  exact ⟨a, n, c, rfl, h.1, own_at5 h⟩
/-- The lists, and the row that will hold longer ones. -/
structure G2r (W : World) (B : Nat) (vs : List Value) (cs : List (List Value)) (i : Nat) (w : World) (v5 : Value) : Prop where
  lb : Lg B w vs cs
  fr : Fr W w (InB vs)
  m5 : w.ownsRow W.heap.size 33 1 v5 i (vs.take i)
theorem G2r.step {W : World} {B : Nat} {vs : List Value} {cs : List (List Value)} {i : Nat} {w w2 : World} {v5 v5' v : Value} {o1 : Obj} (h : G2r W B vs cs i w v5) (hI : ∀ g, InB vs g → g < W.heap.size) (hv : vs[i]? = some v) (g1 : (w.alloc o1).grownBy w2 v5.ownBlock) (r5 : w2.ownsRow W.heap.size 33 1 v5' (i + 1) (vs.take i ++ [v])) : G2r W B vs cs (i + 1) w2 v5' := by
  have s0 := h.fr.size
  have s1 := g1.size
  rw [World.size_alloc] at s1
  have k12 : ∀ g, g < w.heap.size → v5.ownBlock ≠ some g → w2.heap[g]? = w.heap[g]? := fun g hg hn => (g1.block g (by rw [World.size_alloc]; omega) (fun e => hn e.symm)).trans (Below.heap_alloc w o1 g hg)
  refine ⟨h.lb.keep (fun g hg hi => k12 g hg (fun e => by have := (h.m5.lt g e).1; have := hI g hi; omega)), ⟨g1.os.trans h.fr.os, g1.tape.trans h.fr.tape, g1.output.trans h.fr.output, by omega, fun q hq hn => (k12 q (by omega) (fun e => by have := (h.m5.lt q e).1; omega)).trans (h.fr.far q hq hn)⟩, by rw [take_one hv]; exact r5⟩
theorem G2r.g5 {W : World} {B : Nat} {vs : List Value} {cs : List (List Value)} {w : World} {v5 : Value} (h : G2r W B vs cs vs.length w v5) (hI : ∀ g, InB vs g → g < W.heap.size) : G5 W B vs cs w v5 vs cs := by
  have h5 := h.m5
  rw [List.take_length] at h5
  exact ⟨h.lb, rfl, h.fr, h5, fun b hb => .inl hb, fun j v m hv hm => (h.lb.own j v m hv hm).old, fun j m c hm hc => by obtain rfl := Option.some.inj (hm.symm.trans hc); exact List.prefix_rfl, fun j v u b hv hu e => by obtain rfl := Option.some.inj (hv.symm.trans hu); exact .inl e, fun b e hi => by have := (h.m5.lt b e).1; have := hI b hi; omega⟩
end Go.Proofs.YtobomdokdajbaaaDoor

namespace Go.Proofs.YtobomdokdajbaaaDoor
open Go.RowKit

theorem setCell_comm (w : World) {a b : Addr} (h : a.block ≠ b.block) (x y : Value) : (w.setCell a x).setCell b y = (w.setCell b y).setCell a x := by
  unfold World.setCell
  simp only [World.mk.injEq, and_true]
  apply Array.ext_getElem?
  intro j
  simp only [Array.getElem?_modify]
  by_cases h1 : a.block = j
  · by_cases h2 : b.block = j
    · exact (h (h1.trans h2.symm)).elim
    · simp [h1, h2]
  · by_cases h2 : b.block = j
    · simp [h1, h2]
    · simp [h1, h2]
theorem set5_comm {w : World} {g p q r : Nat} {a b c d e v : Value} (h : q ≠ g) : set5 (w.setCell ⟨q, r, none⟩ v) g p a b c d e = (set5 w g p a b c d e).setCell ⟨q, r, none⟩ v := by
  unfold set5
  rw [setCell_comm w (a := ⟨q, r, none⟩) (b := ⟨g, p, none⟩) h, setCell_comm _ (a := ⟨q, r, none⟩) (b := ⟨g, p + 1, none⟩) h, setCell_comm _ (a := ⟨q, r, none⟩) (b := ⟨g, p + 2, none⟩) h, setCell_comm _ (a := ⟨q, r, none⟩) (b := ⟨g, p + 3, none⟩) h, setCell_comm _ (a := ⟨q, r, none⟩) (b := ⟨g, p + 4, none⟩) h]
/-- A row whose block is written on behind it. -/
theorem own_behind {w : World} {B n : Nat} {u : Value} {xs : List Value} {g : Nat} {a b c d e : Value} (h : w.ownsRow B 35 5 u n xs) : (set5 w g (n * 5) a b c d e).ownsRow B 35 5 u n xs := by
  by_cases hg : u.ownBlock = some g
  · obtain ⟨h1, ⟨rfl, -⟩ | ⟨g', cap, cur, rfl, -⟩⟩ := id h
    · cases hg
    · obtain rfl : g' = g := by simpa [Value.ownBlock] using hg
      have q := (((((h.stored (n * 5) a).1.stored (n * 5 + 1) b).1.stored (n * 5 + 2) c).1.stored (n * 5 + 3) d).1.stored (n * 5 + 4) e).1
      have e1 : ((((xs.set (n * 5) a).set (n * 5 + 1) b).set (n * 5 + 2) c).set (n * 5 + 3) d).set (n * 5 + 4) e = xs := by
        rw [List.set_eq_of_length_le (l := xs) (by omega), List.set_eq_of_length_le (l := xs) (by omega), List.set_eq_of_length_le (l := xs) (by omega), List.set_eq_of_length_le (l := xs) (by omega), List.set_eq_of_length_le (l := xs) (by omega)]
      rw [e1] at q
      exact q
  · exact own_same h (fun b' e' => far_set5 (fun q => hg (by rw [← q]; exact e')))
/-- One more behind one of them, put in place. -/
theorem G5.step5 {W : World} {B : Nat} {vs : List Value} {ms : List (List Value)} {w w3 : World} {u : Value} {us : List Value} {cs : List (List Value)} {o1 : Obj} {i g5 c5 g' c' n : Nat} {ct : List Value} {z0 z1 z2 z3 z4 a b c d e : Value} (h : G5 W B vs ms w (.slice (some ⟨g5, 0, none⟩) vs.length c5) us cs) (hI : ∀ g, InB vs g → g < W.heap.size)
    (hu : us[i]? = some u) (hc : cs[i]? = some ct) (hg : (w.alloc o1).grownBy w3 u.ownBlock) (hn : w3.ownsRow B 35 5 (.slice (some ⟨g', 0, none⟩) (n + 1) c') (n + 1) (ct ++ [z0, z1, z2, z3, z4])) (hk : w3.ownsRow B 35 5 u n ct) (hb : u.ownBlock = some g' ∨ (w.alloc o1).heap.size ≤ g') :
    G5 W B vs ms ((set5 w3 g' (n * 5) a b c d e).setCell ⟨g5, i, none⟩ (.slice (some ⟨g', 0, none⟩) (n + 1) c')) (.slice (some ⟨g5, 0, none⟩) vs.length c5) (us.set i (.slice (some ⟨g', 0, none⟩) (n + 1) c')) (cs.set i (ct ++ [a, b, c, d, e])) ∧ g5 ≠ g' := by
  have l5 := h.m5.lt g5 rfl
  refine ⟨h.step hI hu hc (o1 := o1) ?_ ⟨n + 1, own_set5 hn hk.1⟩ ⟨n, own_behind hk⟩ (by rcases hb with q | q; exact .inl q.symm; exact .inr ⟨g', rfl, q⟩), fun q => ?_⟩
  · have s5 := frame_set5 (w := w3) (g := g') (p := n * 5) (a := a) (b := b) (c := c) (d := d) (e := e)
    refine ⟨s5.1.trans hg.os, s5.2.1.trans hg.tape, s5.2.2.trans hg.output, by rw [size_set5]; exact hg.size, fun q hq hne => (far_set5 (fun r => ?_)).trans (hg.block q hq hne)⟩
    subst r
    rcases hb with r | r
    · exact hne r.symm
    · omega
  · subst q
    rcases hb with r | r
    · exact h.u5 g5 rfl ⟨i, u, hu, r⟩
    · rw [World.size_alloc] at r; omega
end Go.Proofs.YtobomdokdajbaaaDoor
