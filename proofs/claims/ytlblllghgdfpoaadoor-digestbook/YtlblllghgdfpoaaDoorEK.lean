import Derived.Test.YtlblllghgdfpoaaDoorJ07
import Derived.Test.YtlblllghgdfpoaaDoorEJ

namespace Go.Proofs.YtlblllghgdfpoaaDoor
open Go.RowKit
attribute [local go_sem ↓] Go.wp_at_zero Go.wp_at_succ

theorem q4_cells (i k : Nat) : ((q4 i k).map fun (x : Nat) => Value.int .u8 (x : Int)).toArray = #[.int .u8 ((i : Int) % 256), .int .u8 ((i : Int) / 256 % 256), .int .u8 ((k : Int) % 256), .int .u8 ((k : Int) / 256 % 256)] := by
  simp [q4]
set_option maxRecDepth 100000 in
set_option maxHeartbeats 8000000 in
theorem grownLists_any {B : Nat} {W : World} {va : Value} {vs : List Value} {uss : List (List Value)} (hd : HdB W va vs) (hl : Lr B W vs uss) (hB : B ≤ W.heap.size) (hn : ∀ us ∈ uss, us.length ≤ 1073741824) (hvl : vs.length ≤ 1073741824) :
    Calls Tryd.prog 20 #[va] W fun e w => e = .returned (.bool true) ∧ Fr W w (InB vs) := by
  obtain ⟨a, c, rfl, h3⟩ := hd
  obtain ⟨i1, qi, qz0, qz1, qz2⟩ := info_parts Tryd.infoBytes
  have H3 := hide h3
  have HL := hide hn
  have HBs := hide hB
  have HG0 : Hid (GlS W B vs uss (fun j _ => j < 0) W uss) := ⟨hl, Fr.refl _ _, fun _ => rfl, fun j k us u hj => by omega, fun q hq => (hl.lt hq).2⟩
  clear h3 hn hB hl
  go_enter Tryd.func20, Tryd.ntmps20
  go_wp2
  go_loopg [3, 4] vs.length (fun gk v3 _ wr => ∃ (i : Nat) (cs : List (List Value)), v3 = .int .i64 (i : Int) ∧ gk = vs.length - i ∧ i ≤ vs.length ∧ Hid (GlS W B vs uss (fun j _ => j < i) wr cs))
  case atStart => exact ⟨0, uss, rfl, rfl, by omega, unhide HG0⟩
  case round =>
    obtain ⟨i, cs, rfl, hgk, hi, HG⟩ := hrel
    have HgkO := hide hgk
    clear hgk HG0
    obtain ⟨wo, hwo⟩ : ∃ x, x = wr := ⟨_, rfl⟩
    subst hwo
    by_cases hlt : i < vs.length
    · obtain ⟨gA, oA, rfl, hgA, hnI, hc⟩ := unhide H3 (by omega)
      obtain ⟨v, us, hv, hu, hO⟩ := (unhide HG).lr.at hlt
      obtain ⟨av, cv, rfl, -, -, hsh⟩ := own_form hO
      have Hx : Hid (∀ w', Fr W w' (InB vs) → w'.cell? ⟨gA, oA + i, none⟩ = some (.slice av us.length cv)) := fun w' hf => (World.cell?_of_block (a := ⟨gA, oA + i, none⟩) (hf.far gA hgA hnI)).trans (hc i _ hv)
      have hbl : us.length ≤ 1073741824 := by
        have e := (unhide HG).ln i
        rw [hu] at e
        cases hq : uss[i]? with
        | none => rw [hq] at e; cases e
        | some q => rw [hq] at e; have e1 : us.length = q.length := by simpa using e
                    rw [e1]; exact unhide HL q (List.mem_of_getElem? hq)
      have x0 := unhide Hx wo (unhide HG).fr
      have HI0 : Hid (∃ cs' us', GlS W B vs uss (fun j m => j < i ∨ j = i ∧ m < 0) wo cs' ∧ cs'[i]? = some us' ∧ us'.length = us.length) := ⟨cs, us, (unhide HG).weak (fun j m _ _ h _ _ => by omega), hu, rfl⟩
      have Hsh : Hid (0 < us.length → ∃ g, av = some ⟨g, 0, none⟩) := fun hp => by obtain ⟨g, e, _⟩ := hsh hp; exact ⟨g, e⟩
      have Hv := hide hv
      have j0 : (0 : Int) ≤ (i : Int) := Int.natCast_nonneg _
      have j1 : (i : Int) < (vs.length : Int) := by omega
      have HltO := hide hlt
      clear hc hgA hnI hO hsh hv hu hlt HG
      go_wp2
      go_loopg [4] us.length (fun gk v4 wr => ∃ (k : Nat), v4 = .int .i64 (k : Int) ∧ gk = us.length - k ∧ k ≤ us.length ∧ Hid (∃ cs' us', GlS W B vs uss (fun j m => j < i ∨ j = i ∧ m < k) wr cs' ∧ cs'[i]? = some us' ∧ us'.length = us.length))
      case atStart => exact ⟨0, rfl, rfl, by omega, unhide HI0⟩
      case round =>
        obtain ⟨k, rfl, hgk, hk, HI⟩ := hrel
        have Hgk := hide hgk
        clear hgk x0 HI0
        obtain ⟨cs', us', hG, hb, hl⟩ := unhide HI
        have x0 := unhide Hx wr hG.fr
        by_cases hlt : k < us.length
        · obtain ⟨g, rfl⟩ := unhide Hsh (by omega)
          have hO := hG.lr.own i _ us' (unhide Hv) hb
          rw [hl] at hO
          have y0 : wr.cell? ⟨g, k, none⟩ = some (us'[k]'(by omega)) := by
            have := hO.cells (g := g) rfl k _ (List.getElem?_eq_getElem (by omega))
            rwa [Go.WideShapes.add_plain, Nat.zero_add] at this
          have z0 : wr.frozen? ⟨g, k, none⟩ = false := World.ownsRow.frozenAt hO k
          obtain ⟨y, hy⟩ : ∃ y, us'[k]'(by omega) = y := ⟨_, rfl⟩
          rw [hy] at y0
          have hglt : g < wr.heap.size := (hO.lt g rfl).2
          have HIn : Hid (∃ cs' us', GlS W B vs uss (fun j m => j < i ∨ j = i ∧ m < k + 1) ((wr.setCell ⟨g, k, none⟩ (.slice (some ⟨wr.heap.size, 0, none⟩) 4 4)).alloc (.cells #[.int .u8 ((i : Int) % 256), .int .u8 ((i : Int) / 256 % 256), .int .u8 ((k : Int) % 256), .int .u8 ((k : Int) / 256 % 256)] 5)) cs' ∧ cs'[i]? = some us' ∧ us'.length = us.length) := by
            rw [← World.setCell_alloc_past _ g k _ hglt]
            refine ⟨_, _, (hG.put (k := k) (unhide Hv) hb hl _ (by rw [q4_cells])).weak (fun j m _ _ h _ _ => ?_), List.getElem?_set_self (by rw [hG.lr.len]; exact unhide HltO), by rw [List.length_set, hl]⟩
            by_cases e : (j, m) = (i, k)
            · exact .inr e
            · refine .inl ⟨?_, e⟩
              rcases h with h | ⟨rfl, h⟩
              · exact .inl h
              · exact .inr ⟨rfl, by have : m ≠ k := fun e2 => e (by rw [e2]); omega⟩
          have i0 : (0 : Int) ≤ (k : Int) := Int.natCast_nonneg _
          have i1' : (k : Int) < (us.length : Int) := by omega
          have Hlt := hide hlt
          clear hG hb hl hO hlt HI hy
          go_wp2
          go_roundg (us.length - (k + 1))
          case measure => have := unhide Hgk; have := unhide Hlt; omega
          case rel => exact ⟨k + 1, by go_num, rfl, unhide Hlt, unhide HIn⟩
        · obtain rfl : k = us.length := by omega
          have HGn : Hid (GlS W B vs uss (fun j _ => j < i + 1) wr cs') := hG.weak (fun j m us1 u h k1 k2 => by
            by_cases e : j = i
            · subst e
              obtain rfl := Option.some.inj (hb.symm.trans k1)
              exact .inr ⟨rfl, by have := (List.getElem?_eq_some_iff.1 k2).1; omega⟩
            · exact .inl (by omega))
          clear hG hb hl HI hlt hk Hgk
          go_wp2
          go_roundg (vs.length - (i + 1))
          case measure => have := unhide HgkO; have := unhide HltO; omega
          case rel => exact ⟨i + 1, cs', by go_num, rfl, unhide HltO, unhide HGn⟩
    · obtain rfl : i = vs.length := by omega
      have HCl : Hid (∀ (j : Nat) (us : List Value), cs[j]? = some us → us.length ≤ 1073741824) := fun j us hu => by
        have e := (unhide HG).ln j
        rw [hu] at e
        cases hq : uss[j]? with
        | none => rw [hq] at e; cases e
        | some q => rw [hq] at e; have e1 : us.length = q.length := by simpa using e
                    rw [e1]; exact unhide HL q (List.mem_of_getElem? hq)
      clear HgkO hlt hi
      go_wp2
      go_loopg [5, 6, 7] vs.length (fun gk v5 _ _ wr => ∃ (i : Nat), v5 = .int .i64 (i : Int) ∧ gk = vs.length - i ∧ i ≤ vs.length ∧ Hid (GlS W B vs uss (fun j _ => j < vs.length) wr cs))
      case atStart => exact ⟨0, rfl, rfl, by omega, unhide HG⟩
      case round =>
        obtain ⟨i, rfl, hgk, hi, HI⟩ := hrel
        have HgkO := hide hgk
        clear hgk HG
        obtain ⟨wo, hwo⟩ : ∃ x, x = wr := ⟨_, rfl⟩
        subst hwo
        by_cases hlt : i < vs.length
        · obtain ⟨gA, oA, rfl, hgA, hnI, hc⟩ := unhide H3 (by omega)
          obtain ⟨v, us, hv, hu, hO⟩ := (unhide HI).lr.at hlt
          obtain ⟨av, cv, rfl, -, -, -⟩ := own_form hO
          have Hx : Hid (∀ w', Fr W w' (InB vs) → w'.cell? ⟨gA, oA + i, none⟩ = some (.slice av us.length cv)) := fun w' hf => (World.cell?_of_block (a := ⟨gA, oA + i, none⟩) (hf.far gA hgA hnI)).trans (hc i _ hv)
          have hbl := unhide HCl i us hu
          have x0 := unhide Hx wo (unhide HI).fr
          have HR0 : Hid (RgA wo B (.slice av us.length cv) us [] wo (.slice av us.length cv)) := ⟨by rw [List.append_nil]; exact hO, hO, rfl, rfl, rfl, Nat.le_refl _, fun _ _ _ => rfl, .inl rfl, fun b e => (hO.lt b e).2⟩
          have Hv := hide hv
          have Hu := hide hu
          have j0 : (0 : Int) ≤ (i : Int) := Int.natCast_nonneg _
          have j1 : (i : Int) < (vs.length : Int) := by omega
          have hBw : B ≤ wo.heap.size := Nat.le_trans (unhide HBs) (unhide HI).fr.size
          have HltO := hide hlt
          clear hc hgA hnI hO hv hu hlt
          go_wp2
          go_loopg [6, 7] 70 (fun gk v6 v7 wr => ∃ (k : Nat) (a : Option Addr) (c : Nat) (ys : List Value), v7 = .int .i64 (k : Int) ∧ v6 = .slice a (us.length + k) c ∧ gk = 70 - k ∧ k ≤ 70 ∧ ys.length = k ∧ Hid (RgA wo B (.slice av us.length cv) us ys wr (.slice a (us.length + k) c)))
          case atStart => exact ⟨0, av, cv, [], rfl, rfl, rfl, by omega, rfl, unhide HR0⟩
          case round =>
            obtain ⟨k, a6, c6, ys, rfl, rfl, hgk, hk, hys, HR⟩ := hrel
            have Hgk := hide hgk
            clear hgk HR0 x0
            by_cases hlt : k < 70
            · have hl : (us ++ ys).length = us.length + k := by rw [List.length_append, hys]
              have HO : Hid (wr.ownsRow B 29 1 (.slice a6 (us.length + k) c6) (us.length + k) (us ++ ys)) := by have := (unhide HR).rr; rw [hl] at this; exact this
              have hBr : B ≤ wr.heap.size := Nat.le_trans hBw (unhide HR).size
              have j2 : (k : Int) < 70 := by omega
              have Hlt := hide hlt
              have Hys := hide hys
              have Hl := hide hl
              clear hlt hys hl
              go_wp2_with (at_builtin; refine wpList_append_keeps rfl _ _ 22 rfl B 29 i1 (.slice none 0 0) 1 24 Tryd.underlying22 qi qz0 qz1 qz2 rfl (by decide) (.slice a6 (us.length + k) c6) (us.length + k) (us ++ ys) (by first | rfl | simp [Act.eval]) (((unhide HO).alloc _).alloc _) ⟨wr.heap.size + 1, 0, none⟩ 1 1 [.slice (some ⟨wr.heap.size, 0, none⟩) 3 3] (by first | rfl | simp [Act.eval]) rfl (by have := cell_one_new (wr.alloc (.cells #[.int .u8 255, .int .u8 ((i : Int) % 256), .int .u8 (k : Int)] 5)) (.slice (some ⟨wr.heap.size, 0, none⟩) 3 3) 29; rw [World.size_alloc] at this; exact this) (by simp [Value.oneCell']) (by decide) (by unfold maxLen; omega) (by omega) (by rw [World.size_alloc, World.size_alloc]; omega) ?_; intro g9 c9 w9 q1 q2 q3 q4' q5; have HR2 := hide (((unhide HR).up (w' := wr.alloc (.cells #[.int .u8 255, .int .u8 ((i : Int) % 256), .int .u8 (k : Int)] 5)) ((Below.refl _ _).alloc (Nat.le_refl _) _)).step (unhide Hl) q1 q2 q3 q4'); clear q1 q2 q3 q4' q5)
              clear HR HO
              go_roundg (70 - (k + 1))
              case measure => have := unhide Hgk; have := unhide Hlt; omega
              case rel => exact ⟨k + 1, _, _, _, by go_num, rfl, rfl, unhide Hlt, by rw [List.length_append, unhide Hys]; rfl, unhide HR2⟩
            · obtain rfl : k = 70 := by omega
              have HI2 := hide ((unhide HI).grow (unhide Hv) (unhide Hu) (unhide HR))
              have x0 := unhide Hx wr (unhide HI2).fr
              have j2 : ¬ (70 : Int) < 70 := by omega
              clear hlt hk Hgk HR HI hys
              go_wp2
              go_roundg (vs.length - (i + 1))
              case measure => have := unhide HgkO; have := unhide HltO; omega
              case rel => exact ⟨i + 1, by go_num, rfl, unhide HltO, unhide HI2⟩
        · obtain rfl : i = vs.length := by omega
          clear HgkO hlt hi
          go_wp2
          go_loopg [8, 9] vs.length (fun gk v8 _ wr => ∃ (i : Nat), v8 = .int .i64 (i : Int) ∧ gk = vs.length - i ∧ i ≤ vs.length ∧ Hid (GlS W B vs uss (fun j _ => j < vs.length) wr cs))
          case atStart => exact ⟨0, rfl, rfl, by omega, unhide HI⟩
          case round =>
            obtain ⟨i, rfl, hgk, hi, HJ⟩ := hrel
            have HgkO := hide hgk
            clear hgk HI
            obtain ⟨wp, hwp⟩ : ∃ x, x = wr := ⟨_, rfl⟩
            subst hwp
            by_cases hlt : i < vs.length
            · obtain ⟨gA, oA, rfl, hgA, hnI, hc⟩ := unhide H3 (by omega)
              obtain ⟨v, us, hv, hu, hO⟩ := (unhide HJ).lr.at hlt
              obtain ⟨av, cv, rfl, -, -, hsh⟩ := own_form hO
              have Hx : Hid (∀ w', Fr W w' (InB vs) → w'.cell? ⟨gA, oA + i, none⟩ = some (.slice av us.length cv)) := fun w' hf => (World.cell?_of_block (a := ⟨gA, oA + i, none⟩) (hf.far gA hgA hnI)).trans (hc i _ hv)
              have hbl := unhide HCl i us hu
              have x0 := unhide Hx wp (unhide HJ).fr
              have Hsh : Hid (0 < us.length → ∃ g, av = some ⟨g, 0, none⟩) := fun hp => by obtain ⟨g, e, _⟩ := hsh hp; exact ⟨g, e⟩
              have Hv := hide hv
              have Hu := hide hu
              have j0 : (0 : Int) ≤ (i : Int) := Int.natCast_nonneg _
              have j1 : (i : Int) < (vs.length : Int) := by omega
              have HltO := hide hlt
              clear hc hgA hnI hO hsh hv hu hlt
              go_wp2
              go_loopg [9] us.length (fun gk v9 wr => ∃ (k : Nat), v9 = .int .i64 (k : Int) ∧ gk = us.length - k ∧ k ≤ us.length ∧ Hid (GlS W B vs uss (fun j _ => j < vs.length) wr cs))
              case atStart => exact ⟨0, rfl, rfl, by omega, unhide HJ⟩
              case round =>
                obtain ⟨k, rfl, hgk, hk, HK⟩ := hrel
                have Hgk := hide hgk
                clear hgk x0 HJ
                have x0 := unhide Hx wr (unhide HK).fr
                by_cases hlt : k < us.length
                · obtain ⟨g, rfl⟩ := unhide Hsh (by omega)
                  have hO := (unhide HK).lr.own i _ us (unhide Hv) (unhide Hu)
                  obtain ⟨y, hy⟩ : ∃ y, us[k]? = some y := ⟨_, List.getElem?_eq_getElem hlt⟩
                  have y0 : wr.cell? ⟨g, k, none⟩ = some y := by
                    have := hO.cells (g := g) rfl k _ hy
                    rwa [Go.WideShapes.add_plain, Nat.zero_add] at this
                  obtain ⟨hE, -⟩ := (unhide HK).el i k us y (unhide HltO) (unhide Hu) hy
                  obtain ⟨ay, cy, hyv, -⟩ := id hE
                  have hyv' : y = .slice ay 4 cy := hyv
                  subst hyv'
                  have hbA : Below wr.heap.size wr (wr.alloc (.cells #[.int .u8 ((i : Int) % 256), .int .u8 ((i : Int) / 256 % 256), .int .u8 ((k : Int) % 256), .int .u8 ((k : Int) / 256 % 256)] 5)) := (Below.refl _ _).alloc (Nat.le_refl _) _
                  have hN : HasB (wr.alloc (.cells #[.int .u8 ((i : Int) % 256), .int .u8 ((i : Int) / 256 % 256), .int .u8 ((k : Int) % 256), .int .u8 ((k : Int) / 256 % 256)] 5)) (.slice (some ⟨wr.heap.size, 0, none⟩) 4 4) (q4 i k) := by
                    rw [← q4_cells]
                    refine ⟨some ⟨wr.heap.size, 0, none⟩, 4, rfl, ⟨Nat.le_refl _, by unfold maxLen; decide, nofun⟩, fun _ => ⟨wr.heap.size, 0, rfl, by rw [World.size_alloc]; omega, fun a x hx => ?_⟩⟩
                    rw [Nat.zero_add]
                    refine (cell_of_row _ _ _ _ _ _ (heap_new wr _)).trans ?_
                    simp [List.getElem?_map, hx]
                  have HSa := hide (same_any (hE.up hbA) hN (q4_byt i k) (q4_byt i k))
                  rw [decide_eq_true rfl] at HSa
                  have HK2 := hide ((unhide HK).up hbA)
                  have i0 : (0 : Int) ≤ (k : Int) := Int.natCast_nonneg _
                  have i1' : (k : Int) < (us.length : Int) := by omega
                  have Hlt := hide hlt
                  clear hO hy hE hyv hbA hN hlt
                  go_wp2_with fail
                  refine (unhide HSa).mono ?_
                  rintro e w5 ⟨rfl, rfl⟩
                  go_wp2
                  go_roundg (us.length - (k + 1))
                  case measure => have := unhide Hgk; have := unhide Hlt; omega
                  case rel => exact ⟨k + 1, by go_num, rfl, unhide Hlt, unhide HK2⟩
                · obtain rfl : k = us.length := by omega
                  clear hlt hk Hgk
                  go_wp2
                  go_roundg (vs.length - (i + 1))
                  case measure => have := unhide HgkO; have := unhide HltO; omega
                  case rel => exact ⟨i + 1, by go_num, rfl, unhide HltO, unhide HK⟩
            · obtain rfl : i = vs.length := by omega
              have HF := hide (unhide HJ).fr
              clear hlt hi HgkO HJ
              go_wp2
              go_ret
              exact ⟨rfl, unhide HF⟩
end Go.Proofs.YtlblllghgdfpoaaDoor
