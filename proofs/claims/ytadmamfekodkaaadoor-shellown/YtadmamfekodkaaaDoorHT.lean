import Derived.Test.YtadmamfekodkaaaDoorHS
import Derived.Test.YtadmamfekodkaaaDoorYZ

namespace Go.Proofs.YtadmamfekodkaaaDoor
open Go.RowKit
attribute [local go_sem ↓] Go.wp_at_zero Go.wp_at_succ

/-- Behind an append of bytes onto an own list. -/
theorem apQ {W w w' : World} {v v' : Value} {xs ys : List Nat} {cs : List Value} {n : Nat} {ob : Obj} (hY : Bytes W.heap.size w v xs) (hB : Below W.heap.size W w) (hown : w'.ownsRow W.heap.size 5 1 v' n (nb xs ++ cs)) (hn : n = xs.length + ys.length) (hcs : cs = nb ys) (hg : (w.alloc ob).grownBy w' v.ownBlock) : (∃ a c, v' = .slice a (xs ++ ys).length c ∧ Bytes W.heap.size w' (.slice a (xs ++ ys).length c) (xs ++ ys)) ∧ Below W.heap.size W w' := by
  have hb := below_grow0 hB hB.size hg (fun b e => (World.ownsRow.lt hY b e).1)
  refine ⟨?_, hb⟩
  rw [hcs, ← nb_append, hn, ← List.length_append] at hown
  obtain ⟨a, c, rfl⟩ := own_form hown
  exact ⟨a, c, rfl, hown⟩
set_option maxRecDepth 100000 in
set_option maxHeartbeats 4000000 in
theorem xQuote_any {W : World} {v : Value} {l : List Nat} (h : HasB W v l) (hl : Byt l) (hn : l.length ≤ 1000000) : Calls Tryd.prog 11 #[v] W fun e w => e = .returned (.string (ofN (quoteL l))) ∧ Below W.heap.size W w := by
  obtain ⟨i0, hi, hz0, hz1, hz2⟩ := info_parts Tryd.infoByte
  obtain ⟨a, c, rfl, -, h3⟩ := h
  have H3 := hide h3
  have HL := hide hl
  have HN := hide hn
  have HY : Hid (Bytes W.heap.size W (.slice none 0 0) []) := bytes_nil _ _
  have HB : Hid (Below W.heap.size W W) := Below.refl _ _
  have O1 : Hid (([] : List Nat).length + 1 ≤ maxLen) := by show _ ≤ _; unfold maxLen; simp
  have O2 : Hid ((([] : List Nat).length + 1) * 1 ≤ 140737488355328) := by show _ ≤ _; simp
  clear h3 hl
  go_enter Tryd.func11, Tryd.ntmps11
  go_wp2_with (at_builtin; refine wpList_append_own_at _ rfl _ _ 30 rfl W.heap.size 5 i0 (.int .u8 0) 1 1 Tryd.underlying30 hi hz0 hz1 hz2 rfl (by decide) _ _ _ rfl ((unhide HY).alloc _) ⟨W.heap.size, 0, none⟩ 1 1 [.int .u8 34] rfl rfl (cells_new _ _ _) (by simp [Value.oneCell']) (unhide O1) (unhide O2) (by have := (unhide HB).size; rw [World.size_alloc]; omega) ?_; intro v4 w4 hown4 hgrow4 _ _; obtain ⟨⟨a4, c4, rfl, hY4⟩, hB4⟩ := apQ (ys := [34]) (unhide HY) (unhide HB) hown4 rfl rfl hgrow4; have HY4 := hide hY4; have HB4 := hide hB4; clear hown4 hgrow4 hY4 hB4)
  clear HY HB O1 O2
  go_wp2
  go_loopg [3, 4, 5] l.length (fun gk v3 v4 _ wr => ∃ (i : Nat) (L : List Nat) (a3 : Option Addr) (c3 : Nat), v3 = .slice a3 L.length c3 ∧ v4 = .int .i64 (i : Int) ∧ gk = l.length - i ∧ i ≤ l.length ∧ Hid (L.length ≤ 4 * i + 1) ∧ Hid (Bytes W.heap.size wr (.slice a3 L.length c3) L) ∧ Hid (L = 34 :: qcs (l.take i)) ∧ Hid (Below W.heap.size W wr))
  case atStart => exact ⟨0, [34], _, _, rfl, rfl, rfl, by omega, by show 1 ≤ _; omega, HY4, rfl, HB4⟩
  case round =>
    obtain ⟨i, L, a3, c3, rfl, rfl, hgk, hil, HLl, HY, HE, HB⟩ := hrel
    have Hgk := hide hgk
    clear hgk HY4 HB4
    by_cases hlt : i < l.length
    · obtain ⟨x, hx⟩ : ∃ x, l[i]? = some x := ⟨_, List.getElem?_eq_getElem hlt⟩
      have hx2 := (unhide HL).at hx
      obtain ⟨g, off, rfl, hg, hc⟩ := unhide H3 (by omega)
      have c0 := ((unhide HB).cell (p := ⟨g, off + i, none⟩) hg).trans (hc i x hx)
      have hlen : L.length ≤ 4000005 := by have := unhide HLl; have := unhide HN; omega
      have HE2 : Hid (34 :: qcs (l.take (i + 1)) = L ++ qc x) := by show _ = _; rw [qcs_step hx, unhide HE]; rfl
      have HL2 : Hid ((L ++ qc x).length ≤ 4 * (i + 1) + 1) := by show _ ≤ _; have := (qc_len x).2; have := unhide HLl; rw [List.length_append]; omega
      have k0 : (0 : Int) ≤ (i : Int) := Int.natCast_nonneg _
      have k1 : (i : Int) < (l.length : Int) := by omega
      have Hlt := hide hlt
      clear hc hx HE
      by_cases g34 : x = 34 ∨ x = 92
      · have He := hide (qc_esc g34)
        have O1 : Hid (L.length + 2 ≤ maxLen) := by show _ ≤ _; unfold maxLen; omega
        have O2 : Hid ((L.length + 2) * 1 ≤ 140737488355328) := by show _ ≤ _; omega
        rcases (by omega : x = 34 ∨ (x ≠ 34 ∧ x = 92)) with f1 | ⟨f1, f2⟩
        all_goals (
          first
            | (have e1 := eqT (c := x) (k := 34) (by omega))
            | (have e1 := eqF (c := x) (k := 34) (by omega); have e2 := eqT (c := x) (k := 92) (by omega))
          clear g34 f1
          try clear f2)
        all_goals (
          go_wp2_with (at_builtin; refine wpList_append_own_at _ rfl _ _ 30 rfl W.heap.size 5 i0 (.int .u8 0) 1 1 Tryd.underlying30 hi hz0 hz1 hz2 rfl (by decide) _ _ _ rfl ((unhide HY).alloc _) ⟨wr.heap.size, 0, none⟩ 2 2 [.int .u8 92, .int .u8 (x : Int)] rfl rfl (cells_new _ _ _) (by simp [Value.oneCell']) (unhide O1) (unhide O2) (by have := (unhide HB).size; rw [World.size_alloc]; omega) ?_; intro v4 w4 hown4 hgrow4 _ _; obtain ⟨⟨a4, c4, rfl, hY4⟩, hB4⟩ := apQ (ys := [92, x]) (unhide HY) (unhide HB) hown4 rfl rfl hgrow4; have HY4 := hide hY4; have HB4 := hide hB4; clear hown4 hgrow4 hY4 hB4)
          clear HY HB O1 O2
          have HY9 : Hid (Bytes W.heap.size w4 (.slice a4 (L ++ qc x).length c4) (L ++ qc x)) := by show Bytes _ _ _ _; rw [unhide He]; exact unhide HY4
          clear HY4
          go_wp2
          go_roundg (l.length - (i + 1))
          case measure => have := unhide Hgk; have := unhide Hlt; omega
          case rel => exact ⟨i + 1, L ++ qc x, a4, c4, (by rw [unhide He, List.length_append]; rfl), by go_num, rfl, unhide Hlt, HL2, HY9, (unhide HE2).symm, HB4⟩)
      · have e1 := eqF (c := x) (k := 34) (by omega)
        have e2 := eqF (c := x) (k := 92) (by omega)
        by_cases g10 : x = 10
        · have He : Hid (qc x = [92, 110]) := by show _ = _; rw [g10]; exact qc_nl
          have O1 : Hid (L.length + 2 ≤ maxLen) := by show _ ≤ _; unfold maxLen; omega
          have O2 : Hid ((L.length + 2) * 1 ≤ 140737488355328) := by show _ ≤ _; omega
          have e10 := eqT (c := x) (k := 10) (by omega)
          clear g34 g10
          go_wp2_with (at_builtin; refine wpList_append_own_at _ rfl _ _ 30 rfl W.heap.size 5 i0 (.int .u8 0) 1 1 Tryd.underlying30 hi hz0 hz1 hz2 rfl (by decide) _ _ _ rfl ((unhide HY).alloc _) ⟨wr.heap.size, 0, none⟩ 2 2 [.int .u8 92, .int .u8 110] rfl rfl (cells_new _ _ _) (by simp [Value.oneCell']) (unhide O1) (unhide O2) (by have := (unhide HB).size; rw [World.size_alloc]; omega) ?_; intro v4 w4 hown4 hgrow4 _ _; obtain ⟨⟨a4, c4, rfl, hY4⟩, hB4⟩ := apQ (ys := [92, 110]) (unhide HY) (unhide HB) hown4 rfl rfl hgrow4; have HY4 := hide hY4; have HB4 := hide hB4; clear hown4 hgrow4 hY4 hB4)
          clear HY HB O1 O2
          have HY9 : Hid (Bytes W.heap.size w4 (.slice a4 (L ++ qc x).length c4) (L ++ qc x)) := by show Bytes _ _ _ _; rw [unhide He]; exact unhide HY4
          clear HY4
          go_wp2
          go_roundg (l.length - (i + 1))
          case measure => have := unhide Hgk; have := unhide Hlt; omega
          case rel => exact ⟨i + 1, L ++ qc x, a4, c4, (by rw [unhide He, List.length_append]; rfl), by go_num, rfl, unhide Hlt, HL2, HY9, (unhide HE2).symm, HB4⟩
        · have e10 := eqF (c := x) (k := 10) (by omega)
          by_cases g9 : x = 9
          · have He : Hid (qc x = [92, 116]) := by show _ = _; rw [g9]; exact qc_tab
            have O1 : Hid (L.length + 2 ≤ maxLen) := by show _ ≤ _; unfold maxLen; omega
            have O2 : Hid ((L.length + 2) * 1 ≤ 140737488355328) := by show _ ≤ _; omega
            have e9 := eqT (c := x) (k := 9) (by omega)
            clear g34 g9
            go_wp2_with (at_builtin; refine wpList_append_own_at _ rfl _ _ 30 rfl W.heap.size 5 i0 (.int .u8 0) 1 1 Tryd.underlying30 hi hz0 hz1 hz2 rfl (by decide) _ _ _ rfl ((unhide HY).alloc _) ⟨wr.heap.size, 0, none⟩ 2 2 [.int .u8 92, .int .u8 116] rfl rfl (cells_new _ _ _) (by simp [Value.oneCell']) (unhide O1) (unhide O2) (by have := (unhide HB).size; rw [World.size_alloc]; omega) ?_; intro v4 w4 hown4 hgrow4 _ _; obtain ⟨⟨a4, c4, rfl, hY4⟩, hB4⟩ := apQ (ys := [92, 116]) (unhide HY) (unhide HB) hown4 rfl rfl hgrow4; have HY4 := hide hY4; have HB4 := hide hB4; clear hown4 hgrow4 hY4 hB4)
            clear HY HB O1 O2
            have HY9 : Hid (Bytes W.heap.size w4 (.slice a4 (L ++ qc x).length c4) (L ++ qc x)) := by show Bytes _ _ _ _; rw [unhide He]; exact unhide HY4
            clear HY4
            go_wp2
            go_roundg (l.length - (i + 1))
            case measure => have := unhide Hgk; have := unhide Hlt; omega
            case rel => exact ⟨i + 1, L ++ qc x, a4, c4, (by rw [unhide He, List.length_append]; rfl), by go_num, rfl, unhide Hlt, HL2, HY9, (unhide HE2).symm, HB4⟩
          · have e9 := eqF (c := x) (k := 9) (by omega)
            by_cases g4 : x < 32 ∨ 126 < x
            · have He := hide (qc_hex (ctl_iff.2 g4) (by omega) (by omega) g10 g9)
              have q1 : (x : Int).tdiv 16 = (x : Int) / 16 := Int.tdiv_eq_ediv_of_nonneg (by omega)
              obtain ⟨y1, hy1⟩ : ∃ y, y = x / 16 := ⟨_, rfl⟩
              obtain ⟨y2, hy2⟩ : ∃ y, y = x % 16 := ⟨_, rfl⟩
              have qw1 : IntKind.u8.wrap ((x : Int) / 16) = (y1 : Int) := by rw [hy1, show ((x : Int) / 16) = ((x / 16 : Nat) : Int) by omega]; exact wrap8 (by omega)
              have q2 : (x : Int).tmod 16 = (y2 : Int) := by rw [hy2, Int.tmod_eq_emod_of_nonneg (by omega)]; omega
              have ix1 : ∀ w, (Instr.index 9 (.string ⟨#[48, 49, 50, 51, 52, 53, 54, 55, 56, 57, 97, 98, 99, 100, 101, 102]⟩) (.int .u8 (y1 : Int))).run Tryd.prog w = .ok (.int .u8 ((hx y1 : Nat) : Int)) w := fun w => hx_at w y1 (by omega) _ rfl
              have ix2 : ∀ w, (Instr.index 9 (.string ⟨#[48, 49, 50, 51, 52, 53, 54, 55, 56, 57, 97, 98, 99, 100, 101, 102]⟩) (.int .u8 (y2 : Int))).run Tryd.prog w = .ok (.int .u8 ((hx y2 : Nat) : Int)) w := fun w => hx_at w y2 (by omega) _ rfl
              rw [← hy1, ← hy2] at He
              generalize hx y1 = d1 at *
              generalize hx y2 = d2 at *
              rcases (by omega : x < 32 ∨ (32 ≤ x ∧ 126 < x)) with f1 | ⟨f1, f2⟩
              all_goals (
                first
                  | (have e3 := ltiT (c := x) (k := 32) (by omega))
                  | (have e3 := ltiF (c := x) (k := 32) (by omega); have e4 := ltT (a := x) (k := 126) (by omega))
                clear g34 g10 g9 g4 hy1 hy2 f1
                try clear f2)
              all_goals (
                go_wp2
                refine wp_region_any (by kernel_rfl) ?_
                try (change wpAny _ _ _ _ _ _ _ (World.drew _))
                have hdr : Below W.heap.size W wr.drew := below_drewN (unhide HB) 1
                have hYd : wr.drew.ownsRow W.heap.size 5 1 (.slice a3 L.length c3) L.length (nb L) := own_up (show wr.ownsRow _ _ _ _ _ _ from unhide HY) (below_drewN (Below.refl _ _) 1)
                have hBd := hide hdr
                obtain ⟨wd, hwd⟩ : ∃ x, wr.drew = x := ⟨_, rfl⟩
                rw [hwd] at hYd hBd ⊢
                clear hwd hdr c0 HY HB
                refine wpAny_of_Z (z := 9) (T := fun _ => True) _ _ _ _ ?_
                have hT : (fun _ : World => True) wd := trivial
                refine wpAnyZ_tk 0 (.slice a3 L.length c3) 53 rfl rfl (Or.inl ⟨by rfl, fun w' _ => by go_simp⟩) hT ?_
                simp only [Act.put, List.setIfInBounds_toArray, List.set_cons_zero, List.set_cons_succ]
                refine wpAnyZ_tk 1 (.int .u8 (x : Int)) 54 rfl rfl (Or.inl ⟨by rfl, fun w' _ => by go_simp⟩) hT ?_
                simp only [Act.put, List.setIfInBounds_toArray, List.set_cons_zero, List.set_cons_succ]
                refine wpAnyZ_tk 2 (.int .u8 (y1 : Int)) 55 rfl rfl (Or.inl ⟨by rfl, fun w' _ => by go_simp⟩) hT ?_
                simp only [Act.put, List.setIfInBounds_toArray, List.set_cons_zero, List.set_cons_succ]
                refine wpAnyZ_tk 3 (.int .u8 (d1 : Int)) 56 rfl rfl (Or.inl ⟨by rfl, fun w' _ => by go_simp⟩) hT ?_
                simp only [Act.put, List.setIfInBounds_toArray, List.set_cons_zero, List.set_cons_succ]
                refine wpAnyZ_tk 4 (.int .u8 (x : Int)) 57 rfl rfl (Or.inl ⟨by rfl, fun w' _ => by go_simp⟩) hT ?_
                simp only [Act.put, List.setIfInBounds_toArray, List.set_cons_zero, List.set_cons_succ]
                refine wpAnyZ_tk 5 (.int .u8 (y2 : Int)) 58 rfl rfl (Or.inl ⟨by rfl, fun w' _ => by go_simp⟩) hT ?_
                simp only [Act.put, List.setIfInBounds_toArray, List.set_cons_zero, List.set_cons_succ]
                refine wpAnyZ_tk 6 (.int .u8 (d2 : Int)) 59 rfl rfl (Or.inl ⟨by rfl, fun w' _ => by go_simp⟩) hT ?_
                simp only [Act.put, List.setIfInBounds_toArray, List.set_cons_zero, List.set_cons_succ]
                obtain ⟨wy, hwy⟩ : ∃ x, wd.alloc (.cells #[.int .u8 92, .int .u8 120, .int .u8 (d1 : Int), .int .u8 (d2 : Int)] 5) = x := ⟨_, rfl⟩
                have hbn : Below wd.heap.size wd wy := by rw [← hwy]; exact (Below.refl _ _).alloc (Nat.le_refl _) _
                have y7 := own_up hYd hbn
                have hsz := (unhide hBd).size
                have hsy : W.heap.size ≤ wy.heap.size := by have := hbn.size; omega
                have HB1 := hide ((unhide hBd).trans (Below.mono hbn hsz))
                have hnw : ∀ j u, [Value.int .u8 92, .int .u8 120, .int .u8 (d1 : Int), .int .u8 (d2 : Int)][j]? = some u → wy.cell? ((⟨wd.heap.size, 0, none⟩ : Addr).add j) = some u := by rw [← hwy]; exact cells_new _ _ _
                refine wpAnyZ_one 7 (by kernel_rfl) rfl (fun K hK => ?_)
                go_simp
                refine hK _ _ ⟨fun _ => trivial, ?_⟩
                clear hK K hwy hbn
                refine wpAnyZ_one 8 (by kernel_rfl) rfl (fun K hK => ?_)
                refine step_app_own 61 rfl rfl (.tmp 53) (.tmp 60) 30 rfl W.heap.size 5 i0 (.int .u8 0) 1 1 Tryd.underlying30 hi hz0 hz1 hz2 rfl (by decide) (.slice a3 L.length c3) L.length _ (by first | rfl | simp [Act.eval]) y7 ⟨wd.heap.size, 0, none⟩ 4 4 [.int .u8 92, .int .u8 120, .int .u8 (d1 : Int), .int .u8 (d2 : Int)] (by first | rfl | simp [Act.eval]) rfl hnw (by simp [Value.oneCell']) (by unfold maxLen; omega) (by omega) hsy ?_
                intro v' w4 ho hg _
                have hB4 : Below W.heap.size W w4 := (unhide HB1).trans ⟨hg.os, hg.tape, hg.output, hg.size, fun b hb => hg.block b (by omega) (fun e => by have := (World.ownsRow.lt y7 b e.symm).1; omega)⟩
                have HB4 := hide hB4
                have ho2 : w4.ownsRow W.heap.size 5 1 v' (L ++ [92, 120, d1, d2]).length (nb (L ++ [92, 120, d1, d2])) := by
                  rw [nb_append, List.length_append]
                  exact ho
                obtain ⟨a4, c4, rfl⟩ := own_form ho2
                have HY4 : Hid (Bytes W.heap.size w4 (.slice a4 (L ++ [92, 120, d1, d2]).length c4) (L ++ [92, 120, d1, d2])) := ho2
                refine hK _ _ ⟨fun _ => trivial, ?_⟩
                clear hK K ho ho2 hg hB4 HB1 hnw y7 hsy hsz hYd
                simp only [Act.put, List.setIfInBounds_toArray, List.set_cons_zero, List.set_cons_succ]
                refine wpAnyZ_one 9 (by kernel_rfl) rfl (fun K hK => ?_)
                go_simp
                refine hK _ _ ⟨fun q => absurd rfl q, ?_⟩
                clear hK K
                refine wpAnyZ_done (by kernel_rfl) ?_
                go_wp2
                have HY9 : Hid (Bytes W.heap.size w4 (.slice a4 (L ++ qc x).length c4) (L ++ qc x)) := by show Bytes _ _ _ _; rw [unhide He]; exact unhide HY4
                clear HY4
                go_wp2
                go_roundg (l.length - (i + 1))
                case measure => have := unhide Hgk; have := unhide Hlt; omega
                case rel => exact ⟨i + 1, L ++ qc x, a4, c4, (by rw [unhide He, List.length_append]; rfl), by go_num, rfl, unhide Hlt, HL2, HY9, (unhide HE2).symm, HB4⟩)
            · have He := hide (qc_self (fun q => g4 (ctl_iff.1 q)) (by omega) (by omega) g10 g9)
              have e3 := ltiF (c := x) (k := 32) (by omega)
              have e4 := ltF (a := x) (k := 126) (by omega)
              have O1 : Hid (L.length + 1 ≤ maxLen) := by show _ ≤ _; unfold maxLen; omega
              have O2 : Hid ((L.length + 1) * 1 ≤ 140737488355328) := by show _ ≤ _; omega
              clear g34 g10 g9 g4
              go_wp2_with (at_builtin; refine wpList_append_own_at _ rfl _ _ 30 rfl W.heap.size 5 i0 (.int .u8 0) 1 1 Tryd.underlying30 hi hz0 hz1 hz2 rfl (by decide) _ _ _ rfl ((unhide HY).alloc _) ⟨wr.heap.size, 0, none⟩ 1 1 [.int .u8 (x : Int)] rfl rfl (cells_new _ _ _) (by simp [Value.oneCell']) (unhide O1) (unhide O2) (by have := (unhide HB).size; rw [World.size_alloc]; omega) ?_; intro v4 w4 hown4 hgrow4 _ _; obtain ⟨⟨a4, c4, rfl, hY4⟩, hB4⟩ := apQ (ys := [x]) (unhide HY) (unhide HB) hown4 rfl rfl hgrow4; have HY4 := hide hY4; have HB4 := hide hB4; clear hown4 hgrow4 hY4 hB4)
              clear HY HB O1 O2
              have HY9 : Hid (Bytes W.heap.size w4 (.slice a4 (L ++ qc x).length c4) (L ++ qc x)) := by show Bytes _ _ _ _; rw [unhide He]; exact unhide HY4
              clear HY4
              go_wp2
              go_roundg (l.length - (i + 1))
              case measure => have := unhide Hgk; have := unhide Hlt; omega
              case rel => exact ⟨i + 1, L ++ qc x, a4, c4, (by rw [unhide He, List.length_append]; rfl), by go_num, rfl, unhide Hlt, HL2, HY9, (unhide HE2).symm, HB4⟩
    · obtain rfl : i = l.length := by omega
      have HE3 : Hid (L ++ [34] = quoteL l) := by show _ = _; rw [unhide HE, List.take_length]; rfl
      have hlen : L.length ≤ 4000005 := by have := unhide HLl; have := unhide HN; omega
      have O1 : Hid (L.length + 1 ≤ maxLen) := by show _ ≤ _; unfold maxLen; omega
      have O2 : Hid ((L.length + 1) * 1 ≤ 140737488355328) := by show _ ≤ _; omega
      clear HE
      go_wp2_with (at_builtin; refine wpList_append_own_at _ rfl _ _ 30 rfl W.heap.size 5 i0 (.int .u8 0) 1 1 Tryd.underlying30 hi hz0 hz1 hz2 rfl (by decide) _ _ _ rfl ((unhide HY).alloc _) ⟨wr.heap.size, 0, none⟩ 1 1 [.int .u8 34] rfl rfl (cells_new _ _ _) (by simp [Value.oneCell']) (unhide O1) (unhide O2) (by have := (unhide HB).size; rw [World.size_alloc]; omega) ?_; intro v4 w4 hown4 hgrow4 _ _; obtain ⟨⟨a4, c4, rfl, hY4⟩, hB4⟩ := apQ (ys := [34]) (unhide HY) (unhide HB) hown4 rfl rfl hgrow4; have HY4 := hide hY4; have HB4 := hide hB4; clear hown4 hgrow4 hY4 hB4)
      clear HY HB O1 O2
      have hq := unhide HE3
      have cv := conv_any (unhide HY4).has (by rw [hq]; exact quote_byt (unhide HL))
      rw [List.length_append] at cv
      change (convert 30 9 (.slice a4 (L.length + 1) c4)).run Tryd.prog w4 = _ at cv
      clear HY4 hq
      go_wp2
      rw [cv]
      go_wp2
      go_ret
      refine ⟨?_, unhide HB4⟩
      rw [unhide HE3]
      rfl
end Go.Proofs.YtadmamfekodkaaaDoor
