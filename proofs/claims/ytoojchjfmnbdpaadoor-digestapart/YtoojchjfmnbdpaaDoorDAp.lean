import Derived.Test.YtoojchjfmnbdpaaDoorDMc
import Derived.Test.YtoojchjfmnbdpaaDoorDPa
import Derived.Test.YtoojchjfmnbdpaaDoorDOO
namespace Go.Proofs.YtoojchjfmnbdpaaDoor
open Go.RowKit
attribute [local go_sem ↓] Go.wp_at_zero Go.wp_at_succ

theorem fsize_mem {ls : List (List Nat)} {l : List Nat} (h : l ∈ ls) : l.length ≤ fsize ls := by
  induction ls with
  | nil => cases h
  | cons a ls ih =>
    have e : fsize (a :: ls) = (4 + a.length) + fsize ls := by simp [fsize]
    rw [e]
    rcases List.mem_cons.1 h with rfl | h
    · omega
    · have := ih h; omega
theorem hasBB_two {W : World} {v v' : Value} {l l' : List Nat} (h : HasB W v l) (h' : HasB W v' l') (t : TypeId) : HasBB (W.alloc (.cells #[v, v'] t)) (.slice (some ⟨W.heap.size, 0, none⟩) 2 2) [l, l'] := by
  have hb : Below W.heap.size W (W.alloc (.cells #[v, v'] t)) := (Below.refl _ _).alloc (Nat.le_refl _) _
  refine ⟨_, _, rfl, ⟨Nat.le_refl _, by unfold maxLen; decide, nofun⟩, fun _ => ⟨W.heap.size, 0, rfl, by rw [World.size_alloc]; omega, fun i x hx => ?_⟩⟩
  match i, hx with
  | 0, hx =>
    obtain rfl := Option.some.inj hx
    refine ⟨v, ?_, h.up hb⟩
    rw [cell_of_row _ _ _ _ _ _ (heap_new W _)]
    rfl
  | 1, hx =>
    obtain rfl := Option.some.inj hx
    refine ⟨v', ?_, h'.up hb⟩
    rw [cell_of_row _ _ _ _ _ _ (heap_new W _)]
    rfl
  | i + 2, hx => simp at hx
theorem hasB_one2 (W : World) (x : Nat) : HasB (W.alloc (.cells #[.int .u8 (x : Int)] 5)) (.slice (some ⟨W.heap.size, 0, none⟩) 1 1) [x] :=
  hasB_lit (l := [x]) (t := 5) (fr := (0, 0)) (heap_new _ _) 1 1 rfl (by decide)
theorem frameA_two : (frameA ([7] :: [] :: [])).1 = 0 ∧ (frameA ([7] :: [] :: [])).2.length = 13 := by
  rw [frameA_ok (by decide)]
  decide
set_option maxRecDepth 100000 in
set_option maxHeartbeats 8000000 in
theorem apart_any {W : World} (hS : HasS W) (hK : HasK W) {v u z : Value} {s : ByteArray} {ls ms : List (List Nat)} {fr : List Nat} (h : HasBB W v ls) (hl : BytB ls) (hn : ls.length ≤ 5864062014634 ∧ ∀ l ∈ ls, l.length ≤ 140737488351232) (g : HasBB W u ms) (hm : BytB ms) (gn : ms.length ≤ 5864062014634 ∧ ∀ l ∈ ms, l.length ≤ 140737488351232) (hf : HasB W z fr) (hfb : Byt fr) (hfn : fr.length ≤ 140737488351232) (hs : s.size ≤ 140737488351232) :
    Calls Tryd.prog 5 #[v, u, z, .string s] W fun e W' => e = .returned (.bool true) ∧ Below W.heap.size W W' := by
  obtain ⟨i0, hi, hz0, hz1, hz2⟩ := info_parts Tryd.infoBytes
  have Hh := hide h
  have Hg := hide g
  have Hf := hide hf
  obtain ⟨va, vc, rfl, hvm, _⟩ := h
  have hvc : vc ≤ 9223372036854775807 := by have := hvm.2.1; unfold maxLen at this; omega
  have hvc2 := hvm.1
  obtain ⟨ua, uc, rfl, _, _⟩ := g
  obtain ⟨fa, fc, rfl, _, _⟩ := hf
  clear hvm
  go_enter Tryd.func5, Tryd.ntmps5
  go_wp2_with fail
  refine (frame_any (unhide Hh) (fun hh => fsize_few hn.2 hh)).mono ?_
  rintro e w1 ⟨v1, a1, c1, rfl, hA1, hv1, hb1⟩
  subst hv1
  go_wp2_with fail
  refine (frame_any ((unhide Hg).up hb1) (fun hh => fsize_few gn.2 hh)).mono ?_
  rintro e w2 ⟨v2, a2, c2, rfl, hB2, hv2, hb2⟩
  subst hv2
  have hA2 := hA1.up hb2
  have hb02 := hb1.trans (hb2.mono hb1.size)
  clear hA1 hb1 hb2
  have bA : Below w2.heap.size w2 (w2.alloc (.cells #[.int .u8 7] 5)) := (Below.refl _ _).alloc (Nat.le_refl _) _
  have bB : Below w2.heap.size w2 ((w2.alloc (.cells #[.int .u8 7] 5)).alloc (.cells #[.slice (some ⟨w2.heap.size, 0, none⟩) 1 1, .slice none 0 0] 22)) := bA.alloc (by rw [World.size_alloc]; omega) _
  have hbb := hasBB_two (W := w2.alloc (.cells #[.int .u8 7] 5)) (hasB_one2 w2 7) (hasB_nil _) 22
  rw [World.size_alloc] at hbb
  have f1 := frame_any hbb (fun _ => by decide)
  obtain ⟨t1, t2⟩ := frameA_two
  rw [t1, t2] at f1
  have F1 := hide f1
  have BB := hide bB
  clear f1 hbb bA bB t1 t2
  go_wp2_with fail
  refine (unhide F1).mono ?_
  rintro e w3 ⟨v3, a3, c3, rfl, _, hv3, hb3⟩
  subst hv3
  have hb23 : Below w2.heap.size w2 w3 := (unhide BB).trans (hb3.mono (unhide BB).size)
  have hA3 := hA2.up hb23
  have hB3 := hB2.up hb23
  have hb03 := hb02.trans (hb23.mono hb02.size)
  clear F1 BB hb3 hb23 hA2 hB2 hb02
  go_wp2_with fail
  refine (num_any w3 0).mono ?_
  rintro e w' ⟨rfl, he⟩
  obtain rfl : w3 = w' := he.symm
  clear he
  go_wp2_with fail
  refine (parts_any ((unhide Hf).up hb03) hfb).mono ?_
  rintro e w4 ⟨v4, rfl, ⟨us4, hO4⟩, hb4⟩
  have hA4 := hA3.up hb4
  have hB4 := hB3.up hb4
  have hH4 := hO4.has
  have hb04 := hb03.trans (hb4.mono hb03.size)
  have hvs : ∃ x y z, v4 = .slice x y z := by obtain ⟨x, y, e, _⟩ := id hH4; exact ⟨_, _, _, e⟩
  obtain ⟨x4, y4, z4, rfl⟩ := hvs
  clear hA3 hB3 hb03 hb4 hO4
  by_cases hlong : 67108864 < fr.length
  · have eP : partsA fr = (2, []) := by unfold partsA; rw [if_pos hlong]
    rw [eP]
    clear eP hH4 Hf
    go_wp2_with fail
    refine (num_any w4 2).mono ?_
    rintro e w' ⟨rfl, he⟩
    obtain rfl : w4 = w' := he.symm
    clear he
    go_wp2_with fail
    refine (num_any w4 2).mono ?_
    rintro e w' ⟨rfl, he⟩
    obtain rfl : w4 = w' := he.symm
    clear he
    have hAX := hA4
    have hBX := hB4
    have hbX := hb04
    clear hA4 hB4 hb04
    go_wp2_with fail
    refine (num_any w4 (frameA ls).1).mono ?_
    rintro e w' ⟨rfl, he⟩
    obtain rfl : w4 = w' := he.symm
    clear he
    by_cases okA : ls.length ≤ 65536 ∧ 4 + fsize ls ≤ 67108864
    · rw [frameA_ok okA] at hAX ⊢
      go_wp2_with fail
      refine (num_any w4 (frameA ms).1).mono ?_
      rintro e w' ⟨rfl, he⟩
      obtain rfl : w4 = w' := he.symm
      clear he
      by_cases okB : ms.length ≤ 65536 ∧ 4 + fsize ms ≤ 67108864
      · rw [frameA_ok okB] at hBX ⊢
        have eP : partsA (frameL ls) = (0, ls) := by
          unfold partsA
          rw [if_neg (by rw [frameL_len]; omega), parts_frame (fun l hl' => by have := fsize_mem hl'; omega) okA.1]
        have hpt := parts_any hAX (frameL_byt hl)
        rw [eP] at hpt
        have Hpt := hide hpt
        have hA' := hide hAX
        have hB' := hide hBX
        clear hpt eP hAX hBX
        go_wp2_with fail
        refine (unhide Hpt).mono ?_
        rintro e w7 ⟨v7, rfl, ⟨us7, hO7⟩, hb7⟩
        have hb07 := hbX.trans (hb7.mono hbX.size)
        have hH7 := hO7.has
        have hA7 := (unhide hA').up hb7
        have hB7 := (unhide hB').up hb7
        have hvs : ∃ x y z, v7 = .slice x y z := by obtain ⟨x, y, e, _⟩ := id hH7; exact ⟨_, _, _, e⟩
        obtain ⟨x7, y7, z7, rfl⟩ := hvs
        clear hb7 hO7 Hpt hA' hB' hbX
        go_wp2_with fail
        refine (num_any w7 0).mono ?_
        rintro e w' ⟨rfl, he⟩
        obtain rfl : w7 = w' := he.symm
        clear he
        go_wp2_with fail
        refine (sameAll_any hH7 ((unhide Hh).up hb07) hl hl).mono ?_
        rintro e w8 ⟨rfl, m8, rfl⟩
        rw [show decide (ls = ls) = true by simp]
        have hb08 : Below W.heap.size W (w7.drewN m8) := below_drewN hb07 m8
        have hA8 := hA7.drew m8
        have hB8 := hB7.drew m8
        clear hb07 hA7 hB7 hH7
        generalize w7.drewN m8 = w8 at *
        go_wp2_with fail
        refine (same_any hA8 hB8 (frameL_byt hl) (frameL_byt hm)).mono ?_
        rintro e w' ⟨rfl, he⟩
        obtain rfl : w8 = w' := he.symm
        clear he hA8 hB8
        go_wp2_with fail
        refine (sameAll_any ((unhide Hh).up hb08) ((unhide Hg).up hb08) hl hm).mono ?_
        rintro e w9 ⟨rfl, m9, rfl⟩
        have hdq : decide (frameL ls = frameL ms) = decide (ls = ms) := by
          by_cases hq : ls = ms
          · subst hq; simp
          · have hq2 : frameL ls ≠ frameL ms := fun e => hq (frame_inj (fun l hl' => by have := fsize_mem hl'; omega) (fun l hl' => by have := fsize_mem hl'; omega) okA.1 okB.1 e)
            rw [decide_eq_false hq, decide_eq_false hq2]
        rw [hdq]
        clear hdq
        have hb09 : Below W.heap.size W (w8.drewN m9) := below_drewN hb08 m9
        clear hb08
        generalize decide (ls = ms) = d2 at *
        have qd : (d2 != d2) = false := by simp
        generalize w8.drewN m9 = w9 at *
        obtain ⟨c1, w10, cv, hB10, hb10, hs10⟩ := str_bytes w9 s (by omega)
        have hO10 : OldBB w10 (w10.alloc (.cells #[.slice (some ⟨w9.heap.size, 0, none⟩) s.size c1] 22)) (.slice (some ⟨w9.heap.size + 1, 0, none⟩) 1 1) [.slice (some ⟨w9.heap.size, 0, none⟩) s.size c1] (sl s :: ls.take 0) := by
          refine ⟨⟨rfl, .inr ⟨w9.heap.size + 1, 1, #[.slice (some ⟨w9.heap.size, 0, none⟩) s.size c1], rfl, by omega, ?_, Nat.le_refl _, by unfold maxLen; decide, rfl, rfl⟩⟩, fun j u l hu hl' => ?_⟩
          · rw [← hs10]
            exact heap_new _ _
          · match j, hu, hl' with
            | 0, hu, hl' =>
              injection hu with hu
              injection hl' with hl'
              subst hu hl'
              exact hB10
            | j + 1, hu, _ => simp at hu
        obtain ⟨wS, hwS⟩ : ∃ wS, wS = w10.alloc (.cells #[.slice (some ⟨w9.heap.size, 0, none⟩) s.size c1] 22) := ⟨_, rfl⟩
        have bS : Below w10.heap.size w10 wS := by rw [hwS]; exact (Below.refl _ _).alloc (Nat.le_refl _) _
        rw [← hwS] at hO10
        have hb010 : Below W.heap.size W w10 := hb09.trans (hb10.mono hb09.size)
        have Hh10 : Hid (HasBB w10 (.slice va ls.length vc) ls) := (unhide Hh).up hb010
        have HO10 := hide hO10
        have HbS := hide bS
        have Hb010 := hide hb010
        have HwS := hide hwS
        have hlen0 := okA.1
        clear hO10 bS hb010 hwS hB10 hb10 hb09
        go_wp2
        rw [← unhide HwS]
        clear HwS cv
        go_loopg [21, 22] ls.length (fun gk v6 v7 wr => ∃ (i : Nat) (us : List Value), v7 = .int .i64 (i : Int) ∧ gk = ls.length - i ∧ i ≤ ls.length ∧ Hid (OldBB w10 wr v6 us (sl s :: ls.take i)) ∧ Hid (Below w10.heap.size w10 wr))
        case atStart => exact ⟨0, _, rfl, rfl, by omega, HO10, HbS⟩
        case round =>
          clear HO10 HbS
          obtain ⟨i, us, rfl, hgk, hk, HO, HB⟩ := hrel
          have Hgk := hide hgk
          clear hgk
          have hszB := (unhide HB).size
          by_cases hlt : i < ls.length
          · obtain ⟨a', c', e', _, h3⟩ := unhide Hh10
            injection e' with ea _ ec
            subst ea ec
            obtain ⟨g, off, rfl, hg, hc⟩ := h3 (by omega)
            obtain ⟨l, hx⟩ : ∃ x, ls[i]? = some x := ⟨_, List.getElem?_eq_getElem hlt⟩
            obtain ⟨u, hu, hBu⟩ := hc i l hx
            have cu := ((unhide HB).cell (p := ⟨g, off + i, none⟩) hg).trans hu
            have Hnx : Hid (sl s :: ls.take (i + 1) = (sl s :: ls.take i) ++ [l]) := by show _ = _; rw [List.take_add_one, hx]; rfl
            have He : Hid (∀ (j : Nat) (u' : Value) (l' : List Nat), [u][j]? = some u' → [l][j]? = some l' → HasB w10 u' l') := fun j u' l' h1 h2 => by
              match j, h1, h2 with
              | 0, h1, h2 =>
                injection h1 with h1
                injection h2 with h2
                subst h1 h2
                exact hBu
              | j + 1, h1, _ => simp at h1
            obtain ⟨ua, uc, rfl, _, _⟩ := hBu
            have hll : (sl s :: ls.take i).length = i + 1 := by rw [List.length_cons, List.length_take]; omega
            have O1 : Hid ((sl s :: ls.take i).length + 1 ≤ maxLen) := by show _ ≤ _; rw [hll]; unfold maxLen; omega
            have O2 : Hid (((sl s :: ls.take i).length + 1) * 24 ≤ 140737488355328) := by show _ ≤ _; rw [hll]; omega
            have i0' : (0 : Int) ≤ (i : Int) := Int.natCast_nonneg _
            have i1' : (i : Int) < (ls.length : Int) := by omega
            clear hc hx hu h3 hll
            go_wp2_with (at_builtin; refine wpList_append_own_at _ rfl _ _ 23 rfl w10.heap.size 22 i0 (.slice none 0 0) 1 24 Tryd.underlying23 hi hz0 hz1 hz2 rfl (by decide) _ _ _ rfl ((unhide HO).row.alloc _) ⟨wr.heap.size, 0, none⟩ 1 1 [.slice ua l.length uc] rfl rfl (cell_one_new _ _ _) (by simp [Value.oneCell']) (unhide O1) (unhide O2) (by rw [World.size_alloc]; omega) ?_; intro v8 w8 hown8 hgrow8 hdrop8 hat8; clear hdrop8 hat8; have HO8 := hide ((unhide HO).join (ls' := [l]) hown8 (unhide He)); have Hb8 : Hid (Below w10.heap.size w10 w8) := below_grow0 (unhide HB) hszB hgrow8 (fun b hb => ((unhide HO).row.lt b hb).1); clear hown8 hgrow8)
            go_roundg (ls.length - (i + 1))
            case measure => have := unhide Hgk; omega
            case rel =>
              refine ⟨i + 1, us ++ [.slice ua l.length uc], by go_num, rfl, by omega, ?_, Hb8⟩
              show OldBB _ _ _ _ _
              rw [unhide Hnx]
              exact unhide HO8
          · obtain rfl : i = ls.length := by omega
            have hO9 := unhide HO
            rw [List.take_length] at hO9
            have hH9 := hO9.has (unhide HB)
            have hvs : ∃ x y z, u21 = .slice x y z := by obtain ⟨x, y, e, _⟩ := id hH9; exact ⟨_, _, _, e⟩
            obtain ⟨x6, y6, z6, rfl⟩ := hvs
            have b09 : Below W.heap.size W wr := (unhide Hb010).trans ((unhide HB).mono (unhide Hb010).size)
            clear hO9 HO HB Hh10
            by_cases hok : (sl s :: ls).length ≤ 65536 ∧ 4 + fsize (sl s :: ls) ≤ 67108864
            · have hfr := frame_any (ls := sl s :: ls) hH9 (all_lim hs hn.2)
              rw [frameA_ok hok] at hfr
              have Hfr := hide hfr
              clear hfr hH9
              go_wp2_with fail
              refine (unhide Hfr).mono ?_
              rintro e wF ⟨vF, aF, cF, rfl, hBF, hvF, hbF⟩
              have b0F : Below W.heap.size W wF := b09.trans (hbF.mono b09.size)
              subst hvF
              clear hbF Hfr b09
              have hdo := domain_any (hK.up b0F) (hS.up b0F) ((unhide Hh).up b0F) hl hs hn
              rw [domainA_ok hok] at hdo
              have Hdo := hide hdo
              clear hdo
              go_wp2_with fail
              refine (unhide Hdo).mono ?_
              rintro e wG ⟨vG, rfl, ⟨hBG, aG, cG, hvG⟩, hbG⟩
              have b0G : Below W.heap.size W wG := b0F.trans (hbG.mono b0F.size)
              have hBFG := hBF.up hbG
              subst hvG
              clear hbG Hdo hBF b0F
              go_wp2_with fail
              refine (num_any wG 0).mono ?_
              rintro e w' ⟨rfl, he⟩
              obtain rfl : wG = w' := he.symm
              clear he
              go_wp2_with fail
              refine (num_any wG 0).mono ?_
              rintro e w' ⟨rfl, he⟩
              obtain rfl : wG = w' := he.symm
              clear he
              have hsum := sum_any (hK.up b0G) (hS.up b0G) hBFG (frameL_byt (all_byt hl)) (by rw [frameL_len]; omega)
              go_wp2_with fail
              refine hsum.mono ?_
              rintro e wH ⟨vH, rfl, hBH, hbH⟩
              have b0H : Below W.heap.size W wH := b0G.trans (hbH.mono b0G.size)
              have hBGH := hBG.up hbH
              clear hbH hsum hBG hBFG
              have hsm := same_any hBGH hBH.has (sha_byt _) (sha_byt _)
              rw [show decide (sha (frameL (sl s :: ls)) = sha (frameL (sl s :: ls))) = true by simp] at hsm
              have Hsm := hide hsm
              have hvs : ∃ x y z, vH = .slice x y z := by obtain ⟨x, y, e, _⟩ := id hBH.has; exact ⟨_, _, _, e⟩
              obtain ⟨xH, yH, zH, rfl⟩ := hvs
              clear hsm hBH hBGH
              go_wp2_with fail
              refine (unhide Hsm).mono ?_
              rintro e w' ⟨rfl, he⟩
              obtain rfl : wH = w' := he.symm
              go_wp2
              go_ret
              exact ⟨rfl, b0H⟩
            · have hfr := frame_any (ls := sl s :: ls) hH9 (all_lim hs hn.2)
              rw [frameA_no hok] at hfr
              have Hfr := hide hfr
              clear hfr hH9
              go_wp2_with fail
              refine (unhide Hfr).mono ?_
              rintro e wF ⟨vF, aF, cF, rfl, hBF, hvF, hbF⟩
              have b0F : Below W.heap.size W wF := b09.trans (hbF.mono b09.size)
              subst hvF
              clear hbF Hfr b09 hBF
              have hdo := domain_any (hK.up b0F) (hS.up b0F) ((unhide Hh).up b0F) hl hs hn
              rw [domainA_no hok] at hdo
              have Hdo := hide hdo
              clear hdo
              go_wp2_with fail
              refine (unhide Hdo).mono ?_
              rintro e wG ⟨vG, rfl, ⟨hBG, aG, cG, hvG⟩, hbG⟩
              have b0G : Below W.heap.size W wG := b0F.trans (hbG.mono b0F.size)
              subst hvG
              clear hbG Hdo b0F hBG
              go_wp2_with fail
              refine (num_any wG 2).mono ?_
              rintro e w' ⟨rfl, he⟩
              obtain rfl : wG = w' := he.symm
              clear he
              go_wp2_with fail
              refine (num_any wG 2).mono ?_
              rintro e w' ⟨rfl, he⟩
              obtain rfl : wG = w' := he.symm
              clear he
              go_wp2_with fail
              refine (num_any wG 2).mono ?_
              rintro e w' ⟨rfl, he⟩
              obtain rfl : wG = w' := he.symm
              clear he
              go_wp2
              go_ret
              exact ⟨rfl, b0G⟩
      · rw [frameA_no okB] at hBX ⊢
        go_wp2_with fail
        refine (num_any w4 0).mono ?_
        rintro e w' ⟨rfl, he⟩
        obtain rfl : w4 = w' := he.symm
        clear he
        go_wp2_with fail
        refine (num_any w4 2).mono ?_
        rintro e w' ⟨rfl, he⟩
        obtain rfl : w4 = w' := he.symm
        clear he
        go_wp2_with fail
        refine (num_any w4 2).mono ?_
        rintro e w' ⟨rfl, he⟩
        obtain rfl : w4 = w' := he.symm
        clear he
        go_wp2
        go_ret
        exact ⟨rfl, hbX⟩
    · rw [frameA_no okA] at hAX ⊢
      go_wp2_with fail
      refine (num_any w4 2).mono ?_
      rintro e w' ⟨rfl, he⟩
      obtain rfl : w4 = w' := he.symm
      clear he
      go_wp2_with fail
      refine (num_any w4 2).mono ?_
      rintro e w' ⟨rfl, he⟩
      obtain rfl : w4 = w' := he.symm
      clear he
      by_cases okB : ms.length ≤ 65536 ∧ 4 + fsize ms ≤ 67108864
      · rw [frameA_ok okB] at hBX ⊢
        go_wp2_with fail
        refine (num_any w4 0).mono ?_
        rintro e w' ⟨rfl, he⟩
        obtain rfl : w4 = w' := he.symm
        clear he
        go_wp2
        go_ret
        exact ⟨rfl, hbX⟩
      · rw [frameA_no okB] at hBX ⊢
        go_wp2_with fail
        refine (num_any w4 2).mono ?_
        rintro e w' ⟨rfl, he⟩
        obtain rfl : w4 = w' := he.symm
        clear he
        go_wp2_with fail
        refine (num_any w4 2).mono ?_
        rintro e w' ⟨rfl, he⟩
        obtain rfl : w4 = w' := he.symm
        clear he
        go_wp2
        go_ret
        exact ⟨rfl, hbX⟩
  · rcases hpl : partsL fr with _ | ps
    · have eP : partsA fr = (30, []) := by unfold partsA; rw [if_neg hlong, hpl]
      rw [eP]
      clear eP hpl hH4 Hf
      go_wp2_with fail
      refine (num_any w4 30).mono ?_
      rintro e w' ⟨rfl, he⟩
      obtain rfl : w4 = w' := he.symm
      clear he
      go_wp2_with fail
      refine (num_any w4 30).mono ?_
      rintro e w' ⟨rfl, he⟩
      obtain rfl : w4 = w' := he.symm
      clear he
      go_wp2_with fail
      refine (num_any w4 30).mono ?_
      rintro e w' ⟨rfl, he⟩
      obtain rfl : w4 = w' := he.symm
      clear he
      have hAX := hA4
      have hBX := hB4
      have hbX := hb04
      clear hA4 hB4 hb04
      go_wp2_with fail
      refine (num_any w4 (frameA ls).1).mono ?_
      rintro e w' ⟨rfl, he⟩
      obtain rfl : w4 = w' := he.symm
      clear he
      by_cases okA : ls.length ≤ 65536 ∧ 4 + fsize ls ≤ 67108864
      · rw [frameA_ok okA] at hAX ⊢
        go_wp2_with fail
        refine (num_any w4 (frameA ms).1).mono ?_
        rintro e w' ⟨rfl, he⟩
        obtain rfl : w4 = w' := he.symm
        clear he
        by_cases okB : ms.length ≤ 65536 ∧ 4 + fsize ms ≤ 67108864
        · rw [frameA_ok okB] at hBX ⊢
          have eP : partsA (frameL ls) = (0, ls) := by
            unfold partsA
            rw [if_neg (by rw [frameL_len]; omega), parts_frame (fun l hl' => by have := fsize_mem hl'; omega) okA.1]
          have hpt := parts_any hAX (frameL_byt hl)
          rw [eP] at hpt
          have Hpt := hide hpt
          have hA' := hide hAX
          have hB' := hide hBX
          clear hpt eP hAX hBX
          go_wp2_with fail
          refine (unhide Hpt).mono ?_
          rintro e w7 ⟨v7, rfl, ⟨us7, hO7⟩, hb7⟩
          have hb07 := hbX.trans (hb7.mono hbX.size)
          have hH7 := hO7.has
          have hA7 := (unhide hA').up hb7
          have hB7 := (unhide hB').up hb7
          have hvs : ∃ x y z, v7 = .slice x y z := by obtain ⟨x, y, e, _⟩ := id hH7; exact ⟨_, _, _, e⟩
          obtain ⟨x7, y7, z7, rfl⟩ := hvs
          clear hb7 hO7 Hpt hA' hB' hbX
          go_wp2_with fail
          refine (num_any w7 0).mono ?_
          rintro e w' ⟨rfl, he⟩
          obtain rfl : w7 = w' := he.symm
          clear he
          go_wp2_with fail
          refine (sameAll_any hH7 ((unhide Hh).up hb07) hl hl).mono ?_
          rintro e w8 ⟨rfl, m8, rfl⟩
          rw [show decide (ls = ls) = true by simp]
          have hb08 : Below W.heap.size W (w7.drewN m8) := below_drewN hb07 m8
          have hA8 := hA7.drew m8
          have hB8 := hB7.drew m8
          clear hb07 hA7 hB7 hH7
          generalize w7.drewN m8 = w8 at *
          go_wp2_with fail
          refine (same_any hA8 hB8 (frameL_byt hl) (frameL_byt hm)).mono ?_
          rintro e w' ⟨rfl, he⟩
          obtain rfl : w8 = w' := he.symm
          clear he hA8 hB8
          go_wp2_with fail
          refine (sameAll_any ((unhide Hh).up hb08) ((unhide Hg).up hb08) hl hm).mono ?_
          rintro e w9 ⟨rfl, m9, rfl⟩
          have hdq : decide (frameL ls = frameL ms) = decide (ls = ms) := by
            by_cases hq : ls = ms
            · subst hq; simp
            · have hq2 : frameL ls ≠ frameL ms := fun e => hq (frame_inj (fun l hl' => by have := fsize_mem hl'; omega) (fun l hl' => by have := fsize_mem hl'; omega) okA.1 okB.1 e)
              rw [decide_eq_false hq, decide_eq_false hq2]
          rw [hdq]
          clear hdq
          have hb09 : Below W.heap.size W (w8.drewN m9) := below_drewN hb08 m9
          clear hb08
          generalize decide (ls = ms) = d2 at *
          have qd : (d2 != d2) = false := by simp
          generalize w8.drewN m9 = w9 at *
          obtain ⟨c1, w10, cv, hB10, hb10, hs10⟩ := str_bytes w9 s (by omega)
          have hO10 : OldBB w10 (w10.alloc (.cells #[.slice (some ⟨w9.heap.size, 0, none⟩) s.size c1] 22)) (.slice (some ⟨w9.heap.size + 1, 0, none⟩) 1 1) [.slice (some ⟨w9.heap.size, 0, none⟩) s.size c1] (sl s :: ls.take 0) := by
            refine ⟨⟨rfl, .inr ⟨w9.heap.size + 1, 1, #[.slice (some ⟨w9.heap.size, 0, none⟩) s.size c1], rfl, by omega, ?_, Nat.le_refl _, by unfold maxLen; decide, rfl, rfl⟩⟩, fun j u l hu hl' => ?_⟩
            · rw [← hs10]
              exact heap_new _ _
            · match j, hu, hl' with
              | 0, hu, hl' =>
                injection hu with hu
                injection hl' with hl'
                subst hu hl'
                exact hB10
              | j + 1, hu, _ => simp at hu
          obtain ⟨wS, hwS⟩ : ∃ wS, wS = w10.alloc (.cells #[.slice (some ⟨w9.heap.size, 0, none⟩) s.size c1] 22) := ⟨_, rfl⟩
          have bS : Below w10.heap.size w10 wS := by rw [hwS]; exact (Below.refl _ _).alloc (Nat.le_refl _) _
          rw [← hwS] at hO10
          have hb010 : Below W.heap.size W w10 := hb09.trans (hb10.mono hb09.size)
          have Hh10 : Hid (HasBB w10 (.slice va ls.length vc) ls) := (unhide Hh).up hb010
          have HO10 := hide hO10
          have HbS := hide bS
          have Hb010 := hide hb010
          have HwS := hide hwS
          have hlen0 := okA.1
          clear hO10 bS hb010 hwS hB10 hb10 hb09
          go_wp2
          rw [← unhide HwS]
          clear HwS cv
          go_loopg [21, 22] ls.length (fun gk v6 v7 wr => ∃ (i : Nat) (us : List Value), v7 = .int .i64 (i : Int) ∧ gk = ls.length - i ∧ i ≤ ls.length ∧ Hid (OldBB w10 wr v6 us (sl s :: ls.take i)) ∧ Hid (Below w10.heap.size w10 wr))
          case atStart => exact ⟨0, _, rfl, rfl, by omega, HO10, HbS⟩
          case round =>
            clear HO10 HbS
            obtain ⟨i, us, rfl, hgk, hk, HO, HB⟩ := hrel
            have Hgk := hide hgk
            clear hgk
            have hszB := (unhide HB).size
            by_cases hlt : i < ls.length
            · obtain ⟨a', c', e', _, h3⟩ := unhide Hh10
              injection e' with ea _ ec
              subst ea ec
              obtain ⟨g, off, rfl, hg, hc⟩ := h3 (by omega)
              obtain ⟨l, hx⟩ : ∃ x, ls[i]? = some x := ⟨_, List.getElem?_eq_getElem hlt⟩
              obtain ⟨u, hu, hBu⟩ := hc i l hx
              have cu := ((unhide HB).cell (p := ⟨g, off + i, none⟩) hg).trans hu
              have Hnx : Hid (sl s :: ls.take (i + 1) = (sl s :: ls.take i) ++ [l]) := by show _ = _; rw [List.take_add_one, hx]; rfl
              have He : Hid (∀ (j : Nat) (u' : Value) (l' : List Nat), [u][j]? = some u' → [l][j]? = some l' → HasB w10 u' l') := fun j u' l' h1 h2 => by
                match j, h1, h2 with
                | 0, h1, h2 =>
                  injection h1 with h1
                  injection h2 with h2
                  subst h1 h2
                  exact hBu
                | j + 1, h1, _ => simp at h1
              obtain ⟨ua, uc, rfl, _, _⟩ := hBu
              have hll : (sl s :: ls.take i).length = i + 1 := by rw [List.length_cons, List.length_take]; omega
              have O1 : Hid ((sl s :: ls.take i).length + 1 ≤ maxLen) := by show _ ≤ _; rw [hll]; unfold maxLen; omega
              have O2 : Hid (((sl s :: ls.take i).length + 1) * 24 ≤ 140737488355328) := by show _ ≤ _; rw [hll]; omega
              have i0' : (0 : Int) ≤ (i : Int) := Int.natCast_nonneg _
              have i1' : (i : Int) < (ls.length : Int) := by omega
              clear hc hx hu h3 hll
              go_wp2_with (at_builtin; refine wpList_append_own_at _ rfl _ _ 23 rfl w10.heap.size 22 i0 (.slice none 0 0) 1 24 Tryd.underlying23 hi hz0 hz1 hz2 rfl (by decide) _ _ _ rfl ((unhide HO).row.alloc _) ⟨wr.heap.size, 0, none⟩ 1 1 [.slice ua l.length uc] rfl rfl (cell_one_new _ _ _) (by simp [Value.oneCell']) (unhide O1) (unhide O2) (by rw [World.size_alloc]; omega) ?_; intro v8 w8 hown8 hgrow8 hdrop8 hat8; clear hdrop8 hat8; have HO8 := hide ((unhide HO).join (ls' := [l]) hown8 (unhide He)); have Hb8 : Hid (Below w10.heap.size w10 w8) := below_grow0 (unhide HB) hszB hgrow8 (fun b hb => ((unhide HO).row.lt b hb).1); clear hown8 hgrow8)
              go_roundg (ls.length - (i + 1))
              case measure => have := unhide Hgk; omega
              case rel =>
                refine ⟨i + 1, us ++ [.slice ua l.length uc], by go_num, rfl, by omega, ?_, Hb8⟩
                show OldBB _ _ _ _ _
                rw [unhide Hnx]
                exact unhide HO8
            · obtain rfl : i = ls.length := by omega
              have hO9 := unhide HO
              rw [List.take_length] at hO9
              have hH9 := hO9.has (unhide HB)
              have hvs : ∃ x y z, u21 = .slice x y z := by obtain ⟨x, y, e, _⟩ := id hH9; exact ⟨_, _, _, e⟩
              obtain ⟨x6, y6, z6, rfl⟩ := hvs
              have b09 : Below W.heap.size W wr := (unhide Hb010).trans ((unhide HB).mono (unhide Hb010).size)
              clear hO9 HO HB Hh10
              by_cases hok : (sl s :: ls).length ≤ 65536 ∧ 4 + fsize (sl s :: ls) ≤ 67108864
              · have hfr := frame_any (ls := sl s :: ls) hH9 (all_lim hs hn.2)
                rw [frameA_ok hok] at hfr
                have Hfr := hide hfr
                clear hfr hH9
                go_wp2_with fail
                refine (unhide Hfr).mono ?_
                rintro e wF ⟨vF, aF, cF, rfl, hBF, hvF, hbF⟩
                have b0F : Below W.heap.size W wF := b09.trans (hbF.mono b09.size)
                subst hvF
                clear hbF Hfr b09
                have hdo := domain_any (hK.up b0F) (hS.up b0F) ((unhide Hh).up b0F) hl hs hn
                rw [domainA_ok hok] at hdo
                have Hdo := hide hdo
                clear hdo
                go_wp2_with fail
                refine (unhide Hdo).mono ?_
                rintro e wG ⟨vG, rfl, ⟨hBG, aG, cG, hvG⟩, hbG⟩
                have b0G : Below W.heap.size W wG := b0F.trans (hbG.mono b0F.size)
                have hBFG := hBF.up hbG
                subst hvG
                clear hbG Hdo hBF b0F
                go_wp2_with fail
                refine (num_any wG 0).mono ?_
                rintro e w' ⟨rfl, he⟩
                obtain rfl : wG = w' := he.symm
                clear he
                go_wp2_with fail
                refine (num_any wG 0).mono ?_
                rintro e w' ⟨rfl, he⟩
                obtain rfl : wG = w' := he.symm
                clear he
                have hsum := sum_any (hK.up b0G) (hS.up b0G) hBFG (frameL_byt (all_byt hl)) (by rw [frameL_len]; omega)
                go_wp2_with fail
                refine hsum.mono ?_
                rintro e wH ⟨vH, rfl, hBH, hbH⟩
                have b0H : Below W.heap.size W wH := b0G.trans (hbH.mono b0G.size)
                have hBGH := hBG.up hbH
                clear hbH hsum hBG hBFG
                have hsm := same_any hBGH hBH.has (sha_byt _) (sha_byt _)
                rw [show decide (sha (frameL (sl s :: ls)) = sha (frameL (sl s :: ls))) = true by simp] at hsm
                have Hsm := hide hsm
                have hvs : ∃ x y z, vH = .slice x y z := by obtain ⟨x, y, e, _⟩ := id hBH.has; exact ⟨_, _, _, e⟩
                obtain ⟨xH, yH, zH, rfl⟩ := hvs
                clear hsm hBH hBGH
                go_wp2_with fail
                refine (unhide Hsm).mono ?_
                rintro e w' ⟨rfl, he⟩
                obtain rfl : wH = w' := he.symm
                go_wp2
                go_ret
                exact ⟨rfl, b0H⟩
              · have hfr := frame_any (ls := sl s :: ls) hH9 (all_lim hs hn.2)
                rw [frameA_no hok] at hfr
                have Hfr := hide hfr
                clear hfr hH9
                go_wp2_with fail
                refine (unhide Hfr).mono ?_
                rintro e wF ⟨vF, aF, cF, rfl, hBF, hvF, hbF⟩
                have b0F : Below W.heap.size W wF := b09.trans (hbF.mono b09.size)
                subst hvF
                clear hbF Hfr b09 hBF
                have hdo := domain_any (hK.up b0F) (hS.up b0F) ((unhide Hh).up b0F) hl hs hn
                rw [domainA_no hok] at hdo
                have Hdo := hide hdo
                clear hdo
                go_wp2_with fail
                refine (unhide Hdo).mono ?_
                rintro e wG ⟨vG, rfl, ⟨hBG, aG, cG, hvG⟩, hbG⟩
                have b0G : Below W.heap.size W wG := b0F.trans (hbG.mono b0F.size)
                subst hvG
                clear hbG Hdo b0F hBG
                go_wp2_with fail
                refine (num_any wG 2).mono ?_
                rintro e w' ⟨rfl, he⟩
                obtain rfl : wG = w' := he.symm
                clear he
                go_wp2_with fail
                refine (num_any wG 2).mono ?_
                rintro e w' ⟨rfl, he⟩
                obtain rfl : wG = w' := he.symm
                clear he
                go_wp2_with fail
                refine (num_any wG 2).mono ?_
                rintro e w' ⟨rfl, he⟩
                obtain rfl : wG = w' := he.symm
                clear he
                go_wp2
                go_ret
                exact ⟨rfl, b0G⟩
        · rw [frameA_no okB] at hBX ⊢
          go_wp2_with fail
          refine (num_any w4 0).mono ?_
          rintro e w' ⟨rfl, he⟩
          obtain rfl : w4 = w' := he.symm
          clear he
          go_wp2_with fail
          refine (num_any w4 2).mono ?_
          rintro e w' ⟨rfl, he⟩
          obtain rfl : w4 = w' := he.symm
          clear he
          go_wp2_with fail
          refine (num_any w4 2).mono ?_
          rintro e w' ⟨rfl, he⟩
          obtain rfl : w4 = w' := he.symm
          clear he
          go_wp2
          go_ret
          exact ⟨rfl, hbX⟩
      · rw [frameA_no okA] at hAX ⊢
        go_wp2_with fail
        refine (num_any w4 2).mono ?_
        rintro e w' ⟨rfl, he⟩
        obtain rfl : w4 = w' := he.symm
        clear he
        go_wp2_with fail
        refine (num_any w4 2).mono ?_
        rintro e w' ⟨rfl, he⟩
        obtain rfl : w4 = w' := he.symm
        clear he
        by_cases okB : ms.length ≤ 65536 ∧ 4 + fsize ms ≤ 67108864
        · rw [frameA_ok okB] at hBX ⊢
          go_wp2_with fail
          refine (num_any w4 0).mono ?_
          rintro e w' ⟨rfl, he⟩
          obtain rfl : w4 = w' := he.symm
          clear he
          go_wp2
          go_ret
          exact ⟨rfl, hbX⟩
        · rw [frameA_no okB] at hBX ⊢
          go_wp2_with fail
          refine (num_any w4 2).mono ?_
          rintro e w' ⟨rfl, he⟩
          obtain rfl : w4 = w' := he.symm
          clear he
          go_wp2_with fail
          refine (num_any w4 2).mono ?_
          rintro e w' ⟨rfl, he⟩
          obtain rfl : w4 = w' := he.symm
          clear he
          go_wp2
          go_ret
          exact ⟨rfl, hbX⟩
    · have eP : partsA fr = (0, ps) := by unfold partsA; rw [if_neg hlong, hpl]
      rw [eP] at hH4 ⊢
      obtain ⟨p1, p2, p3⟩ := frame_parts hfb hpl
      have hfl := frameL_len ps
      rw [p1] at hfl
      have eF : frameA ps = (0, fr) := by rw [frameA_ok ⟨p2, by omega⟩, p1]
      have hfr := frame_any (ls := ps) hH4 (fun _ => by omega)
      rw [eF] at hfr
      have Hfr := hide hfr
      clear hfr eF hH4 p1 p2 p3 hfl eP hpl
      go_wp2_with fail
      refine (num_any w4 0).mono ?_
      rintro e w' ⟨rfl, he⟩
      obtain rfl : w4 = w' := he.symm
      clear he
      go_wp2_with fail
      refine (unhide Hfr).mono ?_
      rintro e w5 ⟨v5, a5, c5, rfl, hB5, hv5, hb5⟩
      subst hv5
      have hA5 := hA4.up hb5
      have hC5 := hB4.up hb5
      have hb05 := hb04.trans (hb5.mono hb04.size)
      clear hb5 hA4 hB4 hb04 Hfr
      go_wp2_with fail
      refine (num_any w5 0).mono ?_
      rintro e w' ⟨rfl, he⟩
      obtain rfl : w5 = w' := he.symm
      clear he
      go_wp2_with fail
      refine (same_any hB5 ((unhide Hf).up hb05) hfb hfb).mono ?_
      rintro e w' ⟨rfl, he⟩
      obtain rfl : w5 = w' := he.symm
      clear he hB5 Hf
      rw [show decide (fr = fr) = true by simp]
      have hAX := hA5
      have hBX := hC5
      have hbX := hb05
      clear hA5 hC5 hb05
      go_wp2_with fail
      refine (num_any w5 (frameA ls).1).mono ?_
      rintro e w' ⟨rfl, he⟩
      obtain rfl : w5 = w' := he.symm
      clear he
      by_cases okA : ls.length ≤ 65536 ∧ 4 + fsize ls ≤ 67108864
      · rw [frameA_ok okA] at hAX ⊢
        go_wp2_with fail
        refine (num_any w5 (frameA ms).1).mono ?_
        rintro e w' ⟨rfl, he⟩
        obtain rfl : w5 = w' := he.symm
        clear he
        by_cases okB : ms.length ≤ 65536 ∧ 4 + fsize ms ≤ 67108864
        · rw [frameA_ok okB] at hBX ⊢
          have eP : partsA (frameL ls) = (0, ls) := by
            unfold partsA
            rw [if_neg (by rw [frameL_len]; omega), parts_frame (fun l hl' => by have := fsize_mem hl'; omega) okA.1]
          have hpt := parts_any hAX (frameL_byt hl)
          rw [eP] at hpt
          have Hpt := hide hpt
          have hA' := hide hAX
          have hB' := hide hBX
          clear hpt eP hAX hBX
          go_wp2_with fail
          refine (unhide Hpt).mono ?_
          rintro e w7 ⟨v7, rfl, ⟨us7, hO7⟩, hb7⟩
          have hb07 := hbX.trans (hb7.mono hbX.size)
          have hH7 := hO7.has
          have hA7 := (unhide hA').up hb7
          have hB7 := (unhide hB').up hb7
          have hvs : ∃ x y z, v7 = .slice x y z := by obtain ⟨x, y, e, _⟩ := id hH7; exact ⟨_, _, _, e⟩
          obtain ⟨x7, y7, z7, rfl⟩ := hvs
          clear hb7 hO7 Hpt hA' hB' hbX
          go_wp2_with fail
          refine (num_any w7 0).mono ?_
          rintro e w' ⟨rfl, he⟩
          obtain rfl : w7 = w' := he.symm
          clear he
          go_wp2_with fail
          refine (sameAll_any hH7 ((unhide Hh).up hb07) hl hl).mono ?_
          rintro e w8 ⟨rfl, m8, rfl⟩
          rw [show decide (ls = ls) = true by simp]
          have hb08 : Below W.heap.size W (w7.drewN m8) := below_drewN hb07 m8
          have hA8 := hA7.drew m8
          have hB8 := hB7.drew m8
          clear hb07 hA7 hB7 hH7
          generalize w7.drewN m8 = w8 at *
          go_wp2_with fail
          refine (same_any hA8 hB8 (frameL_byt hl) (frameL_byt hm)).mono ?_
          rintro e w' ⟨rfl, he⟩
          obtain rfl : w8 = w' := he.symm
          clear he hA8 hB8
          go_wp2_with fail
          refine (sameAll_any ((unhide Hh).up hb08) ((unhide Hg).up hb08) hl hm).mono ?_
          rintro e w9 ⟨rfl, m9, rfl⟩
          have hdq : decide (frameL ls = frameL ms) = decide (ls = ms) := by
            by_cases hq : ls = ms
            · subst hq; simp
            · have hq2 : frameL ls ≠ frameL ms := fun e => hq (frame_inj (fun l hl' => by have := fsize_mem hl'; omega) (fun l hl' => by have := fsize_mem hl'; omega) okA.1 okB.1 e)
              rw [decide_eq_false hq, decide_eq_false hq2]
          rw [hdq]
          clear hdq
          have hb09 : Below W.heap.size W (w8.drewN m9) := below_drewN hb08 m9
          clear hb08
          generalize decide (ls = ms) = d2 at *
          have qd : (d2 != d2) = false := by simp
          generalize w8.drewN m9 = w9 at *
          obtain ⟨c1, w10, cv, hB10, hb10, hs10⟩ := str_bytes w9 s (by omega)
          have hO10 : OldBB w10 (w10.alloc (.cells #[.slice (some ⟨w9.heap.size, 0, none⟩) s.size c1] 22)) (.slice (some ⟨w9.heap.size + 1, 0, none⟩) 1 1) [.slice (some ⟨w9.heap.size, 0, none⟩) s.size c1] (sl s :: ls.take 0) := by
            refine ⟨⟨rfl, .inr ⟨w9.heap.size + 1, 1, #[.slice (some ⟨w9.heap.size, 0, none⟩) s.size c1], rfl, by omega, ?_, Nat.le_refl _, by unfold maxLen; decide, rfl, rfl⟩⟩, fun j u l hu hl' => ?_⟩
            · rw [← hs10]
              exact heap_new _ _
            · match j, hu, hl' with
              | 0, hu, hl' =>
                injection hu with hu
                injection hl' with hl'
                subst hu hl'
                exact hB10
              | j + 1, hu, _ => simp at hu
          obtain ⟨wS, hwS⟩ : ∃ wS, wS = w10.alloc (.cells #[.slice (some ⟨w9.heap.size, 0, none⟩) s.size c1] 22) := ⟨_, rfl⟩
          have bS : Below w10.heap.size w10 wS := by rw [hwS]; exact (Below.refl _ _).alloc (Nat.le_refl _) _
          rw [← hwS] at hO10
          have hb010 : Below W.heap.size W w10 := hb09.trans (hb10.mono hb09.size)
          have Hh10 : Hid (HasBB w10 (.slice va ls.length vc) ls) := (unhide Hh).up hb010
          have HO10 := hide hO10
          have HbS := hide bS
          have Hb010 := hide hb010
          have HwS := hide hwS
          have hlen0 := okA.1
          clear hO10 bS hb010 hwS hB10 hb10 hb09
          go_wp2
          rw [← unhide HwS]
          clear HwS cv
          go_loopg [21, 22] ls.length (fun gk v6 v7 wr => ∃ (i : Nat) (us : List Value), v7 = .int .i64 (i : Int) ∧ gk = ls.length - i ∧ i ≤ ls.length ∧ Hid (OldBB w10 wr v6 us (sl s :: ls.take i)) ∧ Hid (Below w10.heap.size w10 wr))
          case atStart => exact ⟨0, _, rfl, rfl, by omega, HO10, HbS⟩
          case round =>
            clear HO10 HbS
            obtain ⟨i, us, rfl, hgk, hk, HO, HB⟩ := hrel
            have Hgk := hide hgk
            clear hgk
            have hszB := (unhide HB).size
            by_cases hlt : i < ls.length
            · obtain ⟨a', c', e', _, h3⟩ := unhide Hh10
              injection e' with ea _ ec
              subst ea ec
              obtain ⟨g, off, rfl, hg, hc⟩ := h3 (by omega)
              obtain ⟨l, hx⟩ : ∃ x, ls[i]? = some x := ⟨_, List.getElem?_eq_getElem hlt⟩
              obtain ⟨u, hu, hBu⟩ := hc i l hx
              have cu := ((unhide HB).cell (p := ⟨g, off + i, none⟩) hg).trans hu
              have Hnx : Hid (sl s :: ls.take (i + 1) = (sl s :: ls.take i) ++ [l]) := by show _ = _; rw [List.take_add_one, hx]; rfl
              have He : Hid (∀ (j : Nat) (u' : Value) (l' : List Nat), [u][j]? = some u' → [l][j]? = some l' → HasB w10 u' l') := fun j u' l' h1 h2 => by
                match j, h1, h2 with
                | 0, h1, h2 =>
                  injection h1 with h1
                  injection h2 with h2
                  subst h1 h2
                  exact hBu
                | j + 1, h1, _ => simp at h1
              obtain ⟨ua, uc, rfl, _, _⟩ := hBu
              have hll : (sl s :: ls.take i).length = i + 1 := by rw [List.length_cons, List.length_take]; omega
              have O1 : Hid ((sl s :: ls.take i).length + 1 ≤ maxLen) := by show _ ≤ _; rw [hll]; unfold maxLen; omega
              have O2 : Hid (((sl s :: ls.take i).length + 1) * 24 ≤ 140737488355328) := by show _ ≤ _; rw [hll]; omega
              have i0' : (0 : Int) ≤ (i : Int) := Int.natCast_nonneg _
              have i1' : (i : Int) < (ls.length : Int) := by omega
              clear hc hx hu h3 hll
              go_wp2_with (at_builtin; refine wpList_append_own_at _ rfl _ _ 23 rfl w10.heap.size 22 i0 (.slice none 0 0) 1 24 Tryd.underlying23 hi hz0 hz1 hz2 rfl (by decide) _ _ _ rfl ((unhide HO).row.alloc _) ⟨wr.heap.size, 0, none⟩ 1 1 [.slice ua l.length uc] rfl rfl (cell_one_new _ _ _) (by simp [Value.oneCell']) (unhide O1) (unhide O2) (by rw [World.size_alloc]; omega) ?_; intro v8 w8 hown8 hgrow8 hdrop8 hat8; clear hdrop8 hat8; have HO8 := hide ((unhide HO).join (ls' := [l]) hown8 (unhide He)); have Hb8 : Hid (Below w10.heap.size w10 w8) := below_grow0 (unhide HB) hszB hgrow8 (fun b hb => ((unhide HO).row.lt b hb).1); clear hown8 hgrow8)
              go_roundg (ls.length - (i + 1))
              case measure => have := unhide Hgk; omega
              case rel =>
                refine ⟨i + 1, us ++ [.slice ua l.length uc], by go_num, rfl, by omega, ?_, Hb8⟩
                show OldBB _ _ _ _ _
                rw [unhide Hnx]
                exact unhide HO8
            · obtain rfl : i = ls.length := by omega
              have hO9 := unhide HO
              rw [List.take_length] at hO9
              have hH9 := hO9.has (unhide HB)
              have hvs : ∃ x y z, u21 = .slice x y z := by obtain ⟨x, y, e, _⟩ := id hH9; exact ⟨_, _, _, e⟩
              obtain ⟨x6, y6, z6, rfl⟩ := hvs
              have b09 : Below W.heap.size W wr := (unhide Hb010).trans ((unhide HB).mono (unhide Hb010).size)
              clear hO9 HO HB Hh10
              by_cases hok : (sl s :: ls).length ≤ 65536 ∧ 4 + fsize (sl s :: ls) ≤ 67108864
              · have hfr := frame_any (ls := sl s :: ls) hH9 (all_lim hs hn.2)
                rw [frameA_ok hok] at hfr
                have Hfr := hide hfr
                clear hfr hH9
                go_wp2_with fail
                refine (unhide Hfr).mono ?_
                rintro e wF ⟨vF, aF, cF, rfl, hBF, hvF, hbF⟩
                have b0F : Below W.heap.size W wF := b09.trans (hbF.mono b09.size)
                subst hvF
                clear hbF Hfr b09
                have hdo := domain_any (hK.up b0F) (hS.up b0F) ((unhide Hh).up b0F) hl hs hn
                rw [domainA_ok hok] at hdo
                have Hdo := hide hdo
                clear hdo
                go_wp2_with fail
                refine (unhide Hdo).mono ?_
                rintro e wG ⟨vG, rfl, ⟨hBG, aG, cG, hvG⟩, hbG⟩
                have b0G : Below W.heap.size W wG := b0F.trans (hbG.mono b0F.size)
                have hBFG := hBF.up hbG
                subst hvG
                clear hbG Hdo hBF b0F
                go_wp2_with fail
                refine (num_any wG 0).mono ?_
                rintro e w' ⟨rfl, he⟩
                obtain rfl : wG = w' := he.symm
                clear he
                go_wp2_with fail
                refine (num_any wG 0).mono ?_
                rintro e w' ⟨rfl, he⟩
                obtain rfl : wG = w' := he.symm
                clear he
                have hsum := sum_any (hK.up b0G) (hS.up b0G) hBFG (frameL_byt (all_byt hl)) (by rw [frameL_len]; omega)
                go_wp2_with fail
                refine hsum.mono ?_
                rintro e wH ⟨vH, rfl, hBH, hbH⟩
                have b0H : Below W.heap.size W wH := b0G.trans (hbH.mono b0G.size)
                have hBGH := hBG.up hbH
                clear hbH hsum hBG hBFG
                have hsm := same_any hBGH hBH.has (sha_byt _) (sha_byt _)
                rw [show decide (sha (frameL (sl s :: ls)) = sha (frameL (sl s :: ls))) = true by simp] at hsm
                have Hsm := hide hsm
                have hvs : ∃ x y z, vH = .slice x y z := by obtain ⟨x, y, e, _⟩ := id hBH.has; exact ⟨_, _, _, e⟩
                obtain ⟨xH, yH, zH, rfl⟩ := hvs
                clear hsm hBH hBGH
                go_wp2_with fail
                refine (unhide Hsm).mono ?_
                rintro e w' ⟨rfl, he⟩
                obtain rfl : wH = w' := he.symm
                go_wp2
                go_ret
                exact ⟨rfl, b0H⟩
              · have hfr := frame_any (ls := sl s :: ls) hH9 (all_lim hs hn.2)
                rw [frameA_no hok] at hfr
                have Hfr := hide hfr
                clear hfr hH9
                go_wp2_with fail
                refine (unhide Hfr).mono ?_
                rintro e wF ⟨vF, aF, cF, rfl, hBF, hvF, hbF⟩
                have b0F : Below W.heap.size W wF := b09.trans (hbF.mono b09.size)
                subst hvF
                clear hbF Hfr b09 hBF
                have hdo := domain_any (hK.up b0F) (hS.up b0F) ((unhide Hh).up b0F) hl hs hn
                rw [domainA_no hok] at hdo
                have Hdo := hide hdo
                clear hdo
                go_wp2_with fail
                refine (unhide Hdo).mono ?_
                rintro e wG ⟨vG, rfl, ⟨hBG, aG, cG, hvG⟩, hbG⟩
                have b0G : Below W.heap.size W wG := b0F.trans (hbG.mono b0F.size)
                subst hvG
                clear hbG Hdo b0F hBG
                go_wp2_with fail
                refine (num_any wG 2).mono ?_
                rintro e w' ⟨rfl, he⟩
                obtain rfl : wG = w' := he.symm
                clear he
                go_wp2_with fail
                refine (num_any wG 2).mono ?_
                rintro e w' ⟨rfl, he⟩
                obtain rfl : wG = w' := he.symm
                clear he
                go_wp2_with fail
                refine (num_any wG 2).mono ?_
                rintro e w' ⟨rfl, he⟩
                obtain rfl : wG = w' := he.symm
                clear he
                go_wp2
                go_ret
                exact ⟨rfl, b0G⟩
        · rw [frameA_no okB] at hBX ⊢
          go_wp2_with fail
          refine (num_any w5 0).mono ?_
          rintro e w' ⟨rfl, he⟩
          obtain rfl : w5 = w' := he.symm
          clear he
          go_wp2_with fail
          refine (num_any w5 2).mono ?_
          rintro e w' ⟨rfl, he⟩
          obtain rfl : w5 = w' := he.symm
          clear he
          go_wp2_with fail
          refine (num_any w5 2).mono ?_
          rintro e w' ⟨rfl, he⟩
          obtain rfl : w5 = w' := he.symm
          clear he
          go_wp2
          go_ret
          exact ⟨rfl, hbX⟩
      · rw [frameA_no okA] at hAX ⊢
        go_wp2_with fail
        refine (num_any w5 2).mono ?_
        rintro e w' ⟨rfl, he⟩
        obtain rfl : w5 = w' := he.symm
        clear he
        go_wp2_with fail
        refine (num_any w5 2).mono ?_
        rintro e w' ⟨rfl, he⟩
        obtain rfl : w5 = w' := he.symm
        clear he
        by_cases okB : ms.length ≤ 65536 ∧ 4 + fsize ms ≤ 67108864
        · rw [frameA_ok okB] at hBX ⊢
          go_wp2_with fail
          refine (num_any w5 0).mono ?_
          rintro e w' ⟨rfl, he⟩
          obtain rfl : w5 = w' := he.symm
          clear he
          go_wp2
          go_ret
          exact ⟨rfl, hbX⟩
        · rw [frameA_no okB] at hBX ⊢
          go_wp2_with fail
          refine (num_any w5 2).mono ?_
          rintro e w' ⟨rfl, he⟩
          obtain rfl : w5 = w' := he.symm
          clear he
          go_wp2_with fail
          refine (num_any w5 2).mono ?_
          rintro e w' ⟨rfl, he⟩
          obtain rfl : w5 = w' := he.symm
          clear he
          go_wp2
          go_ret
          exact ⟨rfl, hbX⟩
end Go.Proofs.YtoojchjfmnbdpaaDoor
