import Derived.Test.YtlblllghgdfpoaaDoorJ21
import Derived.Test.YtlblllghgdfpoaaDoorJ21

namespace Go.Proofs.YtlblllghgdfpoaaDoor
open Go.RowKit
attribute [local go_sem ↓] Go.wp_at_zero Go.wp_at_succ

theorem HasBB.take {W : World} {a : Option Addr} {n c : Nat} {ls : List (List Nat)} (h : HasBB W (.slice a n c) ls) (k : Nat) (hk : k ≤ ls.length) : HasBB W (.slice a k c) (ls.take k) := by
  obtain ⟨a', c', e, hm, h3⟩ := h
  injection e with e1 e2 e3
  subst e1 e3
  have hl : (ls.take k).length = k := by rw [List.length_take]; omega
  refine ⟨a, c, by rw [hl], ⟨by omega, hm.2.1, hm.2.2⟩, fun hp => ?_⟩
  obtain ⟨g, off, rfl, h4, h5⟩ := h3 (by omega)
  refine ⟨g, off, rfl, h4, fun i l hl' => h5 i l ?_⟩
  rw [List.getElem?_take] at hl'
  split at hl'
  · exact hl'
  · cases hl'
theorem HasBB.drop {W : World} {g off n c : Nat} {ls : List (List Nat)} (h : HasBB W (.slice (some ⟨g, off, none⟩) n c) ls) (k : Nat) (hk : k ≤ ls.length) : HasBB W (.slice (some ⟨g, off + k, none⟩) (ls.length - k) (c - k)) (ls.drop k) := by
  obtain ⟨a', c', e, hm, h3⟩ := h
  injection e with e1 e2 e3
  subst e1 e3
  have hl : (ls.drop k).length = ls.length - k := List.length_drop
  refine ⟨some ⟨g, off + k, none⟩, c - k, by rw [hl], ⟨by omega, by have := hm.2.1; omega, nofun⟩, fun hp => ?_⟩
  obtain ⟨g', off', e', h4, h5⟩ := h3 (by omega)
  injection e' with e'
  injection e' with e1 e2 _
  subst e1 e2
  refine ⟨g, off + k, rfl, h4, fun i l hl' => ?_⟩
  rw [List.getElem?_drop] at hl'
  rw [Nat.add_assoc]
  exact h5 (k + i) l hl'
theorem Bytes.upw {base : Nat} {W w : World} {v : Value} {l : List Nat} (h : Bytes base W v l) (hb : Below W.heap.size W w) : Bytes base w v l := by
  have h' := h
  obtain ⟨h1, h2 | ⟨g, c, cur, e1, e2, e3, e4⟩⟩ := h
  · exact ⟨h1, .inl h2⟩
  · exact ⟨h1, .inr ⟨g, c, cur, e1, e2, (hb.block g (Array.getElem?_eq_some_iff.1 e3).1).trans e3, e4⟩⟩
def frR (y0 y3 y4 x2 x10 x11 x12 x13 x14 x15 x16 x17 x18 : Value) : Act := ⟨#[y0, undef, x2, y3, y4, y0, y3, y3, y3, y4, x10, x11, x12, x13, x14, x15, x16, x17, x18, .bool false, .bool false, undef, .bool false, .bool false, undef, undef, undef, undef], []⟩
structure InvR (S : Nat) (W1 : World) (y0 y3 y4 v12 v16 : Value) (R1 R2 R3 : List Nat) (d : Array Bool) (a : Act) (w : World) : Prop where
  all : ∃ x2 x10 x11 x12 x13 x14 x15 x16 x17 x18 : Value, d.size = 10 ∧ a = frR y0 y3 y4 x2 x10 x11 x12 x13 x14 x15 x16 x17 x18 ∧ Below S W1 w ∧ S ≤ w.heap.size ∧ (d.getD 0 false = true → x10 = y0) ∧ (d.getD 1 false = true → x11 = y4) ∧ (d.getD 2 false = true → x12 = v12) ∧ (d.getD 3 false = true → HasB w x13 R1) ∧ (d.getD 4 false = true → x14 = y0) ∧ (d.getD 5 false = true → x15 = y4) ∧ (d.getD 6 false = true → x16 = v16) ∧ (d.getD 7 false = true → HasB w x17 R2) ∧ (d.getD 8 false = true → Bytes S w x18 R3) ∧ (d.getD 9 false = true → x2 = x18 ∧ d.getD 8 false = true)
theorem callR_any (w : World) (vs : Array Value) : (callFunc 29 vs).run Tryd.prog w = .ok (.enter 29 vs) w := by
  have hn : ¬ Tryd.f29.name = "runtime.NumGoroutine" := by decide +kernel
  have hb : Tryd.f29.body.isSome = true := by kernel_rfl
  obtain ⟨c, hc⟩ := Option.isSome_iff_exists.1 hb
  simp [callFunc, Tryd.func29, hn, hc]
theorem callV_any (w : World) (vs : Array Value) : (callFunc 48 vs).run Tryd.prog w = .ok (.enter 48 vs) w := by
  have hn : ¬ Tryd.f48.name = "runtime.NumGoroutine" := by decide +kernel
  have hb : Tryd.f48.body.isSome = true := by kernel_rfl
  obtain ⟨c, hc⟩ := Option.isSome_iff_exists.1 hb
  simp [callFunc, Tryd.func48, hn, hc]
set_option maxRecDepth 100000 in
set_option maxHeartbeats 2000000 in
theorem rootOver_any : ∀ (f : Nat) {W : World} {v : Value} {ls : List (List Nat)}, HasK W → HasS W → HasBB W v ls → (∀ l ∈ ls, Byt l ∧ l.length ≤ 140737488351232) → ls.length ≤ f → ls.length ≤ 65536 →
    Calls Tryd.prog 29 #[v] W fun e W' => ∃ v', e = .returned v' ∧ Bytes W.heap.size W' v' (rootF f ls) ∧ Below W.heap.size W W' := by
  intro f
  induction f with
  | zero =>
    intro W v ls hK hS h hb hf hn
    obtain rfl : ls = [] := List.eq_nil_of_length_eq_zero (by omega)
    have hs := sumOf_any hK hS (hasBB_nil W) (fun l hl => by simp at hl) (by simp)
    have Hs := hide hs
    obtain ⟨va, vc, rfl, _, _⟩ := h
    clear hs
    go_enter Tryd.func29, Tryd.ntmps29
    go_wp2_with fail
    refine (unhide Hs).mono ?_
    rintro e w2 ⟨v', rfl, hB2, hb2⟩
    have HB2 := hide hB2
    have Hb2 := hide hb2
    clear hB2 hb2 Hs
    go_wp2
    go_ret
    exact ⟨v', rfl, unhide HB2, unhide Hb2⟩
  | succ f ih =>
    intro W v ls hK hS h hb hf hn
    by_cases h0 : ls.length = 0
    · obtain rfl : ls = [] := List.eq_nil_of_length_eq_zero (by omega)
      have hs := sumOf_any hK hS (hasBB_nil W) (fun l hl => by simp at hl) (by simp)
      have Hs := hide hs
      obtain ⟨va, vc, rfl, _, _⟩ := h
      clear hs ih
      go_enter Tryd.func29, Tryd.ntmps29
      go_wp2_with fail
      refine (unhide Hs).mono ?_
      rintro e w2 ⟨v', rfl, hB2, hb2⟩
      have HB2 := hide hB2
      have Hb2 := hide hb2
      clear hB2 hb2 Hs
      go_wp2
      go_ret
      exact ⟨v', rfl, unhide HB2, unhide Hb2⟩
    · by_cases h1 : ls.length = 1
      · obtain ⟨l, rfl⟩ := List.length_eq_one_iff.1 h1
        obtain ⟨va, vc, rfl, _, h3⟩ := id h
        obtain ⟨g, off, rfl, hg, hc⟩ := h3 (by simp)
        obtain ⟨u, hu, hBu⟩ := hc 0 l rfl
        obtain ⟨q1, q2⟩ := hb l (by simp)
        have hs := leafSum_any hK hS hBu q1 q2
        have Hs := hide hs
        rw [Nat.add_zero] at hu
        obtain ⟨ua, uc, rfl, _, _⟩ := hBu
        clear hs ih h3 hc h
        go_enter Tryd.func29, Tryd.ntmps29
        go_wp2_with fail
        refine (unhide Hs).mono ?_
        rintro e w2 ⟨v', rfl, hB2, hb2⟩
        have HB2 := hide hB2
        have Hb2 := hide hb2
        clear hB2 hb2 Hs
        go_wp2
        go_ret
        exact ⟨v', rfl, unhide HB2, unhide Hb2⟩
      · have hc2 : 2 ≤ ls.length := by omega
        have hcut := cut_any ls.length W hc2 hn
        obtain ⟨k, hk⟩ : ∃ k, cutN ls.length = k := ⟨_, rfl⟩
        have k0 : 0 < k := by rw [← hk]; exact cutN_pos _
        have k1 : k < ls.length := by rw [← hk]; exact cutN_lt hc2
        have eR : rootF (f + 1) ls = sha (1 :: (rootF f (ls.take k) ++ rootF f (ls.drop k))) := by rw [rootF, if_neg h0, if_neg h1, hk]
        rw [hk] at hcut
        rw [eR]
        have Hcut := hide hcut
        have Hh := hide h
        obtain ⟨va, vc, rfl, hm, h3⟩ := id h
        obtain ⟨g, off, rfl, hg, hc⟩ := h3 (by omega)
        have hvc : vc ≤ 9223372036854775807 := by have := hm.2.1; unfold maxLen at this; omega
        have hvc2 := hm.1
        have z0 : ((ls.length : Int) == 0) = false := beq_eq_false_iff_ne.2 (by omega)
        have z1 : ((ls.length : Int) == 1) = false := beq_eq_false_iff_ne.2 (by omega)
        clear hcut h3 hc hm hk eR h
        go_enter Tryd.func29, Tryd.ntmps29
        go_wp2_with fail
        refine (unhide Hcut).mono ?_
        rintro e w' ⟨rfl, he⟩
        obtain rfl : W = w' := he.symm
        clear he
        go_wp2_with fail
        have hne : ¬ vc = k := by omega
        have k0' : (0 : Int) ≤ (k : Int) := Int.natCast_nonneg _
        have k1' : (k : Int) ≤ (ls.length : Int) := by omega
        have k2' : (k : Int) ≤ (vc : Int) := by omega
        refine wp_region_any (by kernel_rfl) (wpAny_inv (InvR W.heap.size W (.slice (some ⟨g, off, none⟩) ls.length vc) (.int .i64 (ls.length : Int)) (.int .i64 (k : Int)) (.slice (some ⟨g, off, none⟩) k vc) (.slice (some ⟨g, off + k, none⟩) (ls.length - k) (vc - k)) (rootF f (ls.take k)) (rootF f (ls.drop k)) (sha (1 :: ((rootF f (ls.take k)) ++ (rootF f (ls.drop k)))))) ?step ?fin _ _ _ _ ?beg ?cnt)
        case cnt => decide
        case beg => exact ⟨_, _, _, _, _, _, _, _, _, _, rfl, rfl, ⟨rfl, rfl, rfl, Nat.le_refl _, fun _ _ => rfl⟩, Nat.le_refl _, fun h => by simp at h, fun h => by simp at h, fun h => by simp at h, fun h => by simp at h, fun h => by simp at h, fun h => by simp at h, fun h => by simp at h, fun h => by simp at h, fun h => by simp at h, fun h => by simp at h⟩
        case step =>
          intro d a w i hI hr
          obtain ⟨x2, x10, x11, x12, x13, x14, x15, x16, x17, x18, hds, rfl, hb', hs', f0, f1, f2, f3, f4, f5, f6, f7, f8, f9⟩ := hI.all
          obtain ⟨hd, o, ho, hall⟩ := mem_ready.1 hr
          have hi10 : i < 10 := (Array.getElem?_eq_some_iff.1 ho).1
          clear hI hd hall
          unfold frR
          rcases (show i = 0 ∨ i = 1 ∨ i = 2 ∨ i = 3 ∨ i = 4 ∨ i = 5 ∨ i = 6 ∨ i = 7 ∨ i = 8 ∨ i = 9 by omega) with rfl | rfl | rfl | rfl | rfl | rfl | rfl | rfl | rfl | rfl
          · refine wpOp_step rfl (fun K' hK' => ?_)
            go_simp
            refine hK' _ _ ⟨x2, (.slice (some ⟨g, off, none⟩) ls.length vc), x11, x12, x13, x14, x15, x16, x17, x18, by rw [Array.size_setIfInBounds]; exact hds, rfl, hb', hs', fun _ => rfl, fun h => f1 ((done_set h).resolve_left (by decide)), fun h => f2 ((done_set h).resolve_left (by decide)), fun h => f3 ((done_set h).resolve_left (by decide)), fun h => f4 ((done_set h).resolve_left (by decide)), fun h => f5 ((done_set h).resolve_left (by decide)), fun h => f6 ((done_set h).resolve_left (by decide)), fun h => f7 ((done_set h).resolve_left (by decide)), fun h => f8 ((done_set h).resolve_left (by decide)), fun h => ⟨(f9 ((done_set h).resolve_left (by decide))).1, done_keep (f9 ((done_set h).resolve_left (by decide))).2⟩⟩
          · refine wpOp_step rfl (fun K' hK' => ?_)
            go_simp
            refine hK' _ _ ⟨x2, x10, (.int .i64 (k : Int)), x12, x13, x14, x15, x16, x17, x18, by rw [Array.size_setIfInBounds]; exact hds, rfl, hb', hs', fun h => f0 ((done_set h).resolve_left (by decide)), fun _ => rfl, fun h => f2 ((done_set h).resolve_left (by decide)), fun h => f3 ((done_set h).resolve_left (by decide)), fun h => f4 ((done_set h).resolve_left (by decide)), fun h => f5 ((done_set h).resolve_left (by decide)), fun h => f6 ((done_set h).resolve_left (by decide)), fun h => f7 ((done_set h).resolve_left (by decide)), fun h => f8 ((done_set h).resolve_left (by decide)), fun h => ⟨(f9 ((done_set h).resolve_left (by decide))).1, done_keep (f9 ((done_set h).resolve_left (by decide))).2⟩⟩
          · have ga := f0 (all_done hr rfl ⟨⟨0, .data⟩, by simp, by rfl, rfl⟩)
            have gb := f1 (all_done hr rfl ⟨⟨1, .data⟩, by simp, by rfl, rfl⟩)
            subst ga gb
            refine wpOp_step rfl (fun K' hK' => ?_)
            go_simp
            refine hK' _ _ ⟨x2, (.slice (some ⟨g, off, none⟩) ls.length vc), (.int .i64 (k : Int)), (.slice (some ⟨g, off, none⟩) k vc), x13, x14, x15, x16, x17, x18, by rw [Array.size_setIfInBounds]; exact hds, rfl, hb', hs', fun _ => rfl, fun _ => rfl, fun _ => rfl, fun h => f3 ((done_set h).resolve_left (by decide)), fun h => f4 ((done_set h).resolve_left (by decide)), fun h => f5 ((done_set h).resolve_left (by decide)), fun h => f6 ((done_set h).resolve_left (by decide)), fun h => f7 ((done_set h).resolve_left (by decide)), fun h => f8 ((done_set h).resolve_left (by decide)), fun h => ⟨(f9 ((done_set h).resolve_left (by decide))).1, done_keep (f9 ((done_set h).resolve_left (by decide))).2⟩⟩
          · have ga := f2 (all_done hr rfl ⟨⟨2, .data⟩, by simp, by rfl, rfl⟩)
            subst ga
            have hcl := ih (hK.up hb') (hS.up hb') (((unhide Hh).take k (by omega)).up hb') (fun l hl => hb l (List.mem_of_mem_take hl)) (by rw [List.length_take]; omega) (by rw [List.length_take]; omega)
            refine wpOp_step rfl (fun K' hK' => ?_)
            refine step_callD 13 rfl rfl 29 (callR_any _) #[.tmp 12] #[22] rfl #[(.slice (some ⟨g, off, none⟩) k vc)] (by first | rfl | simp [Act.eval]) hcl ?_
            rintro o7 w7 ⟨v7, rfl, hB7, hb7⟩
            refine ⟨_, rfl, ?_⟩
            go_simp
            refine hK' _ _ ⟨x2, x10, x11, (.slice (some ⟨g, off, none⟩) k vc), v7, x14, x15, x16, x17, x18, by rw [Array.size_setIfInBounds]; exact hds, rfl, hb'.trans (hb7.mono hs'), Nat.le_trans hs' hb7.size, fun h => f0 ((done_set h).resolve_left (by decide)), fun h => f1 ((done_set h).resolve_left (by decide)), fun _ => rfl, fun _ => hB7.has, fun h => f4 ((done_set h).resolve_left (by decide)), fun h => f5 ((done_set h).resolve_left (by decide)), fun h => f6 ((done_set h).resolve_left (by decide)), fun h => (f7 ((done_set h).resolve_left (by decide))).up hb7, fun h => (f8 ((done_set h).resolve_left (by decide))).upw hb7, fun h => ⟨(f9 ((done_set h).resolve_left (by decide))).1, done_keep (f9 ((done_set h).resolve_left (by decide))).2⟩⟩
          · refine wpOp_step rfl (fun K' hK' => ?_)
            go_simp
            refine hK' _ _ ⟨x2, x10, x11, x12, x13, (.slice (some ⟨g, off, none⟩) ls.length vc), x15, x16, x17, x18, by rw [Array.size_setIfInBounds]; exact hds, rfl, hb', hs', fun h => f0 ((done_set h).resolve_left (by decide)), fun h => f1 ((done_set h).resolve_left (by decide)), fun h => f2 ((done_set h).resolve_left (by decide)), fun h => f3 ((done_set h).resolve_left (by decide)), fun _ => rfl, fun h => f5 ((done_set h).resolve_left (by decide)), fun h => f6 ((done_set h).resolve_left (by decide)), fun h => f7 ((done_set h).resolve_left (by decide)), fun h => f8 ((done_set h).resolve_left (by decide)), fun h => ⟨(f9 ((done_set h).resolve_left (by decide))).1, done_keep (f9 ((done_set h).resolve_left (by decide))).2⟩⟩
          · refine wpOp_step rfl (fun K' hK' => ?_)
            go_simp
            refine hK' _ _ ⟨x2, x10, x11, x12, x13, x14, (.int .i64 (k : Int)), x16, x17, x18, by rw [Array.size_setIfInBounds]; exact hds, rfl, hb', hs', fun h => f0 ((done_set h).resolve_left (by decide)), fun h => f1 ((done_set h).resolve_left (by decide)), fun h => f2 ((done_set h).resolve_left (by decide)), fun h => f3 ((done_set h).resolve_left (by decide)), fun h => f4 ((done_set h).resolve_left (by decide)), fun _ => rfl, fun h => f6 ((done_set h).resolve_left (by decide)), fun h => f7 ((done_set h).resolve_left (by decide)), fun h => f8 ((done_set h).resolve_left (by decide)), fun h => ⟨(f9 ((done_set h).resolve_left (by decide))).1, done_keep (f9 ((done_set h).resolve_left (by decide))).2⟩⟩
          · have ga := f4 (all_done hr rfl ⟨⟨4, .data⟩, by simp, by rfl, rfl⟩)
            have gb := f5 (all_done hr rfl ⟨⟨5, .data⟩, by simp, by rfl, rfl⟩)
            subst ga gb
            refine wpOp_step rfl (fun K' hK' => ?_)
            go_simp
            refine hK' _ _ ⟨x2, x10, x11, x12, x13, (.slice (some ⟨g, off, none⟩) ls.length vc), (.int .i64 (k : Int)), (.slice (some ⟨g, off + k, none⟩) (ls.length - k) (vc - k)), x17, x18, by rw [Array.size_setIfInBounds]; exact hds, rfl, hb', hs', fun h => f0 ((done_set h).resolve_left (by decide)), fun h => f1 ((done_set h).resolve_left (by decide)), fun h => f2 ((done_set h).resolve_left (by decide)), fun h => f3 ((done_set h).resolve_left (by decide)), fun _ => rfl, fun _ => rfl, fun _ => rfl, fun h => f7 ((done_set h).resolve_left (by decide)), fun h => f8 ((done_set h).resolve_left (by decide)), fun h => ⟨(f9 ((done_set h).resolve_left (by decide))).1, done_keep (f9 ((done_set h).resolve_left (by decide))).2⟩⟩
          · have ga := f6 (all_done hr rfl ⟨⟨6, .data⟩, by simp, by rfl, rfl⟩)
            subst ga
            have hcl := ih (hK.up hb') (hS.up hb') (((unhide Hh).drop k (by omega)).up hb') (fun l hl => hb l (List.mem_of_mem_drop hl)) (by rw [List.length_drop]; omega) (by rw [List.length_drop]; omega)
            refine wpOp_step rfl (fun K' hK' => ?_)
            refine step_callD 17 rfl rfl 29 (callR_any _) #[.tmp 16] #[22] rfl #[(.slice (some ⟨g, off + k, none⟩) (ls.length - k) (vc - k))] (by first | rfl | simp [Act.eval]) hcl ?_
            rintro o7 w7 ⟨v7, rfl, hB7, hb7⟩
            refine ⟨_, rfl, ?_⟩
            go_simp
            refine hK' _ _ ⟨x2, x10, x11, x12, x13, x14, x15, (.slice (some ⟨g, off + k, none⟩) (ls.length - k) (vc - k)), v7, x18, by rw [Array.size_setIfInBounds]; exact hds, rfl, hb'.trans (hb7.mono hs'), Nat.le_trans hs' hb7.size, fun h => f0 ((done_set h).resolve_left (by decide)), fun h => f1 ((done_set h).resolve_left (by decide)), fun h => f2 ((done_set h).resolve_left (by decide)), fun h => (f3 ((done_set h).resolve_left (by decide))).up hb7, fun h => f4 ((done_set h).resolve_left (by decide)), fun h => f5 ((done_set h).resolve_left (by decide)), fun _ => rfl, fun _ => hB7.has, fun h => (f8 ((done_set h).resolve_left (by decide))).upw hb7, fun h => ⟨(f9 ((done_set h).resolve_left (by decide))).1, done_keep (f9 ((done_set h).resolve_left (by decide))).2⟩⟩
          · have ga := f3 (all_done hr rfl ⟨⟨3, .data⟩, by simp, by rfl, rfl⟩)
            have gb := f7 (all_done hr rfl ⟨⟨7, .data⟩, by simp, by rfl, rfl⟩)
            have hcl := aboveSum_any (hK.up hb') (hS.up hb') ga (rootF_byt _ _) gb (rootF_byt _ _) (by rw [rootF_len, rootF_len]; decide)
            refine wpOp_step rfl (fun K' hK' => ?_)
            refine step_callD 18 rfl rfl 48 (callV_any _) #[.tmp 13, .tmp 17] #[29, 29] rfl #[x13, x17] (by first | rfl | simp [Act.eval]) hcl ?_
            rintro o7 w7 ⟨v7, rfl, hB7, hb7⟩
            refine ⟨_, rfl, ?_⟩
            go_simp
            have n8 : ¬ d.getD 8 false = true := fun q => by
              obtain ⟨q1, q2⟩ := ready_lt hr
              simp [q1, q2] at q
            refine hK' _ _ ⟨x2, x10, x11, x12, x13, x14, x15, x16, x17, v7, by rw [Array.size_setIfInBounds]; exact hds, rfl, hb'.trans (hb7.mono hs'), Nat.le_trans hs' hb7.size, fun h => f0 ((done_set h).resolve_left (by decide)), fun h => f1 ((done_set h).resolve_left (by decide)), fun h => f2 ((done_set h).resolve_left (by decide)), fun h => (f3 ((done_set h).resolve_left (by decide))).up hb7, fun h => f4 ((done_set h).resolve_left (by decide)), fun h => f5 ((done_set h).resolve_left (by decide)), fun h => f6 ((done_set h).resolve_left (by decide)), fun h => (f7 ((done_set h).resolve_left (by decide))).up hb7, fun _ => hB7.lower hs', fun h => absurd (f9 ((done_set h).resolve_left (by decide))).2 n8⟩
          · refine wpOp_step rfl (fun K' hK' => ?_)
            go_simp
            refine hK' _ _ ⟨x18, x10, x11, x12, x13, x14, x15, x16, x17, x18, by rw [Array.size_setIfInBounds]; exact hds, rfl, hb', hs', fun h => f0 ((done_set h).resolve_left (by decide)), fun h => f1 ((done_set h).resolve_left (by decide)), fun h => f2 ((done_set h).resolve_left (by decide)), fun h => f3 ((done_set h).resolve_left (by decide)), fun h => f4 ((done_set h).resolve_left (by decide)), fun h => f5 ((done_set h).resolve_left (by decide)), fun h => f6 ((done_set h).resolve_left (by decide)), fun h => f7 ((done_set h).resolve_left (by decide)), fun h => f8 ((done_set h).resolve_left (by decide)), fun _ => ⟨rfl, done_keep (all_done hr rfl ⟨⟨8, .data⟩, by simp, by rfl, rfl⟩)⟩⟩
        case fin =>
          intro d a w hI hr
          obtain ⟨x2, x10, x11, x12, x13, x14, x15, x16, x17, x18, hds, rfl, hb', hs', f0, f1, f2, f3, f4, f5, f6, f7, f8, f9⟩ := hI.all
          have d0 : d.getD 0 false = true := done_of (by omega) hr rfl (by intro e he _; simp at he)
          have d1 : d.getD 1 false = true := done_of (by omega) hr rfl (by intro e he _; simp at he)
          have d2 : d.getD 2 false = true := done_of (by omega) hr rfl (by intro e he _; simp at he; rcases he with rfl | rfl <;> assumption)
          have d3 : d.getD 3 false = true := done_of (by omega) hr rfl (by intro e he _; simp at he; subst he; assumption)
          have d4 : d.getD 4 false = true := done_of (by omega) hr rfl (by intro e he _; simp at he)
          have d5 : d.getD 5 false = true := done_of (by omega) hr rfl (by intro e he _; simp at he)
          have d6 : d.getD 6 false = true := done_of (by omega) hr rfl (by intro e he _; simp at he; rcases he with rfl | rfl <;> assumption)
          have d7 : d.getD 7 false = true := done_of (by omega) hr rfl (by intro e he _; simp at he; rcases he with rfl | rfl <;> assumption)
          have d8 : d.getD 8 false = true := done_of (by omega) hr rfl (by intro e he _; simp at he; rcases he with rfl | rfl | rfl <;> assumption)
          have d9 : d.getD 9 false = true := done_of (by omega) hr rfl (by intro e he _; simp at he; rcases he with rfl | rfl | rfl | rfl | rfl | rfl | rfl | rfl | rfl | rfl | rfl <;> assumption)
          have e2 := (f9 d9).1
          have HR := hide (f8 d8)
          have HB := hide hb'
          subst e2
          clear hI hr f0 f1 f2 f3 f4 f5 f6 f7 f8 f9 d0 d1 d2 d3 d4 d5 d6 d7 d8 d9 hb' hs'
          unfold frR
          go_wp2
          go_ret
          exact ⟨_, rfl, unhide HR, unhide HB⟩
end Go.Proofs.YtlblllghgdfpoaaDoor
