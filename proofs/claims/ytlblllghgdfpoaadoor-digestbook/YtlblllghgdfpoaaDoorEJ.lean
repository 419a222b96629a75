import Derived.Test.YtlblllghgdfpoaaDoorJ07
import Derived.Test.YtlblllghgdfpoaaDoorEF

namespace Go.Proofs.YtlblllghgdfpoaaDoor
open Go.RowKit
attribute [local go_sem ↓] Go.wp_at_zero Go.wp_at_succ

namespace Zz
section
variable {P : Program} {md : Region.Mode} {ops : Array Oper} {Q : Exit → Act → World → Prop} {T : World → Prop} {z : Nat}
theorem wpAnyZ_two (i j : Nat) {oi oj : Oper} {n : Nat} {d : Array Bool} {a : Act} {w : World} (hr : Region.ready md ops d = [i, j]) (hi : ops[i]? = some oi) (hj : ops[j]? = some oj)
    (h : ∀ K : Act → World → Prop, (∀ a' w', ((i ≠ z → T w') ∧ wpAnyZ P md ops Q T z n (d.setIfInBounds i true) a' w') → K a' w') → if Region.wanted oi (yielded ops a.tmps) = true then Oper.wp P oi a w K Q else K (a.put oi.dst undef) w)
    (k : ∀ K : Act → World → Prop, (∀ a' w', ((j ≠ z → T w') ∧ wpAnyZ P md ops Q T z n (d.setIfInBounds j true) a' w') → K a' w') → if Region.wanted oj (yielded ops a.tmps) = true then Oper.wp P oj a w K Q else K (a.put oj.dst undef) w) : wpAnyZ P md ops Q T z (n + 1) d a w := by
  refine ⟨fun h0 => (by rw [h0] at hr; cases hr), fun x hx => ?_⟩
  rw [hr] at hx
  rcases List.mem_cons.1 hx with rfl | hx
  · exact wpOp_step hi h
  · obtain rfl : x = j := by simpa using hx
    exact wpOp_step hj k
end
end Zz
set_option maxRecDepth 100000 in
set_option maxHeartbeats 8000000 in
theorem twice_any {B : Nat} {W : World} {aL aW aA aB ai : Option Addr} {cL cW nA cA nB cB ci : Nat} {xs ys : List Value} {li : List Nat} (hs : TwS B W (.slice aL xs.length cL) (.slice aW ys.length cW) W (.slice aL xs.length cL) (.slice aW ys.length cW) xs ys) (hi : HasB W (.slice ai li.length ci) li) (hb : Byt li) (hn : 0 < li.length → ∀ q, (Value.slice ai li.length ci).ownBlock = some q → (Value.slice aL xs.length cL).ownBlock ≠ some q ∧ (Value.slice aW ys.length cW).ownBlock ≠ some q) (hx : xs.length ≤ 1073741824) (hy : ys.length ≤ 1073741824) :
    Calls Tryd.prog 42 #[.slice aL xs.length cL, .slice aW ys.length cW, .slice aA nA cA, .slice aB nB cB, .slice ai li.length ci] W fun e w => ∃ a c n a' c' n', e = .returned (.tuple #[.slice a n c, .slice a' n' c']) ∧ TwS B W (.slice aL xs.length cL) (.slice aW ys.length cW) w (.slice a n c) (.slice a' n' c') (xs ++ [.slice aA nA cA, .slice aB nB cB]) (ys ++ [.string (ofN li), .string (ofN li)]) := by
  obtain ⟨i1, qi, qz0, qz1, qz2⟩ := info_parts Tryd.infoBytes
  obtain ⟨i2, ri, rz0, rz1, rz2⟩ := info_parts Tryd.infoStr
  have HC : Hid (∀ (w : World) (vL vW : Value) (xs' ys' : List Value), TwS B W (.slice aL xs.length cL) (.slice aW ys.length cW) w vL vW xs' ys' → (convert 29 9 (.slice ai li.length ci)).run Tryd.prog w = .ok (.string (ofN li)) w) := fun w vL vW xs' ys' h => conv_any (by
    by_cases hp : 0 < li.length
    · exact hi.stays h.fr.size (fun q e hq => h.fr.far q hq (fun k => by rcases k with k | k; exact (hn hp q e).1 k; exact (hn hp q e).2 k))
    · obtain ⟨a', c', e, hm, -⟩ := hi
      exact ⟨a', c', e, hm, fun h => absurd h hp⟩) hb
  have HE : Hid (∀ (w : World) (v v' : Value), TwS B W (.slice aL xs.length cL) (.slice aW ys.length cW) w v v' (xs ++ [.slice aA nA cA, .slice aB nB cB]) (ys ++ [.string (ofN li), .string (ofN li)]) → TwS B W (.slice aL xs.length cL) (.slice aW ys.length cW) w v v' (xs ++ [.slice aA nA cA, .slice aB nB cB]) (ys ++ [.string (ofN li), .string (ofN li)])) := fun _ _ _ h => h
  have HS := hide hs
  clear hs hi hb hn
  go_enter Tryd.func42, Tryd.ntmps42
  go_wp2
  refine wp_region_any (by kernel_rfl) (Zz.wpAny_of_Z (z := 99) (T := fun w => (convert 29 9 (.slice ai li.length ci)).run Tryd.prog w = .ok (.string (ofN li)) w) _ _ _ _ ?_)
  have HS0 : Hid (TwS B W (.slice aL xs.length cL) (.slice aW ys.length cW) W.drew (.slice aL xs.length cL) (.slice aW ys.length cW) xs ys) := by
    have h := unhide HS
    exact ⟨own_same h.rl (fun _ _ => rfl), own_same h.rw (fun _ _ => rfl), h.wl, h.fr.up ⟨rfl, rfl, rfl, Nat.le_refl _, fun _ _ => rfl⟩, h.nl, h.nw, h.bs⟩
  have hT := unhide HC _ _ _ _ _ (unhide HS0)
  change Zz.wpAnyZ _ _ _ _ _ _ _ _ _ (World.drew W)
  generalize W.drew = w0 at HS0 hT ⊢
  clear HS
  refine Zz.wpAnyZ_tk 0 (.slice aL xs.length cL) 12 rfl rfl (Or.inl ⟨by rfl, fun w hw => by go_simp⟩) hT ?_
  simp only [Act.put, List.setIfInBounds_toArray, List.set_cons_zero, List.set_cons_succ]
  refine Zz.wpAnyZ_tk 1 (.slice aA nA cA) 13 rfl rfl (Or.inl ⟨by rfl, fun w hw => by go_simp⟩) hT ?_
  simp only [Act.put, List.setIfInBounds_toArray, List.set_cons_zero, List.set_cons_succ]
  refine Zz.wpAnyZ_tk 2 (.slice aB nB cB) 14 rfl rfl (Or.inl ⟨by rfl, fun w hw => by go_simp⟩) hT ?_
  simp only [Act.put, List.setIfInBounds_toArray, List.set_cons_zero, List.set_cons_succ]
  refine Zz.wpAnyZ_tk 5 (.slice aW ys.length cW) 17 rfl rfl (Or.inl ⟨by rfl, fun w hw => by go_simp⟩) hT ?_
  simp only [Act.put, List.setIfInBounds_toArray, List.set_cons_zero, List.set_cons_succ]
  refine Zz.wpAnyZ_tk 6 (.slice ai li.length ci) 18 rfl rfl (Or.inl ⟨by rfl, fun w hw => by go_simp⟩) hT ?_
  simp only [Act.put, List.setIfInBounds_toArray, List.set_cons_zero, List.set_cons_succ]
  refine Zz.wpAnyZ_tk 7 (.string (ofN li)) 19 rfl rfl (Or.inl ⟨by rfl, fun w hw => by go_simp⟩) hT ?_
  simp only [Act.put, List.setIfInBounds_toArray, List.set_cons_zero, List.set_cons_succ]
  refine Zz.wpAnyZ_tk 8 (.slice ai li.length ci) 20 rfl rfl (Or.inl ⟨by rfl, fun w hw => by go_simp⟩) hT ?_
  simp only [Act.put, List.setIfInBounds_toArray, List.set_cons_zero, List.set_cons_succ]
  refine Zz.wpAnyZ_tk 9 (.string (ofN li)) 21 rfl rfl (Or.inl ⟨by rfl, fun w hw => by go_simp⟩) hT ?_
  simp only [Act.put, List.setIfInBounds_toArray, List.set_cons_zero, List.set_cons_succ]
  refine Zz.wpAnyZ_two 3 10 (by kernel_rfl) rfl rfl (fun KK hK => ?_) (fun KK hK => ?_)
  · go_simp
    have HS1 := hide ((unhide HS0).alloc (.cells #[.slice aA nA cA, .slice aB nB cB] 29))
    have HN1 := hide ((unhide HS0).new (.slice aA nA cA) (.slice aB nB cB) 29)
    have hT1 := unhide HC _ _ _ _ _ (unhide HS1)
    refine hK _ _ ⟨fun _ => hT1, ?_⟩
    clear hK KK
    try simp only [Act.put, List.setIfInBounds_toArray, List.set_cons_zero, List.set_cons_succ]
    refine Zz.wpAnyZ_two 4 10 (by kernel_rfl) rfl rfl (fun KK hK => ?_) (fun KK hK => ?_)
    · refine step_append_keeps 16 rfl rfl (.tmp 12) (.tmp 15) 22 rfl B 29 i1 (.slice none 0 0) 1 24 Tryd.underlying22 qi qz0 qz1 qz2 rfl (by decide) (.slice aL xs.length cL) xs.length xs (by first | rfl | simp [Act.eval]) (unhide HS1).rl ⟨w0.heap.size, 0, none⟩ 2 2 [.slice aA nA cA, .slice aB nB cB] (by first | rfl | simp [Act.eval]) (by rfl) (unhide HN1).news (by simp [Value.oneCell']) (by decide) (by unfold maxLen; omega) (by omega) (Nat.le_trans (unhide HS1).bs (unhide HS1).fr.size) ?_
      intro g2 c2 w2 hown hold hgrow hat
      have hat' : (Value.slice (some ⟨g2, 0, none⟩) (xs.length + 2) c2).ownBlock = (Value.slice aL xs.length cL).ownBlock ∨ ∃ q, (Value.slice (some ⟨g2, 0, none⟩) (xs.length + 2) c2).ownBlock = some q ∧ (w0.alloc (.cells #[.slice aA nA cA, .slice aB nB cB] 29)).heap.size ≤ q := hat.elim (fun e => .inl e.symm) (fun e => .inr ⟨g2, rfl, e⟩)
      have HS2 := hide ((unhide HS1).appL (us := [.slice aA nA cA, .slice aB nB cB]) hown rfl hgrow hat')
      clear hown hold hgrow hat hat'
      have hT2 := unhide HC _ _ _ _ _ (unhide HS2)
      refine hK _ _ ⟨fun _ => hT2, ?_⟩
      clear hK KK
      try simp only [Act.put, List.setIfInBounds_toArray, List.set_cons_zero, List.set_cons_succ]
      refine Zz.wpAnyZ_one 10 (by kernel_rfl) rfl (fun KK hK => ?_)
      go_simp
      have HS3 := hide ((unhide HS2).alloc (.cells #[.string (ofN li), .string (ofN li)] 9))
      have HN3 := hide ((unhide HS2).new (.string (ofN li)) (.string (ofN li)) 9)
      have HM3 := hide ((unhide HN1).alloc (.cells #[.string (ofN li), .string (ofN li)] 9))
      have hT3 := unhide HC _ _ _ _ _ (unhide HS3)
      refine hK _ _ ⟨fun _ => hT3, ?_⟩
      clear hK KK
      try simp only [Act.put, List.setIfInBounds_toArray, List.set_cons_zero, List.set_cons_succ]
      refine Zz.wpAnyZ_one 11 (by kernel_rfl) rfl (fun KK hK => ?_)
      refine step_append_keeps 23 rfl rfl (.tmp 17) (.tmp 22) 25 rfl B 9 i2 (.string .empty) 1 16 Tryd.underlying25 ri rz0 rz1 rz2 rfl (by decide) (.slice aW ys.length cW) ys.length ys (by first | rfl | simp [Act.eval]) (unhide HS3).rw ⟨w2.heap.size, 0, none⟩ 2 2 [.string (ofN li), .string (ofN li)] (by first | rfl | simp [Act.eval]) (by rfl) (unhide HN3).news (by simp [Value.oneCell']) (by decide) (by unfold maxLen; omega) (by omega) (Nat.le_trans (unhide HS3).bs (unhide HS3).fr.size) ?_
      intro g4 c4 w4 hown hold hgrow hat
      have hat' : (Value.slice (some ⟨g4, 0, none⟩) (ys.length + 2) c4).ownBlock = (Value.slice aW ys.length cW).ownBlock ∨ ∃ q, (Value.slice (some ⟨g4, 0, none⟩) (ys.length + 2) c4).ownBlock = some q ∧ (w2.alloc (.cells #[.string (ofN li), .string (ofN li)] 9)).heap.size ≤ q := hat.elim (fun e => .inl e.symm) (fun e => .inr ⟨g4, rfl, e⟩)
      have HS4 := hide ((unhide HS3).appW (us := [.string (ofN li), .string (ofN li)]) hown rfl hgrow hat')
      clear hown hold hgrow hat hat'
      have hT4 := unhide HC _ _ _ _ _ (unhide HS4)
      refine hK _ _ ⟨fun _ => hT4, ?_⟩
      clear hK KK
      try simp only [Act.put, List.setIfInBounds_toArray, List.set_cons_zero, List.set_cons_succ]
      have hT := hT4
      refine Zz.wpAnyZ_tk 12 (.slice (some ⟨g2, 0, none⟩) (xs.length + 2) c2) 10 rfl rfl (Or.inl ⟨by rfl, fun w hw => by go_simp⟩) hT ?_
      simp only [Act.put, List.setIfInBounds_toArray, List.set_cons_zero, List.set_cons_succ]
      refine Zz.wpAnyZ_tk 13 (.slice (some ⟨g4, 0, none⟩) (ys.length + 2) c4) 11 rfl rfl (Or.inl ⟨by rfl, fun w hw => by go_simp⟩) hT ?_
      simp only [Act.put, List.setIfInBounds_toArray, List.set_cons_zero, List.set_cons_succ]
      refine Zz.wpAnyZ_done (by kernel_rfl) ?_
      go_wp2
      go_ret2
      exact ⟨_, _, _, _, _, _, rfl, unhide HE _ _ _ (unhide HS4)⟩
    · go_simp
      have HS5 := hide ((unhide HS1).alloc (.cells #[.string (ofN li), .string (ofN li)] 9))
      have HN5 := hide ((unhide HS1).new (.string (ofN li)) (.string (ofN li)) 9)
      have HM5 := hide ((unhide HN1).alloc (.cells #[.string (ofN li), .string (ofN li)] 9))
      have hT5 := unhide HC _ _ _ _ _ (unhide HS5)
      refine hK _ _ ⟨fun _ => hT5, ?_⟩
      clear hK KK
      try simp only [Act.put, List.setIfInBounds_toArray, List.set_cons_zero, List.set_cons_succ]
      refine Zz.wpAnyZ_one 4 (by kernel_rfl) rfl (fun KK hK => ?_)
      refine step_append_keeps 16 rfl rfl (.tmp 12) (.tmp 15) 22 rfl B 29 i1 (.slice none 0 0) 1 24 Tryd.underlying22 qi qz0 qz1 qz2 rfl (by decide) (.slice aL xs.length cL) xs.length xs (by first | rfl | simp [Act.eval]) (unhide HS5).rl ⟨w0.heap.size, 0, none⟩ 2 2 [.slice aA nA cA, .slice aB nB cB] (by first | rfl | simp [Act.eval]) (by rfl) (unhide HM5).news (by simp [Value.oneCell']) (by decide) (by unfold maxLen; omega) (by omega) (Nat.le_trans (unhide HS5).bs (unhide HS5).fr.size) ?_
      intro g6 c6 w6 hown hold hgrow hat
      have hat' : (Value.slice (some ⟨g6, 0, none⟩) (xs.length + 2) c6).ownBlock = (Value.slice aL xs.length cL).ownBlock ∨ ∃ q, (Value.slice (some ⟨g6, 0, none⟩) (xs.length + 2) c6).ownBlock = some q ∧ ((w0.alloc (.cells #[.slice aA nA cA, .slice aB nB cB] 29)).alloc (.cells #[.string (ofN li), .string (ofN li)] 9)).heap.size ≤ q := hat.elim (fun e => .inl e.symm) (fun e => .inr ⟨g6, rfl, e⟩)
      have HS6 := hide ((unhide HS5).appL (us := [.slice aA nA cA, .slice aB nB cB]) hown rfl hgrow hat')
      have HM6 := hide ((unhide HN5).appL hgrow hat')
      clear hown hold hgrow hat hat'
      have hT6 := unhide HC _ _ _ _ _ (unhide HS6)
      refine hK _ _ ⟨fun _ => hT6, ?_⟩
      clear hK KK
      try simp only [Act.put, List.setIfInBounds_toArray, List.set_cons_zero, List.set_cons_succ]
      refine Zz.wpAnyZ_one 11 (by kernel_rfl) rfl (fun KK hK => ?_)
      refine step_append_keeps 23 rfl rfl (.tmp 17) (.tmp 22) 25 rfl B 9 i2 (.string .empty) 1 16 Tryd.underlying25 ri rz0 rz1 rz2 rfl (by decide) (.slice aW ys.length cW) ys.length ys (by first | rfl | simp [Act.eval]) (unhide HS6).rw ⟨(w0.alloc (.cells #[.slice aA nA cA, .slice aB nB cB] 29)).heap.size, 0, none⟩ 2 2 [.string (ofN li), .string (ofN li)] (by first | rfl | simp [Act.eval]) (by rfl) (unhide HM6).news (by simp [Value.oneCell']) (by decide) (by unfold maxLen; omega) (by omega) (Nat.le_trans (unhide HS6).bs (unhide HS6).fr.size) ?_
      intro g7 c7 w7 hown hold hgrow hat
      have hat' : (Value.slice (some ⟨g7, 0, none⟩) (ys.length + 2) c7).ownBlock = (Value.slice aW ys.length cW).ownBlock ∨ ∃ q, (Value.slice (some ⟨g7, 0, none⟩) (ys.length + 2) c7).ownBlock = some q ∧ w6.heap.size ≤ q := hat.elim (fun e => .inl e.symm) (fun e => .inr ⟨g7, rfl, e⟩)
      have HS7 := hide ((unhide HS6).appW (us := [.string (ofN li), .string (ofN li)]) hown rfl hgrow hat')
      clear hown hold hgrow hat hat'
      have hT7 := unhide HC _ _ _ _ _ (unhide HS7)
      refine hK _ _ ⟨fun _ => hT7, ?_⟩
      clear hK KK
      try simp only [Act.put, List.setIfInBounds_toArray, List.set_cons_zero, List.set_cons_succ]
      have hT := hT7
      refine Zz.wpAnyZ_tk 12 (.slice (some ⟨g6, 0, none⟩) (xs.length + 2) c6) 10 rfl rfl (Or.inl ⟨by rfl, fun w hw => by go_simp⟩) hT ?_
      simp only [Act.put, List.setIfInBounds_toArray, List.set_cons_zero, List.set_cons_succ]
      refine Zz.wpAnyZ_tk 13 (.slice (some ⟨g7, 0, none⟩) (ys.length + 2) c7) 11 rfl rfl (Or.inl ⟨by rfl, fun w hw => by go_simp⟩) hT ?_
      simp only [Act.put, List.setIfInBounds_toArray, List.set_cons_zero, List.set_cons_succ]
      refine Zz.wpAnyZ_done (by kernel_rfl) ?_
      go_wp2
      go_ret2
      exact ⟨_, _, _, _, _, _, rfl, unhide HE _ _ _ (unhide HS7)⟩
  · go_simp
    have HS8 := hide ((unhide HS0).alloc (.cells #[.string (ofN li), .string (ofN li)] 9))
    have HN8 := hide ((unhide HS0).new (.string (ofN li)) (.string (ofN li)) 9)
    have hT8 := unhide HC _ _ _ _ _ (unhide HS8)
    refine hK _ _ ⟨fun _ => hT8, ?_⟩
    clear hK KK
    try simp only [Act.put, List.setIfInBounds_toArray, List.set_cons_zero, List.set_cons_succ]
    refine Zz.wpAnyZ_one 3 (by kernel_rfl) rfl (fun KK hK => ?_)
    go_simp
    have HS9 := hide ((unhide HS8).alloc (.cells #[.slice aA nA cA, .slice aB nB cB] 29))
    have HN9 := hide ((unhide HS8).new (.slice aA nA cA) (.slice aB nB cB) 29)
    have HM9 := hide ((unhide HN8).alloc (.cells #[.slice aA nA cA, .slice aB nB cB] 29))
    have hT9 := unhide HC _ _ _ _ _ (unhide HS9)
    refine hK _ _ ⟨fun _ => hT9, ?_⟩
    clear hK KK
    try simp only [Act.put, List.setIfInBounds_toArray, List.set_cons_zero, List.set_cons_succ]
    refine Zz.wpAnyZ_one 4 (by kernel_rfl) rfl (fun KK hK => ?_)
    refine step_append_keeps 16 rfl rfl (.tmp 12) (.tmp 15) 22 rfl B 29 i1 (.slice none 0 0) 1 24 Tryd.underlying22 qi qz0 qz1 qz2 rfl (by decide) (.slice aL xs.length cL) xs.length xs (by first | rfl | simp [Act.eval]) (unhide HS9).rl ⟨(w0.alloc (.cells #[.string (ofN li), .string (ofN li)] 9)).heap.size, 0, none⟩ 2 2 [.slice aA nA cA, .slice aB nB cB] (by first | rfl | simp [Act.eval]) (by rfl) (unhide HN9).news (by simp [Value.oneCell']) (by decide) (by unfold maxLen; omega) (by omega) (Nat.le_trans (unhide HS9).bs (unhide HS9).fr.size) ?_
    intro g10 c10 w10 hown hold hgrow hat
    have hat' : (Value.slice (some ⟨g10, 0, none⟩) (xs.length + 2) c10).ownBlock = (Value.slice aL xs.length cL).ownBlock ∨ ∃ q, (Value.slice (some ⟨g10, 0, none⟩) (xs.length + 2) c10).ownBlock = some q ∧ ((w0.alloc (.cells #[.string (ofN li), .string (ofN li)] 9)).alloc (.cells #[.slice aA nA cA, .slice aB nB cB] 29)).heap.size ≤ q := hat.elim (fun e => .inl e.symm) (fun e => .inr ⟨g10, rfl, e⟩)
    have HS10 := hide ((unhide HS9).appL (us := [.slice aA nA cA, .slice aB nB cB]) hown rfl hgrow hat')
    have HM10 := hide ((unhide HM9).appL hgrow hat')
    clear hown hold hgrow hat hat'
    have hT10 := unhide HC _ _ _ _ _ (unhide HS10)
    refine hK _ _ ⟨fun _ => hT10, ?_⟩
    clear hK KK
    try simp only [Act.put, List.setIfInBounds_toArray, List.set_cons_zero, List.set_cons_succ]
    refine Zz.wpAnyZ_one 11 (by kernel_rfl) rfl (fun KK hK => ?_)
    refine step_append_keeps 23 rfl rfl (.tmp 17) (.tmp 22) 25 rfl B 9 i2 (.string .empty) 1 16 Tryd.underlying25 ri rz0 rz1 rz2 rfl (by decide) (.slice aW ys.length cW) ys.length ys (by first | rfl | simp [Act.eval]) (unhide HS10).rw ⟨w0.heap.size, 0, none⟩ 2 2 [.string (ofN li), .string (ofN li)] (by first | rfl | simp [Act.eval]) (by rfl) (unhide HM10).news (by simp [Value.oneCell']) (by decide) (by unfold maxLen; omega) (by omega) (Nat.le_trans (unhide HS10).bs (unhide HS10).fr.size) ?_
    intro g11 c11 w11 hown hold hgrow hat
    have hat' : (Value.slice (some ⟨g11, 0, none⟩) (ys.length + 2) c11).ownBlock = (Value.slice aW ys.length cW).ownBlock ∨ ∃ q, (Value.slice (some ⟨g11, 0, none⟩) (ys.length + 2) c11).ownBlock = some q ∧ w10.heap.size ≤ q := hat.elim (fun e => .inl e.symm) (fun e => .inr ⟨g11, rfl, e⟩)
    have HS11 := hide ((unhide HS10).appW (us := [.string (ofN li), .string (ofN li)]) hown rfl hgrow hat')
    clear hown hold hgrow hat hat'
    have hT11 := unhide HC _ _ _ _ _ (unhide HS11)
    refine hK _ _ ⟨fun _ => hT11, ?_⟩
    clear hK KK
    try simp only [Act.put, List.setIfInBounds_toArray, List.set_cons_zero, List.set_cons_succ]
    have hT := hT11
    refine Zz.wpAnyZ_tk 12 (.slice (some ⟨g10, 0, none⟩) (xs.length + 2) c10) 10 rfl rfl (Or.inl ⟨by rfl, fun w hw => by go_simp⟩) hT ?_
    simp only [Act.put, List.setIfInBounds_toArray, List.set_cons_zero, List.set_cons_succ]
    refine Zz.wpAnyZ_tk 13 (.slice (some ⟨g11, 0, none⟩) (ys.length + 2) c11) 11 rfl rfl (Or.inl ⟨by rfl, fun w hw => by go_simp⟩) hT ?_
    simp only [Act.put, List.setIfInBounds_toArray, List.set_cons_zero, List.set_cons_succ]
    refine Zz.wpAnyZ_done (by kernel_rfl) ?_
    go_wp2
    go_ret2
    exact ⟨_, _, _, _, _, _, rfl, unhide HE _ _ _ (unhide HS11)⟩
end Go.Proofs.YtlblllghgdfpoaaDoor
