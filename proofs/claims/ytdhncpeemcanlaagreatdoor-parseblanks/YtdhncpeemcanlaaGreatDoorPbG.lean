import Derived.Test.YtdhncpeemcanlaaGreatDoorJ26

namespace Go.Proofs.YtdhncpeemcanlaaGreatDoor
open Go.RowKit
attribute [local go_sem ↓] Go.wp_at_zero Go.wp_at_succ

set_option maxRecDepth 100000 in
set_option maxHeartbeats 4000000 in
theorem mem5_any {α : Type} {lo b g : Nat} {nm : ByteArray} {ss : List Slot} {N : (Nat → Prop) → World → Prop} {V W w0 : World} {s : PSt} {sl : Slot} {r : Except (Int × Int) (α × PSt)} {N1 : α → Value → (Nat → Prop) → World → Prop} {pm pr bt : Nat} (h : Ap lo b g 51 nm ss N V W s w0) (hN : Stable N) (hN1 : ∀ a x, Stable (N1 a x)) (hi : ss[0]? = some sl) (hfit : Fit 48 sl bt N1) (hn : sl.n ≤ 100000)
    (hcs : ∀ P w, N P w → ∀ c ∈ ([(pm, #[.pointer (some ⟨g, 0, none⟩)], 128), (pr, #[.pointer (some ⟨b, 0, none⟩)], 80)] : List (Nat × Array Value × TypeId)), Cell1 c.1 c.2.1 c.2.2 P w) (hcall : ∀ w, Ap lo b g 51 nm ss N V W s w → Calls Tryz.prog 114 #[.pointer (some ⟨b, 0, none⟩), .int .i64 2] w (CR lo b N1 w r)) :
    Calls Tryz.prog 113 #[.pointer (some ⟨pm, 0, none⟩), .pointer (some ⟨pr, 0, none⟩)] w0 (CP lo b g 51 nm ss N V W 0 sl r N1) := by
  obtain ⟨va, vn, vc, hv⟩ := row_shape (h.bx.own 0 sl hi)
  obtain ⟨ei, und, sz0, bt0, fx⟩ := hfit
  have hbase := Ph.base (lo := lo) (b := b) (g := g) (T := 51) (nm := nm) (V := V) (W := W) (s := s) (r := r) (N1 := N1) hcs hi
  have hd := h.up hN (Below.refl w0.heap.size w0).drew
  go_enter Tryz.func113, Tryz.ntmps113
  refine region_app (z := 11) (N := 13) (c := 6) (by kernel_rfl) (fun k => k + 2) (fun k => [.pointer (some ⟨g, 0, none⟩), .pointer (some ⟨g, 0, none⟩), .pointer (some ⟨g, 0, none⟩), .pointer (some ⟨g, 1, none⟩), sl.v, .pointer (some ⟨b, 0, none⟩), undef, undef, undef, .pointer (some ⟨g, 0, none⟩), .pointer (some ⟨g, 1, none⟩)].getD k undef) (Ph lo b g 51 nm ss N V W s sl r N1) _ w0 rfl rfl (fun i j _ _ e => by omega) (fun i hi => by omega) (by kernel_rfl) (by omega) (by kernel_rfl) (by kernel_rfl) (by kernel_rfl) hd ?_ ?_ ?_ ?_ ?_
  · intro k tm w hk hq hsz hun hdep hph
    obtain ⟨ph, x, hph⟩ := hph
    have hB := hbase ph x w hph
    match k, hk with
    | 0, _ => exact op_load rfl rfl _ (.tmp 0) rfl (hun 0 (by intro i hi; omega)) (ld_msgptr w (hB.cell (List.mem_cons_self ..) rfl)) ⟨rfl, rfl⟩
    | 1, _ => exact op_load rfl rfl _ (.tmp 0) rfl (hun 0 (by intro i hi; omega)) (ld_msgptr w (hB.cell (List.mem_cons_self ..) rfl)) ⟨rfl, rfl⟩
    | 2, _ => exact op_nilCheck rfl rfl (.tmp 3) rfl (hdep 1 (by omega) (by kernel_rfl)) ⟨rfl, rfl⟩
    | 3, _ => exact op_field rfl rfl _ (.tmp 4) _ rfl (hdep 2 (by omega) (by kernel_rfl)) (fa_msg1 w) ⟨rfl, rfl⟩
    | 4, _ => exact op_load rfl rfl _ (.tmp 5) rfl (hdep 3 (by omega) (by kernel_rfl)) (by rw [hv]; exact ld_flds w (by rw [← hv]; exact hB.row hi)) ⟨rfl, rfl⟩
    | 5, _ => exact op_load rfl rfl _ (.tmp 1) rfl (hun 1 (by intro i hi; omega)) (ld_rptr w (hB.cell (List.mem_cons_of_mem _ (List.mem_cons_self ..)) rfl)) ⟨rfl, rfl⟩
    | 6, _ => omega
    | 7, _ => omega
    | 8, _ => omega
    | 9, _ => exact op_nilCheck rfl rfl (.tmp 2) rfl (hdep 0 (by omega) (by kernel_rfl)) ⟨rfl, rfl⟩
    | 10, _ => exact op_field rfl rfl _ (.tmp 11) _ rfl (hdep 9 (by omega) (by kernel_rfl)) (fa_msg1 w) ⟨rfl, rfl⟩
  · intro tm w hsz hun hdep hph
    have hap : Ap lo b g 51 nm ss N V W s w := hph
    refine op_callP rfl rfl 114 (cf_rlabelled w) _ _ rfl #[.pointer (some ⟨b, 0, none⟩), .int .i64 2] ?_ (hcall w hap) ?_
    · simp only [List.map_toArray, List.map_cons, List.map_nil, Act.eval]
      rw [show tm.getD 7 undef = _ from hdep 5 (by omega) (by kernel_rfl)]
      rfl
    · intro e w' hcr
      rcases Ph.call hN hN1 hph hcr with ⟨x, rfl, h1⟩ | ⟨y, hr, rfl, hs⟩
      · exact .inl ⟨x, rfl, x, rfl, h1⟩
      · exact .inr ⟨_, rfl, rfl, by unfold CP; rw [hr]; exact ⟨rfl, hs⟩⟩
  · intro tm w x hsz hx hph
    obtain ⟨a, s', hr, hn1, hap⟩ := id hph
    obtain ⟨f1, f2, f3⟩ := fx a x _ _ hn1
    exact op_bs rfl rfl _ _ _ rfl #[(0, x)] (by simp only [List.map_toArray, List.map_cons, List.map_nil, Act.eval]; rw [show tm.getD 8 undef = x from hx]) (f3 w) ⟨_, rfl, Ph.bs hN hN1 hph⟩
  · intro tm w y hsz hdep hy hph
    obtain ⟨a, s', x, gy, hr, rfl, hgy, hn1, hap⟩ := id hph
    obtain ⟨f1, f2, f3⟩ := fx a x _ _ hn1
    have hl := hap.bx.lt
    refine op_append_at w rfl rfl (.tmp 6) (.tmp 9) 48 rfl (g + 1) sl.t sl.sz bt und ei sz0 sl.v sl.n sl.xs (hdep 4 (by omega) (by kernel_rfl)) (hap.bx.own 0 sl hi) ⟨gy, 0, none⟩ 1 1 x.cells.toList hy (by rw [Array.length_toList, f1]; omega) (row_news hgy) f2 (by unfold maxLen; omega) (by have : (sl.n + 1) * bt ≤ 100001 * 1000 := Nat.mul_le_mul (by omega) bt0; omega) (by omega) ?_
    intro v' w' h1 h2 h3
    exact ⟨v', rfl, Ph.app hr hap h2 h1 h3⟩
  · intro tm w y hsz hun hval hy hph
    have hB := hbase 3 y w hph
    obtain ⟨a, s', x, w2, hr, h1, h2, h3, h4⟩ := id hph
    obtain ⟨ya, yn, yc, rfl⟩ := row_shape h3
    refine op_store rfl rfl _ (.tmp 12) (.tmp 10) rfl (hval 10 (by omega) (by omega)) hy (st_flds w (hB.row hi) (hB.frozen _)) ?_
    go_end0
    exact Ph.last hN hN1 hi hph
set_option maxRecDepth 100000 in
set_option maxHeartbeats 4000000 in
theorem mem6_any {α : Type} {lo b g : Nat} {nm : ByteArray} {ss : List Slot} {N : (Nat → Prop) → World → Prop} {V W w0 : World} {s : PSt} {sl : Slot} {r : Except (Int × Int) (α × PSt)} {N1 : α → Value → (Nat → Prop) → World → Prop} {pm pr bt : Nat} (h : Ap lo b g 51 nm ss N V W s w0) (hN : Stable N) (hN1 : ∀ a x, Stable (N1 a x)) (hi : ss[0]? = some sl) (hfit : Fit 48 sl bt N1) (hn : sl.n ≤ 100000)
    (hcs : ∀ P w, N P w → ∀ c ∈ ([(pm, #[.pointer (some ⟨g, 0, none⟩)], 128), (pr, #[.pointer (some ⟨b, 0, none⟩)], 80)] : List (Nat × Array Value × TypeId)), Cell1 c.1 c.2.1 c.2.2 P w) (hcall : ∀ w, Ap lo b g 51 nm ss N V W s w → Calls Tryz.prog 114 #[.pointer (some ⟨b, 0, none⟩), .int .i64 3] w (CR lo b N1 w r)) :
    Calls Tryz.prog 115 #[.pointer (some ⟨pm, 0, none⟩), .pointer (some ⟨pr, 0, none⟩)] w0 (CP lo b g 51 nm ss N V W 0 sl r N1) := by
  obtain ⟨va, vn, vc, hv⟩ := row_shape (h.bx.own 0 sl hi)
  obtain ⟨ei, und, sz0, bt0, fx⟩ := hfit
  have hbase := Ph.base (lo := lo) (b := b) (g := g) (T := 51) (nm := nm) (V := V) (W := W) (s := s) (r := r) (N1 := N1) hcs hi
  have hd := h.up hN (Below.refl w0.heap.size w0).drew
  go_enter Tryz.func115, Tryz.ntmps115
  refine region_app (z := 11) (N := 13) (c := 6) (by kernel_rfl) (fun k => k + 2) (fun k => [.pointer (some ⟨g, 0, none⟩), .pointer (some ⟨g, 0, none⟩), .pointer (some ⟨g, 0, none⟩), .pointer (some ⟨g, 1, none⟩), sl.v, .pointer (some ⟨b, 0, none⟩), undef, undef, undef, .pointer (some ⟨g, 0, none⟩), .pointer (some ⟨g, 1, none⟩)].getD k undef) (Ph lo b g 51 nm ss N V W s sl r N1) _ w0 rfl rfl (fun i j _ _ e => by omega) (fun i hi => by omega) (by kernel_rfl) (by omega) (by kernel_rfl) (by kernel_rfl) (by kernel_rfl) hd ?_ ?_ ?_ ?_ ?_
  · intro k tm w hk hq hsz hun hdep hph
    obtain ⟨ph, x, hph⟩ := hph
    have hB := hbase ph x w hph
    match k, hk with
    | 0, _ => exact op_load rfl rfl _ (.tmp 0) rfl (hun 0 (by intro i hi; omega)) (ld_msgptr w (hB.cell (List.mem_cons_self ..) rfl)) ⟨rfl, rfl⟩
    | 1, _ => exact op_load rfl rfl _ (.tmp 0) rfl (hun 0 (by intro i hi; omega)) (ld_msgptr w (hB.cell (List.mem_cons_self ..) rfl)) ⟨rfl, rfl⟩
    | 2, _ => exact op_nilCheck rfl rfl (.tmp 3) rfl (hdep 1 (by omega) (by kernel_rfl)) ⟨rfl, rfl⟩
    | 3, _ => exact op_field rfl rfl _ (.tmp 4) _ rfl (hdep 2 (by omega) (by kernel_rfl)) (fa_msg1 w) ⟨rfl, rfl⟩
    | 4, _ => exact op_load rfl rfl _ (.tmp 5) rfl (hdep 3 (by omega) (by kernel_rfl)) (by rw [hv]; exact ld_flds w (by rw [← hv]; exact hB.row hi)) ⟨rfl, rfl⟩
    | 5, _ => exact op_load rfl rfl _ (.tmp 1) rfl (hun 1 (by intro i hi; omega)) (ld_rptr w (hB.cell (List.mem_cons_of_mem _ (List.mem_cons_self ..)) rfl)) ⟨rfl, rfl⟩
    | 6, _ => omega
    | 7, _ => omega
    | 8, _ => omega
    | 9, _ => exact op_nilCheck rfl rfl (.tmp 2) rfl (hdep 0 (by omega) (by kernel_rfl)) ⟨rfl, rfl⟩
    | 10, _ => exact op_field rfl rfl _ (.tmp 11) _ rfl (hdep 9 (by omega) (by kernel_rfl)) (fa_msg1 w) ⟨rfl, rfl⟩
  · intro tm w hsz hun hdep hph
    have hap : Ap lo b g 51 nm ss N V W s w := hph
    refine op_callP rfl rfl 114 (cf_rlabelled w) _ _ rfl #[.pointer (some ⟨b, 0, none⟩), .int .i64 3] ?_ (hcall w hap) ?_
    · simp only [List.map_toArray, List.map_cons, List.map_nil, Act.eval]
      rw [show tm.getD 7 undef = _ from hdep 5 (by omega) (by kernel_rfl)]
      rfl
    · intro e w' hcr
      rcases Ph.call hN hN1 hph hcr with ⟨x, rfl, h1⟩ | ⟨y, hr, rfl, hs⟩
      · exact .inl ⟨x, rfl, x, rfl, h1⟩
      · exact .inr ⟨_, rfl, rfl, by unfold CP; rw [hr]; exact ⟨rfl, hs⟩⟩
  · intro tm w x hsz hx hph
    obtain ⟨a, s', hr, hn1, hap⟩ := id hph
    obtain ⟨f1, f2, f3⟩ := fx a x _ _ hn1
    exact op_bs rfl rfl _ _ _ rfl #[(0, x)] (by simp only [List.map_toArray, List.map_cons, List.map_nil, Act.eval]; rw [show tm.getD 8 undef = x from hx]) (f3 w) ⟨_, rfl, Ph.bs hN hN1 hph⟩
  · intro tm w y hsz hdep hy hph
    obtain ⟨a, s', x, gy, hr, rfl, hgy, hn1, hap⟩ := id hph
    obtain ⟨f1, f2, f3⟩ := fx a x _ _ hn1
    have hl := hap.bx.lt
    refine op_append_at w rfl rfl (.tmp 6) (.tmp 9) 48 rfl (g + 1) sl.t sl.sz bt und ei sz0 sl.v sl.n sl.xs (hdep 4 (by omega) (by kernel_rfl)) (hap.bx.own 0 sl hi) ⟨gy, 0, none⟩ 1 1 x.cells.toList hy (by rw [Array.length_toList, f1]; omega) (row_news hgy) f2 (by unfold maxLen; omega) (by have : (sl.n + 1) * bt ≤ 100001 * 1000 := Nat.mul_le_mul (by omega) bt0; omega) (by omega) ?_
    intro v' w' h1 h2 h3
    exact ⟨v', rfl, Ph.app hr hap h2 h1 h3⟩
  · intro tm w y hsz hun hval hy hph
    have hB := hbase 3 y w hph
    obtain ⟨a, s', x, w2, hr, h1, h2, h3, h4⟩ := id hph
    obtain ⟨ya, yn, yc, rfl⟩ := row_shape h3
    refine op_store rfl rfl _ (.tmp 12) (.tmp 10) rfl (hval 10 (by omega) (by omega)) hy (st_flds w (hB.row hi) (hB.frozen _)) ?_
    go_end0
    exact Ph.last hN hN1 hi hph
set_option maxRecDepth 100000 in
set_option maxHeartbeats 4000000 in
theorem mem7_any {α : Type} {lo b g : Nat} {nm : ByteArray} {ss : List Slot} {N : (Nat → Prop) → World → Prop} {V W w0 : World} {s : PSt} {sl : Slot} {r : Except (Int × Int) (α × PSt)} {N1 : α → Value → (Nat → Prop) → World → Prop} {pm pr bt : Nat} (h : Ap lo b g 51 nm ss N V W s w0) (hN : Stable N) (hN1 : ∀ a x, Stable (N1 a x)) (hi : ss[0]? = some sl) (hfit : Fit 48 sl bt N1) (hn : sl.n ≤ 100000)
    (hcs : ∀ P w, N P w → ∀ c ∈ ([(pm, #[.pointer (some ⟨g, 0, none⟩)], 128), (pr, #[.pointer (some ⟨b, 0, none⟩)], 80)] : List (Nat × Array Value × TypeId)), Cell1 c.1 c.2.1 c.2.2 P w) (hcall : ∀ w, Ap lo b g 51 nm ss N V W s w → Calls Tryz.prog 117 #[.pointer (some ⟨b, 0, none⟩)] w (CR lo b N1 w r)) :
    Calls Tryz.prog 116 #[.pointer (some ⟨pm, 0, none⟩), .pointer (some ⟨pr, 0, none⟩)] w0 (CP lo b g 51 nm ss N V W 0 sl r N1) := by
  obtain ⟨va, vn, vc, hv⟩ := row_shape (h.bx.own 0 sl hi)
  obtain ⟨ei, und, sz0, bt0, fx⟩ := hfit
  have hbase := Ph.base (lo := lo) (b := b) (g := g) (T := 51) (nm := nm) (V := V) (W := W) (s := s) (r := r) (N1 := N1) hcs hi
  have hd := h.up hN (Below.refl w0.heap.size w0).drew
  go_enter Tryz.func116, Tryz.ntmps116
  refine region_app (z := 11) (N := 13) (c := 6) (by kernel_rfl) (fun k => k + 2) (fun k => [.pointer (some ⟨g, 0, none⟩), .pointer (some ⟨g, 0, none⟩), .pointer (some ⟨g, 0, none⟩), .pointer (some ⟨g, 1, none⟩), sl.v, .pointer (some ⟨b, 0, none⟩), undef, undef, undef, .pointer (some ⟨g, 0, none⟩), .pointer (some ⟨g, 1, none⟩)].getD k undef) (Ph lo b g 51 nm ss N V W s sl r N1) _ w0 rfl rfl (fun i j _ _ e => by omega) (fun i hi => by omega) (by kernel_rfl) (by omega) (by kernel_rfl) (by kernel_rfl) (by kernel_rfl) hd ?_ ?_ ?_ ?_ ?_
  · intro k tm w hk hq hsz hun hdep hph
    obtain ⟨ph, x, hph⟩ := hph
    have hB := hbase ph x w hph
    match k, hk with
    | 0, _ => exact op_load rfl rfl _ (.tmp 0) rfl (hun 0 (by intro i hi; omega)) (ld_msgptr w (hB.cell (List.mem_cons_self ..) rfl)) ⟨rfl, rfl⟩
    | 1, _ => exact op_load rfl rfl _ (.tmp 0) rfl (hun 0 (by intro i hi; omega)) (ld_msgptr w (hB.cell (List.mem_cons_self ..) rfl)) ⟨rfl, rfl⟩
    | 2, _ => exact op_nilCheck rfl rfl (.tmp 3) rfl (hdep 1 (by omega) (by kernel_rfl)) ⟨rfl, rfl⟩
    | 3, _ => exact op_field rfl rfl _ (.tmp 4) _ rfl (hdep 2 (by omega) (by kernel_rfl)) (fa_msg1 w) ⟨rfl, rfl⟩
    | 4, _ => exact op_load rfl rfl _ (.tmp 5) rfl (hdep 3 (by omega) (by kernel_rfl)) (by rw [hv]; exact ld_flds w (by rw [← hv]; exact hB.row hi)) ⟨rfl, rfl⟩
    | 5, _ => exact op_load rfl rfl _ (.tmp 1) rfl (hun 1 (by intro i hi; omega)) (ld_rptr w (hB.cell (List.mem_cons_of_mem _ (List.mem_cons_self ..)) rfl)) ⟨rfl, rfl⟩
    | 6, _ => omega
    | 7, _ => omega
    | 8, _ => omega
    | 9, _ => exact op_nilCheck rfl rfl (.tmp 2) rfl (hdep 0 (by omega) (by kernel_rfl)) ⟨rfl, rfl⟩
    | 10, _ => exact op_field rfl rfl _ (.tmp 11) _ rfl (hdep 9 (by omega) (by kernel_rfl)) (fa_msg1 w) ⟨rfl, rfl⟩
  · intro tm w hsz hun hdep hph
    have hap : Ap lo b g 51 nm ss N V W s w := hph
    refine op_callP rfl rfl 117 (cf_rmapOrField w) _ _ rfl #[.pointer (some ⟨b, 0, none⟩)] ?_ (hcall w hap) ?_
    · simp only [List.map_toArray, List.map_cons, List.map_nil, Act.eval]
      rw [show tm.getD 7 undef = _ from hdep 5 (by omega) (by kernel_rfl)]
      rfl
    · intro e w' hcr
      rcases Ph.call hN hN1 hph hcr with ⟨x, rfl, h1⟩ | ⟨y, hr, rfl, hs⟩
      · exact .inl ⟨x, rfl, x, rfl, h1⟩
      · exact .inr ⟨_, rfl, rfl, by unfold CP; rw [hr]; exact ⟨rfl, hs⟩⟩
  · intro tm w x hsz hx hph
    obtain ⟨a, s', hr, hn1, hap⟩ := id hph
    obtain ⟨f1, f2, f3⟩ := fx a x _ _ hn1
    exact op_bs rfl rfl _ _ _ rfl #[(0, x)] (by simp only [List.map_toArray, List.map_cons, List.map_nil, Act.eval]; rw [show tm.getD 8 undef = x from hx]) (f3 w) ⟨_, rfl, Ph.bs hN hN1 hph⟩
  · intro tm w y hsz hdep hy hph
    obtain ⟨a, s', x, gy, hr, rfl, hgy, hn1, hap⟩ := id hph
    obtain ⟨f1, f2, f3⟩ := fx a x _ _ hn1
    have hl := hap.bx.lt
    refine op_append_at w rfl rfl (.tmp 6) (.tmp 9) 48 rfl (g + 1) sl.t sl.sz bt und ei sz0 sl.v sl.n sl.xs (hdep 4 (by omega) (by kernel_rfl)) (hap.bx.own 0 sl hi) ⟨gy, 0, none⟩ 1 1 x.cells.toList hy (by rw [Array.length_toList, f1]; omega) (row_news hgy) f2 (by unfold maxLen; omega) (by have : (sl.n + 1) * bt ≤ 100001 * 1000 := Nat.mul_le_mul (by omega) bt0; omega) (by omega) ?_
    intro v' w' h1 h2 h3
    exact ⟨v', rfl, Ph.app hr hap h2 h1 h3⟩
  · intro tm w y hsz hun hval hy hph
    have hB := hbase 3 y w hph
    obtain ⟨a, s', x, w2, hr, h1, h2, h3, h4⟩ := id hph
    obtain ⟨ya, yn, yc, rfl⟩ := row_shape h3
    refine op_store rfl rfl _ (.tmp 12) (.tmp 10) rfl (hval 10 (by omega) (by omega)) hy (st_flds w (hB.row hi) (hB.frozen _)) ?_
    go_end0
    exact Ph.last hN hN1 hi hph
set_option maxRecDepth 100000 in
set_option maxHeartbeats 4000000 in
theorem mem2_any {α : Type} {lo b g : Nat} {nm : ByteArray} {ss : List Slot} {N : (Nat → Prop) → World → Prop} {V W w0 : World} {s : PSt} {sl : Slot} {r : Except (Int × Int) (α × PSt)} {N1 : α → Value → (Nat → Prop) → World → Prop} {pm pr bt : Nat} (h : Ap lo b g 51 nm ss N V W s w0) (hN : Stable N) (hN1 : ∀ a x, Stable (N1 a x)) (hi : ss[3]? = some sl) (hfit : Fit 32 sl bt N1) (hn : sl.n ≤ 100000)
    (hcs : ∀ P w, N P w → ∀ c ∈ ([(pm, #[.pointer (some ⟨g, 0, none⟩)], 128), (pr, #[.pointer (some ⟨b, 0, none⟩)], 80)] : List (Nat × Array Value × TypeId)), Cell1 c.1 c.2.1 c.2.2 P w) (hcall : ∀ w, Ap lo b g 51 nm ss N V W s w → Calls Tryz.prog 73 #[.pointer (some ⟨b, 0, none⟩)] w (CR lo b N1 w r)) :
    Calls Tryz.prog 108 #[.pointer (some ⟨pm, 0, none⟩), .pointer (some ⟨pr, 0, none⟩)] w0 (CP lo b g 51 nm ss N V W 3 sl r N1) := by
  obtain ⟨va, vn, vc, hv⟩ := row_shape (h.bx.own 3 sl hi)
  obtain ⟨ei, und, sz0, bt0, fx⟩ := hfit
  have hbase := Ph.base (lo := lo) (b := b) (g := g) (T := 51) (nm := nm) (V := V) (W := W) (s := s) (r := r) (N1 := N1) hcs hi
  have hd := h.up hN (Below.refl w0.heap.size w0).drew
  go_enter Tryz.func108, Tryz.ntmps108
  refine region_app (z := 11) (N := 13) (c := 6) (by kernel_rfl) (fun k => k + 2) (fun k => [.pointer (some ⟨g, 0, none⟩), .pointer (some ⟨g, 0, none⟩), .pointer (some ⟨g, 0, none⟩), .pointer (some ⟨g, 4, none⟩), sl.v, .pointer (some ⟨b, 0, none⟩), undef, undef, undef, .pointer (some ⟨g, 0, none⟩), .pointer (some ⟨g, 4, none⟩)].getD k undef) (Ph lo b g 51 nm ss N V W s sl r N1) _ w0 rfl rfl (fun i j _ _ e => by omega) (fun i hi => by omega) (by kernel_rfl) (by omega) (by kernel_rfl) (by kernel_rfl) (by kernel_rfl) hd ?_ ?_ ?_ ?_ ?_
  · intro k tm w hk hq hsz hun hdep hph
    obtain ⟨ph, x, hph⟩ := hph
    have hB := hbase ph x w hph
    match k, hk with
    | 0, _ => exact op_load rfl rfl _ (.tmp 0) rfl (hun 0 (by intro i hi; omega)) (ld_msgptr w (hB.cell (List.mem_cons_self ..) rfl)) ⟨rfl, rfl⟩
    | 1, _ => exact op_load rfl rfl _ (.tmp 0) rfl (hun 0 (by intro i hi; omega)) (ld_msgptr w (hB.cell (List.mem_cons_self ..) rfl)) ⟨rfl, rfl⟩
    | 2, _ => exact op_nilCheck rfl rfl (.tmp 3) rfl (hdep 1 (by omega) (by kernel_rfl)) ⟨rfl, rfl⟩
    | 3, _ => exact op_field rfl rfl _ (.tmp 4) _ rfl (hdep 2 (by omega) (by kernel_rfl)) (fa_msg4 w) ⟨rfl, rfl⟩
    | 4, _ => exact op_load rfl rfl _ (.tmp 5) rfl (hdep 3 (by omega) (by kernel_rfl)) (by rw [hv]; exact ld_enums w (by rw [← hv]; exact hB.row hi)) ⟨rfl, rfl⟩
    | 5, _ => exact op_load rfl rfl _ (.tmp 1) rfl (hun 1 (by intro i hi; omega)) (ld_rptr w (hB.cell (List.mem_cons_of_mem _ (List.mem_cons_self ..)) rfl)) ⟨rfl, rfl⟩
    | 6, _ => omega
    | 7, _ => omega
    | 8, _ => omega
    | 9, _ => exact op_nilCheck rfl rfl (.tmp 2) rfl (hdep 0 (by omega) (by kernel_rfl)) ⟨rfl, rfl⟩
    | 10, _ => exact op_field rfl rfl _ (.tmp 11) _ rfl (hdep 9 (by omega) (by kernel_rfl)) (fa_msg4 w) ⟨rfl, rfl⟩
  · intro tm w hsz hun hdep hph
    have hap : Ap lo b g 51 nm ss N V W s w := hph
    refine op_callP rfl rfl 73 (cf_renum w) _ _ rfl #[.pointer (some ⟨b, 0, none⟩)] ?_ (hcall w hap) ?_
    · simp only [List.map_toArray, List.map_cons, List.map_nil, Act.eval]
      rw [show tm.getD 7 undef = _ from hdep 5 (by omega) (by kernel_rfl)]
      rfl
    · intro e w' hcr
      rcases Ph.call hN hN1 hph hcr with ⟨x, rfl, h1⟩ | ⟨y, hr, rfl, hs⟩
      · exact .inl ⟨x, rfl, x, rfl, h1⟩
      · exact .inr ⟨_, rfl, rfl, by unfold CP; rw [hr]; exact ⟨rfl, hs⟩⟩
  · intro tm w x hsz hx hph
    obtain ⟨a, s', hr, hn1, hap⟩ := id hph
    obtain ⟨f1, f2, f3⟩ := fx a x _ _ hn1
    exact op_bs rfl rfl _ _ _ rfl #[(0, x)] (by simp only [List.map_toArray, List.map_cons, List.map_nil, Act.eval]; rw [show tm.getD 8 undef = x from hx]) (f3 w) ⟨_, rfl, Ph.bs hN hN1 hph⟩
  · intro tm w y hsz hdep hy hph
    obtain ⟨a, s', x, gy, hr, rfl, hgy, hn1, hap⟩ := id hph
    obtain ⟨f1, f2, f3⟩ := fx a x _ _ hn1
    have hl := hap.bx.lt
    refine op_append_at w rfl rfl (.tmp 6) (.tmp 9) 32 rfl (g + 1) sl.t sl.sz bt und ei sz0 sl.v sl.n sl.xs (hdep 4 (by omega) (by kernel_rfl)) (hap.bx.own 3 sl hi) ⟨gy, 0, none⟩ 1 1 x.cells.toList hy (by rw [Array.length_toList, f1]; omega) (row_news hgy) f2 (by unfold maxLen; omega) (by have : (sl.n + 1) * bt ≤ 100001 * 1000 := Nat.mul_le_mul (by omega) bt0; omega) (by omega) ?_
    intro v' w' h1 h2 h3
    exact ⟨v', rfl, Ph.app hr hap h2 h1 h3⟩
  · intro tm w y hsz hun hval hy hph
    have hB := hbase 3 y w hph
    obtain ⟨a, s', x, w2, hr, h1, h2, h3, h4⟩ := id hph
    obtain ⟨ya, yn, yc, rfl⟩ := row_shape h3
    refine op_store rfl rfl _ (.tmp 12) (.tmp 10) rfl (hval 10 (by omega) (by omega)) hy (st_enums w (hB.row hi) (hB.frozen _)) ?_
    go_end0
    exact Ph.last hN hN1 hi hph
set_option maxRecDepth 100000 in
set_option maxHeartbeats 4000000 in
theorem top2_any {α : Type} {lo b g : Nat} {nm : ByteArray} {ss : List Slot} {N : (Nat → Prop) → World → Prop} {V W w0 : World} {s : PSt} {sl : Slot} {r : Except (Int × Int) (α × PSt)} {N1 : α → Value → (Nat → Prop) → World → Prop} {pm pr bt : Nat} (h : Ap lo b g 34 nm ss N V W s w0) (hN : Stable N) (hN1 : ∀ a x, Stable (N1 a x)) (hi : ss[0]? = some sl) (hfit : Fit 30 sl bt N1) (hn : sl.n ≤ 100000)
    (hcs : ∀ P w, N P w → ∀ c ∈ ([(pm, #[.pointer (some ⟨g, 0, none⟩)], 104), (pr, #[.pointer (some ⟨b, 0, none⟩)], 80)] : List (Nat × Array Value × TypeId)), Cell1 c.1 c.2.1 c.2.2 P w) (hcall : ∀ w, Ap lo b g 34 nm ss N V W s w → Calls Tryz.prog 69 #[.pointer (some ⟨b, 0, none⟩)] w (CR lo b N1 w r)) :
    Calls Tryz.prog 68 #[.pointer (some ⟨pm, 0, none⟩), .pointer (some ⟨pr, 0, none⟩)] w0 (CP lo b g 34 nm ss N V W 0 sl r N1) := by
  obtain ⟨va, vn, vc, hv⟩ := row_shape (h.bx.own 0 sl hi)
  obtain ⟨ei, und, sz0, bt0, fx⟩ := hfit
  have hbase := Ph.base (lo := lo) (b := b) (g := g) (T := 34) (nm := nm) (V := V) (W := W) (s := s) (r := r) (N1 := N1) hcs hi
  have hd := h.up hN (Below.refl w0.heap.size w0).drew
  go_enter Tryz.func68, Tryz.ntmps68
  refine region_app (z := 11) (N := 13) (c := 6) (by kernel_rfl) (fun k => k + 2) (fun k => [.pointer (some ⟨g, 0, none⟩), .pointer (some ⟨g, 0, none⟩), .pointer (some ⟨g, 0, none⟩), .pointer (some ⟨g, 1, none⟩), sl.v, .pointer (some ⟨b, 0, none⟩), undef, undef, undef, .pointer (some ⟨g, 0, none⟩), .pointer (some ⟨g, 1, none⟩)].getD k undef) (Ph lo b g 34 nm ss N V W s sl r N1) _ w0 rfl rfl (fun i j _ _ e => by omega) (fun i hi => by omega) (by kernel_rfl) (by omega) (by kernel_rfl) (by kernel_rfl) (by kernel_rfl) hd ?_ ?_ ?_ ?_ ?_
  · intro k tm w hk hq hsz hun hdep hph
    obtain ⟨ph, x, hph⟩ := hph
    have hB := hbase ph x w hph
    match k, hk with
    | 0, _ => exact op_load rfl rfl _ (.tmp 0) rfl (hun 0 (by intro i hi; omega)) (ld_fileptr w (hB.cell (List.mem_cons_self ..) rfl)) ⟨rfl, rfl⟩
    | 1, _ => exact op_load rfl rfl _ (.tmp 0) rfl (hun 0 (by intro i hi; omega)) (ld_fileptr w (hB.cell (List.mem_cons_self ..) rfl)) ⟨rfl, rfl⟩
    | 2, _ => exact op_nilCheck rfl rfl (.tmp 3) rfl (hdep 1 (by omega) (by kernel_rfl)) ⟨rfl, rfl⟩
    | 3, _ => exact op_field rfl rfl _ (.tmp 4) _ rfl (hdep 2 (by omega) (by kernel_rfl)) (fa_file1 w) ⟨rfl, rfl⟩
    | 4, _ => exact op_load rfl rfl _ (.tmp 5) rfl (hdep 3 (by omega) (by kernel_rfl)) (by rw [hv]; exact ld_strs w (by rw [← hv]; exact hB.row hi)) ⟨rfl, rfl⟩
    | 5, _ => exact op_load rfl rfl _ (.tmp 1) rfl (hun 1 (by intro i hi; omega)) (ld_rptr w (hB.cell (List.mem_cons_of_mem _ (List.mem_cons_self ..)) rfl)) ⟨rfl, rfl⟩
    | 6, _ => omega
    | 7, _ => omega
    | 8, _ => omega
    | 9, _ => exact op_nilCheck rfl rfl (.tmp 2) rfl (hdep 0 (by omega) (by kernel_rfl)) ⟨rfl, rfl⟩
    | 10, _ => exact op_field rfl rfl _ (.tmp 11) _ rfl (hdep 9 (by omega) (by kernel_rfl)) (fa_file1 w) ⟨rfl, rfl⟩
  · intro tm w hsz hun hdep hph
    have hap : Ap lo b g 34 nm ss N V W s w := hph
    refine op_callP rfl rfl 69 (cf_rimported w) _ _ rfl #[.pointer (some ⟨b, 0, none⟩)] ?_ (hcall w hap) ?_
    · simp only [List.map_toArray, List.map_cons, List.map_nil, Act.eval]
      rw [show tm.getD 7 undef = _ from hdep 5 (by omega) (by kernel_rfl)]
      rfl
    · intro e w' hcr
      rcases Ph.call hN hN1 hph hcr with ⟨x, rfl, h1⟩ | ⟨y, hr, rfl, hs⟩
      · exact .inl ⟨x, rfl, x, rfl, h1⟩
      · exact .inr ⟨_, rfl, rfl, by unfold CP; rw [hr]; exact ⟨rfl, hs⟩⟩
  · intro tm w x hsz hx hph
    obtain ⟨a, s', hr, hn1, hap⟩ := id hph
    obtain ⟨f1, f2, f3⟩ := fx a x _ _ hn1
    exact op_bs rfl rfl _ _ _ rfl #[(0, x)] (by simp only [List.map_toArray, List.map_cons, List.map_nil, Act.eval]; rw [show tm.getD 8 undef = x from hx]) (f3 w) ⟨_, rfl, Ph.bs hN hN1 hph⟩
  · intro tm w y hsz hdep hy hph
    obtain ⟨a, s', x, gy, hr, rfl, hgy, hn1, hap⟩ := id hph
    obtain ⟨f1, f2, f3⟩ := fx a x _ _ hn1
    have hl := hap.bx.lt
    refine op_append_at w rfl rfl (.tmp 6) (.tmp 9) 30 rfl (g + 1) sl.t sl.sz bt und ei sz0 sl.v sl.n sl.xs (hdep 4 (by omega) (by kernel_rfl)) (hap.bx.own 0 sl hi) ⟨gy, 0, none⟩ 1 1 x.cells.toList hy (by rw [Array.length_toList, f1]; omega) (row_news hgy) f2 (by unfold maxLen; omega) (by have : (sl.n + 1) * bt ≤ 100001 * 1000 := Nat.mul_le_mul (by omega) bt0; omega) (by omega) ?_
    intro v' w' h1 h2 h3
    exact ⟨v', rfl, Ph.app hr hap h2 h1 h3⟩
  · intro tm w y hsz hun hval hy hph
    have hB := hbase 3 y w hph
    obtain ⟨a, s', x, w2, hr, h1, h2, h3, h4⟩ := id hph
    obtain ⟨ya, yn, yc, rfl⟩ := row_shape h3
    refine op_store rfl rfl _ (.tmp 12) (.tmp 10) rfl (hval 10 (by omega) (by omega)) hy (st_strs w (hB.row hi) (hB.frozen _)) ?_
    go_end0
    exact Ph.last hN hN1 hi hph
set_option maxRecDepth 100000 in
set_option maxHeartbeats 4000000 in
theorem top4_any {α : Type} {lo b g : Nat} {nm : ByteArray} {ss : List Slot} {N : (Nat → Prop) → World → Prop} {V W w0 : World} {s : PSt} {sl : Slot} {r : Except (Int × Int) (α × PSt)} {N1 : α → Value → (Nat → Prop) → World → Prop} {pm pr bt : Nat} (h : Ap lo b g 34 nm ss N V W s w0) (hN : Stable N) (hN1 : ∀ a x, Stable (N1 a x)) (hi : ss[2]? = some sl) (hfit : Fit 32 sl bt N1) (hn : sl.n ≤ 100000)
    (hcs : ∀ P w, N P w → ∀ c ∈ ([(pm, #[.pointer (some ⟨g, 0, none⟩)], 104), (pr, #[.pointer (some ⟨b, 0, none⟩)], 80)] : List (Nat × Array Value × TypeId)), Cell1 c.1 c.2.1 c.2.2 P w) (hcall : ∀ w, Ap lo b g 34 nm ss N V W s w → Calls Tryz.prog 73 #[.pointer (some ⟨b, 0, none⟩)] w (CR lo b N1 w r)) :
    Calls Tryz.prog 72 #[.pointer (some ⟨pm, 0, none⟩), .pointer (some ⟨pr, 0, none⟩)] w0 (CP lo b g 34 nm ss N V W 2 sl r N1) := by
  obtain ⟨va, vn, vc, hv⟩ := row_shape (h.bx.own 2 sl hi)
  obtain ⟨ei, und, sz0, bt0, fx⟩ := hfit
  have hbase := Ph.base (lo := lo) (b := b) (g := g) (T := 34) (nm := nm) (V := V) (W := W) (s := s) (r := r) (N1 := N1) hcs hi
  have hd := h.up hN (Below.refl w0.heap.size w0).drew
  go_enter Tryz.func72, Tryz.ntmps72
  refine region_app (z := 11) (N := 13) (c := 6) (by kernel_rfl) (fun k => k + 2) (fun k => [.pointer (some ⟨g, 0, none⟩), .pointer (some ⟨g, 0, none⟩), .pointer (some ⟨g, 0, none⟩), .pointer (some ⟨g, 3, none⟩), sl.v, .pointer (some ⟨b, 0, none⟩), undef, undef, undef, .pointer (some ⟨g, 0, none⟩), .pointer (some ⟨g, 3, none⟩)].getD k undef) (Ph lo b g 34 nm ss N V W s sl r N1) _ w0 rfl rfl (fun i j _ _ e => by omega) (fun i hi => by omega) (by kernel_rfl) (by omega) (by kernel_rfl) (by kernel_rfl) (by kernel_rfl) hd ?_ ?_ ?_ ?_ ?_
  · intro k tm w hk hq hsz hun hdep hph
    obtain ⟨ph, x, hph⟩ := hph
    have hB := hbase ph x w hph
    match k, hk with
    | 0, _ => exact op_load rfl rfl _ (.tmp 0) rfl (hun 0 (by intro i hi; omega)) (ld_fileptr w (hB.cell (List.mem_cons_self ..) rfl)) ⟨rfl, rfl⟩
    | 1, _ => exact op_load rfl rfl _ (.tmp 0) rfl (hun 0 (by intro i hi; omega)) (ld_fileptr w (hB.cell (List.mem_cons_self ..) rfl)) ⟨rfl, rfl⟩
    | 2, _ => exact op_nilCheck rfl rfl (.tmp 3) rfl (hdep 1 (by omega) (by kernel_rfl)) ⟨rfl, rfl⟩
    | 3, _ => exact op_field rfl rfl _ (.tmp 4) _ rfl (hdep 2 (by omega) (by kernel_rfl)) (fa_file3 w) ⟨rfl, rfl⟩
    | 4, _ => exact op_load rfl rfl _ (.tmp 5) rfl (hdep 3 (by omega) (by kernel_rfl)) (by rw [hv]; exact ld_enums w (by rw [← hv]; exact hB.row hi)) ⟨rfl, rfl⟩
    | 5, _ => exact op_load rfl rfl _ (.tmp 1) rfl (hun 1 (by intro i hi; omega)) (ld_rptr w (hB.cell (List.mem_cons_of_mem _ (List.mem_cons_self ..)) rfl)) ⟨rfl, rfl⟩
    | 6, _ => omega
    | 7, _ => omega
    | 8, _ => omega
    | 9, _ => exact op_nilCheck rfl rfl (.tmp 2) rfl (hdep 0 (by omega) (by kernel_rfl)) ⟨rfl, rfl⟩
    | 10, _ => exact op_field rfl rfl _ (.tmp 11) _ rfl (hdep 9 (by omega) (by kernel_rfl)) (fa_file3 w) ⟨rfl, rfl⟩
  · intro tm w hsz hun hdep hph
    have hap : Ap lo b g 34 nm ss N V W s w := hph
    refine op_callP rfl rfl 73 (cf_renum w) _ _ rfl #[.pointer (some ⟨b, 0, none⟩)] ?_ (hcall w hap) ?_
    · simp only [List.map_toArray, List.map_cons, List.map_nil, Act.eval]
      rw [show tm.getD 7 undef = _ from hdep 5 (by omega) (by kernel_rfl)]
      rfl
    · intro e w' hcr
      rcases Ph.call hN hN1 hph hcr with ⟨x, rfl, h1⟩ | ⟨y, hr, rfl, hs⟩
      · exact .inl ⟨x, rfl, x, rfl, h1⟩
      · exact .inr ⟨_, rfl, rfl, by unfold CP; rw [hr]; exact ⟨rfl, hs⟩⟩
  · intro tm w x hsz hx hph
    obtain ⟨a, s', hr, hn1, hap⟩ := id hph
    obtain ⟨f1, f2, f3⟩ := fx a x _ _ hn1
    exact op_bs rfl rfl _ _ _ rfl #[(0, x)] (by simp only [List.map_toArray, List.map_cons, List.map_nil, Act.eval]; rw [show tm.getD 8 undef = x from hx]) (f3 w) ⟨_, rfl, Ph.bs hN hN1 hph⟩
  · intro tm w y hsz hdep hy hph
    obtain ⟨a, s', x, gy, hr, rfl, hgy, hn1, hap⟩ := id hph
    obtain ⟨f1, f2, f3⟩ := fx a x _ _ hn1
    have hl := hap.bx.lt
    refine op_append_at w rfl rfl (.tmp 6) (.tmp 9) 32 rfl (g + 1) sl.t sl.sz bt und ei sz0 sl.v sl.n sl.xs (hdep 4 (by omega) (by kernel_rfl)) (hap.bx.own 2 sl hi) ⟨gy, 0, none⟩ 1 1 x.cells.toList hy (by rw [Array.length_toList, f1]; omega) (row_news hgy) f2 (by unfold maxLen; omega) (by have : (sl.n + 1) * bt ≤ 100001 * 1000 := Nat.mul_le_mul (by omega) bt0; omega) (by omega) ?_
    intro v' w' h1 h2 h3
    exact ⟨v', rfl, Ph.app hr hap h2 h1 h3⟩
  · intro tm w y hsz hun hval hy hph
    have hB := hbase 3 y w hph
    obtain ⟨a, s', x, w2, hr, h1, h2, h3, h4⟩ := id hph
    obtain ⟨ya, yn, yc, rfl⟩ := row_shape h3
    refine op_store rfl rfl _ (.tmp 12) (.tmp 10) rfl (hval 10 (by omega) (by omega)) hy (st_enums w (hB.row hi) (hB.frozen _)) ?_
    go_end0
    exact Ph.last hN hN1 hi hph
set_option maxRecDepth 100000 in
set_option maxHeartbeats 4000000 in
theorem msg1_any {α : Type} {lo b g : Nat} {nm : ByteArray} {ss : List Slot} {N : (Nat → Prop) → World → Prop} {V W w0 : World} {s : PSt} {sl : Slot} {r : Except (Int × Int) (α × PSt)} {N1 : α → Value → (Nat → Prop) → World → Prop} {pr bt : Nat} (h : Ap lo b g 51 nm ss N V W s w0) (hN : Stable N) (hN1 : ∀ a x, Stable (N1 a x)) (hi : ss[0]? = some sl) (hfit : Fit 48 sl bt N1) (hn : sl.n ≤ 100000)
    (hcs : ∀ P w, N P w → ∀ c ∈ ([(pr, #[.pointer (some ⟨b, 0, none⟩)], 80)] : List (Nat × Array Value × TypeId)), Cell1 c.1 c.2.1 c.2.2 P w) (hcall : ∀ w, Ap lo b g 51 nm ss N V W s w → Calls Tryz.prog 94 #[.pointer (some ⟨b, 0, none⟩), .int .i64 0] w (CR lo b N1 w r)) :
    Calls Tryz.prog 93 #[.pointer (some ⟨g, 0, none⟩), .pointer (some ⟨pr, 0, none⟩)] w0 (CP lo b g 51 nm ss N V W 0 sl r N1) := by
  obtain ⟨va, vn, vc, hv⟩ := row_shape (h.bx.own 0 sl hi)
  obtain ⟨ei, und, sz0, bt0, fx⟩ := hfit
  have hbase := Ph.base (lo := lo) (b := b) (g := g) (T := 51) (nm := nm) (V := V) (W := W) (s := s) (r := r) (N1 := N1) hcs hi
  have hd := h.up hN (Below.refl w0.heap.size w0).drew
  go_enter Tryz.func93, Tryz.ntmps93
  refine region_app (z := 7) (N := 9) (c := 3) (by kernel_rfl) (fun k => k + 2) (fun k => [.pointer (some ⟨g, 1, none⟩), sl.v, .pointer (some ⟨b, 0, none⟩), undef, undef, undef, .pointer (some ⟨g, 1, none⟩)].getD k undef) (Ph lo b g 51 nm ss N V W s sl r N1) _ w0 rfl rfl (fun i j _ _ e => by omega) (fun i hi => by omega) (by kernel_rfl) (by omega) (by kernel_rfl) (by kernel_rfl) (by kernel_rfl) hd ?_ ?_ ?_ ?_ ?_
  · intro k tm w hk hq hsz hun hdep hph
    obtain ⟨ph, x, hph⟩ := hph
    have hB := hbase ph x w hph
    match k, hk with
    | 0, _ => exact op_field rfl rfl _ (.tmp 0) _ rfl (hun 0 (by intro i hi; omega)) (fa_msg1 w) ⟨rfl, rfl⟩
    | 1, _ => exact op_load rfl rfl _ (.tmp 2) rfl (hdep 0 (by omega) (by kernel_rfl)) (by rw [hv]; exact ld_flds w (by rw [← hv]; exact hB.row hi)) ⟨rfl, rfl⟩
    | 2, _ => exact op_load rfl rfl _ (.tmp 1) rfl (hun 1 (by intro i hi; omega)) (ld_rptr w (hB.cell (List.mem_cons_self ..) rfl)) ⟨rfl, rfl⟩
    | 3, _ => omega
    | 4, _ => omega
    | 5, _ => omega
    | 6, _ => exact op_field rfl rfl _ (.tmp 0) _ rfl (hun 0 (by intro i hi; omega)) (fa_msg1 w) ⟨rfl, rfl⟩
  · intro tm w hsz hun hdep hph
    have hap : Ap lo b g 51 nm ss N V W s w := hph
    refine op_callP rfl rfl 94 (cf_rplain w) _ _ rfl #[.pointer (some ⟨b, 0, none⟩), .int .i64 0] ?_ (hcall w hap) ?_
    · simp only [List.map_toArray, List.map_cons, List.map_nil, Act.eval]
      rw [show tm.getD 4 undef = _ from hdep 2 (by omega) (by kernel_rfl)]
      rfl
    · intro e w' hcr
      rcases Ph.call hN hN1 hph hcr with ⟨x, rfl, h1⟩ | ⟨y, hr, rfl, hs⟩
      · exact .inl ⟨x, rfl, x, rfl, h1⟩
      · exact .inr ⟨_, rfl, rfl, by unfold CP; rw [hr]; exact ⟨rfl, hs⟩⟩
  · intro tm w x hsz hx hph
    obtain ⟨a, s', hr, hn1, hap⟩ := id hph
    obtain ⟨f1, f2, f3⟩ := fx a x _ _ hn1
    exact op_bs rfl rfl _ _ _ rfl #[(0, x)] (by simp only [List.map_toArray, List.map_cons, List.map_nil, Act.eval]; rw [show tm.getD 5 undef = x from hx]) (f3 w) ⟨_, rfl, Ph.bs hN hN1 hph⟩
  · intro tm w y hsz hdep hy hph
    obtain ⟨a, s', x, gy, hr, rfl, hgy, hn1, hap⟩ := id hph
    obtain ⟨f1, f2, f3⟩ := fx a x _ _ hn1
    have hl := hap.bx.lt
    refine op_append_at w rfl rfl (.tmp 3) (.tmp 6) 48 rfl (g + 1) sl.t sl.sz bt und ei sz0 sl.v sl.n sl.xs (hdep 1 (by omega) (by kernel_rfl)) (hap.bx.own 0 sl hi) ⟨gy, 0, none⟩ 1 1 x.cells.toList hy (by rw [Array.length_toList, f1]; omega) (row_news hgy) f2 (by unfold maxLen; omega) (by have : (sl.n + 1) * bt ≤ 100001 * 1000 := Nat.mul_le_mul (by omega) bt0; omega) (by omega) ?_
    intro v' w' h1 h2 h3
    exact ⟨v', rfl, Ph.app hr hap h2 h1 h3⟩
  · intro tm w y hsz hun hval hy hph
    have hB := hbase 3 y w hph
    obtain ⟨a, s', x, w2, hr, h1, h2, h3, h4⟩ := id hph
    obtain ⟨ya, yn, yc, rfl⟩ := row_shape h3
    refine op_store rfl rfl _ (.tmp 8) (.tmp 7) rfl (hval 6 (by omega) (by omega)) hy (st_flds w (hB.row hi) (hB.frozen _)) ?_
    go_end0
    exact Ph.last hN hN1 hi hph
set_option maxRecDepth 100000 in
set_option maxHeartbeats 4000000 in
theorem enum1_any {α : Type} {lo b g : Nat} {nm : ByteArray} {ss : List Slot} {N : (Nat → Prop) → World → Prop} {V W w0 : World} {s : PSt} {sl : Slot} {r : Except (Int × Int) (α × PSt)} {N1 : α → Value → (Nat → Prop) → World → Prop} {pr bt : Nat} (h : Ap lo b g 66 nm ss N V W s w0) (hN : Stable N) (hN1 : ∀ a x, Stable (N1 a x)) (hi : ss[0]? = some sl) (hfit : Fit 64 sl bt N1) (hn : sl.n ≤ 100000)
    (hcs : ∀ P w, N P w → ∀ c ∈ ([(pr, #[.pointer (some ⟨b, 0, none⟩)], 80)] : List (Nat × Array Value × TypeId)), Cell1 c.1 c.2.1 c.2.2 P w) (hcall : ∀ w, Ap lo b g 66 nm ss N V W s w → Calls Tryz.prog 97 #[.pointer (some ⟨b, 0, none⟩)] w (CR lo b N1 w r)) :
    Calls Tryz.prog 96 #[.pointer (some ⟨g, 0, none⟩), .pointer (some ⟨pr, 0, none⟩)] w0 (CP lo b g 66 nm ss N V W 0 sl r N1) := by
  obtain ⟨va, vn, vc, hv⟩ := row_shape (h.bx.own 0 sl hi)
  obtain ⟨ei, und, sz0, bt0, fx⟩ := hfit
  have hbase := Ph.base (lo := lo) (b := b) (g := g) (T := 66) (nm := nm) (V := V) (W := W) (s := s) (r := r) (N1 := N1) hcs hi
  have hd := h.up hN (Below.refl w0.heap.size w0).drew
  go_enter Tryz.func96, Tryz.ntmps96
  refine region_app (z := 7) (N := 9) (c := 3) (by kernel_rfl) (fun k => k + 2) (fun k => [.pointer (some ⟨g, 1, none⟩), sl.v, .pointer (some ⟨b, 0, none⟩), undef, undef, undef, .pointer (some ⟨g, 1, none⟩)].getD k undef) (Ph lo b g 66 nm ss N V W s sl r N1) _ w0 rfl rfl (fun i j _ _ e => by omega) (fun i hi => by omega) (by kernel_rfl) (by omega) (by kernel_rfl) (by kernel_rfl) (by kernel_rfl) hd ?_ ?_ ?_ ?_ ?_
  · intro k tm w hk hq hsz hun hdep hph
    obtain ⟨ph, x, hph⟩ := hph
    have hB := hbase ph x w hph
    match k, hk with
    | 0, _ => exact op_field rfl rfl _ (.tmp 0) _ rfl (hun 0 (by intro i hi; omega)) (fa_enumd1 w) ⟨rfl, rfl⟩
    | 1, _ => exact op_load rfl rfl _ (.tmp 2) rfl (hdep 0 (by omega) (by kernel_rfl)) (by rw [hv]; exact ld_vals w (by rw [← hv]; exact hB.row hi)) ⟨rfl, rfl⟩
    | 2, _ => exact op_load rfl rfl _ (.tmp 1) rfl (hun 1 (by intro i hi; omega)) (ld_rptr w (hB.cell (List.mem_cons_self ..) rfl)) ⟨rfl, rfl⟩
    | 3, _ => omega
    | 4, _ => omega
    | 5, _ => omega
    | 6, _ => exact op_field rfl rfl _ (.tmp 0) _ rfl (hun 0 (by intro i hi; omega)) (fa_enumd1 w) ⟨rfl, rfl⟩
  · intro tm w hsz hun hdep hph
    have hap : Ap lo b g 66 nm ss N V W s w := hph
    refine op_callP rfl rfl 97 (cf_rvalue w) _ _ rfl #[.pointer (some ⟨b, 0, none⟩)] ?_ (hcall w hap) ?_
    · simp only [List.map_toArray, List.map_cons, List.map_nil, Act.eval]
      rw [show tm.getD 4 undef = _ from hdep 2 (by omega) (by kernel_rfl)]
      rfl
    · intro e w' hcr
      rcases Ph.call hN hN1 hph hcr with ⟨x, rfl, h1⟩ | ⟨y, hr, rfl, hs⟩
      · exact .inl ⟨x, rfl, x, rfl, h1⟩
      · exact .inr ⟨_, rfl, rfl, by unfold CP; rw [hr]; exact ⟨rfl, hs⟩⟩
  · intro tm w x hsz hx hph
    obtain ⟨a, s', hr, hn1, hap⟩ := id hph
    obtain ⟨f1, f2, f3⟩ := fx a x _ _ hn1
    exact op_bs rfl rfl _ _ _ rfl #[(0, x)] (by simp only [List.map_toArray, List.map_cons, List.map_nil, Act.eval]; rw [show tm.getD 5 undef = x from hx]) (f3 w) ⟨_, rfl, Ph.bs hN hN1 hph⟩
  · intro tm w y hsz hdep hy hph
    obtain ⟨a, s', x, gy, hr, rfl, hgy, hn1, hap⟩ := id hph
    obtain ⟨f1, f2, f3⟩ := fx a x _ _ hn1
    have hl := hap.bx.lt
    refine op_append_at w rfl rfl (.tmp 3) (.tmp 6) 64 rfl (g + 1) sl.t sl.sz bt und ei sz0 sl.v sl.n sl.xs (hdep 1 (by omega) (by kernel_rfl)) (hap.bx.own 0 sl hi) ⟨gy, 0, none⟩ 1 1 x.cells.toList hy (by rw [Array.length_toList, f1]; omega) (row_news hgy) f2 (by unfold maxLen; omega) (by have : (sl.n + 1) * bt ≤ 100001 * 1000 := Nat.mul_le_mul (by omega) bt0; omega) (by omega) ?_
    intro v' w' h1 h2 h3
    exact ⟨v', rfl, Ph.app hr hap h2 h1 h3⟩
  · intro tm w y hsz hun hval hy hph
    have hB := hbase 3 y w hph
    obtain ⟨a, s', x, w2, hr, h1, h2, h3, h4⟩ := id hph
    obtain ⟨ya, yn, yc, rfl⟩ := row_shape h3
    refine op_store rfl rfl _ (.tmp 8) (.tmp 7) rfl (hval 6 (by omega) (by omega)) hy (st_vals w (hB.row hi) (hB.frozen _)) ?_
    go_end0
    exact Ph.last hN hN1 hi hph
theorem row_shape2 {w : World} {bs e z n : Nat} {v : Value} {xs : List Value} (h : w.ownsRow bs e z v n xs) : ∃ a c, v = .slice a n c := by
  rcases h.2 with ⟨rfl, h0⟩ | ⟨g, c, _, rfl, _⟩
  · exact ⟨_, _, by rw [h0]⟩
  · exact ⟨_, _, rfl⟩
theorem ld_bounds (w : World) {p : Nat} {l h : Int} {m : Bool} (h0 : w.cell? ⟨p, 0, none⟩ = some (.int .i64 l)) (h1 : w.cell? ⟨p, 1, none⟩ = some (.int .i64 h)) (h2 : w.cell? ⟨p, 2, none⟩ = some (.bool m)) : (Instr.loadAt 150 (.pointer (some ⟨p, 0, none⟩))).run Tryz.prog w = .ok (.agg #[.int .i64 l, .int .i64 h, .bool m]) w := by
  go_simp
set_option maxRecDepth 100000 in
set_option maxHeartbeats 4000000 in
theorem oneof1_any {α : Type} {lo b g : Nat} {nm : ByteArray} {ss : List Slot} {N : (Nat → Prop) → World → Prop} {V W w0 : World} {s : PSt} {sl : Slot} {r : Except (Int × Int) (α × PSt)} {N1 : α → Value → (Nat → Prop) → World → Prop} {pm pr bt : Nat} {so : Slot} (ho : ss[1]? = some so) (h : Ap lo b g 51 nm ss N V W s w0) (hN : Stable N) (hN1 : ∀ a x, Stable (N1 a x)) (hi : ss[0]? = some sl) (hfit : Fit 48 sl bt N1) (hn : sl.n ≤ 100000)
    (hcs : ∀ P w, N P w → ∀ c ∈ ([(pm, #[.pointer (some ⟨g, 0, none⟩)], 128), (pr, #[.pointer (some ⟨b, 0, none⟩)], 80)] : List (Nat × Array Value × TypeId)), Cell1 c.1 c.2.1 c.2.2 P w) (hcall : ∀ w, Ap lo b g 51 nm ss N V W s w → Calls Tryz.prog 94 #[.pointer (some ⟨b, 0, none⟩), .int .i64 (so.n : Int)] w (CR lo b N1 w r)) :
    Calls Tryz.prog 125 #[.pointer (some ⟨pm, 0, none⟩), .pointer (some ⟨pr, 0, none⟩)] w0 (CP lo b g 51 nm ss N V W 0 sl r N1) := by
  obtain ⟨va, vn, vc, hv⟩ := row_shape (h.bx.own 0 sl hi)
  obtain ⟨ei, und, sz0, bt0, fx⟩ := hfit
  have hbase := Ph.base (lo := lo) (b := b) (g := g) (T := 51) (nm := nm) (V := V) (W := W) (s := s) (r := r) (N1 := N1) hcs hi
  have hd := h.up hN (Below.refl w0.heap.size w0).drew
  go_enter Tryz.func125, Tryz.ntmps125
  obtain ⟨oa, oc, hvo⟩ := row_shape2 (h.bx.own 1 so ho)
  refine region_app (z := 16) (N := 18) (c := 11) (by kernel_rfl) (fun k => k + 2) (fun k => [.pointer (some ⟨g, 0, none⟩), .pointer (some ⟨g, 0, none⟩), .pointer (some ⟨g, 0, none⟩), .pointer (some ⟨g, 1, none⟩), sl.v, .pointer (some ⟨b, 0, none⟩), .pointer (some ⟨g, 0, none⟩), .pointer (some ⟨g, 0, none⟩), .pointer (some ⟨g, 2, none⟩), so.v, .int .i64 (so.n : Int), undef, undef, undef, .pointer (some ⟨g, 0, none⟩), .pointer (some ⟨g, 1, none⟩)].getD k undef) (Ph lo b g 51 nm ss N V W s sl r N1) _ w0 rfl rfl (fun i j _ _ e => by omega) (fun i hi => by omega) (by kernel_rfl) (by omega) (by kernel_rfl) (by kernel_rfl) (by kernel_rfl) hd ?_ ?_ ?_ ?_ ?_
  · intro k tm w hk hq hsz hun hdep hph
    obtain ⟨ph, x, hph⟩ := hph
    have hB := hbase ph x w hph
    match k, hk with
    | 0, _ => exact op_load rfl rfl _ (.tmp 0) rfl (hun 0 (by intro i hi; omega)) (ld_msgptr w (hB.cell (List.mem_cons_self ..) rfl)) ⟨rfl, rfl⟩
    | 1, _ => exact op_load rfl rfl _ (.tmp 0) rfl (hun 0 (by intro i hi; omega)) (ld_msgptr w (hB.cell (List.mem_cons_self ..) rfl)) ⟨rfl, rfl⟩
    | 2, _ => exact op_nilCheck rfl rfl (.tmp 3) rfl (hdep 1 (by omega) (by kernel_rfl)) ⟨rfl, rfl⟩
    | 3, _ => exact op_field rfl rfl _ (.tmp 4) _ rfl (hdep 2 (by omega) (by kernel_rfl)) (fa_msg1 w) ⟨rfl, rfl⟩
    | 4, _ => exact op_load rfl rfl _ (.tmp 5) rfl (hdep 3 (by omega) (by kernel_rfl)) (by rw [hv]; exact ld_flds w (by rw [← hv]; exact hB.row hi)) ⟨rfl, rfl⟩
    | 5, _ => exact op_load rfl rfl _ (.tmp 1) rfl (hun 1 (by intro i hi; omega)) (ld_rptr w (hB.cell (List.mem_cons_of_mem _ (List.mem_cons_self ..)) rfl)) ⟨rfl, rfl⟩
    | 6, _ => exact op_load rfl rfl _ (.tmp 0) rfl (hun 0 (by intro i hi; omega)) (ld_msgptr w (hB.cell (List.mem_cons_self ..) rfl)) ⟨rfl, rfl⟩
    | 7, _ => exact op_nilCheck rfl rfl (.tmp 8) rfl (hdep 6 (by omega) (by kernel_rfl)) ⟨rfl, rfl⟩
    | 8, _ => exact op_field rfl rfl _ (.tmp 9) _ rfl (hdep 7 (by omega) (by kernel_rfl)) (fa_msg2 w) ⟨rfl, rfl⟩
    | 9, _ => exact op_load rfl rfl _ (.tmp 10) rfl (hdep 8 (by omega) (by kernel_rfl)) (by rw [hvo]; exact ld_strs w (by rw [← hvo]; exact hB.row ho)) ⟨rfl, rfl⟩
    | 10, _ => exact op_len rfl rfl (.tmp 11) 30 9 rfl Tryz.underlying30 ((hdep 9 (by omega) (by kernel_rfl)).trans hvo) ⟨rfl, rfl⟩
    | 11, _ => omega
    | 12, _ => omega
    | 13, _ => omega
    | 14, _ => exact op_nilCheck rfl rfl (.tmp 2) rfl (hdep 0 (by omega) (by kernel_rfl)) ⟨rfl, rfl⟩
    | 15, _ => exact op_field rfl rfl _ (.tmp 16) _ rfl (hdep 14 (by omega) (by kernel_rfl)) (fa_msg1 w) ⟨rfl, rfl⟩
    | k + 16, h => omega
  · intro tm w hsz hun hdep hph
    have hap : Ap lo b g 51 nm ss N V W s w := hph
    refine op_callP rfl rfl 94 (cf_rplain w) _ _ rfl #[.pointer (some ⟨b, 0, none⟩), .int .i64 (so.n : Int)] ?_ (hcall w hap) ?_
    · simp only [List.map_toArray, List.map_cons, List.map_nil, Act.eval]
      rw [show tm.getD 7 undef = _ from hdep 5 (by omega) (by kernel_rfl), show tm.getD 12 undef = _ from hdep 10 (by omega) (by kernel_rfl)]
      rfl
    · intro e w' hcr
      rcases Ph.call hN hN1 hph hcr with ⟨x, rfl, h1⟩ | ⟨y, hr, rfl, hs⟩
      · exact .inl ⟨x, rfl, x, rfl, h1⟩
      · exact .inr ⟨_, rfl, rfl, by unfold CP; rw [hr]; exact ⟨rfl, hs⟩⟩
  · intro tm w x hsz hx hph
    obtain ⟨a, s', hr, hn1, hap⟩ := id hph
    obtain ⟨f1, f2, f3⟩ := fx a x _ _ hn1
    exact op_bs rfl rfl _ _ _ rfl #[(0, x)] (by simp only [List.map_toArray, List.map_cons, List.map_nil, Act.eval]; rw [show tm.getD 13 undef = x from hx]) (f3 w) ⟨_, rfl, Ph.bs hN hN1 hph⟩
  · intro tm w y hsz hdep hy hph
    obtain ⟨a, s', x, gy, hr, rfl, hgy, hn1, hap⟩ := id hph
    obtain ⟨f1, f2, f3⟩ := fx a x _ _ hn1
    have hl := hap.bx.lt
    refine op_append_at w rfl rfl (.tmp 6) (.tmp 14) 48 rfl (g + 1) sl.t sl.sz bt und ei sz0 sl.v sl.n sl.xs (hdep 4 (by omega) (by kernel_rfl)) (hap.bx.own 0 sl hi) ⟨gy, 0, none⟩ 1 1 x.cells.toList hy (by rw [Array.length_toList, f1]; omega) (row_news hgy) f2 (by unfold maxLen; omega) (by have : (sl.n + 1) * bt ≤ 100001 * 1000 := Nat.mul_le_mul (by omega) bt0; omega) (by omega) ?_
    intro v' w' h1 h2 h3
    exact ⟨v', rfl, Ph.app hr hap h2 h1 h3⟩
  · intro tm w y hsz hun hval hy hph
    have hB := hbase 3 y w hph
    obtain ⟨a, s', x, w2, hr, h1, h2, h3, h4⟩ := id hph
    obtain ⟨ya, yn, yc, rfl⟩ := row_shape h3
    refine op_store rfl rfl _ (.tmp 17) (.tmp 15) rfl (hval 15 (by omega) (by omega)) hy (st_flds w (hB.row hi) (hB.frozen _)) ?_
    go_end0
    exact Ph.last hN hN1 hi hph
set_option maxRecDepth 100000 in
set_option maxHeartbeats 4000000 in
theorem res1_any {α : Type} {lo b g : Nat} {nm : ByteArray} {ss : List Slot} {N : (Nat → Prop) → World → Prop} {V W w0 : World} {s : PSt} {sl : Slot} {r : Except (Int × Int) (α × PSt)} {N1 : α → Value → (Nat → Prop) → World → Prop} {pm pr bt : Nat} {T : TypeId} {i pb : Nat} {bl bh : Int} {bm : Bool} (h : Ap lo b g T nm ss N V W s w0) (hN : Stable N) (hN1 : ∀ a x, Stable (N1 a x)) (hi : ss[i]? = some sl) (hfit : Fit 49 sl bt N1) (hn : sl.n ≤ 100000)
    (hcs : ∀ P w, N P w → ∀ c ∈ ([(pm, #[.pointer (some ⟨g, i + 1, none⟩)], 151), (pr, #[.pointer (some ⟨b, 0, none⟩)], 80), (pb, #[.int .i64 bl, .int .i64 bh, .bool bm], 150)] : List (Nat × Array Value × TypeId)), Cell1 c.1 c.2.1 c.2.2 P w) (hcall : ∀ w, Ap lo b g T nm ss N V W s w → Calls Tryz.prog 127 #[.pointer (some ⟨b, 0, none⟩), .agg #[.int .i64 bl, .int .i64 bh, .bool bm]] w (CR lo b N1 w r)) :
    Calls Tryz.prog 126 #[.pointer (some ⟨pm, 0, none⟩), .pointer (some ⟨pr, 0, none⟩), .pointer (some ⟨pb, 0, none⟩)] w0 (CP lo b g T nm ss N V W i sl r N1) := by
  obtain ⟨va, vn, vc, hv⟩ := row_shape (h.bx.own i sl hi)
  obtain ⟨ei, und, sz0, bt0, fx⟩ := hfit
  have hbase := Ph.base (lo := lo) (b := b) (g := g) (T := T) (nm := nm) (V := V) (W := W) (s := s) (r := r) (N1 := N1) hcs hi
  have hd := h.up hN (Below.refl w0.heap.size w0).drew
  go_enter Tryz.func126, Tryz.ntmps126
  refine region_app (z := 10) (N := 13) (c := 6) (by kernel_rfl) (fun k => k + 3) (fun k => [.pointer (some ⟨g, i + 1, none⟩), .pointer (some ⟨g, i + 1, none⟩), .pointer (some ⟨g, i + 1, none⟩), sl.v, .pointer (some ⟨b, 0, none⟩), .agg #[.int .i64 bl, .int .i64 bh, .bool bm], undef, undef, undef, .pointer (some ⟨g, i + 1, none⟩)].getD k undef) (Ph lo b g T nm ss N V W s sl r N1) _ w0 rfl rfl (fun i j _ _ e => by omega) (fun i hi => by omega) (by kernel_rfl) (by omega) (by kernel_rfl) (by kernel_rfl) (by kernel_rfl) hd ?_ ?_ ?_ ?_ ?_
  · intro k tm w hk hq hsz hun hdep hph
    obtain ⟨ph, x, hph⟩ := hph
    have hB := hbase ph x w hph
    match k, hk with
    | 0, _ => exact op_load rfl rfl _ (.tmp 0) rfl (hun 0 (by intro i hi; omega)) (ld_rangesptr w (hB.cell (List.mem_cons_self ..) rfl)) ⟨rfl, rfl⟩
    | 1, _ => exact op_load rfl rfl _ (.tmp 0) rfl (hun 0 (by intro i hi; omega)) (ld_rangesptr w (hB.cell (List.mem_cons_self ..) rfl)) ⟨rfl, rfl⟩
    | 2, _ => exact op_nilCheck rfl rfl (.tmp 4) rfl (hdep 1 (by omega) (by kernel_rfl)) ⟨rfl, rfl⟩
    | 3, _ => exact op_load rfl rfl _ (.tmp 5) rfl (hdep 2 (by omega) (by kernel_rfl)) (by rw [hv]; exact ld_ranges w (by rw [← hv]; exact hB.row hi)) ⟨rfl, rfl⟩
    | 4, _ => exact op_load rfl rfl _ (.tmp 1) rfl (hun 1 (by intro i hi; omega)) (ld_rptr w (hB.cell (List.mem_cons_of_mem _ (List.mem_cons_self ..)) rfl)) ⟨rfl, rfl⟩
    | 5, _ => exact op_load rfl rfl _ (.tmp 2) rfl (hun 2 (by intro i hi; omega)) (ld_bounds w (hB.cell (j := 0) (List.mem_cons_of_mem _ (List.mem_cons_of_mem _ (List.mem_cons_self ..))) rfl) (hB.cell (j := 1) (List.mem_cons_of_mem _ (List.mem_cons_of_mem _ (List.mem_cons_self ..))) rfl) (hB.cell (j := 2) (List.mem_cons_of_mem _ (List.mem_cons_of_mem _ (List.mem_cons_self ..))) rfl)) ⟨rfl, rfl⟩
    | 6, _ => omega
    | 7, _ => omega
    | 8, _ => omega
    | 9, _ => exact op_nilCheck rfl rfl (.tmp 3) rfl (hdep 0 (by omega) (by kernel_rfl)) ⟨rfl, rfl⟩
  · intro tm w hsz hun hdep hph
    have hap : Ap lo b g T nm ss N V W s w := hph
    refine op_callP rfl rfl 127 (cf_rrow w) _ _ rfl #[.pointer (some ⟨b, 0, none⟩), .agg #[.int .i64 bl, .int .i64 bh, .bool bm]] ?_ (hcall w hap) ?_
    · simp only [List.map_toArray, List.map_cons, List.map_nil, Act.eval]
      rw [show tm.getD 7 undef = _ from hdep 4 (by omega) (by kernel_rfl), show tm.getD 8 undef = _ from hdep 5 (by omega) (by kernel_rfl)]
      rfl
    · intro e w' hcr
      rcases Ph.call hN hN1 hph hcr with ⟨x, rfl, h1⟩ | ⟨y, hr, rfl, hs⟩
      · exact .inl ⟨x, rfl, x, rfl, h1⟩
      · exact .inr ⟨_, rfl, rfl, by unfold CP; rw [hr]; exact ⟨rfl, hs⟩⟩
  · intro tm w x hsz hx hph
    obtain ⟨a, s', hr, hn1, hap⟩ := id hph
    obtain ⟨f1, f2, f3⟩ := fx a x _ _ hn1
    exact op_bs rfl rfl _ _ _ rfl #[(0, x)] (by simp only [List.map_toArray, List.map_cons, List.map_nil, Act.eval]; rw [show tm.getD 9 undef = x from hx]) (f3 w) ⟨_, rfl, Ph.bs hN hN1 hph⟩
  · intro tm w y hsz hdep hy hph
    obtain ⟨a, s', x, gy, hr, rfl, hgy, hn1, hap⟩ := id hph
    obtain ⟨f1, f2, f3⟩ := fx a x _ _ hn1
    have hl := hap.bx.lt
    refine op_append_at w rfl rfl (.tmp 6) (.tmp 10) 49 rfl (g + 1) sl.t sl.sz bt und ei sz0 sl.v sl.n sl.xs (hdep 3 (by omega) (by kernel_rfl)) (hap.bx.own i sl hi) ⟨gy, 0, none⟩ 1 1 x.cells.toList hy (by rw [Array.length_toList, f1]; omega) (row_news hgy) f2 (by unfold maxLen; omega) (by have : (sl.n + 1) * bt ≤ 100001 * 1000 := Nat.mul_le_mul (by omega) bt0; omega) (by omega) ?_
    intro v' w' h1 h2 h3
    exact ⟨v', rfl, Ph.app hr hap h2 h1 h3⟩
  · intro tm w y hsz hun hval hy hph
    have hB := hbase 3 y w hph
    obtain ⟨a, s', x, w2, hr, h1, h2, h3, h4⟩ := id hph
    obtain ⟨ya, yn, yc, rfl⟩ := row_shape h3
    refine op_store rfl rfl _ (.tmp 12) (.tmp 11) rfl (hval 9 (by omega) (by omega)) hy (st_ranges w (hB.row hi) (hB.frozen _)) ?_
    go_end0
    exact Ph.last hN hN1 hi hph
set_option maxRecDepth 100000 in
set_option maxHeartbeats 4000000 in
theorem res2_any {α : Type} {lo b g : Nat} {nm : ByteArray} {ss : List Slot} {N : (Nat → Prop) → World → Prop} {V W w0 : World} {s : PSt} {sl : Slot} {r : Except (Int × Int) (α × PSt)} {N1 : α → Value → (Nat → Prop) → World → Prop} {pm pr bt : Nat} {T : TypeId} {i : Nat} (h : Ap lo b g T nm ss N V W s w0) (hN : Stable N) (hN1 : ∀ a x, Stable (N1 a x)) (hi : ss[i]? = some sl) (hfit : Fit 30 sl bt N1) (hn : sl.n ≤ 100000)
    (hcs : ∀ P w, N P w → ∀ c ∈ ([(pm, #[.pointer (some ⟨g, i + 1, none⟩)], 152), (pr, #[.pointer (some ⟨b, 0, none⟩)], 80)] : List (Nat × Array Value × TypeId)), Cell1 c.1 c.2.1 c.2.2 P w) (hcall : ∀ w, Ap lo b g T nm ss N V W s w → Calls Tryz.prog 129 #[.pointer (some ⟨b, 0, none⟩)] w (CR lo b N1 w r)) :
    Calls Tryz.prog 128 #[.pointer (some ⟨pm, 0, none⟩), .pointer (some ⟨pr, 0, none⟩)] w0 (CP lo b g T nm ss N V W i sl r N1) := by
  obtain ⟨va, vn, vc, hv⟩ := row_shape (h.bx.own i sl hi)
  obtain ⟨ei, und, sz0, bt0, fx⟩ := hfit
  have hbase := Ph.base (lo := lo) (b := b) (g := g) (T := T) (nm := nm) (V := V) (W := W) (s := s) (r := r) (N1 := N1) hcs hi
  have hd := h.up hN (Below.refl w0.heap.size w0).drew
  go_enter Tryz.func128, Tryz.ntmps128
  refine region_app (z := 9) (N := 11) (c := 5) (by kernel_rfl) (fun k => k + 2) (fun k => [.pointer (some ⟨g, i + 1, none⟩), .pointer (some ⟨g, i + 1, none⟩), .pointer (some ⟨g, i + 1, none⟩), sl.v, .pointer (some ⟨b, 0, none⟩), undef, undef, undef, .pointer (some ⟨g, i + 1, none⟩)].getD k undef) (Ph lo b g T nm ss N V W s sl r N1) _ w0 rfl rfl (fun i j _ _ e => by omega) (fun i hi => by omega) (by kernel_rfl) (by omega) (by kernel_rfl) (by kernel_rfl) (by kernel_rfl) hd ?_ ?_ ?_ ?_ ?_
  · intro k tm w hk hq hsz hun hdep hph
    obtain ⟨ph, x, hph⟩ := hph
    have hB := hbase ph x w hph
    match k, hk with
    | 0, _ => exact op_load rfl rfl _ (.tmp 0) rfl (hun 0 (by intro i hi; omega)) (ld_strsptr w (hB.cell (List.mem_cons_self ..) rfl)) ⟨rfl, rfl⟩
    | 1, _ => exact op_load rfl rfl _ (.tmp 0) rfl (hun 0 (by intro i hi; omega)) (ld_strsptr w (hB.cell (List.mem_cons_self ..) rfl)) ⟨rfl, rfl⟩
    | 2, _ => exact op_nilCheck rfl rfl (.tmp 3) rfl (hdep 1 (by omega) (by kernel_rfl)) ⟨rfl, rfl⟩
    | 3, _ => exact op_load rfl rfl _ (.tmp 4) rfl (hdep 2 (by omega) (by kernel_rfl)) (by rw [hv]; exact ld_strs w (by rw [← hv]; exact hB.row hi)) ⟨rfl, rfl⟩
    | 4, _ => exact op_load rfl rfl _ (.tmp 1) rfl (hun 1 (by intro i hi; omega)) (ld_rptr w (hB.cell (List.mem_cons_of_mem _ (List.mem_cons_self ..)) rfl)) ⟨rfl, rfl⟩
    | 5, _ => omega
    | 6, _ => omega
    | 7, _ => omega
    | 8, _ => exact op_nilCheck rfl rfl (.tmp 2) rfl (hdep 0 (by omega) (by kernel_rfl)) ⟨rfl, rfl⟩
  · intro tm w hsz hun hdep hph
    have hap : Ap lo b g T nm ss N V W s w := hph
    refine op_callP rfl rfl 129 (cf_rgoneName w) _ _ rfl #[.pointer (some ⟨b, 0, none⟩)] ?_ (hcall w hap) ?_
    · simp only [List.map_toArray, List.map_cons, List.map_nil, Act.eval]
      rw [show tm.getD 6 undef = _ from hdep 4 (by omega) (by kernel_rfl)]
      rfl
    · intro e w' hcr
      rcases Ph.call hN hN1 hph hcr with ⟨x, rfl, h1⟩ | ⟨y, hr, rfl, hs⟩
      · exact .inl ⟨x, rfl, x, rfl, h1⟩
      · exact .inr ⟨_, rfl, rfl, by unfold CP; rw [hr]; exact ⟨rfl, hs⟩⟩
  · intro tm w x hsz hx hph
    obtain ⟨a, s', hr, hn1, hap⟩ := id hph
    obtain ⟨f1, f2, f3⟩ := fx a x _ _ hn1
    exact op_bs rfl rfl _ _ _ rfl #[(0, x)] (by simp only [List.map_toArray, List.map_cons, List.map_nil, Act.eval]; rw [show tm.getD 7 undef = x from hx]) (f3 w) ⟨_, rfl, Ph.bs hN hN1 hph⟩
  · intro tm w y hsz hdep hy hph
    obtain ⟨a, s', x, gy, hr, rfl, hgy, hn1, hap⟩ := id hph
    obtain ⟨f1, f2, f3⟩ := fx a x _ _ hn1
    have hl := hap.bx.lt
    refine op_append_at w rfl rfl (.tmp 5) (.tmp 8) 30 rfl (g + 1) sl.t sl.sz bt und ei sz0 sl.v sl.n sl.xs (hdep 3 (by omega) (by kernel_rfl)) (hap.bx.own i sl hi) ⟨gy, 0, none⟩ 1 1 x.cells.toList hy (by rw [Array.length_toList, f1]; omega) (row_news hgy) f2 (by unfold maxLen; omega) (by have : (sl.n + 1) * bt ≤ 100001 * 1000 := Nat.mul_le_mul (by omega) bt0; omega) (by omega) ?_
    intro v' w' h1 h2 h3
    exact ⟨v', rfl, Ph.app hr hap h2 h1 h3⟩
  · intro tm w y hsz hun hval hy hph
    have hB := hbase 3 y w hph
    obtain ⟨a, s', x, w2, hr, h1, h2, h3, h4⟩ := id hph
    obtain ⟨ya, yn, yc, rfl⟩ := row_shape h3
    refine op_store rfl rfl _ (.tmp 10) (.tmp 9) rfl (hval 8 (by omega) (by omega)) hy (st_strs w (hB.row hi) (hB.frozen _)) ?_
    go_end0
    exact Ph.last hN hN1 hi hph
end Go.Proofs.YtdhncpeemcanlaaGreatDoor
