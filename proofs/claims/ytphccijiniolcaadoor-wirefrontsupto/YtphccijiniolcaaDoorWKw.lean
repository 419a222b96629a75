import Derived.Test.YtphccijiniolcaaDoorW8J
namespace Go.Proofs.YtphccijiniolcaaDoor
open Go.RowKit
attribute [local go_sem ↓] Go.wp_at_zero Go.wp_at_succ

set_option maxRecDepth 100000 in
set_option maxHeartbeats 8000000 in
/-- The document's examples. -/
theorem known_any (hadd : AddNil) {W : World} (hF : HasF W) : Calls Tryd.prog 9 #[] W fun e W' => e = .returned (.bool true) ∧ Below W.heap.size W W' := by
  go_enter Tryd.func9, Tryd.ntmps9
  go_wp2_with fail
  have a1 : Below W.heap.size W (W.alloc (.cells #[.int .u8 8] 5)) := (Below.refl _ _).alloc (Nat.le_refl _) _
  have b1 := cell_of_row _ _ 0 _ _ _ (heap_alloc_new W (.cells #[.int .u8 8] 5))
  generalize W.alloc (.cells #[.int .u8 8] 5) = x1 at *
  refine (read1 (off := 0) b1).mono ?_
  rintro e w1 ⟨rfl, hb⟩
  have h1 := a1.trans (hb.mono a1.size)
  clear hb b1 a1
  go_wp2_with fail
  refine (varint_any w1 300 300 (by decide +kernel) (by decide)).mono ?_
  rintro e w2 ⟨va, rfl, hva, hb⟩
  have h2 := h1.trans (hb.mono h1.size)
  have Ha := hide (v300 ▸ hva.has)
  clear hb hva h1
  go_wp2_with fail
  refine (fixed_any w2 1 4 (.inl ⟨rfl, by decide, by decide⟩)).mono ?_
  rintro e w3 ⟨vb, rfl, hvb, hb⟩
  have h3 := h2.trans (hb.mono h2.size)
  have Ha3 := hide ((unhide Ha).up hb)
  have Hb := hide (low1 ▸ hvb.has)
  clear hb hvb h2 Ha
  go_wp2_with fail
  refine (tagW_any w3 16 2 (by decide) (by decide)).mono ?_
  rintro e w4 ⟨vc, rfl, hvc, hb⟩
  have h4 := h3.trans (hb.mono h3.size)
  have Ha4 := hide ((unhide Ha3).up hb)
  have Hb4 := hide ((unhide Hb).up hb)
  have Hc := hide (v130 ▸ hvc.has)
  clear hb hvc h3 Ha3 Hb
  go_wp2_with fail
  have a0 : Below w4.heap.size w4 (w4.alloc (.cells #[.int .i64 1, .int .i64 0, .int .i64 150, .string ⟨#[]⟩, .slice none 0 0, .int .i64 2, .int .i64 2, .int .i64 0, .string ⟨#[104, 105]⟩, .slice none 0 0] 45)) := (Below.refl _ _).alloc (Nat.le_refl _) _
  have b0 := heap_alloc_new w4 (.cells #[.int .i64 1, .int .i64 0, .int .i64 150, .string ⟨#[]⟩, .slice none 0 0, .int .i64 2, .int .i64 2, .int .i64 0, .string ⟨#[104, 105]⟩, .slice none 0 0] 45)
  generalize w4.alloc (.cells #[.int .i64 1, .int .i64 0, .int .i64 150, .string ⟨#[]⟩, .slice none 0 0, .int .i64 2, .int .i64 2, .int .i64 0, .string ⟨#[104, 105]⟩, .slice none 0 0] 45) = x5 at *
  refine (join_flat (hasR_two b0 2) (fun _ => 1) szOf bodyOf ok_both 7 sum12 (by decide) (by rw [joined12]; decide)).mono ?_
  rintro e w5 ⟨vd, rfl, hvd, hb⟩
  have c5 := a0.trans (hb.mono a0.size)
  have h5 := h4.trans (c5.mono h4.size)
  have Ha5 := hide ((unhide Ha4).up c5)
  have Hb5 := hide ((unhide Hb4).up c5)
  have Hc5 := hide ((unhide Hc).up c5)
  have Hd5 := hide (joined12 ▸ hvd.has)
  clear hb hvd h4 Ha4 Hb4 Hc a0 b0 c5
  go_wp2_with fail
  have a0 : Below w5.heap.size w5 (w5.alloc (.cells #[.int .u8 8, .int .u8 150, .int .u8 1] 5)) := (Below.refl _ _).alloc (Nat.le_refl _) _
  have b0 := heap_alloc_new w5 (.cells #[.int .u8 8, .int .u8 150, .int .u8 1] 5)
  generalize w5.alloc (.cells #[.int .u8 8, .int .u8 150, .int .u8 1] 5) = x6 at *
  have y0 := cell_of_row _ _ 0 _ _ _ b0
  have y1 := cell_of_row _ _ 1 _ _ _ b0
  have y2 := cell_of_row _ _ 2 _ _ _ b0
  refine (split0 hadd (off := 0) y0 y1 y2).mono ?_
  rintro e w6 ⟨vl, rfl, hvl, hb⟩
  have c6 := a0.trans (hb.mono a0.size)
  have h6 := h5.trans (c6.mono h5.size)
  have Ha6 := hide ((unhide Ha5).up c6)
  have Hb6 := hide ((unhide Hb5).up c6)
  have Hc6 := hide ((unhide Hc5).up c6)
  have Hd6 := hide ((unhide Hd5).up c6)
  have Hl6 := hide hvl
  clear hb hvl h5 Ha5 Hb5 Hc5 Hd5 a0 b0 y0 y1 y2 c6
  go_wp2_with fail
  have a0 : Below w6.heap.size w6 (w6.alloc (.cells #[.int .u8 172, .int .u8 2] 5)) := (Below.refl _ _).alloc (Nat.le_refl _) _
  have b0 := heap_alloc_new w6 (.cells #[.int .u8 172, .int .u8 2] 5)
  generalize w6.alloc (.cells #[.int .u8 172, .int .u8 2] 5) = x7 at *
  refine (same_any ((unhide Ha6).up a0) (hasB_lit (bs := [172, 2]) b0 (by decide) 2 2 rfl)).mono ?_
  rintro e w7 ⟨rfl, hb⟩
  have c7 := a0.trans (hb.mono a0.size)
  have h7 := h6.trans (c7.mono h6.size)
  have Ha7 := hide ((unhide Ha6).up c7)
  have Hb7 := hide ((unhide Hb6).up c7)
  have Hc7 := hide ((unhide Hc6).up c7)
  have Hd7 := hide ((unhide Hd6).up c7)
  have Hl7 := hide ((unhide Hl6).up c7)
  clear hb h6 a0 b0 c7 Ha6 Hb6 Hc6 Hd6 Hl6
  go_wp2_with fail
  have a0 : Below w7.heap.size w7 (w7.alloc (.cells #[.int .u8 1, .int .u8 0, .int .u8 0, .int .u8 0] 5)) := (Below.refl _ _).alloc (Nat.le_refl _) _
  have b0 := heap_alloc_new w7 (.cells #[.int .u8 1, .int .u8 0, .int .u8 0, .int .u8 0] 5)
  generalize w7.alloc (.cells #[.int .u8 1, .int .u8 0, .int .u8 0, .int .u8 0] 5) = x8 at *
  refine (same_any ((unhide Hb7).up a0) (hasB_lit (bs := [1, 0, 0, 0]) b0 (by decide) 4 4 rfl)).mono ?_
  rintro e w8 ⟨rfl, hb⟩
  have c8 := a0.trans (hb.mono a0.size)
  have h8 := h7.trans (c8.mono h7.size)
  have Ha8 := hide ((unhide Ha7).up c8)
  have Hb8 := hide ((unhide Hb7).up c8)
  have Hc8 := hide ((unhide Hc7).up c8)
  have Hd8 := hide ((unhide Hd7).up c8)
  have Hl8 := hide ((unhide Hl7).up c8)
  clear hb h7 a0 b0 c8 Ha7 Hb7 Hc7 Hd7 Hl7
  go_wp2_with fail
  have a0 : Below w8.heap.size w8 (w8.alloc (.cells #[.int .u8 130, .int .u8 1] 5)) := (Below.refl _ _).alloc (Nat.le_refl _) _
  have b0 := heap_alloc_new w8 (.cells #[.int .u8 130, .int .u8 1] 5)
  generalize w8.alloc (.cells #[.int .u8 130, .int .u8 1] 5) = x9 at *
  refine (same_any ((unhide Hc8).up a0) (hasB_lit (bs := [130, 1]) b0 (by decide) 2 2 rfl)).mono ?_
  rintro e w9 ⟨rfl, hb⟩
  have c9 := a0.trans (hb.mono a0.size)
  have h9 := h8.trans (c9.mono h8.size)
  have Ha9 := hide ((unhide Ha8).up c9)
  have Hb9 := hide ((unhide Hb8).up c9)
  have Hc9 := hide ((unhide Hc8).up c9)
  have Hd9 := hide ((unhide Hd8).up c9)
  have Hl9 := hide ((unhide Hl8).up c9)
  clear hb h8 a0 b0 c9 Ha8 Hb8 Hc8 Hd8 Hl8
  go_wp2_with fail
  have a0 : Below w9.heap.size w9 (w9.alloc (.cells #[.int .u8 8, .int .u8 150, .int .u8 1, .int .u8 18, .int .u8 2, .int .u8 104, .int .u8 105] 5)) := (Below.refl _ _).alloc (Nat.le_refl _) _
  have b0 := heap_alloc_new w9 (.cells #[.int .u8 8, .int .u8 150, .int .u8 1, .int .u8 18, .int .u8 2, .int .u8 104, .int .u8 105] 5)
  generalize w9.alloc (.cells #[.int .u8 8, .int .u8 150, .int .u8 1, .int .u8 18, .int .u8 2, .int .u8 104, .int .u8 105] 5) = x10 at *
  refine (same_any ((unhide Hd9).up a0) (hasB_lit (bs := [8, 150, 1, 18, 2, 104, 105]) b0 (by decide) 7 7 rfl)).mono ?_
  rintro e w10 ⟨rfl, hb⟩
  have c10 := a0.trans (hb.mono a0.size)
  have h10 := h9.trans (c10.mono h9.size)
  have Ha10 := hide ((unhide Ha9).up c10)
  have Hb10 := hide ((unhide Hb9).up c10)
  have Hc10 := hide ((unhide Hc9).up c10)
  have Hd10 := hide ((unhide Hd9).up c10)
  have Hl10 := hide ((unhide Hl9).up c10)
  clear hb h9 a0 b0 c10 Ha9 Hb9 Hc9 Hd9 Hl9
  go_wp2_with fail
  have a0 : Below w10.heap.size w10 (w10.alloc (.cells #[.int .i64 1, .int .i64 0, .int .i64 150, .string ⟨#[]⟩, .slice none 0 0] 45)) := (Below.refl _ _).alloc (Nat.le_refl _) _
  have b0 := heap_alloc_new w10 (.cells #[.int .i64 1, .int .i64 0, .int .i64 150, .string ⟨#[]⟩, .slice none 0 0] 45)
  generalize w10.alloc (.cells #[.int .i64 1, .int .i64 0, .int .i64 150, .string ⟨#[]⟩, .slice none 0 0] 45) = x11 at *
  refine (sameR_flat ((unhide Hl10).up a0) (hasR_one b0 1)).mono ?_
  rintro e w11 ⟨rfl, hb⟩
  have h11 := h10.trans ((a0.trans (hb.mono a0.size)).mono h10.size)
  clear hb a0 b0 Ha10 Hb10 Hc10 Hd10 Hl10
  go_wp2_with fail
  refine (zig_any w11 (-1) ⟨by decide, by decide⟩).mono ?_
  rintro e w' ⟨rfl, he⟩
  obtain rfl : w11 = w' := he.symm
  rw [show zig (-1) = 1 by decide +kernel]
  go_wp2_with fail
  refine (zag_any w11 3).mono ?_
  rintro e w' ⟨rfl, he⟩
  obtain rfl : w11 = w' := he.symm
  rw [show zag 3 = -2 by decide +kernel]
  go_wp2_with fail
  refine (utf8_0 (hF.up h11)).mono ?_
  rintro e w12 ⟨rfl, hb⟩
  have h12 := h11.trans (hb.mono h11.size)
  go_wp2
  go_ret
  exact ⟨rfl, h12⟩
end Go.Proofs.YtphccijiniolcaaDoor
