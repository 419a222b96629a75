import Derived.Test.YtoclbmdnndaccaaDoorDW1
namespace Go.Proofs.YtoclbmdnndaccaaDoor
open Go.RowKit
attribute [local go_sem ↓] Go.wp_at_zero Go.wp_at_succ

def xor3 (a b c : List Nat) : List Nat := List.zipWith (· ^^^ ·) (List.zipWith (· ^^^ ·) a b) c
theorem xor3_byt {a b c : List Nat} (ha : Byt a) (hb : Byt b) (hc : Byt c) : Byt (xor3 a b c) := by
  have key : ∀ a b : List Nat, Byt a → Byt b → Byt (List.zipWith (· ^^^ ·) a b) := by
    intro a b ha hb x hx
    obtain ⟨i, hi⟩ := List.getElem?_of_mem hx
    rw [List.getElem?_zipWith] at hi
    cases h1 : a[i]? with
    | none => simp [h1] at hi
    | some y =>
      cases h2 : b[i]? with
      | none => simp [h1, h2] at hi
      | some z =>
        simp [h1, h2] at hi
        subst hi
        exact Nat.xor_lt_two_pow (n := 8) (ha.at h1) (hb.at h2)
  exact key _ _ (key _ _ ha hb) hc

set_option maxRecDepth 100000 in
set_option maxHeartbeats 8000000 in
theorem mixes_any {W : World} (hT : HasT W) {v0 v1 v2 : Value} {l0 l1 l2 : List Nat} (h0 : HasB W v0 l0) (hl0 : Byt l0) (hn0 : l0.length ≤ 140737488351232) (h1 : HasB W v1 l1) (hl1 : Byt l1) (hn1 : l1.length ≤ 140737488351232) (h2 : HasB W v2 l2) (hl2 : Byt l2) (hn2 : l2.length ≤ 140737488351232) :
    Calls Tryd.prog 4 #[v0, v1, v2] W fun e W' => e = .returned (.bool true) ∧ Below W.heap.size W W' := by
  obtain ⟨i0, hi, hz0, hz1, hz2⟩ := info_parts Tryd.infoByte
  obtain ⟨n, hnn⟩ : ∃ n, n = min (min l0.length l1.length) l2.length := ⟨_, rfl⟩
  have n0 : n ≤ l0.length := by omega
  have n1 : n ≤ l1.length := by omega
  have n2 : n ≤ l2.length := by omega
  obtain ⟨a0, c0, rfl, t0⟩ := h0.take n n0
  obtain ⟨a1, c1, rfl, t1⟩ := h1.take n n1
  obtain ⟨a2, c2, rfl, t2⟩ := h2.take n n2
  have b0 : Byt (l0.take n) := fun x hx => hl0 x (List.mem_of_mem_take hx)
  have b1 : Byt (l1.take n) := fun x hx => hl1 x (List.mem_of_mem_take hx)
  have b2 : Byt (l2.take n) := fun x hx => hl2 x (List.mem_of_mem_take hx)
  have e0 : (l0.take n).length = n := by rw [List.length_take]; omega
  have e1 : (l1.take n).length = n := by rw [List.length_take]; omega
  have e2 : (l2.take n).length = n := by rw [List.length_take]; omega
  obtain ⟨ld, hld⟩ : ∃ ld, ld = xor3 (l0.take n) (l1.take n) (l2.take n) := ⟨_, rfl⟩
  have hldl : ld.length = n := by rw [hld, xor3, List.length_zipWith, List.length_zipWith]; omega
  have hldb : Byt ld := by rw [hld]; exact xor3_byt b0 b1 b2
  have hcrc : crc ld = crc (l0.take n) ^^^ crc (l1.take n) ^^^ crc (l2.take n) := by rw [hld]; exact crc3 _ _ _ (by omega) (by omega)
  have HC : Hid (∀ (i : Nat), i < n → ∃ (g0 f0 g1 f1 g2 f2 x y z : Nat), a0 = some ⟨g0, f0, none⟩ ∧ a1 = some ⟨g1, f1, none⟩ ∧ a2 = some ⟨g2, f2, none⟩ ∧ x < 256 ∧ y < 256 ∧ z < 256 ∧ ld[i]? = some (x ^^^ y ^^^ z) ∧ ∀ w, Below W.heap.size W w → w.cell? ⟨g0, f0 + i, none⟩ = some (.int .u8 (x : Int)) ∧ w.cell? ⟨g1, f1 + i, none⟩ = some (.int .u8 (y : Int)) ∧ w.cell? ⟨g2, f2 + i, none⟩ = some (.int .u8 (z : Int))) := by
    intro i hi
    obtain ⟨_, _, q0, _, s0⟩ := t0
    obtain ⟨_, _, q1, _, s1⟩ := t1
    obtain ⟨_, _, q2, _, s2⟩ := t2
    simp only [Value.slice.injEq] at q0 q1 q2
    obtain ⟨rfl, _, rfl⟩ := q0
    obtain ⟨rfl, _, rfl⟩ := q1
    obtain ⟨rfl, _, rfl⟩ := q2
    obtain ⟨g0, f0, rfl, k0, z0⟩ := s0 (by omega)
    obtain ⟨g1, f1, rfl, k1, z1⟩ := s1 (by omega)
    obtain ⟨g2, f2, rfl, k2, z2⟩ := s2 (by omega)
    obtain ⟨x, hx⟩ : ∃ x, (l0.take n)[i]? = some x := ⟨_, List.getElem?_eq_getElem (by omega)⟩
    obtain ⟨y, hy⟩ : ∃ x, (l1.take n)[i]? = some x := ⟨_, List.getElem?_eq_getElem (by omega)⟩
    obtain ⟨z, hz⟩ : ∃ x, (l2.take n)[i]? = some x := ⟨_, List.getElem?_eq_getElem (by omega)⟩
    refine ⟨g0, f0, g1, f1, g2, f2, x, y, z, rfl, rfl, rfl, b0.at hx, b1.at hy, b2.at hz, ?_, fun w hb => ⟨(hb.cell (p := ⟨g0, f0 + i, none⟩) k0).trans (z0 i x hx), (hb.cell (p := ⟨g1, f1 + i, none⟩) k1).trans (z1 i y hy), (hb.cell (p := ⟨g2, f2 + i, none⟩) k2).trans (z2 i z hz)⟩⟩
    rw [hld, xor3, List.getElem?_zipWith, List.getElem?_zipWith, hx, hy, hz]
  have hc0 : n ≤ c0 := by obtain ⟨_, _, q0, hq, _⟩ := t0; simp only [Value.slice.injEq] at q0; omega
  have hc1 : n ≤ c1 := by obtain ⟨_, _, q0, hq, _⟩ := t1; simp only [Value.slice.injEq] at q0; omega
  have hc2 : n ≤ c2 := by obtain ⟨_, _, q0, hq, _⟩ := t2; simp only [Value.slice.injEq] at q0; omega
  have hx1 : crc (l0.take n) < 4294967296 := crc_lt b0
  have hx2 : crc (l1.take n) < 4294967296 := crc_lt b1
  have hx3 : crc (l2.take n) < 4294967296 := crc_lt b2
  have Ht0 := hide t0
  have Ht1 := hide t1
  have Ht2 := hide t2
  have H0 := hide hcrc
  clear t0 t1 t2 h0 h1 h2 hld hl0 hl1 hl2 hcrc
  generalize hm0 : l0.length = m0 at *
  generalize hm1 : l1.length = m1 at *
  generalize hm2 : l2.length = m2 at *
  have cases4 : (m0 = n ∧ ¬ m1 < n ∧ ¬ m2 < n) ∨ (m1 = n ∧ n < m0 ∧ ¬ m2 < n) ∨ (m2 = n ∧ ¬ m1 < m0 ∧ n < m0) ∨ (m2 = n ∧ m1 < m0 ∧ n < m1) := by omega
  rcases cases4 with ⟨rfl, p1, p2⟩ | ⟨rfl, p1, p2⟩ | ⟨rfl, p1, p2⟩ | ⟨rfl, p1, p2⟩
  · clear hnn
    have p1' : decide (m1 < m0) = false := by simp; omega
    have p2' : decide (m2 < m0) = false := by simp; omega
    clear p1 p2
    go_enter Tryd.func4, Tryd.ntmps4
    go_wp2
    go_loopg [8, 9] m0 (fun gk v8 v9 wr => ∃ (i : Nat), v9 = .int .i64 (i : Int) ∧ gk = m0 - i ∧ i ≤ m0 ∧ Bytes W.heap.size wr v8 (ld.take i) ∧ Below W.heap.size W wr)
    case atStart => exact ⟨0, rfl, rfl, by omega, by simpa using bytes_nil _ _, Below.refl _ _⟩
    case round =>
      obtain ⟨i, rfl, hgk, hk, hY, hB⟩ := hrel
      have Hgk := hide hgk
      clear hgk
      have hli : (ld.take i).length = i := by rw [List.length_take]; omega
      by_cases hlt : i < m0
      · obtain ⟨g0, f0, g1, f1, g2, f2, x, y, z, rfl, rfl, rfl, x0, y0, z0', hat, hcs⟩ := unhide HC i hlt
        obtain ⟨q0, q1, q2⟩ := hcs wr hB
        have hlt0 : (i : Int) < (m0 : Int) := by omega
        have hlt1 : (i : Int) < (m1 : Int) := by omega
        have hlt2 : (i : Int) < (m2 : Int) := by omega
        have hi0' : (0 : Int) ≤ (i : Int) := Int.natCast_nonneg _
        obtain ⟨xy, hxy⟩ : ∃ xy, xy = x ^^^ y := ⟨_, rfl⟩
        have hxyl : xy < 256 := by rw [hxy]; exact Nat.xor_lt_two_pow (n := 8) x0 y0
        obtain ⟨xyz, hxyz⟩ : ∃ u, u = xy ^^^ z := ⟨_, rfl⟩
        have bx : bits .xor .u8 (x : Int) (y : Int) = (xy : Int) := by rw [u8_xor_nat x y x0 y0, hxy]
        have by' : bits .xor .u8 (xy : Int) (z : Int) = (xyz : Int) := by rw [u8_xor_nat xy z hxyl z0', hxyz]
        have Hat : Hid (ld[i]? = some xyz) := by rw [hat, ← hxy, ← hxyz]; rfl
        have HY : Hid (wr.ownsRow W.heap.size 5 1 u8 i (nb (ld.take i))) := by unfold Bytes at hY; rw [hli] at hY; exact hY
        have hsz := hB.size
        clear hcs hat hxy hxyz hY
        go_wp2
        go_region_law (refine step_append_lies _ rfl (.tmp 34) (.tmp 49) 22 rfl W.heap.size 5 i0 (.int .u8 0) 1 1 Tryd.underlying22 hi hz0 hz1 hz2 rfl (by decide) u8 i (nb (ld.take i)) (by simp [Act.eval]) ((show (World.drewN wr _).ownsRow _ _ _ _ _ _ from unhide HY).alloc _) ⟨wr.heap.size, 0, none⟩ 1 1 [.int .u8 (xyz : Int)] (by simp [Act.eval]) (by rfl) (cell_one_new _ _ _) (by simp [Value.oneCell']) (by decide) (by unfold maxLen; omega) (by omega) (by simp; omega) (wr.heap.size + 1) (by simp) ?_; intro g3 cap w3 hown3 hgrow hat3 hlt3)
        all_goals go_wp2
        all_goals go_roundg (m0 - (i + 1))
        all_goals first
          | (have := unhide Hgk; omega)
          | (refine ⟨i + 1, by go_num, rfl, by omega, ?_, ?_⟩
             · have e1 : nb (ld.take i) ++ [Value.int .u8 (xyz : Int)] = nb (ld.take (i + 1)) := by rw [List.take_add_one, unhide Hat, nb_append]; rfl
               have e2 : (ld.take (i + 1)).length = i + 1 := by rw [List.length_take]; omega
               unfold Bytes
               rw [e2, ← e1]
               exact hown3
             · exact below_grow hB hsz hgrow (fun b hb => ((unhide HY).lt b hb).1))
      · have hi' : m0 = i := by omega
        subst hi'
        have hY' : Bytes W.heap.size wr u8 ld := by rwa [List.take_of_length_le (by omega)] at hY
        have hH := hY'.has
        clear hY hY'
        generalize l0.take m0 = r0 at *
        generalize l1.take m0 = r1 at *
        generalize l2.take m0 = r2 at *
        have B1 : bits .xor .i64 ((crc r0 : Nat) : Int) ((crc r1 : Nat) : Int) = ((crc r0 ^^^ crc r1 : Nat) : Int) := i64_xor_nat _ _ (by omega) (by omega)
        have B2 : bits .xor .i64 ((crc r0 ^^^ crc r1 : Nat) : Int) ((crc r2 : Nat) : Int) = ((crc ld : Nat) : Int) := by rw [unhide H0]; exact i64_xor_nat _ _ (by have := xor_lt hx1 hx2; omega) (by omega)
        generalize crc r0 ^^^ crc r1 = c01 at *
        have q1 : (((crc ld : Nat) : Int) == ((crc ld : Nat) : Int)) = true := by simp
        have hB0 := hB
        go_wp2_with fail
        refine (crc_any (hT.up hB0) hH hldb (by omega)).mono ?_
        rintro e w1 ⟨rfl, hb⟩
        have hB1 : Below W.heap.size W w1 := hB0.trans (hb.mono hB0.size)
        clear hb
        go_wp2_with fail
        refine (crc_any (hT.up hB1) ((unhide Ht0).up hB1) b0 (by omega)).mono ?_
        rintro e w2 ⟨rfl, hb⟩
        have hB2 : Below W.heap.size W w2 := hB1.trans (hb.mono hB1.size)
        clear hb
        go_wp2_with fail
        refine (crc_any (hT.up hB2) ((unhide Ht1).up hB2) b1 (by omega)).mono ?_
        rintro e w3 ⟨rfl, hb⟩
        have hB3 : Below W.heap.size W w3 := hB2.trans (hb.mono hB2.size)
        clear hb
        go_wp2_with fail
        refine (crc_any (hT.up hB3) ((unhide Ht2).up hB3) b2 (by omega)).mono ?_
        rintro e w4 ⟨rfl, hb⟩
        have hB4 : Below W.heap.size W w4 := hB3.trans (hb.mono hB3.size)
        clear hb
        have cv := k9_conv w4
        go_wp2_with fail
        refine (crc_any ((hT.up hB4).up (k9_below w4)) (k9_has w4) k9_byt (by decide)).mono ?_
        rintro e w5 ⟨rfl, hb⟩
        have hb12 := (k9_below w4).trans (hb.mono (k9_below w4).size)
        have hB5 : Below W.heap.size W w5 := hB4.trans (hb12.mono hB4.size)
        clear cv hb hb12
        rw [show crc k9 = 3808858755 from crc_known]
        go_wp2
        go_ret
        exact ⟨rfl, hB5⟩
  · clear hnn
    have p1' : m1 < m0 := by omega
    have p2' : decide (m2 < m1) = false := by simp; omega
    clear p1 p2
    go_enter Tryd.func4, Tryd.ntmps4
    go_wp2
    go_loopg [8, 9] m1 (fun gk v8 v9 wr => ∃ (i : Nat), v9 = .int .i64 (i : Int) ∧ gk = m1 - i ∧ i ≤ m1 ∧ Bytes W.heap.size wr v8 (ld.take i) ∧ Below W.heap.size W wr)
    case atStart => exact ⟨0, rfl, rfl, by omega, by simpa using bytes_nil _ _, Below.refl _ _⟩
    case round =>
      obtain ⟨i, rfl, hgk, hk, hY, hB⟩ := hrel
      have Hgk := hide hgk
      clear hgk
      have hli : (ld.take i).length = i := by rw [List.length_take]; omega
      by_cases hlt : i < m1
      · obtain ⟨g0, f0, g1, f1, g2, f2, x, y, z, rfl, rfl, rfl, x0, y0, z0', hat, hcs⟩ := unhide HC i hlt
        obtain ⟨q0, q1, q2⟩ := hcs wr hB
        have hlt0 : (i : Int) < (m0 : Int) := by omega
        have hlt1 : (i : Int) < (m1 : Int) := by omega
        have hlt2 : (i : Int) < (m2 : Int) := by omega
        have hi0' : (0 : Int) ≤ (i : Int) := Int.natCast_nonneg _
        obtain ⟨xy, hxy⟩ : ∃ xy, xy = x ^^^ y := ⟨_, rfl⟩
        have hxyl : xy < 256 := by rw [hxy]; exact Nat.xor_lt_two_pow (n := 8) x0 y0
        obtain ⟨xyz, hxyz⟩ : ∃ u, u = xy ^^^ z := ⟨_, rfl⟩
        have bx : bits .xor .u8 (x : Int) (y : Int) = (xy : Int) := by rw [u8_xor_nat x y x0 y0, hxy]
        have by' : bits .xor .u8 (xy : Int) (z : Int) = (xyz : Int) := by rw [u8_xor_nat xy z hxyl z0', hxyz]
        have Hat : Hid (ld[i]? = some xyz) := by rw [hat, ← hxy, ← hxyz]; rfl
        have HY : Hid (wr.ownsRow W.heap.size 5 1 u8 i (nb (ld.take i))) := by unfold Bytes at hY; rw [hli] at hY; exact hY
        have hsz := hB.size
        clear hcs hat hxy hxyz hY
        go_wp2
        go_region_law (refine step_append_lies _ rfl (.tmp 34) (.tmp 49) 22 rfl W.heap.size 5 i0 (.int .u8 0) 1 1 Tryd.underlying22 hi hz0 hz1 hz2 rfl (by decide) u8 i (nb (ld.take i)) (by simp [Act.eval]) ((show (World.drewN wr _).ownsRow _ _ _ _ _ _ from unhide HY).alloc _) ⟨wr.heap.size, 0, none⟩ 1 1 [.int .u8 (xyz : Int)] (by simp [Act.eval]) (by rfl) (cell_one_new _ _ _) (by simp [Value.oneCell']) (by decide) (by unfold maxLen; omega) (by omega) (by simp; omega) (wr.heap.size + 1) (by simp) ?_; intro g3 cap w3 hown3 hgrow hat3 hlt3)
        all_goals go_wp2
        all_goals go_roundg (m1 - (i + 1))
        all_goals first
          | (have := unhide Hgk; omega)
          | (refine ⟨i + 1, by go_num, rfl, by omega, ?_, ?_⟩
             · have e1 : nb (ld.take i) ++ [Value.int .u8 (xyz : Int)] = nb (ld.take (i + 1)) := by rw [List.take_add_one, unhide Hat, nb_append]; rfl
               have e2 : (ld.take (i + 1)).length = i + 1 := by rw [List.length_take]; omega
               unfold Bytes
               rw [e2, ← e1]
               exact hown3
             · exact below_grow hB hsz hgrow (fun b hb => ((unhide HY).lt b hb).1))
      · have hi' : m1 = i := by omega
        subst hi'
        have hY' : Bytes W.heap.size wr u8 ld := by rwa [List.take_of_length_le (by omega)] at hY
        have hH := hY'.has
        clear hY hY'
        generalize l0.take m1 = r0 at *
        generalize l1.take m1 = r1 at *
        generalize l2.take m1 = r2 at *
        have B1 : bits .xor .i64 ((crc r0 : Nat) : Int) ((crc r1 : Nat) : Int) = ((crc r0 ^^^ crc r1 : Nat) : Int) := i64_xor_nat _ _ (by omega) (by omega)
        have B2 : bits .xor .i64 ((crc r0 ^^^ crc r1 : Nat) : Int) ((crc r2 : Nat) : Int) = ((crc ld : Nat) : Int) := by rw [unhide H0]; exact i64_xor_nat _ _ (by have := xor_lt hx1 hx2; omega) (by omega)
        generalize crc r0 ^^^ crc r1 = c01 at *
        have q1 : (((crc ld : Nat) : Int) == ((crc ld : Nat) : Int)) = true := by simp
        have hB0 := hB
        go_wp2_with fail
        refine (crc_any (hT.up hB0) hH hldb (by omega)).mono ?_
        rintro e w1 ⟨rfl, hb⟩
        have hB1 : Below W.heap.size W w1 := hB0.trans (hb.mono hB0.size)
        clear hb
        go_wp2_with fail
        refine (crc_any (hT.up hB1) ((unhide Ht0).up hB1) b0 (by omega)).mono ?_
        rintro e w2 ⟨rfl, hb⟩
        have hB2 : Below W.heap.size W w2 := hB1.trans (hb.mono hB1.size)
        clear hb
        go_wp2_with fail
        refine (crc_any (hT.up hB2) ((unhide Ht1).up hB2) b1 (by omega)).mono ?_
        rintro e w3 ⟨rfl, hb⟩
        have hB3 : Below W.heap.size W w3 := hB2.trans (hb.mono hB2.size)
        clear hb
        go_wp2_with fail
        refine (crc_any (hT.up hB3) ((unhide Ht2).up hB3) b2 (by omega)).mono ?_
        rintro e w4 ⟨rfl, hb⟩
        have hB4 : Below W.heap.size W w4 := hB3.trans (hb.mono hB3.size)
        clear hb
        have cv := k9_conv w4
        go_wp2_with fail
        refine (crc_any ((hT.up hB4).up (k9_below w4)) (k9_has w4) k9_byt (by decide)).mono ?_
        rintro e w5 ⟨rfl, hb⟩
        have hb12 := (k9_below w4).trans (hb.mono (k9_below w4).size)
        have hB5 : Below W.heap.size W w5 := hB4.trans (hb12.mono hB4.size)
        clear cv hb hb12
        rw [show crc k9 = 3808858755 from crc_known]
        go_wp2
        go_ret
        exact ⟨rfl, hB5⟩
  · clear hnn
    have p1' : decide (m1 < m0) = false := by simp; omega
    have p2' : m2 < m0 := by omega
    clear p1 p2
    go_enter Tryd.func4, Tryd.ntmps4
    go_wp2
    go_loopg [8, 9] m2 (fun gk v8 v9 wr => ∃ (i : Nat), v9 = .int .i64 (i : Int) ∧ gk = m2 - i ∧ i ≤ m2 ∧ Bytes W.heap.size wr v8 (ld.take i) ∧ Below W.heap.size W wr)
    case atStart => exact ⟨0, rfl, rfl, by omega, by simpa using bytes_nil _ _, Below.refl _ _⟩
    case round =>
      obtain ⟨i, rfl, hgk, hk, hY, hB⟩ := hrel
      have Hgk := hide hgk
      clear hgk
      have hli : (ld.take i).length = i := by rw [List.length_take]; omega
      by_cases hlt : i < m2
      · obtain ⟨g0, f0, g1, f1, g2, f2, x, y, z, rfl, rfl, rfl, x0, y0, z0', hat, hcs⟩ := unhide HC i hlt
        obtain ⟨q0, q1, q2⟩ := hcs wr hB
        have hlt0 : (i : Int) < (m0 : Int) := by omega
        have hlt1 : (i : Int) < (m1 : Int) := by omega
        have hlt2 : (i : Int) < (m2 : Int) := by omega
        have hi0' : (0 : Int) ≤ (i : Int) := Int.natCast_nonneg _
        obtain ⟨xy, hxy⟩ : ∃ xy, xy = x ^^^ y := ⟨_, rfl⟩
        have hxyl : xy < 256 := by rw [hxy]; exact Nat.xor_lt_two_pow (n := 8) x0 y0
        obtain ⟨xyz, hxyz⟩ : ∃ u, u = xy ^^^ z := ⟨_, rfl⟩
        have bx : bits .xor .u8 (x : Int) (y : Int) = (xy : Int) := by rw [u8_xor_nat x y x0 y0, hxy]
        have by' : bits .xor .u8 (xy : Int) (z : Int) = (xyz : Int) := by rw [u8_xor_nat xy z hxyl z0', hxyz]
        have Hat : Hid (ld[i]? = some xyz) := by rw [hat, ← hxy, ← hxyz]; rfl
        have HY : Hid (wr.ownsRow W.heap.size 5 1 u8 i (nb (ld.take i))) := by unfold Bytes at hY; rw [hli] at hY; exact hY
        have hsz := hB.size
        clear hcs hat hxy hxyz hY
        go_wp2
        go_region_law (refine step_append_lies _ rfl (.tmp 34) (.tmp 49) 22 rfl W.heap.size 5 i0 (.int .u8 0) 1 1 Tryd.underlying22 hi hz0 hz1 hz2 rfl (by decide) u8 i (nb (ld.take i)) (by simp [Act.eval]) ((show (World.drewN wr _).ownsRow _ _ _ _ _ _ from unhide HY).alloc _) ⟨wr.heap.size, 0, none⟩ 1 1 [.int .u8 (xyz : Int)] (by simp [Act.eval]) (by rfl) (cell_one_new _ _ _) (by simp [Value.oneCell']) (by decide) (by unfold maxLen; omega) (by omega) (by simp; omega) (wr.heap.size + 1) (by simp) ?_; intro g3 cap w3 hown3 hgrow hat3 hlt3)
        all_goals go_wp2
        all_goals go_roundg (m2 - (i + 1))
        all_goals first
          | (have := unhide Hgk; omega)
          | (refine ⟨i + 1, by go_num, rfl, by omega, ?_, ?_⟩
             · have e1 : nb (ld.take i) ++ [Value.int .u8 (xyz : Int)] = nb (ld.take (i + 1)) := by rw [List.take_add_one, unhide Hat, nb_append]; rfl
               have e2 : (ld.take (i + 1)).length = i + 1 := by rw [List.length_take]; omega
               unfold Bytes
               rw [e2, ← e1]
               exact hown3
             · exact below_grow hB hsz hgrow (fun b hb => ((unhide HY).lt b hb).1))
      · have hi' : m2 = i := by omega
        subst hi'
        have hY' : Bytes W.heap.size wr u8 ld := by rwa [List.take_of_length_le (by omega)] at hY
        have hH := hY'.has
        clear hY hY'
        generalize l0.take m2 = r0 at *
        generalize l1.take m2 = r1 at *
        generalize l2.take m2 = r2 at *
        have B1 : bits .xor .i64 ((crc r0 : Nat) : Int) ((crc r1 : Nat) : Int) = ((crc r0 ^^^ crc r1 : Nat) : Int) := i64_xor_nat _ _ (by omega) (by omega)
        have B2 : bits .xor .i64 ((crc r0 ^^^ crc r1 : Nat) : Int) ((crc r2 : Nat) : Int) = ((crc ld : Nat) : Int) := by rw [unhide H0]; exact i64_xor_nat _ _ (by have := xor_lt hx1 hx2; omega) (by omega)
        generalize crc r0 ^^^ crc r1 = c01 at *
        have q1 : (((crc ld : Nat) : Int) == ((crc ld : Nat) : Int)) = true := by simp
        have hB0 := hB
        go_wp2_with fail
        refine (crc_any (hT.up hB0) hH hldb (by omega)).mono ?_
        rintro e w1 ⟨rfl, hb⟩
        have hB1 : Below W.heap.size W w1 := hB0.trans (hb.mono hB0.size)
        clear hb
        go_wp2_with fail
        refine (crc_any (hT.up hB1) ((unhide Ht0).up hB1) b0 (by omega)).mono ?_
        rintro e w2 ⟨rfl, hb⟩
        have hB2 : Below W.heap.size W w2 := hB1.trans (hb.mono hB1.size)
        clear hb
        go_wp2_with fail
        refine (crc_any (hT.up hB2) ((unhide Ht1).up hB2) b1 (by omega)).mono ?_
        rintro e w3 ⟨rfl, hb⟩
        have hB3 : Below W.heap.size W w3 := hB2.trans (hb.mono hB2.size)
        clear hb
        go_wp2_with fail
        refine (crc_any (hT.up hB3) ((unhide Ht2).up hB3) b2 (by omega)).mono ?_
        rintro e w4 ⟨rfl, hb⟩
        have hB4 : Below W.heap.size W w4 := hB3.trans (hb.mono hB3.size)
        clear hb
        have cv := k9_conv w4
        go_wp2_with fail
        refine (crc_any ((hT.up hB4).up (k9_below w4)) (k9_has w4) k9_byt (by decide)).mono ?_
        rintro e w5 ⟨rfl, hb⟩
        have hb12 := (k9_below w4).trans (hb.mono (k9_below w4).size)
        have hB5 : Below W.heap.size W w5 := hB4.trans (hb12.mono hB4.size)
        clear cv hb hb12
        rw [show crc k9 = 3808858755 from crc_known]
        go_wp2
        go_ret
        exact ⟨rfl, hB5⟩
  · clear hnn
    have p1' : m1 < m0 := by omega
    have p2' : m2 < m1 := by omega
    clear p1 p2
    go_enter Tryd.func4, Tryd.ntmps4
    go_wp2
    go_loopg [8, 9] m2 (fun gk v8 v9 wr => ∃ (i : Nat), v9 = .int .i64 (i : Int) ∧ gk = m2 - i ∧ i ≤ m2 ∧ Bytes W.heap.size wr v8 (ld.take i) ∧ Below W.heap.size W wr)
    case atStart => exact ⟨0, rfl, rfl, by omega, by simpa using bytes_nil _ _, Below.refl _ _⟩
    case round =>
      obtain ⟨i, rfl, hgk, hk, hY, hB⟩ := hrel
      have Hgk := hide hgk
      clear hgk
      have hli : (ld.take i).length = i := by rw [List.length_take]; omega
      by_cases hlt : i < m2
      · obtain ⟨g0, f0, g1, f1, g2, f2, x, y, z, rfl, rfl, rfl, x0, y0, z0', hat, hcs⟩ := unhide HC i hlt
        obtain ⟨q0, q1, q2⟩ := hcs wr hB
        have hlt0 : (i : Int) < (m0 : Int) := by omega
        have hlt1 : (i : Int) < (m1 : Int) := by omega
        have hlt2 : (i : Int) < (m2 : Int) := by omega
        have hi0' : (0 : Int) ≤ (i : Int) := Int.natCast_nonneg _
        obtain ⟨xy, hxy⟩ : ∃ xy, xy = x ^^^ y := ⟨_, rfl⟩
        have hxyl : xy < 256 := by rw [hxy]; exact Nat.xor_lt_two_pow (n := 8) x0 y0
        obtain ⟨xyz, hxyz⟩ : ∃ u, u = xy ^^^ z := ⟨_, rfl⟩
        have bx : bits .xor .u8 (x : Int) (y : Int) = (xy : Int) := by rw [u8_xor_nat x y x0 y0, hxy]
        have by' : bits .xor .u8 (xy : Int) (z : Int) = (xyz : Int) := by rw [u8_xor_nat xy z hxyl z0', hxyz]
        have Hat : Hid (ld[i]? = some xyz) := by rw [hat, ← hxy, ← hxyz]; rfl
        have HY : Hid (wr.ownsRow W.heap.size 5 1 u8 i (nb (ld.take i))) := by unfold Bytes at hY; rw [hli] at hY; exact hY
        have hsz := hB.size
        clear hcs hat hxy hxyz hY
        go_wp2
        go_region_law (refine step_append_lies _ rfl (.tmp 34) (.tmp 49) 22 rfl W.heap.size 5 i0 (.int .u8 0) 1 1 Tryd.underlying22 hi hz0 hz1 hz2 rfl (by decide) u8 i (nb (ld.take i)) (by simp [Act.eval]) ((show (World.drewN wr _).ownsRow _ _ _ _ _ _ from unhide HY).alloc _) ⟨wr.heap.size, 0, none⟩ 1 1 [.int .u8 (xyz : Int)] (by simp [Act.eval]) (by rfl) (cell_one_new _ _ _) (by simp [Value.oneCell']) (by decide) (by unfold maxLen; omega) (by omega) (by simp; omega) (wr.heap.size + 1) (by simp) ?_; intro g3 cap w3 hown3 hgrow hat3 hlt3)
        all_goals go_wp2
        all_goals go_roundg (m2 - (i + 1))
        all_goals first
          | (have := unhide Hgk; omega)
          | (refine ⟨i + 1, by go_num, rfl, by omega, ?_, ?_⟩
             · have e1 : nb (ld.take i) ++ [Value.int .u8 (xyz : Int)] = nb (ld.take (i + 1)) := by rw [List.take_add_one, unhide Hat, nb_append]; rfl
               have e2 : (ld.take (i + 1)).length = i + 1 := by rw [List.length_take]; omega
               unfold Bytes
               rw [e2, ← e1]
               exact hown3
             · exact below_grow hB hsz hgrow (fun b hb => ((unhide HY).lt b hb).1))
      · have hi' : m2 = i := by omega
        subst hi'
        have hY' : Bytes W.heap.size wr u8 ld := by rwa [List.take_of_length_le (by omega)] at hY
        have hH := hY'.has
        clear hY hY'
        generalize l0.take m2 = r0 at *
        generalize l1.take m2 = r1 at *
        generalize l2.take m2 = r2 at *
        have B1 : bits .xor .i64 ((crc r0 : Nat) : Int) ((crc r1 : Nat) : Int) = ((crc r0 ^^^ crc r1 : Nat) : Int) := i64_xor_nat _ _ (by omega) (by omega)
        have B2 : bits .xor .i64 ((crc r0 ^^^ crc r1 : Nat) : Int) ((crc r2 : Nat) : Int) = ((crc ld : Nat) : Int) := by rw [unhide H0]; exact i64_xor_nat _ _ (by have := xor_lt hx1 hx2; omega) (by omega)
        generalize crc r0 ^^^ crc r1 = c01 at *
        have q1 : (((crc ld : Nat) : Int) == ((crc ld : Nat) : Int)) = true := by simp
        have hB0 := hB
        go_wp2_with fail
        refine (crc_any (hT.up hB0) hH hldb (by omega)).mono ?_
        rintro e w1 ⟨rfl, hb⟩
        have hB1 : Below W.heap.size W w1 := hB0.trans (hb.mono hB0.size)
        clear hb
        go_wp2_with fail
        refine (crc_any (hT.up hB1) ((unhide Ht0).up hB1) b0 (by omega)).mono ?_
        rintro e w2 ⟨rfl, hb⟩
        have hB2 : Below W.heap.size W w2 := hB1.trans (hb.mono hB1.size)
        clear hb
        go_wp2_with fail
        refine (crc_any (hT.up hB2) ((unhide Ht1).up hB2) b1 (by omega)).mono ?_
        rintro e w3 ⟨rfl, hb⟩
        have hB3 : Below W.heap.size W w3 := hB2.trans (hb.mono hB2.size)
        clear hb
        go_wp2_with fail
        refine (crc_any (hT.up hB3) ((unhide Ht2).up hB3) b2 (by omega)).mono ?_
        rintro e w4 ⟨rfl, hb⟩
        have hB4 : Below W.heap.size W w4 := hB3.trans (hb.mono hB3.size)
        clear hb
        have cv := k9_conv w4
        go_wp2_with fail
        refine (crc_any ((hT.up hB4).up (k9_below w4)) (k9_has w4) k9_byt (by decide)).mono ?_
        rintro e w5 ⟨rfl, hb⟩
        have hb12 := (k9_below w4).trans (hb.mono (k9_below w4).size)
        have hB5 : Below W.heap.size W w5 := hB4.trans (hb12.mono hB4.size)
        clear cv hb hb12
        rw [show crc k9 = 3808858755 from crc_known]
        go_wp2
        go_ret
        exact ⟨rfl, hB5⟩
end Go.Proofs.YtoclbmdnndaccaaDoor
