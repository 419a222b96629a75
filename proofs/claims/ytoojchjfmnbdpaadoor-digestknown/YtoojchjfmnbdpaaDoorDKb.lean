import Derived.Test.YtoojchjfmnbdpaaDoorDKs
namespace Go.Proofs.YtoojchjfmnbdpaaDoor
open Go.RowKit
attribute [local go_sem ↓] Go.wp_at_zero Go.wp_at_succ

def k9 : List Nat := [49, 50, 51, 52, 53, 54, 55, 56, 57]
theorem k9_byt : Byt k9 := by unfold Byt k9; decide
def k9w (w : World) : World := w.alloc (.cells #[.int .u8 49, .int .u8 50, .int .u8 51, .int .u8 52, .int .u8 53, .int .u8 54, .int .u8 55, .int .u8 56, .int .u8 57] 5 (9, 10))
theorem k9_conv (w : World) : (convert 22 22 (.slice (some ⟨w.heap.size, 0, none⟩) 9 9)).run Tryd.prog (w.alloc (.cells #[.int .u8 49, .int .u8 50, .int .u8 51, .int .u8 52, .int .u8 53, .int .u8 54, .int .u8 55, .int .u8 56, .int .u8 57] 5)) = .ok (.slice (some ⟨w.heap.size, 0, none⟩) 9 9) (k9w w) :=
  Lib.run_convert_bytes_const w _ _ _ 9 9 Tryd.underlying22 Tryd.underlying5
theorem k9_has (w : World) : HasB (k9w w) (.slice (some ⟨w.heap.size, 0, none⟩) 9 9) k9 :=
  hasB_lit (l := k9) (heap_new _ _) 9 9 rfl (by decide)
theorem k9_below (w : World) : Below w.heap.size w (k9w w) := (Below.refl _ _).alloc (Nat.le_refl _) _

theorem callX_any (w : World) (vs : Array Value) : (callFunc 8 vs).run Tryd.prog w = .ok (.enter 8 vs) w := by
  have hn : ¬ Tryd.f8.name = "runtime.NumGoroutine" := by decide +kernel
  have hb : Tryd.f8.body.isSome = true := by kernel_rfl
  obtain ⟨c, hc⟩ := Option.isSome_iff_exists.1 hb
  simp [callFunc, Tryd.func8, hn, hc]
theorem crc_z32 : crc (z0 32) = 2324772522 := by decide +kernel
theorem crc_z : crc [] = 0 := by decide +kernel
theorem own_byte1 {W : World} {base n : Nat} {v : Value} {l : List Nat} {x : Nat} {z : Int} (hz : z = (x : Int)) (hn : n = l.length) (h : W.ownsRow base 5 1 v (n + 1) (nb l ++ [.int .u8 z])) : Bytes base W v (l ++ [x]) := by
  subst hz hn
  unfold Bytes
  rw [nb_append, List.length_append]
  exact h
theorem LitB.up {S : Nat} {w w' : World} {x : Value} {l : List Nat} (h : LitB S w x l) (hb : Below w.heap.size w w') : LitB S w' x l := by
  obtain ⟨b, fr, rfl, h1, h2⟩ := h
  exact ⟨b, fr, rfl, h1, (hb.block b (Array.getElem?_eq_some_iff.1 h2).1).trans h2⟩
theorem done_keep {d : Array Bool} {i j : Nat} (h : d.getD j false = true) : (d.setIfInBounds i true).getD j false = true := by
  by_cases e : i = j
  · subst e
    by_cases hi : i < d.size
    · simp [hi]
    · simp [hi] at h
  · rwa [getD_set_ne false e]
theorem HasBB.marks {W : World} {v : Value} {ls : List (List Nat)} (h : HasBB W v ls) (b n : Nat) : HasBB (marked W b n) v ls := by
  have hc : ∀ (p : Addr) (u : Value), p.spot = none → W.cell? p = some u → (marked W b n).cell? p = some u := fun p u hp hu => by
    obtain ⟨k, off, sp⟩ := p
    simp only at hp
    subst hp
    unfold World.cell? at hu ⊢
    rcases hk : W.heap[k]? with _ | o
    · rw [hk] at hu; simp at hu
    · rcases o with ⟨C, t, fr⟩ | _
      · obtain ⟨fr', h2⟩ := marked_heap W b n k hk
        rw [hk] at hu
        rw [h2]
        exact hu
      all_goals (rw [hk] at hu; simp at hu)
  obtain ⟨a, c, rfl, hm, h3⟩ := h
  refine ⟨a, c, rfl, hm, fun hp => ?_⟩
  obtain ⟨g, off, rfl, h4, h5⟩ := h3 hp
  refine ⟨g, off, rfl, by rw [marked_size]; exact h4, fun i l hl => ?_⟩
  obtain ⟨u, hu, ua, uc, rfl, um, u3⟩ := h5 i l hl
  refine ⟨_, hc _ _ rfl hu, ua, uc, rfl, um, fun hp' => ?_⟩
  obtain ⟨g', off', rfl, h6, h7⟩ := u3 hp'
  exact ⟨g', off', rfl, by rw [marked_size]; exact h6, fun j x hx => hc _ _ rfl (h7 j x hx)⟩
theorem done_of {ops : Array Oper} {md : Region.Mode} {d : Array Bool} {i : Nat} {o : Oper} (hsz : i < d.size) (hr : Region.ready md ops d = []) (ho : ops[i]? = some o) (hdeps : ∀ e ∈ o.after, Region.binds md e = true → d.getD e.on false = true) : d.getD i false = true := by
  by_cases h : d.getD i true = false
  · have : i ∈ Region.ready md ops d := mem_ready.2 ⟨h, o, ho, hdeps⟩
    rw [hr] at this
    cases this
  · simp [hsz] at h ⊢
    exact h
theorem hasBB_list {W : World} {us : List Value} {ls : List (List Nat)} (hl : us.length = ls.length) (hn : ls.length ≤ 1000) (h : ∀ (j : Nat) (u : Value) (l : List Nat), us[j]? = some u → ls[j]? = some l → HasB W u l) (t : TypeId) : HasBB (W.alloc (.cells us.toArray t)) (.slice (some ⟨W.heap.size, 0, none⟩) ls.length ls.length) ls := by
  have hb : Below W.heap.size W (W.alloc (.cells us.toArray t)) := (Below.refl _ _).alloc (Nat.le_refl _) _
  refine ⟨_, _, rfl, ⟨Nat.le_refl _, by unfold maxLen; omega, nofun⟩, fun _ => ⟨W.heap.size, 0, rfl, by rw [World.size_alloc]; omega, fun i x hx => ?_⟩⟩
  have hi : i < us.length := by rw [hl]; exact (List.getElem?_eq_some_iff.1 hx).1
  refine ⟨us[i], ?_, (h i _ x (List.getElem?_eq_getElem hi) hx).up hb⟩
  rw [Nat.zero_add, cell_of_row _ _ _ _ _ _ (heap_new W _), List.getElem?_toArray, List.getElem?_eq_getElem hi]
def frX (y0 y1 y2 y3 y4 y5 y6 y7 y8 y9 y10 y11 y12 y13 y14 y15 y16 y17 y18 y19 y20 y21 y22 y23 y24 y25 y26 y27 y28 y29 y30 y31 y32 y33 y34 y35 y36 y37 y38 y39 y40 x41 x42 x43 x44 x45 x46 x47 : Value) : Act := ⟨#[y0, y1, y2, y3, y4, y5, y6, y7, y8, y9, y10, y11, y12, y13, y14, y15, y16, y17, y18, y19, y20, y21, y22, y23, y24, y25, y26, y27, y28, y29, y30, y31, y32, y33, y34, y35, y36, y37, y38, y39, y40, x41, x42, x43, x44, x45, x46, x47, undef, undef, undef, undef, undef, undef, undef, undef, undef, undef, undef, undef, undef, undef, undef, undef, undef, undef, undef, undef, undef, undef, undef, undef, undef, undef, undef, undef], []⟩
/-- What holds of the done operations of the comparison. -/
structure InvX (S : Nat) (W1 : World) (v6 s4 : Value) (bS i : Nat) (so : ByteArray) (y0 y1 y2 y3 y4 y5 y6 y7 y8 y9 y10 y11 y12 y13 y14 y15 y16 y17 y18 y19 y20 y21 y22 y23 y24 y25 y26 y27 y28 y29 y30 y31 y32 y33 y34 y35 y36 y37 y38 y39 y40 : Value) (d : Array Bool) (a : Act) (w : World) : Prop where
  all : ∃ x41 x42 x43 x44 x45 x46 x47 : Value, d.size = 7 ∧ a = frX y0 y1 y2 y3 y4 y5 y6 y7 y8 y9 y10 y11 y12 y13 y14 y15 y16 y17 y18 y19 y20 y21 y22 y23 y24 y25 y26 y27 y28 y29 y30 y31 y32 y33 y34 y35 y36 y37 y38 y39 y40 x41 x42 x43 x44 x45 x46 x47 ∧ Below S W1 w ∧ S ≤ w.heap.size ∧ (d.getD 0 false = true → x41 = v6) ∧ (d.getD 1 false = true → x42 = .string so) ∧ (d.getD 2 false = true → x43 = s4) ∧ (d.getD 3 false = true → x44 = .int .i64 (i : Int)) ∧ (d.getD 4 false = true → x45 = .pointer (some ⟨bS, i, none⟩)) ∧ (d.getD 5 false = true → x46 = .string so) ∧ (d.getD 6 false = true → x47 = .bool false)
def frK (u1 u12 u13 u14 u15 u16 u17 u18 u19 x3 x20 x21 x22 x23 x24 x25 x26 x27 x28 : Value) : Act := ⟨#[.bool false, u1, .int .i64 1000, x3, undef, undef, undef, undef, undef, undef, .int .i64 1000, .bool false, u12, u13, u14, u15, u16, u17, u18, u19, x20, x21, x22, x23, x24, x25, x26, x27, x28, undef, undef, undef, undef, undef, undef, undef, undef, undef, undef, undef, undef, undef, undef, undef, undef, undef, undef, undef, undef, undef, undef, undef, undef, undef, undef, undef, undef, undef, undef, undef, undef, undef, undef, undef, undef, undef, undef, undef, undef, undef, undef, undef, undef, undef, undef, undef], []⟩
/-- What holds of the done operations. -/
structure InvK (S : Nat) (W1 : World) (u1 u12 u13 u14 u15 u16 u17 u18 u19 : Value) (d : Array Bool) (a : Act) (w : World) : Prop where
  all : ∃ x3 x20 x21 x22 x23 x24 x25 x26 x27 x28 : Value, d.size = 10 ∧ a = frK u1 u12 u13 u14 u15 u16 u17 u18 u19 x3 x20 x21 x22 x23 x24 x25 x26 x27 x28 ∧ Below S W1 w ∧ S ≤ w.heap.size ∧ (d.getD 0 false = true → LitB S w x20 abcL) ∧ (d.getD 1 false = true → LitB S w x21 abcL) ∧ (d.getD 2 false = true → LitB S w x22 l56) ∧ (d.getD 3 false = true → LitB S w x23 l56) ∧ (d.getD 4 false = true → LitB S w x24 (z0 55)) ∧ (d.getD 5 false = true → LitB S w x25 (z0 56)) ∧ (d.getD 6 false = true → LitB S w x26 (z0 64)) ∧ (d.getD 7 false = true → x27 = u1) ∧ (d.getD 8 false = true → HasBB w x28 lsK) ∧ (d.getD 9 false = true → x3 = x28 ∧ d.getD 8 false = true)
set_option maxRecDepth 100000 in
set_option maxHeartbeats 4000000 in
theorem known_any {W : World} (hT : HasT W) (hS : HasS W) (hK : HasK W) :
    Calls Tryd.prog 3 #[] W fun e W' => e = .returned (.bool true) ∧ Below W.heap.size W W' := by
  obtain ⟨i0, hi, hz0, hz1, hz2⟩ := info_parts Tryd.infoByte
  have H0 : Hid (Bytes W.heap.size W (.slice none 0 0) (th 0)) := bytes_nil _ _
  have HB0 : Hid (Below W.heap.size W W) := Below.refl _ _
  have callX : ∀ (w : World) (vs : Array Value), (callFunc 8 vs).run Tryd.prog w = .ok (.enter 8 vs) w := fun w vs => callX_any w vs
  go_enter Tryd.func3, Tryd.ntmps3
  go_wp2
  go_loopg [1, 2] 1000 (fun gk v1 v2 wr => ∃ (i : Nat), v2 = .int .i64 (i : Int) ∧ gk = 1000 - i ∧ i ≤ 1000 ∧ Hid (Bytes W.heap.size wr v1 (th i)) ∧ Hid (Below W.heap.size W wr))
  case atStart => exact ⟨0, rfl, rfl, by omega, H0, HB0⟩
  case round =>
    clear H0 HB0
    obtain ⟨i, rfl, hgk, hk, HY, HB⟩ := hrel
    have Hgk := hide hgk
    clear hgk
    have hszB := (unhide HB).size
    by_cases hlt : i < 1000
    · obtain ⟨x, hx⟩ : ∃ x, x = 7 * i % 256 := ⟨_, rfl⟩
      have Hx : Hid (7 * (i : Int) % 256 = (x : Int)) := by show _ = _; omega
      have Hnx : Hid (th (i + 1) = th i ++ [x]) := by show _ = _; rw [th_more, hx]
      have O1 : Hid ((th i).length + 1 ≤ maxLen) := by show _ ≤ _; rw [th_len]; unfold maxLen; omega
      have O2 : Hid (((th i).length + 1) * 1 ≤ 140737488355328) := by show _ ≤ _; rw [th_len]; omega
      clear hx
      go_wp2_with (at_builtin; refine wpList_append_own_at _ rfl _ _ 22 rfl W.heap.size 5 i0 (.int .u8 0) 1 1 Tryd.underlying22 hi hz0 hz1 hz2 rfl (by decide) _ _ _ rfl ((unhide HY).alloc _) ⟨wr.heap.size, 0, none⟩ 1 1 [.int .u8 (7 * (i : Int) % 256)] rfl rfl (cell_one_new _ _ _) (by simp [Value.oneCell']) (unhide O1) (unhide O2) (by rw [World.size_alloc]; omega) ?_; intro v4 w4 hown4 hgrow4 hdrop4 hat4; clear hdrop4; have Hown := hide hown4; have Hb4 : Hid (Below W.heap.size W w4) := below_grow0 (unhide HB) hszB hgrow4 (fun b hb => ((unhide HY).lt b hb).1); clear hown4 hgrow4 hat4)
      go_roundg (1000 - (i + 1))
      case measure => have := unhide Hgk; omega
      case rel =>
        refine ⟨i + 1, by go_num, rfl, by omega, ?_, Hb4⟩
        show Bytes _ _ _ _
        rw [unhide Hnx]
        exact own_byte1 (unhide Hx) rfl (unhide Hown)
    · obtain rfl : i = 1000 := by omega
      go_wp2_with fail
      have hsz0 := (unhide HB).size
      refine wp_region_any (by kernel_rfl) (wpAny_inv (InvK wr.heap.size wr u1 u12 u13 u14 u15 u16 u17 u18 u19) ?step ?fin _ _ _ _ ?beg ?cnt)
      case cnt => decide
      case beg => exact ⟨undef, undef, undef, undef, undef, undef, undef, undef, undef, undef, rfl, rfl, ⟨rfl, rfl, rfl, Nat.le_refl _, fun _ _ => rfl⟩, Nat.le_refl _, fun h => by simp at h, fun h => by simp at h, fun h => by simp at h, fun h => by simp at h, fun h => by simp at h, fun h => by simp at h, fun h => by simp at h, fun h => by simp at h, fun h => by simp at h, fun h => by simp at h⟩
      case step =>
        intro d a w i hI hr
        obtain ⟨x3, x20, x21, x22, x23, x24, x25, x26, x27, x28, hds, rfl, hb, hs, f0, f1, f2, f3, f4, f5, f6, f7, f8, f9⟩ := hI.all
        obtain ⟨hd, o, ho, hall⟩ := mem_ready.1 hr
        have hi10 : i < 10 := (Array.getElem?_eq_some_iff.1 ho).1
        clear hI hd hall
        unfold frK
        rcases (show i = 0 ∨ i = 1 ∨ i = 2 ∨ i = 3 ∨ i = 4 ∨ i = 5 ∨ i = 6 ∨ i = 7 ∨ i = 8 ∨ i = 9 by omega) with rfl | rfl | rfl | rfl | rfl | rfl | rfl | rfl | rfl | rfl
        · have BEL : Below w.heap.size w (w.alloc (.cells (nb (abcL)).toArray 5)) := (Below.refl _ _).alloc (Nat.le_refl _) _
          refine wpOp_step rfl (fun K' hK' => ?_)
          go_simp
          refine hK' _ _ ⟨x3, (.slice (some ⟨w.heap.size, 0, none⟩) (abcL).length (abcL).length), x21, x22, x23, x24, x25, x26, x27, x28, by rw [Array.size_setIfInBounds]; exact hds, rfl, hb.trans (BEL.mono hs), by rw [World.size_alloc]; omega, fun _ => lit_new (abcL) hs, fun h => (f1 ((done_set h).resolve_left (by decide))).alloc _, fun h => (f2 ((done_set h).resolve_left (by decide))).alloc _, fun h => (f3 ((done_set h).resolve_left (by decide))).alloc _, fun h => (f4 ((done_set h).resolve_left (by decide))).alloc _, fun h => (f5 ((done_set h).resolve_left (by decide))).alloc _, fun h => (f6 ((done_set h).resolve_left (by decide))).alloc _, fun h => f7 ((done_set h).resolve_left (by decide)), fun h => (f8 ((done_set h).resolve_left (by decide))).up BEL, fun h => ⟨(f9 ((done_set h).resolve_left (by decide))).1, done_keep (f9 ((done_set h).resolve_left (by decide))).2⟩⟩
        · have hL := f0 (all_done hr rfl ⟨⟨0, .data⟩, by simp, by rfl, rfl⟩)
          obtain ⟨b, hbS, hcv⟩ := conv_lit hL
          refine wpOp_step rfl (fun K' hK' => ?_)
          go_simp
          refine hK' _ _ ⟨x3, x20, x20, x22, x23, x24, x25, x26, x27, x28, by rw [Array.size_setIfInBounds]; exact hds, rfl, below_mark hb hbS _, by rw [marked_size]; exact hs, fun h => (f0 ((done_set h).resolve_left (by decide))).mark _ _, fun _ => hL.mark _ _, fun h => (f2 ((done_set h).resolve_left (by decide))).mark _ _, fun h => (f3 ((done_set h).resolve_left (by decide))).mark _ _, fun h => (f4 ((done_set h).resolve_left (by decide))).mark _ _, fun h => (f5 ((done_set h).resolve_left (by decide))).mark _ _, fun h => (f6 ((done_set h).resolve_left (by decide))).mark _ _, fun h => f7 ((done_set h).resolve_left (by decide)), fun h => (f8 ((done_set h).resolve_left (by decide))).marks _ _, fun h => ⟨(f9 ((done_set h).resolve_left (by decide))).1, done_keep (f9 ((done_set h).resolve_left (by decide))).2⟩⟩
        · have BEL : Below w.heap.size w (w.alloc (.cells (nb (l56)).toArray 5)) := (Below.refl _ _).alloc (Nat.le_refl _) _
          refine wpOp_step rfl (fun K' hK' => ?_)
          go_simp
          refine hK' _ _ ⟨x3, x20, x21, (.slice (some ⟨w.heap.size, 0, none⟩) (l56).length (l56).length), x23, x24, x25, x26, x27, x28, by rw [Array.size_setIfInBounds]; exact hds, rfl, hb.trans (BEL.mono hs), by rw [World.size_alloc]; omega, fun h => (f0 ((done_set h).resolve_left (by decide))).alloc _, fun h => (f1 ((done_set h).resolve_left (by decide))).alloc _, fun _ => lit_new (l56) hs, fun h => (f3 ((done_set h).resolve_left (by decide))).alloc _, fun h => (f4 ((done_set h).resolve_left (by decide))).alloc _, fun h => (f5 ((done_set h).resolve_left (by decide))).alloc _, fun h => (f6 ((done_set h).resolve_left (by decide))).alloc _, fun h => f7 ((done_set h).resolve_left (by decide)), fun h => (f8 ((done_set h).resolve_left (by decide))).up BEL, fun h => ⟨(f9 ((done_set h).resolve_left (by decide))).1, done_keep (f9 ((done_set h).resolve_left (by decide))).2⟩⟩
        · have hL := f2 (all_done hr rfl ⟨⟨2, .data⟩, by simp, by rfl, rfl⟩)
          obtain ⟨b, hbS, hcv⟩ := conv_lit hL
          refine wpOp_step rfl (fun K' hK' => ?_)
          go_simp
          refine hK' _ _ ⟨x3, x20, x21, x22, x22, x24, x25, x26, x27, x28, by rw [Array.size_setIfInBounds]; exact hds, rfl, below_mark hb hbS _, by rw [marked_size]; exact hs, fun h => (f0 ((done_set h).resolve_left (by decide))).mark _ _, fun h => (f1 ((done_set h).resolve_left (by decide))).mark _ _, fun h => (f2 ((done_set h).resolve_left (by decide))).mark _ _, fun _ => hL.mark _ _, fun h => (f4 ((done_set h).resolve_left (by decide))).mark _ _, fun h => (f5 ((done_set h).resolve_left (by decide))).mark _ _, fun h => (f6 ((done_set h).resolve_left (by decide))).mark _ _, fun h => f7 ((done_set h).resolve_left (by decide)), fun h => (f8 ((done_set h).resolve_left (by decide))).marks _ _, fun h => ⟨(f9 ((done_set h).resolve_left (by decide))).1, done_keep (f9 ((done_set h).resolve_left (by decide))).2⟩⟩
        · obtain ⟨w', hrun, r1, r2⟩ := run_make_full (P := Tryd.prog) w w.heap.size 22 5 i0 (.int .u8 0) 1 Tryd.underlying22 hi hz0 hz1 .i64 .i64 55 (by rw [hz2]; decide) (by unfold maxLen; decide) (Nat.le_refl _)
          have hmk : (Instr.makeSlice 22 (.int .i64 55) (.int .i64 55)).run Tryd.prog w = .ok (.slice (some ⟨w.heap.size, 0, none⟩) 55 55) w' := hrun
          have BEL : Below w.heap.size w w' := ⟨r2.os, r2.tape, r2.output, r2.size, fun b hb => r2.block b hb (by simp)⟩
          have hLn : LitB wr.heap.size w' (.slice (some ⟨w.heap.size, 0, none⟩) 55 55) (z0 55) := ⟨w.heap.size, (0, 0), rfl, hs, made_row r1⟩
          have hs' : wr.heap.size ≤ w'.heap.size := Nat.le_trans hs BEL.size
          clear hrun r1 r2
          refine wpOp_step rfl (fun K' hK' => ?_)
          go_simp
          refine hK' _ _ ⟨x3, x20, x21, x22, x23, (.slice (some ⟨w.heap.size, 0, none⟩) 55 55), x25, x26, x27, x28, by rw [Array.size_setIfInBounds]; exact hds, rfl, hb.trans (BEL.mono hs), hs', fun h => (f0 ((done_set h).resolve_left (by decide))).up BEL, fun h => (f1 ((done_set h).resolve_left (by decide))).up BEL, fun h => (f2 ((done_set h).resolve_left (by decide))).up BEL, fun h => (f3 ((done_set h).resolve_left (by decide))).up BEL, fun _ => hLn, fun h => (f5 ((done_set h).resolve_left (by decide))).up BEL, fun h => (f6 ((done_set h).resolve_left (by decide))).up BEL, fun h => f7 ((done_set h).resolve_left (by decide)), fun h => (f8 ((done_set h).resolve_left (by decide))).up BEL, fun h => ⟨(f9 ((done_set h).resolve_left (by decide))).1, done_keep (f9 ((done_set h).resolve_left (by decide))).2⟩⟩
        · obtain ⟨w', hrun, r1, r2⟩ := run_make_full (P := Tryd.prog) w w.heap.size 22 5 i0 (.int .u8 0) 1 Tryd.underlying22 hi hz0 hz1 .i64 .i64 56 (by rw [hz2]; decide) (by unfold maxLen; decide) (Nat.le_refl _)
          have hmk : (Instr.makeSlice 22 (.int .i64 56) (.int .i64 56)).run Tryd.prog w = .ok (.slice (some ⟨w.heap.size, 0, none⟩) 56 56) w' := hrun
          have BEL : Below w.heap.size w w' := ⟨r2.os, r2.tape, r2.output, r2.size, fun b hb => r2.block b hb (by simp)⟩
          have hLn : LitB wr.heap.size w' (.slice (some ⟨w.heap.size, 0, none⟩) 56 56) (z0 56) := ⟨w.heap.size, (0, 0), rfl, hs, made_row r1⟩
          have hs' : wr.heap.size ≤ w'.heap.size := Nat.le_trans hs BEL.size
          clear hrun r1 r2
          refine wpOp_step rfl (fun K' hK' => ?_)
          go_simp
          refine hK' _ _ ⟨x3, x20, x21, x22, x23, x24, (.slice (some ⟨w.heap.size, 0, none⟩) 56 56), x26, x27, x28, by rw [Array.size_setIfInBounds]; exact hds, rfl, hb.trans (BEL.mono hs), hs', fun h => (f0 ((done_set h).resolve_left (by decide))).up BEL, fun h => (f1 ((done_set h).resolve_left (by decide))).up BEL, fun h => (f2 ((done_set h).resolve_left (by decide))).up BEL, fun h => (f3 ((done_set h).resolve_left (by decide))).up BEL, fun h => (f4 ((done_set h).resolve_left (by decide))).up BEL, fun _ => hLn, fun h => (f6 ((done_set h).resolve_left (by decide))).up BEL, fun h => f7 ((done_set h).resolve_left (by decide)), fun h => (f8 ((done_set h).resolve_left (by decide))).up BEL, fun h => ⟨(f9 ((done_set h).resolve_left (by decide))).1, done_keep (f9 ((done_set h).resolve_left (by decide))).2⟩⟩
        · obtain ⟨w', hrun, r1, r2⟩ := run_make_full (P := Tryd.prog) w w.heap.size 22 5 i0 (.int .u8 0) 1 Tryd.underlying22 hi hz0 hz1 .i64 .i64 64 (by rw [hz2]; decide) (by unfold maxLen; decide) (Nat.le_refl _)
          have hmk : (Instr.makeSlice 22 (.int .i64 64) (.int .i64 64)).run Tryd.prog w = .ok (.slice (some ⟨w.heap.size, 0, none⟩) 64 64) w' := hrun
          have BEL : Below w.heap.size w w' := ⟨r2.os, r2.tape, r2.output, r2.size, fun b hb => r2.block b hb (by simp)⟩
          have hLn : LitB wr.heap.size w' (.slice (some ⟨w.heap.size, 0, none⟩) 64 64) (z0 64) := ⟨w.heap.size, (0, 0), rfl, hs, made_row r1⟩
          have hs' : wr.heap.size ≤ w'.heap.size := Nat.le_trans hs BEL.size
          clear hrun r1 r2
          refine wpOp_step rfl (fun K' hK' => ?_)
          go_simp
          refine hK' _ _ ⟨x3, x20, x21, x22, x23, x24, x25, (.slice (some ⟨w.heap.size, 0, none⟩) 64 64), x27, x28, by rw [Array.size_setIfInBounds]; exact hds, rfl, hb.trans (BEL.mono hs), hs', fun h => (f0 ((done_set h).resolve_left (by decide))).up BEL, fun h => (f1 ((done_set h).resolve_left (by decide))).up BEL, fun h => (f2 ((done_set h).resolve_left (by decide))).up BEL, fun h => (f3 ((done_set h).resolve_left (by decide))).up BEL, fun h => (f4 ((done_set h).resolve_left (by decide))).up BEL, fun h => (f5 ((done_set h).resolve_left (by decide))).up BEL, fun _ => hLn, fun h => f7 ((done_set h).resolve_left (by decide)), fun h => (f8 ((done_set h).resolve_left (by decide))).up BEL, fun h => ⟨(f9 ((done_set h).resolve_left (by decide))).1, done_keep (f9 ((done_set h).resolve_left (by decide))).2⟩⟩
        · refine wpOp_step rfl (fun K' hK' => ?_)
          go_simp
          refine hK' _ _ ⟨x3, x20, x21, x22, x23, x24, x25, x26, u1, x28, by rw [Array.size_setIfInBounds]; exact hds, rfl, hb, hs, fun h => (f0 ((done_set h).resolve_left (by decide))), fun h => (f1 ((done_set h).resolve_left (by decide))), fun h => (f2 ((done_set h).resolve_left (by decide))), fun h => (f3 ((done_set h).resolve_left (by decide))), fun h => (f4 ((done_set h).resolve_left (by decide))), fun h => (f5 ((done_set h).resolve_left (by decide))), fun h => (f6 ((done_set h).resolve_left (by decide))), fun _ => rfl, fun h => (f8 ((done_set h).resolve_left (by decide))), fun h => ⟨(f9 ((done_set h).resolve_left (by decide))).1, done_keep (f9 ((done_set h).resolve_left (by decide))).2⟩⟩
        · have g1 := f1 (all_done hr rfl ⟨⟨1, .data⟩, by simp, by rfl, rfl⟩)
          have g3 := f3 (all_done hr rfl ⟨⟨3, .data⟩, by simp, by rfl, rfl⟩)
          have g4 := f4 (all_done hr rfl ⟨⟨4, .data⟩, by simp, by rfl, rfl⟩)
          have g5 := f5 (all_done hr rfl ⟨⟨5, .data⟩, by simp, by rfl, rfl⟩)
          have g6 := f6 (all_done hr rfl ⟨⟨6, .data⟩, by simp, by rfl, rfl⟩)
          have g7 := f7 (all_done hr rfl ⟨⟨7, .data⟩, by simp, by rfl, rfl⟩)
          have hu1 : HasB w x27 (th 1000) := by rw [g7]; exact (unhide HY).has.up hb
          clear g7
          have hrow := hasBB_list (W := w) (us := [.slice none 0 0, x21, x23, x24, x25, x26, x27]) (ls := lsK) rfl (by decide) (fun j u l hu hl => by
            match j, hu, hl with
            | 0, hu, hl => injection hu with hu; injection hl with hl; subst hu hl; exact hasB_nil _
            | 1, hu, hl => injection hu with hu; injection hl with hl; subst hu hl; exact g1.has (by decide)
            | 2, hu, hl => injection hu with hu; injection hl with hl; subst hu hl; exact g3.has (by decide)
            | 3, hu, hl => injection hu with hu; injection hl with hl; subst hu hl; exact g4.has (by decide)
            | 4, hu, hl => injection hu with hu; injection hl with hl; subst hu hl; exact g5.has (by decide)
            | 5, hu, hl => injection hu with hu; injection hl with hl; subst hu hl; exact g6.has (by decide)
            | 6, hu, hl => injection hu with hu; injection hl with hl; subst hu hl; exact hu1
            | j + 7, hu, _ => simp at hu) 22
          have BEL : Below w.heap.size w (w.alloc (.cells #[.slice none 0 0, x21, x23, x24, x25, x26, x27] 22)) := (Below.refl _ _).alloc (Nat.le_refl _) _
          have n8 : ¬ d.getD 8 false = true := fun q => by
            obtain ⟨q1, q2⟩ := ready_lt hr
            simp [q1, q2] at q
          have s21 : ∃ p q r, x21 = .slice p q r := by obtain ⟨b, fr, e, _⟩ := g1; exact ⟨_, _, _, e⟩
          have s23 : ∃ p q r, x23 = .slice p q r := by obtain ⟨b, fr, e, _⟩ := g3; exact ⟨_, _, _, e⟩
          have s24 : ∃ p q r, x24 = .slice p q r := by obtain ⟨b, fr, e, _⟩ := g4; exact ⟨_, _, _, e⟩
          have s25 : ∃ p q r, x25 = .slice p q r := by obtain ⟨b, fr, e, _⟩ := g5; exact ⟨_, _, _, e⟩
          have s26 : ∃ p q r, x26 = .slice p q r := by obtain ⟨b, fr, e, _⟩ := g6; exact ⟨_, _, _, e⟩
          have s27 : ∃ p q r, x27 = .slice p q r := by obtain ⟨a, c, e, _⟩ := hu1; exact ⟨_, _, _, e⟩
          obtain ⟨p21, q21, r21, rfl⟩ := s21
          obtain ⟨p23, q23, r23, rfl⟩ := s23
          obtain ⟨p24, q24, r24, rfl⟩ := s24
          obtain ⟨p25, q25, r25, rfl⟩ := s25
          obtain ⟨p26, q26, r26, rfl⟩ := s26
          obtain ⟨p27, q27, r27, rfl⟩ := s27
          clear g1 g3 g4 g5 g6 hu1
          refine wpOp_step rfl (fun K' hK' => ?_)
          go_simp
          refine hK' _ _ ⟨x3, x20, (.slice p21 q21 r21), x22, (.slice p23 q23 r23), (.slice p24 q24 r24), (.slice p25 q25 r25), (.slice p26 q26 r26), (.slice p27 q27 r27), (.slice (some ⟨w.heap.size, 0, none⟩) 7 7), by rw [Array.size_setIfInBounds]; exact hds, rfl, hb.trans (BEL.mono hs), by rw [World.size_alloc]; omega, fun h => (f0 ((done_set h).resolve_left (by decide))).alloc _, fun h => (f1 ((done_set h).resolve_left (by decide))).alloc _, fun h => (f2 ((done_set h).resolve_left (by decide))).alloc _, fun h => (f3 ((done_set h).resolve_left (by decide))).alloc _, fun h => (f4 ((done_set h).resolve_left (by decide))).alloc _, fun h => (f5 ((done_set h).resolve_left (by decide))).alloc _, fun h => (f6 ((done_set h).resolve_left (by decide))).alloc _, fun h => f7 ((done_set h).resolve_left (by decide)), fun _ => hrow, fun h => absurd (f9 ((done_set h).resolve_left (by decide))).2 n8⟩
        · refine wpOp_step rfl (fun K' hK' => ?_)
          go_simp
          refine hK' _ _ ⟨x28, x20, x21, x22, x23, x24, x25, x26, x27, x28, by rw [Array.size_setIfInBounds]; exact hds, rfl, hb, hs, fun h => (f0 ((done_set h).resolve_left (by decide))), fun h => (f1 ((done_set h).resolve_left (by decide))), fun h => (f2 ((done_set h).resolve_left (by decide))), fun h => (f3 ((done_set h).resolve_left (by decide))), fun h => (f4 ((done_set h).resolve_left (by decide))), fun h => (f5 ((done_set h).resolve_left (by decide))), fun h => (f6 ((done_set h).resolve_left (by decide))), fun h => f7 ((done_set h).resolve_left (by decide)), fun h => (f8 ((done_set h).resolve_left (by decide))), fun _ => ⟨rfl, done_keep (all_done hr rfl ⟨⟨8, .data⟩, by simp, by rfl, rfl⟩)⟩⟩
      case fin => 
        intro d a w hI hr
        obtain ⟨x3, x20, x21, x22, x23, x24, x25, x26, x27, x28, hds, rfl, hb, hs, f0, f1, f2, f3, f4, f5, f6, f7, f8, f9⟩ := hI.all
        have d0 : d.getD 0 false = true := done_of (by omega) hr rfl (by intro e he _; simp at he)
        have d1 : d.getD 1 false = true := done_of (by omega) hr rfl (by intro e he _; simp at he; subst he; exact d0)
        have d2 : d.getD 2 false = true := done_of (by omega) hr rfl (by intro e he _; simp at he)
        have d3 : d.getD 3 false = true := done_of (by omega) hr rfl (by intro e he _; simp at he; subst he; exact d2)
        have d4 : d.getD 4 false = true := done_of (by omega) hr rfl (by intro e he _; simp at he)
        have d5 : d.getD 5 false = true := done_of (by omega) hr rfl (by intro e he _; simp at he)
        have d6 : d.getD 6 false = true := done_of (by omega) hr rfl (by intro e he _; simp at he)
        have d7 : d.getD 7 false = true := done_of (by omega) hr rfl (by intro e he _; simp at he)
        have d8 : d.getD 8 false = true := done_of (by omega) hr rfl (by intro e he _; simp at he; rcases he with rfl | rfl | rfl | rfl | rfl | rfl <;> assumption)
        have d9 : d.getD 9 false = true := done_of (by omega) hr rfl (by intro e he _; simp at he; rcases he with rfl | rfl | rfl | rfl | rfl | rfl | rfl | rfl | rfl | rfl <;> assumption)
        obtain ⟨e3, _⟩ := f9 d9
        have hBB := f8 d8
        subst e3
        have HBB := hide hBB
        have HB1 : Hid (Below W.heap.size W w) := (unhide HB).trans (hb.mono hsz0)
        obtain ⟨ax, cx, rfl, hmx, _⟩ := hBB
        clear hI hr f0 f1 f2 f3 f4 f5 f6 f7 f8 f9 d0 d1 d2 d3 d4 d5 d6 d7 d8 d9 hb hs HY HB
        unfold frK
        go_wp2
        obtain ⟨wS, hwS⟩ : ∃ wS, wS = w.alloc (.cells (outK.map Value.string).toArray 9) := ⟨_, rfl⟩
        have hbS : Below w.heap.size w wS := by rw [hwS]; exact (Below.refl _ _).alloc (Nat.le_refl _) _
        have hcS : ∀ (i : Nat) (s : ByteArray), outK[i]? = some s → wS.cell? ⟨w.heap.size, i, none⟩ = some (.string s) := fun i s hs => by
          rw [hwS, cell_of_row _ _ _ _ _ _ (heap_new w _), List.getElem?_toArray, List.getElem?_map, hs]
          rfl
        have hltS : w.heap.size < wS.heap.size := by rw [hwS, World.size_alloc]; omega
        have HBS := hide ((unhide HBB).up hbS)
        have HB0S : Hid (Below W.heap.size W wS) := (unhide HB1).trans (hbS.mono (unhide HB1).size)
        have HcS := hide hcS
        change Code.wp _ _ _ _ (w.alloc (.cells (outK.map Value.string).toArray 9))
        rw [← hwS]
        have HbZ : Hid (Below wS.heap.size wS wS) := Below.refl _ _
        clear hbS hcS hwS HBB HB1
        obtain ⟨bS, hbSe⟩ : ∃ bS, bS = w.heap.size := ⟨_, rfl⟩
        rw [← hbSe] at hltS HcS ⊢
        clear hbSe
        go_loopg [5] 7 (fun gk v5 wq => ∃ (i : Nat), v5 = .int .i64 (i : Int) ∧ gk = 7 - i ∧ i ≤ 7 ∧ Hid (Below wS.heap.size wS wq))
        case atStart => exact ⟨0, rfl, rfl, by omega, HbZ⟩
        case round =>
          clear HbZ
          obtain ⟨i, rfl, hgk, hk, HZ⟩ := hrel
          have Hgk := hide hgk
          clear hgk
          by_cases hlt : i < 7
          · obtain ⟨a', c', e', _, h3⟩ := unhide HBS
            injection e' with ea _ ec
            subst ea ec
            obtain ⟨g, off, rfl, hg, hc⟩ := h3 (by decide)
            obtain ⟨l, hl⟩ : ∃ x, lsK[i]? = some x := ⟨_, List.getElem?_eq_getElem (by exact hlt)⟩
            obtain ⟨so, hso⟩ : ∃ x, outK[i]? = some x := ⟨_, List.getElem?_eq_getElem (by exact hlt)⟩
            obtain ⟨u, hu, hBu⟩ := hc i l hl
            obtain ⟨k1, k2, k3⟩ := lsK_ok i l so hl hso
            have cu := ((unhide HZ).cell (p := ⟨g, off + i, none⟩) hg).trans hu
            have b0 : Below W.heap.size W wr := (unhide HB0S).trans ((unhide HZ).mono (unhide HB0S).size)
            have hsum := sum_any (hK.up b0) (hS.up b0) (hBu.up (unhide HZ)) k2 (by omega)
            have Hsum := hide hsum
            obtain ⟨ua, uc, rfl, _, _⟩ := hBu
            have i0' : (0 : Int) ≤ (i : Int) := Int.natCast_nonneg _
            have i1' : (i : Int) < 7 := by omega
            have i2' : (i : Int) < (lsK.length : Int) := i1'
            have Hl := hide hl
            have Hso := hide hso
            clear hc hl hso hu h3 hsum
            go_wp2_with fail
            refine (unhide Hsum).mono ?_
            rintro e w6 ⟨v6, rfl, hB6, hb6⟩
            obtain ⟨x6, z6, rfl⟩ : ∃ x y, v6 = .slice x (sha l).length y := by obtain ⟨x, y, e, _⟩ := id hB6.has; exact ⟨_, _, e⟩
            have hszS : wS.heap.size ≤ wr.heap.size := (unhide HZ).size
            have hZ6 : Below wS.heap.size wS w6 := (unhide HZ).trans (hb6.mono hszS)
            have hbS6 : bS < w6.heap.size := by have := hZ6.size; omega
            have cS6 : w6.cell? ⟨bS, i, none⟩ = some (.string so) := (hZ6.cell (p := ⟨bS, i, none⟩) hltS).trans (unhide HcS i so (unhide Hso))
            clear cu Hsum b0 hb6
            go_wp2_with fail
            refine wp_region_any (by kernel_rfl) (wpAny_inv (InvX w6.heap.size w6 (.slice x6 (sha l).length z6) (.slice (some ⟨bS, 0, none⟩) 7 7) bS i so u0 u1 (.int .i64 1000) (.slice (some ⟨g, off, none⟩) lsK.length cx) (.slice (some ⟨bS, 0, none⟩) 7 7) (.int .i64 (i : Int)) (.slice x6 (sha l).length z6) undef undef undef (.int .i64 1000) (.bool false) u12 u13 u14 u15 u16 u17 u18 u19 x20 x21 x22 x23 x24 x25 x26 x27 (.slice (some ⟨g, off, none⟩) lsK.length cx) (.slice (some ⟨bS, 0, none⟩) 7 7) (.int .i64 (i : Int)) (.slice (some ⟨g, off, none⟩) lsK.length cx) (.int .i64 (lsK.length : Int)) (.bool true) u34 u35 (.slice (some ⟨g, off, none⟩) lsK.length cx) (.int .i64 (i : Int)) (.pointer (some ⟨g, off + i, none⟩)) (.slice ua l.length uc) (.slice x6 (sha l).length z6)) ?step2 ?fin2 _ _ _ _ ?beg2 ?cnt2)
            case cnt2 => decide
            case beg2 => exact ⟨_, _, _, _, _, _, _, rfl, rfl, ⟨rfl, rfl, rfl, Nat.le_refl _, fun _ _ => rfl⟩, Nat.le_refl _, fun h => by simp at h, fun h => by simp at h, fun h => by simp at h, fun h => by simp at h, fun h => by simp at h, fun h => by simp at h, fun h => by simp at h⟩
            case step2 =>
              intro d a w j hI hr
              obtain ⟨x41, x42, x43, x44, x45, x46, x47, hds, rfl, hb, hs, f0, f1, f2, f3, f4, f5, f6⟩ := hI.all
              obtain ⟨hd, o, ho, hall⟩ := mem_ready.1 hr
              have hj7 : j < 7 := (Array.getElem?_eq_some_iff.1 ho).1
              clear hI hd hall
              unfold frX
              rcases (show j = 0 ∨ j = 1 ∨ j = 2 ∨ j = 3 ∨ j = 4 ∨ j = 5 ∨ j = 6 by omega) with rfl | rfl | rfl | rfl | rfl | rfl | rfl
              · refine wpOp_step rfl (fun K' hK' => ?_)
                go_simp
                refine hK' _ _ ⟨(.slice x6 (sha l).length z6), x42, x43, x44, x45, x46, x47, by rw [Array.size_setIfInBounds]; exact hds, rfl, hb, hs, fun _ => rfl, fun h => f1 ((done_set h).resolve_left (by decide)), fun h => f2 ((done_set h).resolve_left (by decide)), fun h => f3 ((done_set h).resolve_left (by decide)), fun h => f4 ((done_set h).resolve_left (by decide)), fun h => f5 ((done_set h).resolve_left (by decide)), fun h => f6 ((done_set h).resolve_left (by decide))⟩
              · have g0 := f0 (all_done hr rfl ⟨⟨0, .data⟩, by simp, by rfl, rfl⟩)
                subst g0
                have hx := xhex_any (hB6.has.up hb) (sha_byt l) (by rw [sha_len]; decide)
                rw [k1] at hx
                refine wpOp_step rfl (fun K' hK' => ?_)
                refine step_callD 42 rfl rfl 8 (callX _) #[.tmp 41] #[22] rfl #[.slice x6 (sha l).length z6] (by first | rfl | simp [Act.eval]) hx ?_
                rintro o7 w7 ⟨rfl, hb7⟩
                refine ⟨_, rfl, ?_⟩
                go_simp
                refine hK' _ _ ⟨(.slice x6 (sha l).length z6), (.string so), x43, x44, x45, x46, x47, by rw [Array.size_setIfInBounds]; exact hds, rfl, hb.trans (hb7.mono hs), Nat.le_trans hs hb7.size, fun _ => rfl, fun _ => rfl, fun h => f2 ((done_set h).resolve_left (by decide)), fun h => f3 ((done_set h).resolve_left (by decide)), fun h => f4 ((done_set h).resolve_left (by decide)), fun h => f5 ((done_set h).resolve_left (by decide)), fun h => f6 ((done_set h).resolve_left (by decide))⟩
              · refine wpOp_step rfl (fun K' hK' => ?_)
                go_simp
                refine hK' _ _ ⟨x41, x42, (.slice (some ⟨bS, 0, none⟩) 7 7), x44, x45, x46, x47, by rw [Array.size_setIfInBounds]; exact hds, rfl, hb, hs, fun h => f0 ((done_set h).resolve_left (by decide)), fun h => f1 ((done_set h).resolve_left (by decide)), fun _ => rfl, fun h => f3 ((done_set h).resolve_left (by decide)), fun h => f4 ((done_set h).resolve_left (by decide)), fun h => f5 ((done_set h).resolve_left (by decide)), fun h => f6 ((done_set h).resolve_left (by decide))⟩
              · refine wpOp_step rfl (fun K' hK' => ?_)
                go_simp
                refine hK' _ _ ⟨x41, x42, x43, (.int .i64 (i : Int)), x45, x46, x47, by rw [Array.size_setIfInBounds]; exact hds, rfl, hb, hs, fun h => f0 ((done_set h).resolve_left (by decide)), fun h => f1 ((done_set h).resolve_left (by decide)), fun h => f2 ((done_set h).resolve_left (by decide)), fun _ => rfl, fun h => f4 ((done_set h).resolve_left (by decide)), fun h => f5 ((done_set h).resolve_left (by decide)), fun h => f6 ((done_set h).resolve_left (by decide))⟩
              · have g2 := f2 (all_done hr rfl ⟨⟨2, .data⟩, by simp, by rfl, rfl⟩)
                have g3 := f3 (all_done hr rfl ⟨⟨3, .data⟩, by simp, by rfl, rfl⟩)
                subst g2 g3
                refine wpOp_step rfl (fun K' hK' => ?_)
                go_simp
                refine hK' _ _ ⟨x41, x42, (.slice (some ⟨bS, 0, none⟩) 7 7), (.int .i64 (i : Int)), (.pointer (some ⟨bS, i, none⟩)), x46, x47, by rw [Array.size_setIfInBounds]; exact hds, rfl, hb, hs, fun h => f0 ((done_set h).resolve_left (by decide)), fun h => f1 ((done_set h).resolve_left (by decide)), fun _ => rfl, fun _ => rfl, fun _ => rfl, fun h => f5 ((done_set h).resolve_left (by decide)), fun h => f6 ((done_set h).resolve_left (by decide))⟩
              · have g4 := f4 (all_done hr rfl ⟨⟨4, .data⟩, by simp, by rfl, rfl⟩)
                subst g4
                have cS : w.cell? ⟨bS, i, none⟩ = some (.string so) := (hb.cell (p := ⟨bS, i, none⟩) hbS6).trans cS6
                refine wpOp_step rfl (fun K' hK' => ?_)
                go_simp
                refine hK' _ _ ⟨x41, x42, x43, x44, (.pointer (some ⟨bS, i, none⟩)), (.string so), x47, by rw [Array.size_setIfInBounds]; exact hds, rfl, hb, hs, fun h => f0 ((done_set h).resolve_left (by decide)), fun h => f1 ((done_set h).resolve_left (by decide)), fun h => f2 ((done_set h).resolve_left (by decide)), fun h => f3 ((done_set h).resolve_left (by decide)), fun _ => rfl, fun _ => rfl, fun h => f6 ((done_set h).resolve_left (by decide))⟩
              · have g1 := f1 (all_done hr rfl ⟨⟨1, .data⟩, by simp, by rfl, rfl⟩)
                have g5 := f5 (all_done hr rfl ⟨⟨5, .data⟩, by simp, by rfl, rfl⟩)
                subst g1 g5
                have qs : (so.toList != so.toList) = false := by simp
                refine wpOp_step rfl (fun K' hK' => ?_)
                go_simp
                refine hK' _ _ ⟨x41, (.string so), x43, x44, x45, (.string so), (.bool false), by rw [Array.size_setIfInBounds]; exact hds, rfl, hb, hs, fun h => f0 ((done_set h).resolve_left (by decide)), fun _ => rfl, fun h => f2 ((done_set h).resolve_left (by decide)), fun h => f3 ((done_set h).resolve_left (by decide)), fun h => f4 ((done_set h).resolve_left (by decide)), fun _ => rfl, fun _ => rfl⟩
            case fin2 =>
              intro d a w hI hr
              obtain ⟨x41, x42, x43, x44, x45, x46, x47, hds, rfl, hb, hs, f0, f1, f2, f3, f4, f5, f6⟩ := hI.all
              have d0 : d.getD 0 false = true := done_of (by omega) hr rfl (by intro e he _; simp at he)
              have d1 : d.getD 1 false = true := done_of (by omega) hr rfl (by intro e he _; simp at he; subst he; exact d0)
              have d2 : d.getD 2 false = true := done_of (by omega) hr rfl (by intro e he _; simp at he)
              have d3 : d.getD 3 false = true := done_of (by omega) hr rfl (by intro e he _; simp at he)
              have d4 : d.getD 4 false = true := done_of (by omega) hr rfl (by intro e he _; simp at he; rcases he with rfl | rfl <;> assumption)
              have d5 : d.getD 5 false = true := done_of (by omega) hr rfl (by intro e he _; simp at he; subst he; exact d4)
              have d6 : d.getD 6 false = true := done_of (by omega) hr rfl (by intro e he _; simp at he; rcases he with rfl | rfl <;> assumption)
              have e6 := f6 d6
              subst e6
              have HZ7 : Hid (Below wS.heap.size wS w) := hZ6.trans (hb.mono hZ6.size)
              clear hI hr f0 f1 f2 f3 f4 f5 f6 d0 d1 d2 d3 d4 d5 d6 hb hs
              unfold frX
              go_wp2
              go_roundg (7 - (i + 1))
              case measure => have := unhide Hgk; omega
              case rel => exact ⟨i + 1, by go_num, rfl, by omega, HZ7⟩
          · obtain rfl : i = 7 := by omega
            have b0 : Below W.heap.size W wr := (unhide HB0S).trans ((unhide HZ).mono (unhide HB0S).size)
            clear HZ HBS HcS HB0S
            have cv := k9_conv wr
            have hlK : (lsK.length : Int) = 7 := rfl
            go_wp2_with fail
            have b1 : Below W.heap.size W (k9w wr) := b0.trans ((k9_below wr).mono b0.size)
            refine (crc_any (hT.up b1) (k9_has wr) k9_byt (by decide)).mono ?_
            rintro e w2 ⟨rfl, hb2⟩
            rw [show crc k9 = 3808858755 from crc_known]
            have b2 : Below W.heap.size W w2 := b1.trans (hb2.mono b1.size)
            clear cv hb2 b1 b0
            go_wp2_with (at_make; refine wpList_make_full _ rfl _ _ 22 rfl w2.heap.size 5 i0 (.int .u8 0) 1 Tryd.underlying22 hi hz0 hz1 .i64 .i64 _ _ 32 rfl rfl rfl rfl (by rw [hz2]; decide) (by unfold maxLen; decide) (Nat.le_refl _) ?_; intro w5 hown5 hgrow5; have Hr := hide (made_row hown5); have Hb : Hid (Below w2.heap.size w2 w5) := ⟨hgrow5.os, hgrow5.tape, hgrow5.output, hgrow5.size, fun b hb => hgrow5.block b hb (by simp)⟩; clear hown5 hgrow5)
            have b3 : Below W.heap.size W w5 := b2.trans ((unhide Hb).mono b2.size)
            refine (crc_any (hT.up b3) (l := z0 32) (hasB_lit (unhide Hr) 32 32 rfl (by decide)) (z0_byt _) (by decide)).mono ?_
            rintro e w6 ⟨rfl, hb6⟩
            rw [show crc (z0 32) = 2324772522 from crc_z32]
            have b4 : Below W.heap.size W w6 := b3.trans (hb6.mono b3.size)
            clear hb6 b3 b2 Hr Hb
            go_wp2_with fail
            refine (crc_any (hT.up b4) (hasB_nil w6) (fun x hx => (by cases hx)) (by decide)).mono ?_
            rintro e w7 ⟨rfl, hb7⟩
            rw [show crc [] = 0 from crc_z]
            have b5 : Below W.heap.size W w7 := b4.trans (hb7.mono b4.size)
            clear hb7 b4
            go_wp2
            go_ret
            exact ⟨rfl, b5⟩

end Go.Proofs.YtoojchjfmnbdpaaDoor
