import Derived.Test.YtadmamfekodkaaaDoorHG
import Derived.Lib.OthersKept
import Derived.LoopTactic
import Derived.BigCall

namespace Go.Proofs.YtadmamfekodkaaaDoor
open Go.RowKit
attribute [local go_sem ↓] Go.wp_at_zero Go.wp_at_succ

theorem drop_at {s : ByteArray} {pos c : Nat} {r : List Nat} (h : (strN s).drop pos = c :: r) : ∃ hp : pos < s.size, (s[pos]'hp).toNat = c ∧ (strN s)[pos]? = some c ∧ (strN s).drop (pos + 1) = r := by
  have hp : pos < s.size := by
    have := congrArg List.length h
    rw [List.length_drop, strN_len, List.length_cons] at this
    omega
  obtain ⟨x, hx, _, gx⟩ := strN_ex s pos hp
  have h1 : (strN s)[pos]? = some c := by rw [← List.head?_drop, h]; rfl
  rw [hx] at h1
  refine ⟨hp, by rw [gx]; exact Option.some.inj h1, by rw [hx]; exact h1, ?_⟩
  rw [← List.drop_drop, h]
  rfl
theorem dec_low {s : ByteArray} {pos c : Nat} {r : List Nat} (h : (strN s).drop pos = c :: r) (hc : c < 128) : Utf8.decode s pos = (c, 1) := by
  obtain ⟨hp, h1, _⟩ := drop_at h
  rw [decode_ascii s pos hp (by omega), h1]
theorem get_bang (s : ByteArray) (pos : Nat) (h : pos < s.size) : s.get! pos = s[pos]'h := by
  show s.get! pos = _
  simp [ByteArray.get!, getElem!_pos, h]
  rfl
theorem dec_span {s : ByteArray} {pos : Nat} (h : pos < s.size) (ha : 128 ≤ (s[pos]'h).toNat) : ∀ k, k < (Utf8.decode s pos).2 → pos + k < s.size ∧ 128 ≤ (s.get! (pos + k)).toNat := by
  have hn : ¬ (s.get! (pos + 0)).toNat < 128 := by rw [Nat.add_zero, get_bang s pos h]; omega
  have h0 : 128 ≤ (s.get! (pos + 0)).toNat := by omega
  simp only [Utf8.decode, hn, if_false]
  repeat' split
  all_goals intro k hk
  all_goals simp only [Bool.and_eq_true, decide_eq_true_eq, beq_iff_eq] at *
  all_goals match k, hk with
    | 0, _ => exact ⟨by omega, h0⟩
    | 1, _ => first | exact ⟨by omega, by omega⟩ | omega
    | 2, _ => first | exact ⟨by omega, by omega⟩ | omega
    | 3, _ => first | exact ⟨by omega, by omega⟩ | omega
    | k + 4, hk => omega
theorem dec_hi {s : ByteArray} {pos c : Nat} {r : List Nat} (h : (strN s).drop pos = c :: r) (hc : 128 ≤ c) : ∃ A, (strN s).drop pos = A ++ (strN s).drop (pos + (Utf8.decode s pos).2) ∧ A.length = (Utf8.decode s pos).2 ∧ (∀ x ∈ A, 128 ≤ x) ∧ 1 ≤ (Utf8.decode s pos).2 ∧ pos + (Utf8.decode s pos).2 ≤ s.size ∧ 128 ≤ (Utf8.decode s pos).1 := by
  obtain ⟨hp, h1, _⟩ := drop_at h
  obtain ⟨d1, d2⟩ := decode_high s pos hp (by omega)
  have hs := dec_span hp (by omega)
  have hle : pos + (Utf8.decode s pos).2 ≤ s.size := by
    have := (hs ((Utf8.decode s pos).2 - 1) (by omega)).1
    omega
  refine ⟨((strN s).drop pos).take (Utf8.decode s pos).2, ?_, ?_, fun x hx => ?_, d2, hle, d1⟩
  · rw [← List.drop_drop, List.take_append_drop]
  · rw [List.length_take, List.length_drop, strN_len]; omega
  · obtain ⟨k, hk, rfl⟩ := List.mem_iff_getElem.1 hx
    rw [List.length_take] at hk
    obtain ⟨q1, q2⟩ := hs k (by omega)
    obtain ⟨y, hy, _, gy⟩ := strN_ex s (pos + k) q1
    rw [get_bang s _ q1, gy] at q2
    rw [List.getElem_take, List.getElem_drop]
    have h3 := List.getElem?_eq_getElem (l := strN s) (i := pos + k) (by rw [strN_len]; exact q1)
    rw [hy] at h3
    rw [← Option.some.inj h3]
    exact q2
/-- A blank, as a rune. -/
theorem hblank_any (w : World) (c : Nat) : Calls Tryd.prog 24 #[.int .i32 (c : Int)] w fun e w' => e = .returned (.bool (blk c)) ∧ w' = w := by
  rcases (by omega : c = 32 ∨ c = 9 ∨ (c ≠ 32 ∧ c ≠ 9)) with rfl | rfl | ⟨h1, h2⟩
  · go_enter Tryd.func24, Tryd.ntmps24
    go_wp2
    go_ret
    exact ⟨rfl, rfl⟩
  · go_enter Tryd.func24, Tryd.ntmps24
    go_wp2
    go_ret
    exact ⟨rfl, rfl⟩
  · have e : blk c = false := by unfold blk; simp [h1, h2]
    have n1 : ((c : Int) == 32) = false := beq_false_of_ne (by omega)
    have n2 : ((c : Int) == 9) = false := beq_false_of_ne (by omega)
    rw [e]
    go_enter Tryd.func24, Tryd.ntmps24
    go_wp2
    go_ret
    exact ⟨rfl, rfl⟩
theorem hcontrol_any (w : World) (c : Nat) : Calls Tryd.prog 21 #[.int .i32 (c : Int)] w fun e w' => e = .returned (.bool (ctl c)) ∧ w' = w := by
  rcases (by omega : c < 32 ∨ c = 127 ∨ (32 ≤ c ∧ c ≠ 127)) with h1 | rfl | ⟨h1, h2⟩
  · have e : ctl c = true := by unfold ctl; simp [h1]
    have n1 : decide ((c : Int) < 32) = true := by simp; omega
    rw [e]
    go_enter Tryd.func21, Tryd.ntmps21
    go_wp2
    go_ret
    exact ⟨rfl, rfl⟩
  · go_enter Tryd.func21, Tryd.ntmps21
    go_wp2
    go_ret
    exact ⟨rfl, rfl⟩
  · have e : ctl c = false := by unfold ctl; simp [h2]; omega
    have n1 : decide ((c : Int) < 32) = false := by simp; omega
    have n2 : ((c : Int) == 127) = false := beq_false_of_ne (by omega)
    rw [e]
    go_enter Tryd.func21, Tryd.ntmps21
    go_wp2
    go_ret
    exact ⟨rfl, rfl⟩
def idxB (L : List Nat) : Int := if skipP L = [] then -1 else ((L.length - (skipP L).length : Nat) : Int)
theorem hi_blk {c : Nat} (h : 128 ≤ c) : blk c = false ∧ ctl c = false := by
  unfold blk ctl
  simp
  omega
theorem skip_hi {A r : List Nat} (h : ∀ x ∈ A, 128 ≤ x) (hA : 1 ≤ A.length) : skipP (A ++ r) = A ++ r := by
  cases A with
  | nil => simp at hA
  | cons c A => rw [List.cons_append, skipP, if_neg (by rw [(hi_blk (h c List.mem_cons_self)).1]; decide)]
set_option maxRecDepth 100000 in
set_option maxHeartbeats 2000000 in
theorem indexF_any (W : World) (s : ByteArray) (hs : s.size ≤ 140737488355328) : Calls Tryd.prog 34 #[.string s, .func (.func 24) #[] #[], .bool false] W fun e w => e = .returned (.int .i64 (idxB (strN s))) ∧ Below W.heap.size W w := by
  obtain ⟨I, hI⟩ : ∃ I, idxB (strN s) = I := ⟨_, rfl⟩
  rw [hI]
  have HI := hide hI
  clear hI
  go_enter Tryd.func34, Tryd.ntmps34
  go_wp2
  go_loopw [7, 8] (fun _ _ wr => ∃ (pos : Nat), pos ≤ s.size ∧ Hid (wr.heap[W.heap.size]? = some (.stringIter s pos)) ∧ Hid (Below W.heap.size W wr) ∧ Hid (skipP (strN s) = skipP ((strN s).drop pos))) (fun _ _ wr => s.size - wr.iterPos W.heap.size)
  case atStart => exact ⟨0, Nat.zero_le _, World.iter_heap W s 0, (Below.refl _ W).alloc (Nat.le_refl _) _, rfl⟩
  case round =>
    obtain ⟨pos, hpos, HIt, HB, HS⟩ := hrel
    by_cases hp : pos < s.size
    · obtain ⟨c, r, hdr⟩ : ∃ c r, (strN s).drop pos = c :: r := by
        cases hd : (strN s).drop pos with
        | nil =>
          have := congrArg List.length hd
          rw [List.length_drop, strN_len] at this
          simp at this
          omega
        | cons c r => exact ⟨c, r, rfl⟩
      have hnx : ∀ ty, (Instr.next (.pointer (some ⟨W.heap.size, 0, none⟩)) true ty).run Tryd.prog wr = _ := fun ty => Lib.run_next_any_at wr W.heap.size s pos ty (unhide HIt) hp
      obtain ⟨u, n, hun, hbu, h1⟩ : ∃ u n, Utf8.decode s pos = (u, n) ∧ blk u = blk c ∧ (blk c = true → n = 1 ∧ skipP ((strN s).drop pos) = skipP ((strN s).drop (pos + 1))) := by
        by_cases hc : c < 128
        · refine ⟨c, 1, dec_low hdr hc, rfl, fun hb => ⟨rfl, ?_⟩⟩
          obtain ⟨_, _, _, h4⟩ := drop_at hdr
          rw [hdr, skipP, if_pos hb, h4]
        · obtain ⟨A, _, _, _, _, _, h6⟩ := dec_hi hdr (by omega)
          refine ⟨(Utf8.decode s pos).1, (Utf8.decode s pos).2, rfl, ?_, fun hb => ?_⟩
          · rw [(hi_blk h6).1, (hi_blk (show 128 ≤ c by omega)).1]
          · rw [(hi_blk (show 128 ≤ c by omega)).1] at hb
            cases hb
      rw [hun] at hnx
      simp only at hnx
      have HB2 := hide (Lib.below_iterAt (unhide HB) (k := W.heap.size) (Nat.le_refl _) s (pos + n))
      have HIt2 := hide (Lib.iterAt_heap wr W.heap.size s pos (pos + n) (unhide HIt))
      have HC := hide (fun w => hblank_any w u)
      rw [hbu] at HC
      obtain ⟨bb, hbb⟩ : ∃ x, blk c = x := ⟨_, rfl⟩
      rw [hbb] at HC h1
      have HH1 := hide h1
      have HDr := hide (And.intro hdr hbb)
      have hps : pos ≤ 140737488355328 := by omega
      clear hun hbu hbb h1 hdr
      go_wp2_with fail
      refine (unhide HC _).mono ?_
      rintro e w1 ⟨rfl, hw1⟩
      subst hw1
      cases bb with
      | true =>
        obtain ⟨rfl, hsk⟩ := unhide HH1 rfl
        have HS2 : Hid (skipP (strN s) = skipP ((strN s).drop (pos + 1))) := (unhide HS).trans hsk
        clear hsk hnx
        go_wp2
        go_roundw
        case rel => exact ⟨pos + 1, by omega, HIt2, HB2, HS2⟩
        case measure =>
          simp only [World.iterPos, unhide HIt2, unhide HIt]
          omega
      | false =>
        have hI : I = (pos : Int) := by
          obtain ⟨hdr, hbb⟩ := unhide HDr
          rw [← unhide HI]
          unfold idxB
          have e : skipP (strN s) = c :: r := by rw [unhide HS, hdr, skipP, if_neg (by rw [hbb]; decide)]
          rw [e, if_neg (by simp), ← hdr, List.length_drop, strN_len]
          omega
        have HFin := hide (And.intro (show Ending.returned (.int .i64 (pos : Int)) = .returned (.int .i64 I) by rw [hI]) (unhide HB2))
        clear hnx hI
        go_wp2
        go_ret
        exact unhide HFin
    · have hnx : ∀ ty, (Instr.next (.pointer (some ⟨W.heap.size, 0, none⟩)) true ty).run Tryd.prog wr = _ := fun ty => Lib.run_next_end_at wr W.heap.size s pos ty (unhide HIt) hp
      have hI : I = -1 := by
        rw [← unhide HI]
        unfold idxB
        rw [unhide HS, List.drop_eq_nil_of_le (by rw [strN_len]; omega)]
        rfl
      have HFin := hide (And.intro (show Ending.returned (.int .i64 (-1)) = .returned (.int .i64 I) by rw [hI]) (unhide HB))
      clear hI
      go_wp2
      go_ret
      exact unhide HFin
theorem strN_inj {s t : ByteArray} (h : strN s = strN t) : s = t := by
  have h2 := congrArg ofN h
  have e : ∀ x : ByteArray, ofN (strN x) = x := fun x => by
    unfold ofN strN
    obtain ⟨⟨l⟩⟩ := x
    simp only [List.map_map]
    congr 2
    exact (List.map_congr_left (g := id) fun c _ => by simp).trans (List.map_id l)
  rwa [e, e] at h2
theorem strN_ofN {l : List Nat} (h : Byt l) : strN (ofN l) = l := by
  unfold strN ofN
  simp only [List.map_map]
  exact (List.map_congr_left (g := id) fun x hx => by have := h x hx; simp [Nat.mod_eq_of_lt this]).trans (List.map_id l)
theorem strN_ext (s : ByteArray) (a b : Nat) : strN (s.extract a b) = ((strN s).drop a).take (b - a) := by
  unfold strN
  rw [Lib.extract_data]
  simp [List.map_take, List.map_drop]
theorem skip_drop (L : List Nat) : skipP L = L.drop (L.length - (skipP L).length) := by
  induction L with
  | nil => rfl
  | cons c L ih =>
    rw [skipP]
    split
    · have := skip_len L
      rw [List.length_cons, show L.length + 1 - (skipP L).length = (L.length - (skipP L).length) + 1 by omega, List.drop_succ_cons]
      exact ih
    · rw [Nat.sub_self]; rfl
/-- The line behind its blanks. -/
theorem behind_any (W : World) (s : ByteArray) (hs : s.size ≤ 140737488355328) : Calls Tryd.prog 13 #[.string s] W fun e w => (∃ t, e = .returned (.string t) ∧ strN t = skipP (strN s)) ∧ Below W.heap.size W w := by
  have HT : Hid (Calls Tryd.prog 23 #[.string s, .func (.func 24) #[] #[]] W fun e w => (∃ t, e = .returned (.string t) ∧ strN t = skipP (strN s)) ∧ Below W.heap.size W w) := by
    have HF := hide (indexF_any W s hs)
    have hsk := skip_drop (strN s)
    have hsl := skip_len (strN s)
    rw [strN_len] at hsk hsl
    obtain ⟨K, hK⟩ : ∃ K, s.size - (skipP (strN s)).length = K := ⟨_, rfl⟩
    rw [hK] at hsk
    have HK := hide hK
    have HSk := hide hsk
    by_cases h0 : skipP (strN s) = []
    · have e : idxB (strN s) = -1 := by unfold idxB; rw [if_pos h0]
      rw [e] at HF
      have H0 := hide h0
      clear e h0 hsk hsl hK
      show Calls _ _ _ _ _
      go_enter Tryd.func23, Tryd.ntmps23
      go_wp2_with fail
      refine (unhide HF).mono ?_
      rintro e w1 ⟨rfl, hb⟩
      have HB := hide hb
      clear hb
      go_wp2
      go_ret
      exact ⟨⟨_, rfl, by rw [unhide H0]; rfl⟩, unhide HB⟩
    · have e : idxB (strN s) = (K : Int) := by unfold idxB; rw [if_neg h0, strN_len, hK]
      rw [e] at HF
      have hp : 0 < (skipP (strN s)).length := List.length_pos_iff.2 h0
      have hKs : K < s.size := by omega
      have n1 : ((K : Int) == -1) = false := beq_false_of_ne (by omega)
      have k0 : (0 : Int) ≤ (K : Int) := Int.natCast_nonneg _
      have k1 : (K : Int) ≤ (s.size : Int) := by omega
      have hex : strN (s.extract K s.size) = skipP (strN s) := by
        rw [strN_ext, List.take_of_length_le (by rw [List.length_drop, strN_len]; omega)]
        exact hsk.symm
      have Hex := hide hex
      clear e h0 hsk hsl hK hp hex
      show Calls _ _ _ _ _
      go_enter Tryd.func23, Tryd.ntmps23
      go_wp2_with fail
      refine (unhide HF).mono ?_
      rintro e w1 ⟨rfl, hb⟩
      have HB := hide hb
      clear hb
      go_wp2
      go_ret
      exact ⟨⟨_, rfl, unhide Hex⟩, unhide HB⟩
  go_enter Tryd.func13, Tryd.ntmps13
  go_wp2_with fail
  refine (unhide HT).mono ?_
  rintro e w1 ⟨⟨t, rfl, ht⟩, hb⟩
  have HF := hide (And.intro ht hb)
  clear ht hb
  go_wp2
  go_ret
  exact ⟨⟨_, rfl, (unhide HF).1⟩, (unhide HF).2⟩
end Go.Proofs.YtadmamfekodkaaaDoor
