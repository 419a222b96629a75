import Derived.Test.YtoojchjfmnbdpabDoorDH
namespace Go.Proofs.YtoojchjfmnbdpabDoor
open Go.RowKit
attribute [local go_sem ↓] Go.wp_at_zero Go.wp_at_succ

def flip (l : List Nat) : List Nat := l.map (· ^^^ 1)
theorem flip_byt {l : List Nat} (h : Byt l) : Byt (flip l) := by
  intro x hx
  obtain ⟨y, hy, rfl⟩ := List.mem_map.1 hx
  exact Nat.xor_lt_two_pow (n := 8) (h y hy) (by decide)
theorem flip_len (l : List Nat) : (flip l).length = l.length := by simp [flip]

set_option maxRecDepth 100000 in
set_option maxHeartbeats 4000000 in
theorem flipped_any {W : World} {B g : Nat} {l : List Nat} (h : Room W g l) (hBg : B ≤ g) (hl : Byt l) (hn : l.length ≤ 140737488351232) :
    Calls Tryd.prog 35 #[.slice (some ⟨g, 0, none⟩) l.length (l.length + 6)] W fun e W' => ∃ v', e = .returned v' ∧ HasB W' v' (flip l) ∧ Room W' g (flip l) ∧ Below B W W' := by
  obtain ⟨i0, hi, hz0, hz1, hz2⟩ := info_parts Tryd.infoByte
  have H := hide h
  have hg0 := h.lt
  clear h
  go_enter Tryd.func35, Tryd.ntmps35
  go_wp2
  go_loopg [3] l.length (fun gk v3 wr => ∃ (i : Nat), v3 = .int .i64 (i : Int) ∧ gk = l.length - i ∧ i ≤ l.length ∧ Room wr g (flip (l.take i) ++ l.drop i) ∧ Below B W wr)
  case atStart => exact ⟨0, rfl, rfl, by omega, by simpa [flip] using unhide H, Below.refl _ _⟩
  case round =>
    obtain ⟨i, rfl, hgk, hk, hr, hB⟩ := hrel
    have Hgk := hide hgk
    clear hgk
    by_cases hlt : i < l.length
    · obtain ⟨x, hx⟩ : ∃ x, l[i]? = some x := ⟨_, List.getElem?_eq_getElem hlt⟩
      have hxb := hl.at hx
      have hfl : (flip (l.take i)).length = i := by rw [flip_len, List.length_take]; omega
      have hdr : l.drop i = x :: l.drop (i + 1) := by
        rw [List.drop_eq_getElem_cons hlt]
        rw [List.getElem?_eq_getElem hlt] at hx
        rw [Option.some.inj hx]
      have hcell : wr.cell? ⟨g, i, none⟩ = some (.int .u8 (x : Int)) := hr.cell (by
        rw [List.append_assoc, List.getElem?_append_right (by omega), hfl, hdr]
        simp)
      have hfr := row_frozen i hr
      have hxor : bits .xor .u8 (x : Int) 1 = ((x ^^^ 1 : Nat) : Int) := u8_xor_nat x 1 hxb (by decide)
      have hlt' : (i : Int) < (l.length : Int) := by omega
      have hi0' : (0 : Int) ≤ (i : Int) := Int.natCast_nonneg _
      have Hr := hide hr
      have Hx := hide hx
      have Hd := hide hdr
      have Hf := hide hfl
      clear hr hx hdr hfl
      go_wp2
      go_roundg (l.length - (i + 1))
      case measure => have := unhide Hgk; omega
      case rel =>
        refine ⟨i + 1, by go_num, rfl, by omega, ?_, below_set hB hBg _ _⟩
        have := set_row (i := i) (unhide Hr) (x ^^^ 1)
        have e : (flip (l.take i) ++ l.drop i ++ m6).set i (x ^^^ 1) = flip (l.take (i + 1)) ++ l.drop (i + 1) ++ m6 := by
          have h1 := unhide Hf
          rw [unhide Hd, List.append_assoc, List.set_append, if_neg (by omega), h1, Nat.sub_self, List.take_add_one, unhide Hx]
          simp [flip]
        rw [e] at this
        exact this
    · obtain rfl : i = l.length := by omega
      have hr' : Room wr g (flip l) := by simpa using hr
      have Hr := hide hr'
      have hgw := hr'.lt
      have hsz := hB.size
      have how : (wr.alloc (.cells #[] 5)).ownsRow wr.heap.size 5 1 (.slice (some ⟨wr.heap.size, 0, none⟩) 0 0) 0 [] := ⟨rfl, .inr ⟨wr.heap.size, 0, #[], rfl, Nat.le_refl _, heap_new _ _, Nat.le_refl _, Nat.zero_le _, rfl, rfl⟩⟩
      have hbel : Below wr.heap.size wr (wr.alloc (.cells #[] 5)) := (Below.refl _ _).alloc (Nat.le_refl _) _
      have hsrc : ∀ j u, (nb (flip l))[j]? = some u → (wr.alloc (.cells #[] 5)).cell? ((⟨g, 0, none⟩ : Addr).add j) = some u := by
        intro j u hu
        rw [nb_at] at hu
        obtain ⟨b, hb', rfl⟩ := Option.map_eq_some_iff.1 hu
        rw [Go.WideShapes.add_plain, Nat.zero_add]
        exact (hr'.up hbel).cell (by rw [List.getElem?_append_left (List.getElem?_eq_some_iff.1 hb').1]; exact hb')
      clear hr hr'
      go_wp2_with (at_builtin; refine wpList_append_own_at _ rfl _ _ 28 rfl wr.heap.size 5 i0 (.int .u8 0) 1 1 Tryd.underlying28 hi hz0 hz1 hz2 rfl (by decide) _ _ _ rfl how ⟨g, 0, none⟩ l.length (l.length + 6) (nb (flip l)) rfl (by rw [nb_len, flip_len]; omega) hsrc (nb_one _) (by unfold maxLen; omega) (by omega) hbel.size ?_; intro v4 w4 hown4 hgrow4 _ hat4; have Hown := hide hown4; have Hgrow := hide hgrow4; have Hat := hide hat4; clear hown4 hgrow4 hat4)
      go_ret
      have hB4 : Below wr.heap.size wr w4 := hbel.trans ⟨(unhide Hgrow).os, (unhide Hgrow).tape, (unhide Hgrow).output, (unhide Hgrow).size, fun b hb => (unhide Hgrow).block b (by have := hbel.size; omega) (fun e => by have e' : b = wr.heap.size := Option.some.inj e; omega)⟩
      refine ⟨_, rfl, ?_, (unhide Hr).up hB4, hB.trans (hB4.mono (by omega))⟩
      have hown := unhide Hown
      refine Bytes.has (base := wr.heap.size) ?_
      unfold Bytes
      rw [flip_len]
      simpa using hown
end Go.Proofs.YtoojchjfmnbdpabDoor
